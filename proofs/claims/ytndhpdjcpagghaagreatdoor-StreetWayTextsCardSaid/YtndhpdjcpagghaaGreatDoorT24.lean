/- Examined: what it answers. Condition: the net can be read. -/
import Derived.Test.YtndhpdjcpagghaaGreatDoorT20
namespace Go.Proofs.YtndhpdjcpagghaaGreatDoor
open Go.RowKit Fs

/-- The three cells of a result, which may be written. -/
structure ResAt (w : World) (g : Nat) (x y z : Value) : Prop where
  c0 : w.cell? ⟨g, 0, none⟩ = some x
  c1 : w.cell? ⟨g, 1, none⟩ = some y
  c2 : w.cell? ⟨g, 2, none⟩ = some z
  f0 : w.frozen? ⟨g, 0, none⟩ = false
  f1 : w.frozen? ⟨g, 1, none⟩ = false
  f2 : w.frozen? ⟨g, 2, none⟩ = false
theorem ResAt.lt {w : World} {g : Nat} {x y z : Value} (m : ResAt w g x y z) : g < w.heap.size := World.block_lt_of_cell? w _ m.c0
theorem ResAt.below {B : Nat} {w w' : World} {g : Nat} {x y z : Value} (m : ResAt w g x y z) (h : Below B w w') (hg : g < B) : ResAt w' g x y z :=
  ⟨(h.cell (p := ⟨g, 0, none⟩) hg).trans m.c0, (h.cell (p := ⟨g, 1, none⟩) hg).trans m.c1, (h.cell (p := ⟨g, 2, none⟩) hg).trans m.c2, (h.frozen (p := ⟨g, 0, none⟩) hg).trans m.f0, (h.frozen (p := ⟨g, 1, none⟩) hg).trans m.f1, (h.frozen (p := ⟨g, 2, none⟩) hg).trans m.f2⟩
theorem ResAt.keep {w w' : World} {g : Nat} {x y z : Value} (m : ResAt w g x y z) (h : Below w.heap.size w w') : ResAt w' g x y z := m.below h m.lt
theorem ResAt.keepD {w w' : World} {g : Nat} {x y z : Value} (m : ResAt w g x y z) (h : Below w.drew.heap.size w.drew w') : ResAt w' g x y z := ResAt.keep (w := w.drew) ⟨m.c0, m.c1, m.c2, m.f0, m.f1, m.f2⟩ h
theorem ResAt.new (w : World) (x y z : Value) (t : TypeId) : ResAt (w.alloc (.cells #[x, y, z] t)) w.heap.size x y z := ⟨cellNew _ _ _ 0, cellNew _ _ _ 1, cellNew _ _ _ 2, frozenNew _ _ _ 0, frozenNew _ _ _ 1, frozenNew _ _ _ 2⟩
theorem ResAt.set {w : World} {g : Nat} {x y z : Value} (m : ResAt w g x y z) (x' y' z' : Value) : ResAt (((w.setCell ⟨g, 0, none⟩ x').setCell ⟨g, 1, none⟩ y').setCell ⟨g, 2, none⟩ z') g x' y' z' :=
  ⟨(World.cell?_setCell_other _ _ _ _ (by simp)).trans ((World.cell?_setCell_other _ _ _ _ (by simp)).trans (World.cell?_setCell_same _ _ _ m.c0)),
   (World.cell?_setCell_other _ _ _ _ (by simp)).trans (World.cell?_setCell_same _ _ _ ((World.cell?_setCell_other _ _ _ _ (by simp)).trans m.c1)),
   World.cell?_setCell_same _ _ _ ((World.cell?_setCell_other _ _ _ _ (by simp)).trans ((World.cell?_setCell_other _ _ _ _ (by simp)).trans m.c2)),
   (World.frozen?_setCell _ _ _ _).trans ((World.frozen?_setCell _ _ _ _).trans ((World.frozen?_setCell _ _ _ _).trans m.f0)), (World.frozen?_setCell _ _ _ _).trans ((World.frozen?_setCell _ _ _ _).trans ((World.frozen?_setCell _ _ _ _).trans m.f1)), (World.frozen?_setCell _ _ _ _).trans ((World.frozen?_setCell _ _ _ _).trans ((World.frozen?_setCell _ _ _ _).trans m.f2))⟩
theorem below_after {a w w' : World} (hb : Below w.heap.size w w') (h : Below a.heap.size a w) : Below a.heap.size a w' := h.trans (hb.mono h.size)
abbrev resV (a b : Int) (p : Bool) : Value := .agg #[.int .i64 a, .int .i64 b, .bool p]

theorem Fs.told_in {N : Net} {l : List Int} (h : (told N l).2 = 0) : ∀ j, j < (told N l).1.length → 0 ≤ listI (told N l).1 j ∧ listI (told N l).1 j < N.roads.length := by
  obtain ⟨hb, ht⟩ := told_ok h
  rw [ht]
  have hlen := toldTo_len N l (l.length - 1)
  intro j hj
  rw [toldTo_at N l _ j (by omega)]
  obtain ⟨p, hp, hp1, -⟩ := best_in (hb j (by omega))
  omega
theorem Fs.told_len {N : Net} {l : List Int} (h : (told N l).2 = 0) : (told N l).1.length = l.length - 1 := by
  obtain ⟨hb, ht⟩ := told_ok h
  rw [ht, toldTo_len]
theorem StepV.alloc {N : Net} {nx : Nat → Int → Int} {v : Value} {w : World} (h : StepV N nx v w) (o : Obj) : StepV N nx v (w.alloc o) := h.below ((Below.refl _ _).alloc (Nat.le_refl _) o)

end Go.Proofs.YtndhpdjcpagghaaGreatDoor

/- A tariff's cells in a block of their own; a mark's cells. No condition. -/
import Derived.Test.YtbehabaoeicgeaaW5a
namespace Go.Proofs.Ytbehabaoeicgeaa
open Go.RowKit Fs

theorem frozenNew (w : World) (cs : Array Value) (t : TypeId) (i : Nat) : (w.alloc (.cells cs t)).frozen? ⟨w.heap.size, i, none⟩ = false := by
  have h := heap_alloc_new w (.cells cs t)
  unfold World.frozen?
  dsimp only
  rw [h]
  simp
theorem frozenNew1 (w : World) (A : Obj) (cs : Array Value) (t : TypeId) (i : Nat) : ((w.alloc A).alloc (.cells cs t)).frozen? ⟨w.heap.size + 1, i, none⟩ = false := by
  rw [show w.heap.size + 1 = (w.alloc A).heap.size by simp]
  exact frozenNew _ _ _ _
theorem cellNew1 (w : World) (A : Obj) (cs : Array Value) (t : TypeId) (i : Nat) : ((w.alloc A).alloc (.cells cs t)).cell? ⟨w.heap.size + 1, i, none⟩ = cs[i]? := by
  rw [show w.heap.size + 1 = (w.alloc A).heap.size by simp]
  exact cellNew _ _ _ _
theorem cellNew2 (w : World) (A B : Obj) (cs : Array Value) (t : TypeId) (i : Nat) : (((w.alloc A).alloc B).alloc (.cells cs t)).cell? ⟨w.heap.size + 1 + 1, i, none⟩ = cs[i]? := by
  rw [show w.heap.size + 1 + 1 = ((w.alloc A).alloc B).heap.size by simp]
  exact cellNew _ _ _ _
/-- A tariff's cells in the block g. -/
structure BoxT (w : World) (g : Nat) (T : Tar) (z h r e f : Option Addr) (zc hc rc ec fc : Nat) : Prop where
  c0 : w.cell? ⟨g, 0, none⟩ = some (.string T.name)
  c1 : w.cell? ⟨g, 1, none⟩ = some (.int .i64 T.unit)
  c2 : w.cell? ⟨g, 2, none⟩ = some (.int .i64 T.step)
  c3 : w.cell? ⟨g, 3, none⟩ = some (.slice z T.zones.length zc)
  c4 : w.cell? ⟨g, 4, none⟩ = some (.slice h T.hols.length hc)
  c5 : w.cell? ⟨g, 5, none⟩ = some (.slice r T.rules.length rc)
  c6 : w.cell? ⟨g, 6, none⟩ = some (.slice e T.extras.length ec)
  c7 : w.cell? ⟨g, 7, none⟩ = some (.slice f T.fixed.length fc)
theorem BoxT.keep {w w' : World} (k : Keep w w') {g : Nat} {T : Tar} {z h r e f : Option Addr} {zc hc rc ec fc : Nat} (m : BoxT w g T z h r e f zc hc rc ec fc) : BoxT w' g T z h r e f zc hc rc ec fc :=
  ⟨k _ _ m.c0, k _ _ m.c1, k _ _ m.c2, k _ _ m.c3, k _ _ m.c4, k _ _ m.c5, k _ _ m.c6, k _ _ m.c7⟩
theorem BoxT.new (w : World) (T : Tar) (z h r e f : Option Addr) (zc hc rc ec fc : Nat) (t : TypeId) :
    BoxT (w.alloc (.cells #[.string T.name, .int .i64 T.unit, .int .i64 T.step, .slice z T.zones.length zc, .slice h T.hols.length hc, .slice r T.rules.length rc, .slice e T.extras.length ec, .slice f T.fixed.length fc] t)) w.heap.size T z h r e f zc hc rc ec fc :=
  ⟨cellNew _ _ _ _, cellNew _ _ _ _, cellNew _ _ _ _, cellNew _ _ _ _, cellNew _ _ _ _, cellNew _ _ _ _, cellNew _ _ _ _, cellNew _ _ _ _⟩
/-- The two cells of a mark, which may be written. -/
structure MarkAt (w : World) (g : Nat) : Prop where
  c0 : w.cell? ⟨g, 0, none⟩ = some (.int .i64 0)
  c1 : w.cell? ⟨g, 1, none⟩ = some (.int .i64 0)
  f0 : w.frozen? ⟨g, 0, none⟩ = false
  f1 : w.frozen? ⟨g, 1, none⟩ = false
theorem MarkAt.lt {w : World} {g : Nat} (m : MarkAt w g) : g < w.heap.size := World.block_lt_of_cell? w _ m.c0
theorem MarkAt.below {B : Nat} {w w' : World} {g : Nat} (m : MarkAt w g) (h : Below B w w') (hg : g < B) : MarkAt w' g :=
  ⟨(h.cell (p := ⟨g, 0, none⟩) hg).trans m.c0, (h.cell (p := ⟨g, 1, none⟩) hg).trans m.c1, (h.frozen (p := ⟨g, 0, none⟩) hg).trans m.f0, (h.frozen (p := ⟨g, 1, none⟩) hg).trans m.f1⟩
theorem MarkAt.alloc {w : World} {g : Nat} (m : MarkAt w g) (o : Obj) : MarkAt (w.alloc o) g := m.below (B := w.heap.size) ((Below.refl _ _).alloc (Nat.le_refl _) o) m.lt
theorem MarkAt.new (w : World) (t : TypeId) : MarkAt (w.alloc (.cells #[.int .i64 0, .int .i64 0] t)) w.heap.size :=
  ⟨cellNew _ _ _ _, cellNew _ _ _ _, frozenNew _ _ _ _, frozenNew _ _ _ _⟩

end Go.Proofs.Ytbehabaoeicgeaa

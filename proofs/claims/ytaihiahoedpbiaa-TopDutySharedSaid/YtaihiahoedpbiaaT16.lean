/- The search for the best ways from a place: it starts. Conditions: the net is right; the label is small. -/
import Derived.Test.YtaihiahoedpbiaaT15
import Derived.Deep.RegionHeld3
namespace Go.Proofs.Ytaihiahoedpbiaa
open Go.RowKit Fs

/-- A tree's two cells, which may be written. -/
structure TreeAt (w : World) (g : Nat) (u v : Value) : Prop where
  c0 : w.cell? ⟨g, 0, none⟩ = some u
  c1 : w.cell? ⟨g, 1, none⟩ = some v
  f0 : w.frozen? ⟨g, 0, none⟩ = false
  f1 : w.frozen? ⟨g, 1, none⟩ = false
theorem TreeAt.lt {w : World} {g : Nat} {u v : Value} (m : TreeAt w g u v) : g < w.heap.size := World.block_lt_of_cell? w _ m.c0
theorem TreeAt.below {B : Nat} {w w' : World} {g : Nat} {u v : Value} (m : TreeAt w g u v) (h : Below B w w') (hg : g < B) : TreeAt w' g u v :=
  ⟨(h.cell (p := ⟨g, 0, none⟩) hg).trans m.c0, (h.cell (p := ⟨g, 1, none⟩) hg).trans m.c1, (h.frozen (p := ⟨g, 0, none⟩) hg).trans m.f0, (h.frozen (p := ⟨g, 1, none⟩) hg).trans m.f1⟩
theorem TreeAt.keep {w w' : World} {g : Nat} {u v : Value} (m : TreeAt w g u v) (h : Below w.heap.size w w') : TreeAt w' g u v := m.below h m.lt
theorem TreeAt.keepD {w w' : World} {g : Nat} {u v : Value} (m : TreeAt w g u v) (h : Below w.drew.heap.size w.drew w') : TreeAt w' g u v := TreeAt.keep (w := w.drew) ⟨m.c0, m.c1, m.f0, m.f1⟩ h
theorem TreeAt.set {w : World} {g : Nat} {u v : Value} (m : TreeAt w g u v) (u' v' : Value) : TreeAt ((w.setCell ⟨g, 0, none⟩ u').setCell ⟨g, 1, none⟩ v') g u' v' :=
  ⟨(World.cell?_setCell_other _ _ _ _ (by simp)).trans (World.cell?_setCell_same _ _ _ m.c0), World.cell?_setCell_same _ _ _ ((World.cell?_setCell_other _ _ _ _ (by simp)).trans m.c1), (World.frozen?_setCell _ _ _ _).trans ((World.frozen?_setCell _ _ _ _).trans m.f0), (World.frozen?_setCell _ _ _ _).trans ((World.frozen?_setCell _ _ _ _).trans m.f1)⟩
theorem TreeAt.new (w : World) (u v : Value) (t : TypeId) : TreeAt (w.alloc (.cells #[u, v] t)) w.heap.size u v := ⟨cellNew _ _ _ 0, cellNew _ _ _ 1, frozenNew _ _ _ 0, frozenNew _ _ _ 1⟩
theorem RowV.keep {w w' : World} {g : Nat} {t : TypeId} {l : List Value} (h : RowV w g t l) (hb : Below w.heap.size w w') : RowV w' g t l := h.below hb h.lt
theorem RowV.keepD {w w' : World} {g : Nat} {t : TypeId} {l : List Value} (h : RowV w g t l) (hb : Below w.drew.heap.size w.drew w') : RowV w' g t l := RowV.keep (w := w.drew) h hb
theorem RowV.alloc {w : World} {g : Nat} {t : TypeId} {l : List Value} (h : RowV w g t l) (o : Obj) : RowV (w.alloc o) g t l := h.keep ((Below.refl _ _).alloc (Nat.le_refl _) o)
theorem TreeAt.alloc {w : World} {g : Nat} {u v : Value} (m : TreeAt w g u v) (o : Obj) : TreeAt (w.alloc o) g u v := m.keep ((Below.refl _ _).alloc (Nat.le_refl _) o)

theorem cellNew2 (w : World) (A B : Obj) (cs : Array Value) (t : TypeId) (i : Nat) : (((w.alloc A).alloc B).alloc (.cells cs t)).cell? ⟨w.heap.size + 1 + 1, i, none⟩ = cs[i]? := by
  rw [show w.heap.size + 1 + 1 = ((w.alloc A).alloc B).heap.size by simp]
  exact cellNew _ _ _ _
theorem size_drew (w : World) : w.drew.heap.size = w.heap.size := rfl
theorem below_realloc {B : Nat} {a w : World} {o : Obj} (h : Below B a (w.alloc o)) (hB : B ≤ w.heap.size) (o' : Obj) : Below B a (w.alloc o') :=
  ⟨h.os, h.tape, h.output, by simpa using h.size, fun k hk => by
    have := h.block k hk
    rw [Below.heap_alloc _ _ _ (by omega)] at this ⊢
    exact this⟩

theorem Try.infoBool : (Try.prog.info? 4).map (fun i => (i.zero, i.size, i.bytes)) = some (some (.bool false), 1, 1) := by kernel_rfl
/-! ### labels stay small -/
def Fs.Fits (n : Nat) (B : Int) (s : St) : Prop := ∀ i, i < n → listI s.labels i = -1 ∨ (0 ≤ listI s.labels i ∧ listI s.labels i ≤ B)
theorem Fs.relax_done (N : Net) (nx : Nat → Int → Int) (p : Int) (s : St) (i : Nat) : (relax N nx p s i).done = s.done := by
  unfold relax
  split
  · rfl
  · split
    · rfl
    · rfl
theorem Fs.relax_other {N : Net} {nx : Nat → Int → Int} {p : Int} {s : St} {i : Nat} (h : (listD N.roads i).src ≠ p ∨ listB s.done (listD N.roads i).dst.toNat = true) : relax N nx p s i = s := if_pos h
theorem Fs.relax_more {N : Net} {nx : Nat → Int → Int} {p : Int} {s : St} {i : Nat} (h1 : (listD N.roads i).src = p) (h2 : listB s.done (listD N.roads i).dst.toNat = false)
    (h3 : ¬ (listI s.labels (listD N.roads i).dst.toNat = -1 ∨ nx i (listI s.labels p.toNat) < listI s.labels (listD N.roads i).dst.toNat)) : relax N nx p s i = s := by
  unfold relax; rw [if_neg (fun hh => hh.elim (fun h => h h1) (fun h => by rw [h2] at h; cases h)), if_neg h3]
theorem Fs.relax_less {N : Net} {nx : Nat → Int → Int} {p : Int} {s : St} {i : Nat} (h1 : (listD N.roads i).src = p) (h2 : listB s.done (listD N.roads i).dst.toNat = false)
    (h3 : listI s.labels (listD N.roads i).dst.toNat = -1 ∨ nx i (listI s.labels p.toNat) < listI s.labels (listD N.roads i).dst.toNat) :
    relax N nx p s i = ⟨s.labels.set (listD N.roads i).dst.toNat (nx i (listI s.labels p.toNat)), s.last.set (listD N.roads i).dst.toNat i, s.done⟩ := by
  unfold relax; rw [if_neg (fun hh => hh.elim (fun h => h h1) (fun h => by rw [h2] at h; cases h)), if_pos h3]
theorem Fs.relax_keep {N : Net} {nx : Nat → Int → Int} {p : Int} {s : St} {i z : Nat} (hz : listB s.done z = true) : listI (relax N nx p s i).labels z = listI s.labels z := by
  by_cases h1 : (listD N.roads i).src ≠ p ∨ listB s.done (listD N.roads i).dst.toNat = true
  · rw [relax_other h1]
  · have h1' : (listD N.roads i).src = p := Decidable.not_not.1 fun h => h1 (.inl h)
    have h2 : listB s.done (listD N.roads i).dst.toNat = false := by
      cases h : listB s.done (listD N.roads i).dst.toNat with
      | false => rfl
      | true => exact absurd (.inr h) h1
    by_cases h3 : listI s.labels (listD N.roads i).dst.toNat = -1 ∨ nx i (listI s.labels p.toNat) < listI s.labels (listD N.roads i).dst.toNat
    · rw [relax_less h1' h2 h3]
      rw [listI_set, if_neg (fun hh => by rw [hh.1, hz] at h2; cases h2)]
    · rw [relax_more h1' h2 h3]
theorem Fs.relax_fits {N : Net} {nx : Nat → Int → Int} {p : Int} {s : St} {i n : Nat} {B : Int} (hf : Fits n B s) (h0 : 0 ≤ nx i (listI s.labels p.toNat)) (h1 : nx i (listI s.labels p.toNat) ≤ B) : Fits n B (relax N nx p s i) := by
  unfold relax
  split
  · exact hf
  · split
    · intro j hj
      show listI (s.labels.set _ _) j = -1 ∨ _
      rw [listI_set]
      split
      · exact .inr ⟨h0, h1⟩
      · exact hf j hj
    · exact hf
theorem Fs.relaxTo_done (N : Net) (nx : Nat → Int → Int) (p : Int) (s : St) (k : Nat) : (relaxTo N nx p s k).done = s.done := by
  induction k with
  | zero => rfl
  | succ k ih => rw [relaxTo, relax_done, ih]
theorem Fs.count_none {l : List Bool} (h : l.count false = 0) {z : Nat} (hz : z < l.length) : listB l z = true := by
  rw [List.count_eq_zero] at h
  unfold listB
  rw [List.getD_eq_getElem?_getD, List.getElem?_eq_getElem hz]
  cases hb : l[z] with
  | true => simp
  | false => exact absurd (hb ▸ List.getElem_mem hz) h

def isF : Value → Bool
  | .bool false => true
  | _ => false
/-- How many cells of block g hold 'false'. -/
def leftOf (w : World) (g : Nat) : Nat := match w.heap[g]? with
  | some (.cells cs _ _) => cs.toList.countP isF
  | _ => 0
theorem leftOf_row {w : World} {g : Nat} {t : TypeId} {l : List Bool} (h : RowV w g t (l.map Value.bool)) : leftOf w g = l.count false := by
  unfold leftOf
  unfold RowV at h
  rw [h]
  show (l.map Value.bool).toArray.toList.countP isF = _
  rw [List.toList_toArray, List.countP_map, List.count_eq_countP]
  congr 1
  funext b
  cases b <;> rfl
theorem Fs.rounds_end {N : Net} {nx : Nat → Int → Int} {s : St} (h : nearest s = -1) (f : Nat) : rounds N nx f s = s := by
  cases f with
  | zero => rfl
  | succ f => rw [rounds, if_pos h]
theorem Fs.rounds_on {N : Net} {nx : Nat → Int → Int} {s : St} (h : nearest s ≠ -1) (f : Nat) : rounds N nx (f + 1) s = rounds N nx f (oneRound N nx s) := by rw [rounds, if_neg h]
theorem SrAt.putR {w : World} {gt gd gl ga gb n : Nat} {s : St} (m : SrAt w gt gd gl ga gb n s) (i : Nat) (x y : Int) : SrAt ((w.setCell ⟨ga, i, none⟩ (.int .i64 y)).setCell ⟨gl, i, none⟩ (.int .i64 x)) gt gd gl ga gb n ⟨s.labels.set i x, s.last.set i y, s.done⟩ := by
  have far : ∀ g j, gl ≠ g → ga ≠ g → ((w.setCell ⟨ga, i, none⟩ (.int .i64 y)).setCell ⟨gl, i, none⟩ (.int .i64 x)).cell? ⟨g, j, none⟩ = w.cell? ⟨g, j, none⟩ := fun g j h1 h2 => by
    rw [World.cell?_setCell_far _ _ _ _ (by exact h1), World.cell?_setCell_far _ _ _ _ (by exact h2)]
  refine ⟨(far _ _ m.ne4.1.symm m.ne4.2.1.symm).trans m.t0, (far _ _ m.ne4.1.symm m.ne4.2.1.symm).trans m.t1, (far _ _ m.ne5.1.symm m.ne5.2.1.symm).trans m.d0, ?_, ?_, ?_, by simp [m.nl], by simp [m.na], m.nb, m.ne1, m.ne2, m.ne3, m.ne4, m.ne5⟩
  · have := (m.rl.far (p := ⟨ga, i, none⟩) (by exact m.ne1.symm) (.int .i64 y)).set i (.int .i64 x)
    rw [List.map_set]; exact this
  · have := (m.ra.set i (.int .i64 y)).far (p := ⟨gl, i, none⟩) (by exact m.ne1) (.int .i64 x)
    rw [List.map_set]; exact this
  · exact (m.rb.far (p := ⟨ga, i, none⟩) (by exact m.ne3) _).far (p := ⟨gl, i, none⟩) (by exact m.ne2) _
theorem SrAt.drew {w : World} {gt gd gl ga gb n : Nat} {s : St} (m : SrAt w gt gd gl ga gb n s) : SrAt w.drew gt gd gl ga gb n s := ⟨m.t0, m.t1, m.d0, m.rl, m.ra, m.rb, m.nl, m.na, m.nb, m.ne1, m.ne2, m.ne3, m.ne4, m.ne5⟩

end Go.Proofs.Ytaihiahoedpbiaa

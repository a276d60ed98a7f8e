/- The search for the best ways from a place: it starts. Conditions: the net is right; the label is small. -/
import Derived.Test.YtjmaankkbdpikaaT15
import Derived.Deep.RegionHeld3
namespace Go.Proofs.Ytjmaankkbdpikaa
open Go.RowKit Fs

/-- A tree's two cells, which may be written. -/
structure TreeAt (w : World) (g : Nat) (u v : Value) : Prop where
  c0 : w.cell? ⟨g, 0, none⟩ = some u
  c1 : w.cell? ⟨g, 1, none⟩ = some v
  f0 : w.frozen? ⟨g, 0, none⟩ = false
  f1 : w.frozen? ⟨g, 1, none⟩ = false
theorem TreeAt.lt {w : World} {g : Nat} {u v : Value} (m : TreeAt w g u v) : g < w.heap.size := World.block_lt_of_cell? w _ m.c0
theorem TreeAt.below {B : Nat} {w w' : World} {g : Nat} {u v : Value} (m : TreeAt w g u v) (h : Below B w w') (hg : g < B) : TreeAt w' g u v :=
  ⟨(h.cell (p := ⟨g, 0, none⟩) hg).trans m.c0, (h.cell (p := ⟨g, 1, none⟩) hg).trans m.c1, (h.frozen (p := ⟨g, 0, none⟩) hg).trans m.f0, (h.frozen (p := ⟨g, 1, none⟩) hg).trans m.f1⟩
theorem TreeAt.keep {w w' : World} {g : Nat} {u v : Value} (m : TreeAt w g u v) (h : Below w.heap.size w w') : TreeAt w' g u v := m.below h m.lt
theorem TreeAt.keepD {w w' : World} {g : Nat} {u v : Value} (m : TreeAt w g u v) (h : Below w.drew.heap.size w.drew w') : TreeAt w' g u v := TreeAt.keep (w := w.drew) ⟨m.c0, m.c1, m.f0, m.f1⟩ h
theorem TreeAt.set {w : World} {g : Nat} {u v : Value} (m : TreeAt w g u v) (u' v' : Value) : TreeAt ((w.setCell ⟨g, 0, none⟩ u').setCell ⟨g, 1, none⟩ v') g u' v' :=
  ⟨(World.cell?_setCell_other _ _ _ _ (by simp)).trans (World.cell?_setCell_same _ _ _ m.c0), World.cell?_setCell_same _ _ _ ((World.cell?_setCell_other _ _ _ _ (by simp)).trans m.c1), (World.frozen?_setCell _ _ _ _).trans ((World.frozen?_setCell _ _ _ _).trans m.f0), (World.frozen?_setCell _ _ _ _).trans ((World.frozen?_setCell _ _ _ _).trans m.f1)⟩
theorem TreeAt.new (w : World) (u v : Value) (t : TypeId) : TreeAt (w.alloc (.cells #[u, v] t)) w.heap.size u v := ⟨cellNew _ _ _ 0, cellNew _ _ _ 1, frozenNew _ _ _ 0, frozenNew _ _ _ 1⟩
theorem RowV.keep {w w' : World} {g : Nat} {t : TypeId} {l : List Value} (h : RowV w g t l) (hb : Below w.heap.size w w') : RowV w' g t l := h.below hb h.lt
theorem RowV.keepD {w w' : World} {g : Nat} {t : TypeId} {l : List Value} (h : RowV w g t l) (hb : Below w.drew.heap.size w.drew w') : RowV w' g t l := RowV.keep (w := w.drew) h hb
theorem RowV.alloc {w : World} {g : Nat} {t : TypeId} {l : List Value} (h : RowV w g t l) (o : Obj) : RowV (w.alloc o) g t l := h.keep ((Below.refl _ _).alloc (Nat.le_refl _) o)
theorem TreeAt.alloc {w : World} {g : Nat} {u v : Value} (m : TreeAt w g u v) (o : Obj) : TreeAt (w.alloc o) g u v := m.keep ((Below.refl _ _).alloc (Nat.le_refl _) o)

theorem cellNew2 (w : World) (A B : Obj) (cs : Array Value) (t : TypeId) (i : Nat) : (((w.alloc A).alloc B).alloc (.cells cs t)).cell? ⟨w.heap.size + 1 + 1, i, none⟩ = cs[i]? := by
  rw [show w.heap.size + 1 + 1 = ((w.alloc A).alloc B).heap.size by simp]
  exact cellNew _ _ _ _
theorem size_drew (w : World) : w.drew.heap.size = w.heap.size := rfl
theorem below_realloc {B : Nat} {a w : World} {o : Obj} (h : Below B a (w.alloc o)) (hB : B ≤ w.heap.size) (o' : Obj) : Below B a (w.alloc o') :=
  ⟨h.os, h.tape, h.output, by simpa using h.size, fun k hk => by
    have := h.block k hk
    rw [Below.heap_alloc _ _ _ (by omega)] at this ⊢
    exact this⟩

theorem Try.infoBool : (Try.prog.info? 4).map (fun i => (i.zero, i.size, i.bytes)) = some (some (.bool false), 1, 1) := by kernel_rfl
/-! ### labels stay small -/
def Fs.Fits (n : Nat) (B : Int) (s : St) : Prop := ∀ i, i < n → listI s.labels i = -1 ∨ (0 ≤ listI s.labels i ∧ listI s.labels i ≤ B)
theorem Fs.relax_done (N : Net) (nx : Nat → Int → Int) (p : Int) (s : St) (i : Nat) : (relax N nx p s i).done = s.done := by
  unfold relax
  split
  · rfl
  · split
    · rfl
    · rfl
theorem Fs.relax_other {N : Net} {nx : Nat → Int → Int} {p : Int} {s : St} {i : Nat} (h : (listD N.roads i).src ≠ p ∨ listB s.done (listD N.roads i).dst.toNat = true) : relax N nx p s i = s := if_pos h
theorem Fs.relax_more {N : Net} {nx : Nat → Int → Int} {p : Int} {s : St} {i : Nat} (h1 : (listD N.roads i).src = p) (h2 : listB s.done (listD N.roads i).dst.toNat = false)
    (h3 : ¬ (listI s.labels (listD N.roads i).dst.toNat = -1 ∨ nx i (listI s.labels p.toNat) < listI s.labels (listD N.roads i).dst.toNat)) : relax N nx p s i = s := by
  unfold relax; rw [if_neg (fun hh => hh.elim (fun h => h h1) (fun h => by rw [h2] at h; cases h)), if_neg h3]
theorem Fs.relax_less {N : Net} {nx : Nat → Int → Int} {p : Int} {s : St} {i : Nat} (h1 : (listD N.roads i).src = p) (h2 : listB s.done (listD N.roads i).dst.toNat = false)
    (h3 : listI s.labels (listD N.roads i).dst.toNat = -1 ∨ nx i (listI s.labels p.toNat) < listI s.labels (listD N.roads i).dst.toNat) :
    relax N nx p s i = ⟨s.labels.set (listD N.roads i).dst.toNat (nx i (listI s.labels p.toNat)), s.last.set (listD N.roads i).dst.toNat i, s.done⟩ := by
  unfold relax; rw [if_neg (fun hh => hh.elim (fun h => h h1) (fun h => by rw [h2] at h; cases h)), if_pos h3]
theorem Fs.relax_keep {N : Net} {nx : Nat → Int → Int} {p : Int} {s : St} {i z : Nat} (hz : listB s.done z = true) : listI (relax N nx p s i).labels z = listI s.labels z := by
  by_cases h1 : (listD N.roads i).src ≠ p ∨ listB s.done (listD N.roads i).dst.toNat = true
  · rw [relax_other h1]
  · have h1' : (listD N.roads i).src = p := Decidable.not_not.1 fun h => h1 (.inl h)
    have h2 : listB s.done (listD N.roads i).dst.toNat = false := by
      cases h : listB s.done (listD N.roads i).dst.toNat with
      | false => rfl
      | true => exact absurd (.inr h) h1
    by_cases h3 : listI s.labels (listD N.roads i).dst.toNat = -1 ∨ nx i (listI s.labels p.toNat) < listI s.labels (listD N.roads i).dst.toNat
    · rw [relax_less h1' h2 h3]
      rw [listI_set, if_neg (fun hh => by rw [hh.1, hz] at h2; cases h2)]
    · rw [relax_more h1' h2 h3]
theorem Fs.relax_fits {N : Net} {nx : Nat → Int → Int} {p : Int} {s : St} {i n : Nat} {B : Int} (hf : Fits n B s) (h0 : 0 ≤ nx i (listI s.labels p.toNat)) (h1 : nx i (listI s.labels p.toNat) ≤ B) : Fits n B (relax N nx p s i) := by
  unfold relax
  split
  · exact hf
  · split
    · intro j hj
      show listI (s.labels.set _ _) j = -1 ∨ _
      rw [listI_set]
      split
      · exact .inr ⟨h0, h1⟩
      · exact hf j hj
    · exact hf
theorem Fs.relaxTo_done (N : Net) (nx : Nat → Int → Int) (p : Int) (s : St) (k : Nat) : (relaxTo N nx p s k).done = s.done := by
  induction k with
  | zero => rfl
  | succ k ih => rw [relaxTo, relax_done, ih]
theorem Fs.count_none {l : List Bool} (h : l.count false = 0) {z : Nat} (hz : z < l.length) : listB l z = true := by
  rw [List.count_eq_zero] at h
  unfold listB
  rw [List.getD_eq_getElem?_getD, List.getElem?_eq_getElem hz]
  cases hb : l[z] with
  | true => simp
  | false => exact absurd (hb ▸ List.getElem_mem hz) h

def isF : Value → Bool
  | .bool false => true
  | _ => false
/-- How many cells of block g hold 'false'. -/
def leftOf (w : World) (g : Nat) : Nat := match w.heap[g]? with
  | some (.cells cs _ _) => cs.toList.countP isF
  | _ => 0
theorem leftOf_row {w : World} {g : Nat} {t : TypeId} {l : List Bool} (h : RowV w g t (l.map Value.bool)) : leftOf w g = l.count false := by
  unfold leftOf
  unfold RowV at h
  rw [h]
  show (l.map Value.bool).toArray.toList.countP isF = _
  rw [List.toList_toArray, List.countP_map, List.count_eq_countP]
  congr 1
  funext b
  cases b <;> rfl
theorem Fs.rounds_end {N : Net} {nx : Nat → Int → Int} {s : St} (h : nearest s = -1) (f : Nat) : rounds N nx f s = s := by
  cases f with
  | zero => rfl
  | succ f => rw [rounds, if_pos h]
theorem Fs.rounds_on {N : Net} {nx : Nat → Int → Int} {s : St} (h : nearest s ≠ -1) (f : Nat) : rounds N nx (f + 1) s = rounds N nx f (oneRound N nx s) := by rw [rounds, if_neg h]
theorem SrAt.putR {w : World} {gt gd gl ga gb n : Nat} {s : St} (m : SrAt w gt gd gl ga gb n s) (i : Nat) (x y : Int) : SrAt ((w.setCell ⟨ga, i, none⟩ (.int .i64 y)).setCell ⟨gl, i, none⟩ (.int .i64 x)) gt gd gl ga gb n ⟨s.labels.set i x, s.last.set i y, s.done⟩ := by
  have far : ∀ g j, gl ≠ g → ga ≠ g → ((w.setCell ⟨ga, i, none⟩ (.int .i64 y)).setCell ⟨gl, i, none⟩ (.int .i64 x)).cell? ⟨g, j, none⟩ = w.cell? ⟨g, j, none⟩ := fun g j h1 h2 => by
    rw [World.cell?_setCell_far _ _ _ _ (by exact h1), World.cell?_setCell_far _ _ _ _ (by exact h2)]
  refine ⟨(far _ _ m.ne4.1.symm m.ne4.2.1.symm).trans m.t0, (far _ _ m.ne4.1.symm m.ne4.2.1.symm).trans m.t1, (far _ _ m.ne5.1.symm m.ne5.2.1.symm).trans m.d0, ?_, ?_, ?_, by simp [m.nl], by simp [m.na], m.nb, m.ne1, m.ne2, m.ne3, m.ne4, m.ne5⟩
  · have := (m.rl.far (p := ⟨ga, i, none⟩) (by exact m.ne1.symm) (.int .i64 y)).set i (.int .i64 x)
    rw [List.map_set]; exact this
  · have := (m.ra.set i (.int .i64 y)).far (p := ⟨gl, i, none⟩) (by exact m.ne1) (.int .i64 x)
    rw [List.map_set]; exact this
  · exact (m.rb.far (p := ⟨ga, i, none⟩) (by exact m.ne3) _).far (p := ⟨gl, i, none⟩) (by exact m.ne2) _
theorem SrAt.drew {w : World} {gt gd gl ga gb n : Nat} {s : St} (m : SrAt w gt gd gl ga gb n s) : SrAt w.drew gt gd gl ga gb n s := ⟨m.t0, m.t1, m.d0, m.rl, m.ra, m.rb, m.nl, m.na, m.nb, m.ne1, m.ne2, m.ne3, m.ne4, m.ne5⟩

set_option maxHeartbeats 6400000 in
set_option maxRecDepth 100000 in
theorem search_any (N : Net) (nx : Nat → Int → Int) (v f : Value) (src : Nat) (L : Int) (w : World) (hN : RdNet w v N) (hE : netErr N = 0) (hf : StepV N nx f w) (hx : Small N nx) (hs : src < N.places.length) (hL0 : 0 ≤ L) (hL1 : L ≤ 1000000) :
    Calls Try.prog 33 #[v, .int .i64 src, .int .i64 L, f] w fun e w' => ∃ gl ga, e = .returned (.agg #[.slice (some ⟨gl, 0, none⟩) N.places.length N.places.length, .slice (some ⟨ga, 0, none⟩) N.places.length N.places.length]) ∧
      RowV w' gl 3 ((search N src L nx).labels.map (Value.int .i64)) ∧ RowV w' ga 3 ((search N src L nx).last.map (Value.int .i64)) ∧ w.heap.size ≤ gl ∧ w.heap.size ≤ ga ∧ Below w.heap.size w w' := by
  have hN0 := Lib.hid hN
  obtain ⟨K, gf, rfl, hcall0, hstep0⟩ := hf
  have HCALL := Lib.hid hcall0
  have HSTEP := Lib.hid hstep0
  clear hcall0 hstep0
  obtain ⟨P, R, pc, rc, a, rfl, m⟩ := hN
  have M := Lib.hid m
  have b1 := m.roads.le.1
  have b2 := m.roads.le.2
  have a1 := m.places.le.1
  have a2 := m.places.le.2
  clear m
  obtain ⟨hp0, hp1, hr1, -⟩ := net_sound hE
  have hp2 : 1 ≤ N.places.length := by omega
  have hp3 : N.places.length ≤ 1000 := by omega
  have BN := Lib.hid ((BoxN.new w N P R pc rc 25).keep (Keep.alloc _ (.cells #[.slice none 0 0, .slice none 0 0] 84)))
  have RT := Lib.hid (show TreeAt ((w.alloc (.cells #[.slice P N.places.length pc, .slice R N.roads.length rc] 25)).alloc (.cells #[.slice none 0 0, .slice none 0 0] 84)) (w.heap.size + 1) (.slice none 0 0) (.slice none 0 0) from ⟨cellNew1 _ _ _ _ 0, cellNew1 _ _ _ _ 1, frozenNew1 _ _ _ _ 0, frozenNew1 _ _ _ _ 1⟩)
  go_enter Try.func33, Try.ntmps33
  obtain ⟨n0, n1⟩ := BN.out
  go_upto_region 1 with fail
  generalize hwb : (w.alloc _).alloc _ = wb at *
  have HW : Hid (Below w.heap.size w wb) := by rw [← hwb]; exact Lib.hid (((Below.refl _ _).alloc (Nat.le_refl _) _).alloc (by simp) _)
  have HWS : Hid (w.heap.size + 2 = wb.heap.size) := by rw [← hwb]; exact Lib.hid (by simp)
  clear hwb
  go_cut [9] from 16 to 26 (fun s wx => ∃ gt gl ga : Nat, s = .pointer (some ⟨gt, 0, none⟩) ∧ Hid (TreeAt wx gt (.slice (some ⟨gl, 0, none⟩) N.places.length N.places.length) (.slice (some ⟨ga, 0, none⟩) N.places.length N.places.length)) ∧
      Hid (RowV wx gl 3 (List.replicate N.places.length (.int .i64 (-1)))) ∧ Hid (RowV wx ga 3 (List.replicate N.places.length (.int .i64 (-1)))) ∧ Hid (gl ≠ ga ∧ gt ≠ gl ∧ gt ≠ ga) ∧ Hid (wb.heap.size ≤ gt ∧ wb.heap.size ≤ gl ∧ wb.heap.size ≤ ga) ∧ Hid (Below wb.heap.size wb wx))
  case first =>
    have HBd : Hid (Below wb.heap.size wb wb.drew) := Lib.hid (Below.refl _ _).drew
    have MK : Hid (∀ w', Below wb.heap.size wb w' → w'.cell? ⟨w.heap.size, 0, none⟩ = some (.slice P N.places.length pc) ∧ Hid (Below wb.heap.size wb w')) := Lib.hid fun w' hw => ⟨Keep.below hw _ _ n0, Lib.hid hw⟩
    go_region_held3 (fun w' => w'.cell? ⟨w.heap.size, 0, none⟩ = some (.slice P N.places.length pc) ∧ Hid (Below wb.heap.size wb w'))
      (first
        | exact MK.out _ HBd.out
        | (go_split_ands; exact MK.out _ (Below.trans (Hid.out (by assumption)) (hb1.mono (Hid.out (by assumption) : Below wb.heap.size wb _).size)))
        | (go_split_ands; exact MK.out _ (Below.alloc (Hid.out (by assumption)) (Hid.out (by assumption) : Below wb.heap.size wb _).size _))
        | (go_split_ands; exact MK.out _ (below_realloc (Hid.out (by assumption)) hle _))
        | (go_split_ands; exact MK.out _ (Below.setCell (Below.setCell (Hid.out (by assumption)) (by show wb.heap.size ≤ _; first | exact Nat.le_refl _ | assumption | omega | (simp; done) | (simp; omega)) _) (by show wb.heap.size ≤ _; first | exact Nat.le_refl _ | assumption | omega | (simp; done) | (simp; omega)) _)))
      ((first
          | (go_at_call 52
             go_split_ands
             have hz1 := HR1.out
             clear hz1
             refine (repeat_any (-1) N.places.length _ 0 _ _ (by first | exact cellNew _ _ _ 0 | exact cellNew1 _ _ _ _ 0 | exact cellNew2 _ _ _ _ _ 0 | exact Keep.alloc _ _ _ _ (cellNew _ _ _ 0) | exact Keep.alloc _ _ _ _ (cellNew1 _ _ _ _ 0) | exact Keep.alloc _ _ _ _ (Keep.alloc _ _ _ _ (cellNew _ _ _ 0)) | exact K1.out _ _ (by first | exact cellNew _ _ _ 0 | exact cellNew1 _ _ _ _ 0 | exact cellNew2 _ _ _ _ _ 0 | exact Keep.alloc _ _ _ _ (cellNew _ _ _ 0) | exact Keep.alloc _ _ _ _ (cellNew1 _ _ _ _ 0) | exact Keep.alloc _ _ _ _ (Keep.alloc _ _ _ _ (cellNew _ _ _ 0))) | exact Keep.alloc _ _ _ _ (K1.out _ _ (by first | exact cellNew _ _ _ 0 | exact cellNew1 _ _ _ _ 0 | exact cellNew2 _ _ _ _ _ 0 | exact Keep.alloc _ _ _ _ (cellNew _ _ _ 0) | exact Keep.alloc _ _ _ _ (cellNew1 _ _ _ _ 0) | exact Keep.alloc _ _ _ _ (Keep.alloc _ _ _ _ (cellNew _ _ _ 0))))) hp2 hp3).mono ?_
             rintro e' w2 ⟨g2, rfl, hg2, hr2, hb1⟩
             have hle := Nat.le_trans (Hid.out (by assumption) : Below wb.heap.size wb _).size hb1.size
             have hl2 := hr2.lt
             have hs2 := hb1.size
             (try simp only [size_drew] at hg2 hs2)
             (try simp only [World.size_alloc] at hg2 hs2)
             (try simp only [size_drew] at hg2 hs2)
             have HR2 := Lib.hid hr2
             have HR1f : Hid (RowV w2 g1 3 (List.replicate N.places.length (.int .i64 (-1)))) := Lib.hid (by first | exact HR1.out.keep hb1 | exact (HR1.out.alloc _).keep hb1 | exact ((HR1.out.alloc _).alloc _).keep hb1 | exact HR1.out.keepD hb1 | exact (HR1.out.alloc _).keepD hb1 | exact ((HR1.out.alloc _).alloc _).keepD hb1)
             try (first
               | (have HT0 := (HT.out.keep hb1 : TreeAt _ _ (.slice none 0 0) (.slice none 0 0)); (try simp only [size_drew] at HT0); (try simp only [World.size_alloc] at HT0); (try simp only [size_drew] at HT0); have HT := Lib.hid HT0; clear HT0; obtain ⟨q0, q1, f0, f1⟩ := HT.out)
               | (have HT0 := (HT.out.keepD hb1 : TreeAt _ _ (.slice none 0 0) (.slice none 0 0)); (try simp only [size_drew] at HT0); (try simp only [World.size_alloc] at HT0); (try simp only [size_drew] at HT0); have HT := Lib.hid HT0; clear HT0; obtain ⟨q0, q1, f0, f1⟩ := HT.out)
               | (have HT0 := ((HT.out.alloc _).keep hb1 : TreeAt _ _ (.slice none 0 0) (.slice none 0 0)); (try simp only [size_drew] at HT0); (try simp only [World.size_alloc] at HT0); (try simp only [size_drew] at HT0); have HT := Lib.hid HT0; clear HT0; obtain ⟨q0, q1, f0, f1⟩ := HT.out)
               | (have HT0 := ((HT.out.alloc _).keepD hb1 : TreeAt _ _ (.slice none 0 0) (.slice none 0 0)); (try simp only [size_drew] at HT0); (try simp only [World.size_alloc] at HT0); (try simp only [size_drew] at HT0); have HT := Lib.hid HT0; clear HT0; obtain ⟨q0, q1, f0, f1⟩ := HT.out)
               | (have HT0 := ((TreeAt.new _ _ _ 84).keep hb1 : TreeAt _ _ (.slice none 0 0) (.slice none 0 0)); (try simp only [size_drew] at HT0); (try simp only [World.size_alloc] at HT0); (try simp only [size_drew] at HT0); have HT := Lib.hid HT0; clear HT0; obtain ⟨q0, q1, f0, f1⟩ := HT.out)
               | (have HT0 := ((TreeAt.new _ _ _ 84).keepD hb1 : TreeAt _ _ (.slice none 0 0) (.slice none 0 0)); (try simp only [size_drew] at HT0); (try simp only [World.size_alloc] at HT0); (try simp only [size_drew] at HT0); have HT := Lib.hid HT0; clear HT0; obtain ⟨q0, q1, f0, f1⟩ := HT.out)
               | (have HT0 := (((TreeAt.new _ _ _ 84).alloc _).keep hb1 : TreeAt _ _ (.slice none 0 0) (.slice none 0 0)); (try simp only [size_drew] at HT0); (try simp only [World.size_alloc] at HT0); (try simp only [size_drew] at HT0); have HT := Lib.hid HT0; clear HT0; obtain ⟨q0, q1, f0, f1⟩ := HT.out)
               | (have HT0 := (((TreeAt.new _ _ _ 84).alloc _).keepD hb1 : TreeAt _ _ (.slice none 0 0) (.slice none 0 0)); (try simp only [size_drew] at HT0); (try simp only [World.size_alloc] at HT0); (try simp only [size_drew] at HT0); have HT := Lib.hid HT0; clear HT0; obtain ⟨q0, q1, f0, f1⟩ := HT.out))
             clear hr2)
          | (go_at_call 52
             go_split_ands
             refine (repeat_any (-1) N.places.length _ 0 _ _ (by first | exact cellNew _ _ _ 0 | exact cellNew1 _ _ _ _ 0 | exact cellNew2 _ _ _ _ _ 0 | exact Keep.alloc _ _ _ _ (cellNew _ _ _ 0) | exact Keep.alloc _ _ _ _ (cellNew1 _ _ _ _ 0) | exact Keep.alloc _ _ _ _ (Keep.alloc _ _ _ _ (cellNew _ _ _ 0))) hp2 hp3).mono ?_
             rintro e' w1 ⟨g1, rfl, hg1, hr1, hb1⟩
             have hle := Nat.le_trans (Hid.out (by assumption) : Below wb.heap.size wb _).size hb1.size
             have K1 := Lib.hid (Keep.below hb1)
             have hl1 := hr1.lt
             have hs1 := hb1.size
             (try simp only [size_drew] at hg1 hs1)
             (try simp only [World.size_alloc] at hg1 hs1)
             (try simp only [size_drew] at hg1 hs1)
             have HR1 := Lib.hid hr1
             try (first
               | (have HT0 := ((TreeAt.new _ _ _ 84).keep hb1 : TreeAt _ _ (.slice none 0 0) (.slice none 0 0)); (try simp only [size_drew] at HT0); (try simp only [World.size_alloc] at HT0); (try simp only [size_drew] at HT0); have HT := Lib.hid HT0; clear HT0; obtain ⟨q0, q1, f0, f1⟩ := HT.out)
               | (have HT0 := ((TreeAt.new _ _ _ 84).keepD hb1 : TreeAt _ _ (.slice none 0 0) (.slice none 0 0)); (try simp only [size_drew] at HT0); (try simp only [World.size_alloc] at HT0); (try simp only [size_drew] at HT0); have HT := Lib.hid HT0; clear HT0; obtain ⟨q0, q1, f0, f1⟩ := HT.out)
               | (have HT0 := (((TreeAt.new _ _ _ 84).alloc _).keep hb1 : TreeAt _ _ (.slice none 0 0) (.slice none 0 0)); (try simp only [size_drew] at HT0); (try simp only [World.size_alloc] at HT0); (try simp only [size_drew] at HT0); have HT := Lib.hid HT0; clear HT0; obtain ⟨q0, q1, f0, f1⟩ := HT.out)
               | (have HT0 := (((TreeAt.new _ _ _ 84).alloc _).keepD hb1 : TreeAt _ _ (.slice none 0 0) (.slice none 0 0)); (try simp only [size_drew] at HT0); (try simp only [World.size_alloc] at HT0); (try simp only [size_drew] at HT0); have HT := Lib.hid HT0; clear HT0; obtain ⟨q0, q1, f0, f1⟩ := HT.out)
               | (have HT0 := ((((TreeAt.new _ _ _ 84).alloc _).alloc _).keep hb1 : TreeAt _ _ (.slice none 0 0) (.slice none 0 0)); (try simp only [size_drew] at HT0); (try simp only [World.size_alloc] at HT0); (try simp only [size_drew] at HT0); have HT := Lib.hid HT0; clear HT0; obtain ⟨q0, q1, f0, f1⟩ := HT.out)
               | (have HT0 := ((((TreeAt.new _ _ _ 84).alloc _).alloc _).keepD hb1 : TreeAt _ _ (.slice none 0 0) (.slice none 0 0)); (try simp only [size_drew] at HT0); (try simp only [World.size_alloc] at HT0); (try simp only [size_drew] at HT0); have HT := Lib.hid HT0; clear HT0; obtain ⟨q0, q1, f0, f1⟩ := HT.out))
             clear hr1)))
    all_goals
      rename_i hS
      obtain ⟨-, hbb⟩ := hS
      have hb9 := HWS.out
      go_wp2_with fail
      go_meet
      first
        | exact ⟨_, g1, g2, rfl, Lib.hid (TreeAt.new _ _ _ _), Lib.hid (HR1f.out.alloc _), Lib.hid (HR2.out.alloc _), Lib.hid ⟨by omega, by omega, by omega⟩, Lib.hid ⟨by omega, by omega, by omega⟩, hbb⟩
        | exact ⟨_, g2, g1, rfl, Lib.hid (TreeAt.new _ _ _ _), Lib.hid (HR2.out.alloc _), Lib.hid (HR1f.out.alloc _), Lib.hid ⟨by omega, by omega, by omega⟩, Lib.hid ⟨by omega, by omega, by omega⟩, hbb⟩
        | exact ⟨_, g1, g2, rfl, Lib.hid (HT.out.set _ _), Lib.hid ((HR1f.out.far (by dsimp only; omega) _).far (by dsimp only; omega) _), Lib.hid ((HR2.out.far (by dsimp only; omega) _).far (by dsimp only; omega) _), Lib.hid ⟨by omega, by omega, by omega⟩, Lib.hid ⟨by omega, by omega, by omega⟩, hbb⟩
        | exact ⟨_, g2, g1, rfl, Lib.hid (HT.out.set _ _), Lib.hid ((HR2.out.far (by dsimp only; omega) _).far (by dsimp only; omega) _), Lib.hid ((HR1f.out.far (by dsimp only; omega) _).far (by dsimp only; omega) _), Lib.hid ⟨by omega, by omega, by omega⟩, Lib.hid ⟨by omega, by omega, by omega⟩, hbb⟩
  case rest =>
    obtain ⟨gt, gl, ga, rfl, HT, HL, HA, HNE, HGE, HBc⟩ := hcut
    obtain ⟨wp, hwp⟩ : ∃ wp, wp = wc := ⟨_, rfl⟩
    subst hwp
    obtain ⟨i0, hi, hz0, hz1, hz2⟩ := info_parts Try.infoBool
    have HXc := Lib.hid (HW.out.trans (HBc.out.mono HW.out.size))
    clear n0 n1
    obtain ⟨n0, n1⟩ := BN.out.keep (Keep.below HBc.out)
    go_upto_region 3 with (at_make; refine wpList_make_full _ rfl (.tmp 29) (.tmp 29) 111 rfl _ 4 i0 (.bool false) 1 Try.underlying111 hi hz0 hz1 .i64 .i64 N.places.length N.places.length N.places.length rfl rfl rfl rfl (by rw [hz2]; omega) (by unfold maxLen; omega) (Nat.le_refl _) ?_)
    intro w2 hown hg2
    have HB2 : Hid (Below wp.heap.size wp w2) := Lib.hid ⟨hg2.os, hg2.tape, hg2.output, hg2.size, fun k hk => hg2.block k hk (by simp)⟩
    have HR2 : Hid (RowV w2 wp.heap.size 4 (List.replicate N.places.length (.bool false))) := Lib.hid (by
      have := (RowV.of_own hown).1
      rw [toList_madeCells_one] at this
      exact this)
    clear hown hg2 n0 n1
    have hlt := HT.out.lt
    have hll := HL.out.lt
    have hla := HA.out.lt
    have hne := HNE.out
    have hlb := HR2.out.lt
    have HS : Hid (SrAt (w2.alloc (.cells #[.slice (some ⟨wp.heap.size, 0, none⟩) N.places.length N.places.length] 111)) gt w2.heap.size gl ga wp.heap.size N.places.length ⟨List.replicate N.places.length (-1), List.replicate N.places.length (-1), List.replicate N.places.length false⟩) := Lib.hid (by
      have K2 : Below w2.heap.size w2 (w2.alloc (.cells #[.slice (some ⟨wp.heap.size, 0, none⟩) N.places.length N.places.length] 111)) := (Below.refl _ _).alloc (Nat.le_refl _) _
      have T2 := (HT.out.keep HB2.out).keep K2
      exact ⟨T2.c0, T2.c1, cellNew _ _ _ 0, by rw [List.map_replicate]; exact (HL.out.keep HB2.out).keep K2, by rw [List.map_replicate]; exact (HA.out.keep HB2.out).keep K2, by rw [List.map_replicate]; exact HR2.out.keep K2,
        by simp, by simp, by simp, hne.1, by omega, by omega, ⟨hne.2.1, hne.2.2, by omega⟩, ⟨by omega, by omega, by omega⟩⟩)
    have HB3 : Hid (Below wp.heap.size wp (w2.alloc (.cells #[.slice (some ⟨wp.heap.size, 0, none⟩) N.places.length N.places.length] 111))) := Lib.hid (HB2.out.alloc HB2.out.size _)
    go_upto_region 3 with fail
    generalize hw3 : w2.alloc _ = w3 at *
    have HD : Hid (wp.heap.size < w2.heap.size ∧ w2.heap.size < w3.heap.size) := by rw [← hw3]; exact Lib.hid ⟨hlb, by simp⟩
    clear hw3
    have hsn : (src : Int) < (N.places.length : Int) := by omega
    have HBW3 := Lib.hid (HBc.out.trans (HB3.out.mono HBc.out.size))
    have HG := Lib.hid (show wb.heap.size ≤ gl ∧ wb.heap.size ≤ ga ∧ wb.heap.size ≤ wp.heap.size from ⟨HGE.out.2.1, HGE.out.2.2, HBc.out.size⟩)
    have t0 := HS.out.t0
    have lb := HS.out.lab hs
    have fr := HS.out.rl.frozen src
    go_upto_region 5 with fail
    have HS4 : Hid (SrAt (w3.setCell ⟨gl, src, none⟩ (.int .i64 L)) gt w2.heap.size gl ga wp.heap.size N.places.length (Fs.start N src L)) := Lib.hid (HS.out.putL src L)
    have HB4 := Lib.hid (HBW3.out.setCell (p := ⟨gl, src, none⟩) HG.out.1 (.int .i64 L))
    clear t0 lb fr HS HB3 HBW3 HB2 HR2 HT HL HA
    generalize w3.setCell _ _ = w4 at *
    go_wp2_with fail
    refine (nearest_any (Fs.start N src L) gt w2.heap.size gl ga wp.heap.size N.places.length _ HS4.out hp3).mono ?_
    rintro e w4' ⟨rfl, hw4⟩
    obtain rfl : w4 = w4' := hw4
    go_wp2_with fail
    go_loopw [12] (fun u wr => ∃ s : St, u = .int .i64 (nearest s) ∧ Hid (SrAt wr gt w2.heap.size gl ga wp.heap.size N.places.length s) ∧ Hid (rounds N nx (s.done.count false) s = search N src L nx) ∧ Hid (s.done.count false ≤ N.places.length) ∧
      Hid (Fits N.places.length (1000000 + 100000 * ((N.places.length : Int) - (s.done.count false : Nat))) s) ∧ Hid (Below wb.heap.size wb wr)) (fun _ wr => leftOf wr wp.heap.size)
    case atStart => exact ⟨_, rfl, HS4, Lib.hid (by unfold search; simp [Fs.start]), Lib.hid (by simp [Fs.start]), Lib.hid (fun i hi => by
        simp only [Fs.start, Int.toNat_natCast, listI_set, List.length_replicate]
        split
        · right; simp; omega
        · left; exact listI_rep hi), HB4⟩
    case round =>
      obtain ⟨s, rfl, HS, HRN, HCN, HF, HB⟩ := hrel
      have HX := Lib.hid (HW.out.trans (HB.out.mono HW.out.size))
      have HLO := Lib.hid (leftOf_row HS.out.rb)
      by_cases hn : nearest s = -1
      · have e1 : (nearest s == -1) = true := by simpa using hn
        have e1' : (nearest s != -1) = false := by simpa using hn
        have HE := HRN.out
        rw [rounds_end hn] at HE
        have HE2 := Lib.hid HE
        clear HE hn
        obtain ⟨r0, r1, rf0, rf1⟩ := RT.out.below HB.out RT.out.lt
        have t0 := HS.out.t0
        have t1 := HS.out.t1
        have hgw := HGE.out
        have hws := HWS.out
        have HGL := Lib.hid (show w.heap.size ≤ gl ∧ w.heap.size ≤ ga ∧ w.heap.size + 1 ≠ gl ∧ w.heap.size + 1 ≠ ga from ⟨by omega, by omega, by omega, by omega⟩)
        clear hgw hws
        have HRL : Hid (RowV wr gl 3 ((search N src L nx).labels.map (Value.int .i64))) := by rw [← HE2.out]; exact Lib.hid HS.out.rl
        have HRA : Hid (RowV wr ga 3 ((search N src L nx).last.map (Value.int .i64))) := by rw [← HE2.out]; exact Lib.hid HS.out.ra
        go_wp2_with fail
        refine bodyPost_ret (v := .agg #[.slice (some ⟨gl, 0, none⟩) N.places.length N.places.length, .slice (some ⟨ga, 0, none⟩) N.places.length N.places.length]) (by simp [results, Try.results33, go_sem, r0, r1]) rfl
          ⟨gl, ga, rfl, (HRL.out.far (p := ⟨w.heap.size + 1, 0, none⟩) HGL.out.2.2.1 _).far (p := ⟨w.heap.size + 1, 1, none⟩) HGL.out.2.2.1 _, (HRA.out.far (p := ⟨w.heap.size + 1, 0, none⟩) HGL.out.2.2.2 _).far (p := ⟨w.heap.size + 1, 1, none⟩) HGL.out.2.2.2 _, HGL.out.1, HGL.out.2.1, ?_⟩
        exact (HX.out.setCell (p := ⟨w.heap.size + 1, 0, none⟩) (by simp) _).setCell (p := ⟨w.heap.size + 1, 1, none⟩) (by simp) _
      · have hnear := nearTo_is s s.labels.length
        rw [show nearTo s s.labels.length = nearest s from rfl, HS.out.nl] at hnear
        rcases hnear with ⟨hbad, -⟩ | ⟨p, hp, hpl, hpd, hpm, -⟩
        · exact absurd hbad hn
        · have e1 : ((p : Int) == -1) = false := by simp
          have e1' : ((p : Int) != -1) = true := by simp
          have HCM := Lib.hid (count_mark (by rw [HS.out.nb]; exact hpl) hpd)
          have HPF := Lib.hid ((HF.out p hpl).resolve_left hpm)
          have HRO : Hid (rounds N nx ((s.done.set p true).count false) (relaxTo N nx p (Fs.mark s p) N.roads.length) = search N src L nx) := by
            have h1 := HRN.out
            rw [← HCM.out, rounds_on hn] at h1
            unfold oneRound at h1
            rw [hp] at h1
            exact Lib.hid h1
          have hpn : (p : Int) < (N.places.length : Int) := by omega
          have HPD := Lib.hid hpd
          rw [hp]
          have HHP := Lib.hid hp
          clear hp
          have HPL2 := Lib.hid (show p < s.done.length by rw [HS.out.nb]; exact hpl)
          clear hn hpd hpm HRN
          obtain ⟨n0, n1⟩ := BN.out.keep (Keep.below HB.out)
          have d0 := HS.out.d0
          have cd := HS.out.don hpl
          have fd := HS.out.rb.frozen p
          go_upto_region 9 with fail
          have HS5 : Hid (SrAt (wr.setCell ⟨wp.heap.size, p, none⟩ (.bool true)) gt w2.heap.size gl ga wp.heap.size N.places.length (Fs.mark s p)) := Lib.hid (HS.out.putB p)
          have HB5 := Lib.hid (HB.out.setCell (p := ⟨wp.heap.size, p, none⟩) HG.out.2.2 (.bool true))
          clear n0 n1 d0 cd fd HB HX HS
          generalize wr.setCell _ _ = w5 at *
          obtain ⟨n0, n1⟩ := BN.out.keep (Keep.below HB5.out)
          go_wp2_with fail
          clear n0 n1
          go_loopw [49] (fun u wr => ∃ k : Nat, k ≤ N.roads.length ∧ u = .int .i64 k ∧ Hid (SrAt wr gt w2.heap.size gl ga wp.heap.size N.places.length (relaxTo N nx p (Fs.mark s p) k)) ∧
            Hid (Fits N.places.length (1000000 + 100000 * ((N.places.length : Int) - ((s.done.set p true).count false : Nat))) (relaxTo N nx p (Fs.mark s p) k)) ∧ Hid (listI (relaxTo N nx p (Fs.mark s p) k).labels p = listI s.labels p) ∧ Hid (Below wb.heap.size wb wr)) (fun u _ => N.roads.length - (intOf u).toNat)
          case atStart => exact ⟨0, Nat.zero_le _, rfl, HS5, Lib.hid (fun i hi => by
              have h1 := HF.out i hi
              have h2 := HCM.out
              show listI s.labels i = -1 ∨ (0 ≤ listI s.labels i ∧ listI s.labels i ≤ _)
              omega), Lib.hid rfl, HB5⟩
          case round =>
            obtain ⟨k, hk, rfl, HSk, HFk, HPk, HBk⟩ := hrel
            obtain ⟨sk, hsk⟩ : ∃ sk, sk = relaxTo N nx p (Fs.mark s p) k := ⟨_, rfl⟩
            rw [← hsk] at HSk HFk HPk
            have HSN : Hid (relaxTo N nx p (Fs.mark s p) (k + 1) = relax N nx p sk k) := by rw [hsk]; exact Lib.hid rfl
            have HDN : Hid (sk.done = s.done.set p true) := by rw [hsk, relaxTo_done]; exact Lib.hid (by simp [Fs.mark])
            have HSK0 := Lib.hid hsk
            clear hsk
            have HXk := Lib.hid (HW.out.trans (HBk.out.mono HW.out.size))
            by_cases hlt : k < N.roads.length
            · have hrr := M.out.roads.keep (Keep.below HXk.out)
              obtain ⟨b, o, hRa, q⟩ := hrr.at_ hlt
              subst hRa
              obtain ⟨q0, q1, q2, q3, q4⟩ := q
              have ok := net_roads_ok hE k hlt
              have HSM := Lib.hid (hx k (listI s.labels p) hlt HPF.out.1)
              have HPP := Lib.hid (show listB sk.done p = true by rw [HDN.out, listB_set, if_pos ⟨rfl, HPL2.out⟩])
              have BX := Lib.hid (BoxD.new wr (listD N.roads k) (a.p k) (a.pc k) 58)
              have HS6 := Lib.hid (HSk.out.below ((Below.refl _ _).alloc (Nat.le_refl _) (.cells #[.string (listD N.roads k).name, .int .i64 (listD N.roads k).src, .int .i64 (listD N.roads k).dst, .int .i64 (listD N.roads k).metres, .slice (a.p k) (listD N.roads k).pts.length (a.pc k)] 58)))
              have HB6 := Lib.hid (HBk.out.alloc HBk.out.size (.cells #[.string (listD N.roads k).name, .int .i64 (listD N.roads k).src, .int .i64 (listD N.roads k).dst, .int .i64 (listD N.roads k).metres, .slice (a.p k) (listD N.roads k).pts.length (a.pc k)] 58))
              have HOK := Lib.hid ok.dst
              clear ok
              go_upto_region 12 with fail
              have HWG := Lib.hid (show gl ≠ wr.heap.size ∧ ga ≠ wr.heap.size from ⟨Nat.ne_of_lt HSk.out.rl.lt, Nat.ne_of_lt HSk.out.ra.lt⟩)
              generalize hw6 : wr.alloc _ = w6 at *
              clear hw6 q0 q1 q2 q3 q4 hrr
              obtain ⟨d, hd⟩ : ∃ d : Nat, (listD N.roads k).dst = d := ⟨_, (Int.toNat_of_nonneg HOK.out.1).symm⟩
              have hdl : d < N.places.length := by have := HOK.out.2; omega
              have hdn : (d : Int) < (N.places.length : Int) := by omega
              have hdt : (listD N.roads k).dst.toNat = d := by omega
              have HDT := Lib.hid hdt
              clear hdt
              obtain ⟨x0, x1, x2, x3, x4⟩ := BX.out
              have sd0 := HS6.out.d0
              have sdn := HS6.out.don hdl
              by_cases hsp : (listD N.roads k).src = (p : Int)
              · have f1 : ((listD N.roads k).src == (p : Int)) = true := by simpa using hsp
                have f1' : ((listD N.roads k).src != (p : Int)) = false := by simpa using hsp
                have HSP := Lib.hid hsp
                clear hsp
                cases hdd : listB sk.done d with
                | true =>
                  have HRX := Lib.hid (relax_other (N := N) (nx := nx) (p := p) (s := sk) (i := k) (.inr (by rw [HDT.out]; exact hdd)))
                  have HSX := HS6
                  have HFX := HFk
                  have HPX := HPk
                  have HBX := HB6
                  rw [← HRX.out] at HSX HFX HPX
                  go_wp2_with fail
                  go_roundw
                  case rel => exact ⟨k + 1, by omega, by go_num, by rw [HSN.out]; exact HSX, by rw [HSN.out]; exact HFX, by rw [HSN.out]; exact HPX, HBX⟩
                  case measure => simp [intOf]; omega
                | false =>
                  have HDD := Lib.hid hdd
                  have cp : w6.cell? ⟨gl, p, none⟩ = some (.int .i64 (listI s.labels p)) := by rw [← HPk.out]; exact HS6.out.lab hpl
                  have t0 := HS6.out.t0
                  have hcall := HCALL.out
                  go_wp2_with fail
                  refine (HSTEP.out w6 (HW.out.trans (HB6.out.mono HW.out.size)) k (listI s.labels p) hlt HPF.out.1 (by have := HPF.out; omega)).mono ?_
                  rintro e w7 ⟨rfl, hb7⟩
                  have HS7 := Lib.hid (HS6.out.below hb7)
                  have HB7 := Lib.hid (HB6.out.trans (hb7.mono HB6.out.size))
                  have BX7 := Lib.hid (BX.out.keep (Keep.below hb7))
                  clear hb7 x0 x1 x2 x3 x4 sd0 sdn cp t0 hcall hdd
                  obtain ⟨x0, x1, x2, x3, x4⟩ := BX7.out
                  have t0 := HS7.out.t0
                  have t1 := HS7.out.t1
                  have cld := HS7.out.lab hdl
                  by_cases h3a : listI sk.labels d = -1
                  · have g1 : (listI sk.labels d == -1) = true := by simpa using h3a
                    have H3 : listI sk.labels d = -1 ∨ nx k (listI s.labels p) < listI sk.labels d := .inl h3a
                    clear h3a
                    have HRX := Lib.hid (relax_less (N := N) (nx := nx) (p := p) (s := sk) (i := k) HSP.out (by rw [HDT.out]; exact HDD.out) (by rw [HDT.out, Int.toNat_natCast, HPk.out]; exact H3))
                    have HRY := HRX.out
                    rw [HDT.out, Int.toNat_natCast, HPk.out] at HRY
                    have HRZ := Lib.hid HRY
                    clear HRY
                    have ll := HS7.out.lst hdl
                    have fl := HS7.out.rl.frozen d
                    have fa := HS7.out.ra.frozen d
                    have hwg := HWG.out
                    have t0L := (World.cell?_setCell_far w7 ⟨gl, d, none⟩ ⟨gt, 0, none⟩ (.int .i64 (nx k (listI s.labels p))) HS7.out.ne4.1.symm).trans t0
                    have t1L := (World.cell?_setCell_far w7 ⟨gl, d, none⟩ ⟨gt, 1, none⟩ (.int .i64 (nx k (listI s.labels p))) HS7.out.ne4.1.symm).trans t1
                    have x2L := (World.cell?_setCell_far w7 ⟨gl, d, none⟩ ⟨wr.heap.size, 2, none⟩ (.int .i64 (nx k (listI s.labels p))) hwg.1).trans x2
                    have ooL := (World.cell?_setCell_far w7 ⟨gl, d, none⟩ ⟨ga, d, none⟩ (.int .i64 (nx k (listI s.labels p))) HS7.out.ne1).trans ll
                    have t0A := (World.cell?_setCell_far w7 ⟨ga, d, none⟩ ⟨gt, 0, none⟩ (.int .i64 (k : Int)) HS7.out.ne4.2.1.symm).trans t0
                    have t1A := (World.cell?_setCell_far w7 ⟨ga, d, none⟩ ⟨gt, 1, none⟩ (.int .i64 (k : Int)) HS7.out.ne4.2.1.symm).trans t1
                    have x2A := (World.cell?_setCell_far w7 ⟨ga, d, none⟩ ⟨wr.heap.size, 2, none⟩ (.int .i64 (k : Int)) hwg.2).trans x2
                    have ooA := (World.cell?_setCell_far w7 ⟨ga, d, none⟩ ⟨gl, d, none⟩ (.int .i64 (k : Int)) HS7.out.ne1.symm).trans cld
                    clear hwg
                    go_wp2_with fail
                    have HFX := Lib.hid (relax_fits (N := N) (nx := nx) (p := p) (i := k) HFk.out (by rw [Int.toNat_natCast, HPk.out]; have := HSM.out; have := HPF.out; omega) (by rw [Int.toNat_natCast, HPk.out]; have := HSM.out; have := HPF.out; have := HCM.out; omega))
                    have HPX := Lib.hid ((relax_keep (N := N) (nx := nx) (p := p) (i := k) HPP.out).trans HPk.out)
                    go_region
                    all_goals
                      clear ll fl fa t0 t1 x0 x1 x2 x3 x4 cld t0L t1L x2L ooL t0A t1A x2A ooA
                      go_wp2_with fail
                      go_roundw
                      case rel =>
                        first
                          | exact ⟨k + 1, by omega, by go_num, by rw [HSN.out, HRZ.out]; exact Lib.hid (HS7.out.put d _ _).drew, by rw [HSN.out]; exact HFX, by rw [HSN.out]; exact HPX, Lib.hid ((HB7.out.setCell (p := ⟨gl, d, none⟩) HG.out.1 _).setCell (p := ⟨ga, d, none⟩) HG.out.2.1 _).drew⟩
                          | exact ⟨k + 1, by omega, by go_num, by rw [HSN.out, HRZ.out]; exact Lib.hid (HS7.out.putR d _ _).drew, by rw [HSN.out]; exact HFX, by rw [HSN.out]; exact HPX, Lib.hid ((HB7.out.setCell (p := ⟨ga, d, none⟩) HG.out.2.1 _).setCell (p := ⟨gl, d, none⟩) HG.out.1 _).drew⟩
                      case measure => simp [intOf]; omega
                  · have g1 : (listI sk.labels d == -1) = false := by simpa using h3a
                    by_cases h3b : nx k (listI s.labels p) < listI sk.labels d
                    · have g2 : decide (nx k (listI s.labels p) < listI sk.labels d) = true := decide_eq_true h3b
                      have H3 : listI sk.labels d = -1 ∨ nx k (listI s.labels p) < listI sk.labels d := .inr h3b
                      clear h3a h3b
                      have HRX := Lib.hid (relax_less (N := N) (nx := nx) (p := p) (s := sk) (i := k) HSP.out (by rw [HDT.out]; exact HDD.out) (by rw [HDT.out, Int.toNat_natCast, HPk.out]; exact H3))
                      have HRY := HRX.out
                      rw [HDT.out, Int.toNat_natCast, HPk.out] at HRY
                      have HRZ := Lib.hid HRY
                      clear HRY
                      have ll := HS7.out.lst hdl
                      have fl := HS7.out.rl.frozen d
                      have fa := HS7.out.ra.frozen d
                      have hwg := HWG.out
                      have t0L := (World.cell?_setCell_far w7 ⟨gl, d, none⟩ ⟨gt, 0, none⟩ (.int .i64 (nx k (listI s.labels p))) HS7.out.ne4.1.symm).trans t0
                      have t1L := (World.cell?_setCell_far w7 ⟨gl, d, none⟩ ⟨gt, 1, none⟩ (.int .i64 (nx k (listI s.labels p))) HS7.out.ne4.1.symm).trans t1
                      have x2L := (World.cell?_setCell_far w7 ⟨gl, d, none⟩ ⟨wr.heap.size, 2, none⟩ (.int .i64 (nx k (listI s.labels p))) hwg.1).trans x2
                      have ooL := (World.cell?_setCell_far w7 ⟨gl, d, none⟩ ⟨ga, d, none⟩ (.int .i64 (nx k (listI s.labels p))) HS7.out.ne1).trans ll
                      have t0A := (World.cell?_setCell_far w7 ⟨ga, d, none⟩ ⟨gt, 0, none⟩ (.int .i64 (k : Int)) HS7.out.ne4.2.1.symm).trans t0
                      have t1A := (World.cell?_setCell_far w7 ⟨ga, d, none⟩ ⟨gt, 1, none⟩ (.int .i64 (k : Int)) HS7.out.ne4.2.1.symm).trans t1
                      have x2A := (World.cell?_setCell_far w7 ⟨ga, d, none⟩ ⟨wr.heap.size, 2, none⟩ (.int .i64 (k : Int)) hwg.2).trans x2
                      have ooA := (World.cell?_setCell_far w7 ⟨ga, d, none⟩ ⟨gl, d, none⟩ (.int .i64 (k : Int)) HS7.out.ne1.symm).trans cld
                      clear hwg
                      go_wp2_with fail
                      have HFX := Lib.hid (relax_fits (N := N) (nx := nx) (p := p) (i := k) HFk.out (by rw [Int.toNat_natCast, HPk.out]; have := HSM.out; have := HPF.out; omega) (by rw [Int.toNat_natCast, HPk.out]; have := HSM.out; have := HPF.out; have := HCM.out; omega))
                      have HPX := Lib.hid ((relax_keep (N := N) (nx := nx) (p := p) (i := k) HPP.out).trans HPk.out)
                      go_region
                      all_goals
                        clear ll fl fa t0 t1 x0 x1 x2 x3 x4 cld t0L t1L x2L ooL t0A t1A x2A ooA
                        go_wp2_with fail
                        go_roundw
                        case rel =>
                          first
                            | exact ⟨k + 1, by omega, by go_num, by rw [HSN.out, HRZ.out]; exact Lib.hid (HS7.out.put d _ _).drew, by rw [HSN.out]; exact HFX, by rw [HSN.out]; exact HPX, Lib.hid ((HB7.out.setCell (p := ⟨gl, d, none⟩) HG.out.1 _).setCell (p := ⟨ga, d, none⟩) HG.out.2.1 _).drew⟩
                            | exact ⟨k + 1, by omega, by go_num, by rw [HSN.out, HRZ.out]; exact Lib.hid (HS7.out.putR d _ _).drew, by rw [HSN.out]; exact HFX, by rw [HSN.out]; exact HPX, Lib.hid ((HB7.out.setCell (p := ⟨ga, d, none⟩) HG.out.2.1 _).setCell (p := ⟨gl, d, none⟩) HG.out.1 _).drew⟩
                        case measure => simp [intOf]; omega
                    · have g2 : decide (nx k (listI s.labels p) < listI sk.labels d) = false := decide_eq_false h3b
                      have HRX := Lib.hid (relax_more (N := N) (nx := nx) (p := p) (s := sk) (i := k) HSP.out (by rw [HDT.out]; exact HDD.out) (by rw [HDT.out, Int.toNat_natCast, HPk.out]; rintro (h | h) <;> contradiction))
                      have HSX := HS7
                      have HFX := HFk
                      have HPX := HPk
                      have HBX := HB7
                      rw [← HRX.out] at HSX HFX HPX
                      clear h3a h3b
                      go_wp2_with fail
                      go_roundw
                      case rel => exact ⟨k + 1, by omega, by go_num, by rw [HSN.out]; exact HSX, by rw [HSN.out]; exact HFX, by rw [HSN.out]; exact HPX, HBX⟩
                      case measure => simp [intOf]; omega
              · have f1 : ((listD N.roads k).src == (p : Int)) = false := by simpa using hsp
                have f1' : ((listD N.roads k).src != (p : Int)) = true := by simpa using hsp
                have HRX := Lib.hid (relax_other (N := N) (nx := nx) (p := p) (s := sk) (i := k) (.inl hsp))
                have HSX := HS6
                have HFX := HFk
                have HPX := HPk
                have HBX := HB6
                rw [← HRX.out] at HSX HFX HPX
                clear hsp
                go_wp2_with fail
                go_roundw
                case rel => exact ⟨k + 1, by omega, by go_num, by rw [HSN.out]; exact HSX, by rw [HSN.out]; exact HFX, by rw [HSN.out]; exact HPX, HBX⟩
                case measure => simp [intOf]; omega
            · have e : k = N.roads.length := by omega
              have HSE : Hid (sk = relaxTo N nx p (Fs.mark s p) N.roads.length) := by rw [← e]; exact HSK0
              clear e
              have HRO2 := HRO.out
              rw [← HSE.out, ← HDN.out] at HRO2
              have HRO3 := Lib.hid HRO2
              have HF3 := HFk.out
              rw [← HDN.out] at HF3
              have HF4 := Lib.hid HF3
              have HC4 : Hid (sk.done.count false ≤ N.places.length) := by rw [HDN.out]; exact Lib.hid (by have := HCM.out; have := HCN.out; omega)
              clear HRO2 HF3
              go_wp2_with fail
              refine (nearest_any sk gt w2.heap.size gl ga wp.heap.size N.places.length _ HSk.out hp3).mono ?_
              rintro e w8 ⟨rfl, hw8⟩
              obtain rfl : wr = w8 := hw8
              go_wp2_with fail
              go_roundw
              case rel => exact ⟨sk, rfl, HSk, HRO3, HC4, HF4, HBk⟩
              case measure =>
                rw [HLO.out, leftOf_row HSk.out.rb, HDN.out]
                have := HCM.out
                omega
end Go.Proofs.Ytjmaankkbdpikaa

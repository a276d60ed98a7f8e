/- A shortest way, told as places, is examined as shortest: plain. Condition: the net is right. -/
import Derived.Test.YthipneggplebcaaT66
namespace Go.Proofs.Ythipneggplebcaa
open Go.RowKit Fs

theorem Fs.best_min {N : Net} {a b : Int} {i : Nat} (h1 : (listD N.roads i).src = a) (h2 : (listD N.roads i).dst = b) : ∀ k, i < k → bestTo N a b k ≠ -1 ∧ (listD N.roads (bestTo N a b k).toNat).metres ≤ (listD N.roads i).metres
  | 0, h => absurd h (Nat.not_lt_zero _)
  | k + 1, h => by
    by_cases hc : (listD N.roads k).src = a ∧ (listD N.roads k).dst = b ∧ (bestTo N a b k = -1 ∨ (listD N.roads k).metres < (listD N.roads (bestTo N a b k).toNat).metres)
    · rw [best_take hc]
      refine ⟨by omega, ?_⟩
      rw [Int.toNat_natCast]
      by_cases e : i = k
      · subst e; exact Int.le_refl _
      · obtain ⟨h3, h4⟩ := best_min h1 h2 k (by omega)
        have := hc.2.2.resolve_left h3
        omega
    · rw [best_leave hc]
      by_cases e : i = k
      · subst e
        refine ⟨fun h' => hc ⟨h1, h2, .inl h'⟩, ?_⟩
        by_cases h5 : (listD N.roads i).metres < (listD N.roads (bestTo N a b i).toNat).metres
        · exact absurd ⟨h1, h2, .inr h5⟩ hc
        · omega
      · exact best_min h1 h2 k (by omega)
/-- The places of a way, from the first one on. -/
def Fs.tolds (N : Net) (X : Int) (W : List Int) : Nat → List Int
  | 0 => [X]
  | k + 1 => tolds N X W k ++ [(listD N.roads (listI W k).toNat).dst]
theorem Fs.tolds_len (N : Net) (X : Int) (W : List Int) : ∀ k, (tolds N X W k).length = k + 1
  | 0 => rfl
  | k + 1 => by rw [tolds, List.length_append, tolds_len N X W k]; rfl
theorem listI_app_last {l : List Int} {x : Int} : listI (l ++ [x]) l.length = x := by
  unfold listI
  rw [List.getD_eq_getElem?_getD, List.getElem?_append_right (Nat.le_refl _)]
  simp
theorem Fs.tolds_first (N : Net) (X : Int) (W : List Int) : ∀ k, listI (tolds N X W k) 0 = X
  | 0 => rfl
  | k + 1 => by rw [tolds, listI_app1 (by rw [tolds_len]; omega)]; exact tolds_first N X W k
theorem Fs.tolds_at (N : Net) (X : Int) (W : List Int) : ∀ n k, k < n → listI (tolds N X W n) (k + 1) = (listD N.roads (listI W k).toNat).dst
  | 0, k, h => absurd h (Nat.not_lt_zero _)
  | n + 1, k, h => by
    rw [tolds]
    by_cases e : k = n
    · subst e
      have := listI_app_last (l := tolds N X W k) (x := (listD N.roads (listI W k).toNat).dst)
      rw [tolds_len] at this
      exact this
    · rw [listI_app1 (by rw [tolds_len]; omega)]
      exact tolds_at N X W n k (by omega)
theorem Fs.way_short {N : Net} (hE : netErr N = 0) {f t : Nat} (hf : f < N.places.length) (ht : t < N.places.length) {W : List Int} (hy : listI (heights N f) t ≠ -1) (hc : Chain N (search N f 0 (further N)).last t W.reverse) : W.length ≤ 100 := by
  obtain ⟨rk, h1, h2⟩ := (further_found hE hf).chain hf (net_joined hE)
  obtain ⟨k1, k2⟩ := h2 t _ hc ht hy
  rw [List.length_reverse] at k1
  have := h1 t ht
  have := (net_sound hE).2.1
  omega
theorem Fs.told_back {N : Net} (hE : netErr N = 0) {X Y : Nat} (hX : X < N.places.length) {W : List Int} (hw : wayErr N W = 0) (hj : JoinsIs N W X Y) (h0 : W.length ≠ 0) (h1 : W.length ≤ 100) (hm : metresTo N W = listI (heights N X) Y) :
    examined N (tolds N X W W.length) 0 = ((listI (heights N X) Y, listI (heights N X) Y, true), 0) := by
  have hlen := tolds_len N X W W.length
  have hin := fun j hj => ((way_ok hw).2 j hj).1
  have hJ := net_joined hE
  have jn := joins_some h0 hj
  have hsrc : ∀ k, k < W.length → (listD N.roads (listI W k).toNat).src = listI (tolds N X W W.length) k := by
    intro k hk
    cases k with
    | zero => rw [tolds_first]; exact jn.1
    | succ k =>
      rw [tolds_at N X W _ k (by omega)]
      have := ((way_ok hw).2 (k + 1) hk).2 (by omega)
      rw [Nat.add_sub_cancel] at this
      exact this.symm
  have hdst : ∀ k, k < W.length → (listD N.roads (listI W k).toNat).dst = listI (tolds N X W W.length) (k + 1) := fun k hk => (tolds_at N X W _ k hk).symm
  have hp : placesErr N (tolds N X W W.length) = 0 := places_fine fun j hj => by
    cases j with
    | zero => rw [tolds_first]; exact Fs.within_iff.2 ⟨by omega, by omega⟩
    | succ j =>
      rw [hlen] at hj
      rw [← hdst j (by omega)]
      have h := hin j (by omega)
      have h2 := (hJ (listI W j).toNat (by omega)).2
      exact Fs.within_iff.2 ⟨h2.1, by omega⟩
  have hx : examErr N (tolds N X W W.length) 0 = 0 := examErr_zero (by rw [hlen]; omega) (by rw [hlen]; omega) hp (by decide) (by decide)
  have hb : ∀ k, k < W.length → bestAt N (tolds N X W W.length) k ≠ -1 ∧ (listD N.roads (bestAt N (tolds N X W W.length) k).toNat).metres ≤ (listD N.roads (listI W k).toNat).metres := fun k hk =>
    best_min (hsrc k hk) (hdst k hk) N.roads.length (by have := hin k hk; omega)
  have ht : (told N (tolds N X W W.length)).2 = 0 := told_yes fun k hk => (hb k (by omega)).1
  have hle : ∀ k, k ≤ W.length → metTo N (tolds N X W W.length) k ≤ alongTo (further N) k W 0 := by
    intro k
    induction k with
    | zero => exact fun _ => Int.le_refl _
    | succ k ih =>
      intro hk
      have a := ih (by omega)
      have b := (hb k (by omega)).2
      show metTo N (tolds N X W W.length) k + _ ≤ alongTo (further N) k W 0 + (listD N.roads (listI W k).toNat).metres
      omega
  have hl : leastM N (tolds N X W W.length) = listI (heights N X) Y := by
    unfold leastM
    rw [tolds_first, hlen, show W.length + 1 - 1 = (W.length - 1) + 1 by omega, ← hdst (W.length - 1) (by omega), jn.2, Int.toNat_natCast]
  have h3 := told_least hE (by rw [tolds_first]; omega) (by rw [hlen]; omega) ht
  rw [told_sum ht, hl, hlen, Nat.add_sub_cancel] at h3
  have h4 := hle W.length (Nat.le_refl _)
  have h5 : metTo N (tolds N X W W.length) W.length = listI (heights N X) Y := by
    have : alongTo (further N) W.length W 0 = listI (heights N X) Y := hm
    omega
  rw [ex_fine hE hx ht, hl, hlen, Nat.add_sub_cancel, h5]
  rw [decide_eq_true (by omega)]
theorem Fs.exam_way {N : Net} {l : List Int} {m : Int} (h : (examined N l m).2 = 0) : netErr N = 0 ∧ 2 ≤ l.length ∧ placesErr N l = 0 ∧ (examined N l m).1.2.1 = leastM N l ∧ 0 ≤ leastM N l := by
  by_cases h1 : exErr N l m = 0
  · obtain ⟨a, b⟩ := exErr_ok h1
    obtain ⟨c1, c2, c3, c4, c5⟩ := examErr_ok b
    by_cases h2 : (told N l).2 = 0
    · refine ⟨a, c1, c3, ?_, (told_least a (place_in c3 (by omega)) c1 h2).1⟩
      unfold examined; rw [if_pos h1, if_pos h2]
    · unfold examined at h; rw [if_pos h1, if_neg h2] at h; exact absurd h h2
  · unfold examined at h; rw [if_neg h1] at h; exact absurd h h1
theorem ArrI.farB {w : World} {A : Option Addr} {l : List Int} {c B : Nat} (h : ArrI w A l c) (ha : Above B A) {g i : Nat} (hg : g < B) (v : Value) : ArrI (w.setCell ⟨g, i, none⟩ v) A l c := by
  refine ⟨h.1, h.2.1, fun hn => ?_⟩
  obtain ⟨b, o, h1, h2⟩ := h.2.2 hn
  have := ha _ h1
  dsimp only at this
  refine ⟨b, o, h1, fun i j hi hj => ?_⟩
  rw [World.cell?_setCell_other _ _ _ _ (fun e => by injection e with e1; omega)]
  exact h2 i j hi hj
theorem ArrD.at1 {w : World} {b o : Nat} {l : List Rd} {c : Nat} {a : DA} (h : ArrD w (some ⟨b, o, none⟩) l c a) {k : Nat} (hk : k < l.length) : w.cell? ⟨b, o + k * 5 + 2, none⟩ = some (.int .i64 (listD l k).dst) := by
  obtain ⟨b', o', e, x⟩ := h.at_ hk
  injection e with e
  injection e with e1 e2
  subst e1; subst e2
  exact x.c2
theorem ownOne (w : World) (x : Int) (B : Nat) (hB : B ≤ w.heap.size) : (w.alloc (.cells #[.int .i64 x] 3)).ownsRow B 3 1 (.slice (some ⟨w.heap.size, 0, none⟩) 1 1) 1 (intVals [x]) :=
  ⟨rfl, .inr ⟨w.heap.size, 1, #[.int .i64 x], rfl, hB, heap_alloc_new w _, Nat.le_refl _, by unfold maxLen; omega, rfl, rfl⟩⟩
end Go.Proofs.Ythipneggplebcaa

/- What the law asks of the fares of three trips, plainly. Condition: they differ in their metres alone. -/
import Derived.Test.YtbehabaoeicgeaaFs5
namespace Go.Proofs.Ytbehabaoeicgeaa.Fs
open Go.RowKit

theorem Alike.symm {X : Trip} {L : List Seg} (h : Alike X L) : Alike (withSegs X L) X.segs :=
  ⟨h.n.symm, fun i hi => (h.z i (by have : (withSegs X L).segs.length = X.segs.length := h.n; omega)).symm, fun i hi => (h.s i (by have : (withSegs X L).segs.length = X.segs.length := h.n; omega)).symm, fun i hi => (h.m i (by have : (withSegs X L).segs.length = X.segs.length := h.n; omega)).symm⟩
/-- An accepted fare. -/
theorem fare_zero {T : Tar} {X : Trip} (h : (fareOf T X).2 = 0) : rulesErr T X = 0 ∧ fareE T X = 0 ∧ (fareV 0 T X (rulesL T X)).total ≤ 1000000000 ∧ (fareOf T X).1 = fareV 0 T X (rulesL T X) := by
  unfold fareOf at *
  by_cases h1 : rulesErr T X = 0
  · rw [if_neg (fun hh => hh h1)] at *
    by_cases h2 : fareE T X = 0
    · rw [if_neg (fun hh => hh h2)] at *
      by_cases h3 : 1000000000 < (fareV 0 T X (rulesL T X)).total
      · rw [if_pos h3] at h
        exact absurd h (by decide)
      · rw [if_neg h3]
        exact ⟨h1, h2, by omega, rfl⟩
    · rw [if_pos h2] at h
      exact absurd h h2
  · rw [if_pos h1] at h
    exact absurd h h1
theorem range_ok {T : Tar} {X : Trip} (h1 : rulesErr T X = 0) (h2 : fareE T X = 0) :
    rangeOf T X = if 1000000000 < (fareV 1 T X (rulesL T X)).total then ((0, 0), 8) else (((fareV 0 T X (rulesL T X)).total, (fareV 1 T X (rulesL T X)).total), 0) := by
  unfold rangeOf rangeBy
  rw [if_neg (fun hh => hh h1), if_neg (fun hh => hh h2)]
section
variable {T : Tar} {X : Trip} {L : List Seg}
theorem lawA (h : Alike X L) (hm : ∀ i, i < X.segs.length → (listG X.segs i).metres ≤ (listG L i).metres) :
    (fareOf T X).2 = (fareOf T (withSegs X L)).2 ∨ (fareOf T (withSegs X L)).2 = 8 := by
  unfold fareOf
  rw [h.err, h.rules]
  by_cases h1 : rulesErr T X = 0
  · obtain ⟨hok, hri⟩ := rules_ok h1
    obtain ⟨n1, -, -⟩ := segs_ok (trip_ok hok).2.2.2
    have p1 : ¬ (rulesErr T X ≠ 0) := fun hh => hh h1
    rw [h.fareE n1, if_neg p1, if_neg p1]
    by_cases h2 : fareE T X = 0
    · have p2 : ¬ (fareE T X ≠ 0) := fun hh => hh h2
      rw [if_neg p2, if_neg p2]
      obtain ⟨-, -, ht⟩ := h.mono (q := 0) hok hri hm
      by_cases h3 : 1000000000 < (fareV 0 T (withSegs X L) (rulesL T X)).total
      · right
        rw [if_pos h3]
      · left
        rw [if_neg h3, if_neg (by omega : ¬ 1000000000 < (fareV 0 T X (rulesL T X)).total)]
    · have p2 : fareE T X ≠ 0 := h2
      rw [if_pos p2, if_pos p2]
      exact .inl rfl
  · have p1 : rulesErr T X ≠ 0 := h1
    rw [if_pos p1, if_pos p1]
    exact .inl rfl
theorem lawB (h : Alike X L) (hm : ∀ i, i < X.segs.length → (listG X.segs i).metres ≤ (listG L i).metres) (hx : (fareOf T X).2 = 0) (hy : (fareOf T (withSegs X L)).2 = 0) :
    (fareOf T X).1.total ≤ (fareOf T (withSegs X L)).1.total ∧ (fareOf T X).1.start = (fareOf T (withSegs X L)).1.start ∧ (fareOf T X).1.extras = (fareOf T (withSegs X L)).1.extras := by
  obtain ⟨h1, -, -, hv⟩ := fare_zero hx
  obtain ⟨-, -, -, hw⟩ := fare_zero hy
  obtain ⟨hok, hri⟩ := rules_ok h1
  rw [hv, hw, h.rules]
  obtain ⟨a, b, c⟩ := h.mono (q := 0) hok hri hm
  exact ⟨c, a, b⟩
theorem lawC (hx : (fareOf T X).2 = 0) : (rangeOf T X).2 = 0 ∨ (rangeOf T X).2 = 8 := by
  obtain ⟨h1, h2, -, -⟩ := fare_zero hx
  rw [range_ok h1 h2]
  split
  · exact .inr rfl
  · exact .inl rfl
theorem range_zero (hx : (fareOf T X).2 = 0) (h : (rangeOf T X).2 = 0) : (rangeOf T X).1 = ((fareOf T X).1.total, (fareV 1 T X (rulesL T X)).total) := by
  obtain ⟨h1, h2, -, hv⟩ := fare_zero hx
  rw [range_ok h1 h2] at *
  split at h
  · exact absurd h (by decide)
  · rename_i h3
    rw [if_neg h3, hv]
theorem lawD (h : Alike X L) (hm : ∀ i, i < X.segs.length → (listG X.segs i).metres ≤ (listG L i).metres) (hx : (fareOf T X).2 = 0) (hy : (fareOf T (withSegs X L)).2 = 0) (gx : (rangeOf T X).2 = 0) (gy : (rangeOf T (withSegs X L)).2 = 0) :
    (rangeOf T X).1.1 = (fareOf T X).1.total ∧ (rangeOf T (withSegs X L)).1.1 = (fareOf T (withSegs X L)).1.total ∧ (rangeOf T X).1.2 ≤ (rangeOf T (withSegs X L)).1.2 := by
  rw [range_zero hx gx, range_zero hy gy]
  obtain ⟨hok, hri⟩ := rules_ok (fare_zero hx).1
  refine ⟨rfl, rfl, ?_⟩
  rw [h.rules]
  exact (h.mono (q := 1) hok hri hm).2.2
/-- Without any metres both reckonings are the same. -/
theorem lawE (h : Alike X L) (h0 : ∀ i, i < X.segs.length → (listG L i).metres = 0) (hx : (fareOf T X).2 = 0) :
    (fareOf T (withSegs X L)).2 = 0 ∧ (fareOf T (withSegs X L)).1.total ≤ (fareOf T X).1.total ∧ (rangeOf T (withSegs X L)).2 = 0 ∧ (rangeOf T (withSegs X L)).1 = ((fareOf T (withSegs X L)).1.total, (fareOf T (withSegs X L)).1.total) := by
  obtain ⟨h1, h2, h3, hv⟩ := fare_zero hx
  obtain ⟨hok, hri⟩ := rules_ok h1
  obtain ⟨n1, -, hs⟩ := segs_ok (trip_ok hok).2.2.2
  have e : (withSegs X L).segs.length = X.segs.length := h.n
  have k1 : rulesErr T (withSegs X L) = 0 := h.err.trans h1
  have k2 : fareE T (withSegs X L) = 0 := (h.fareE n1).trans h2
  have kok : (checkTrip' T (withSegs X L)).2 = 0 := by rw [h.check]; exact hok
  have hle : (fareV 0 T (withSegs X L) (rulesL T X)).total ≤ (fareV 0 T X (rulesL T X)).total :=
    (h.symm.mono (q := 0) kok (h.rulesIn hri) fun i hi => by
      show (listG L i).metres ≤ (listG X.segs i).metres
      rw [h0 i (by omega)]
      exact (hs i (by omega)).1.1).2.2
  have hq : ∀ k, k < (withSegs X L).segs.length → pt 0 T (rulesL T X) (withSegs X L).segs k = pt 1 T (rulesL T X) (withSegs X L).segs k := fun k hk => by
    have hm0 : ptM T (rulesL T X) (withSegs X L).segs k = 0 := by
      unfold ptM
      rw [show (listG (withSegs X L).segs k).metres = 0 from h0 k (by omega), Int.mul_zero]
    obtain ⟨-, s0, -⟩ := pt_ok kok (h.rulesIn hri) k hk
    unfold pt
    rw [hm0]
    show max 0 _ = 0 + _
    omega
  have hd : drivenC 0 T (withSegs X L) (rulesL T X) = drivenC 1 T (withSegs X L) (rulesL T X) :=
    Int.le_antisymm (driven_mono (trip_ok hok).1 rfl fun k hk => Int.le_of_eq (hq k hk)) (driven_mono (trip_ok hok).1 rfl fun k hk => Int.le_of_eq (hq k hk).symm)
  have hv1 : (fareV 1 T (withSegs X L) (rulesL T X)).total = (fareV 0 T (withSegs X L) (rulesL T X)).total := by
    unfold fareV
    split
    · rfl
    · show startC T (rulesL T X) + drivenC 1 T (withSegs X L) (rulesL T X) + _ = startC T (rulesL T X) + drivenC 0 T (withSegs X L) (rulesL T X) + _
      rw [hd]
  have hf : fareOf T (withSegs X L) = (fareV 0 T (withSegs X L) (rulesL T X), 0) := by
    unfold fareOf
    rw [h.rules, if_neg (fun hh => hh k1), if_neg (fun hh => hh k2), if_neg (by omega)]
  have hr : rangeOf T (withSegs X L) = (((fareV 0 T (withSegs X L) (rulesL T X)).total, (fareV 0 T (withSegs X L) (rulesL T X)).total), 0) := by
    rw [range_ok k1 k2, h.rules, hv1, if_neg (by omega)]
  rw [hf, hr, hv]
  exact ⟨rfl, hle, rfl, rfl⟩
end
/-! ### the two loops over the copy's segments -/
def setM (L : List Seg) (k : Nat) (m : Int) : List Seg := L.set k ⟨(listG L k).zone, m, (listG L k).seconds⟩
theorem setM_length (L : List Seg) (k : Nat) (m : Int) : (setM L k m).length = L.length := by simp [setM]
theorem setM_at {L : List Seg} {k i : Nat} {m : Int} (hk : k < L.length) : listG (setM L k m) i = if i = k then ⟨(listG L k).zone, m, (listG L k).seconds⟩ else listG L i := by
  unfold setM listG
  by_cases e : i = k
  · subst e
    rw [if_pos rfl, List.getD_eq_getElem?_getD, List.getElem?_set_self hk]
    rfl
  · rw [if_neg e, List.getD_eq_getElem?_getD, List.getElem?_set_ne (fun h => e h.symm), ← List.getD_eq_getElem?_getD]
/-- The first k segments have more metres. -/
def bumpTo (S : List Seg) (M : List Int) : Nat → List Seg
  | 0 => S
  | k + 1 => setM (bumpTo S M k) k (min 100000 ((listG S k).metres + listI M k))
def zeroTo (S : List Seg) : Nat → List Seg
  | 0 => S
  | k + 1 => setM (zeroTo S k) k 0
theorem bumpTo_length (S : List Seg) (M : List Int) : ∀ k, (bumpTo S M k).length = S.length
  | 0 => rfl
  | k + 1 => (setM_length _ _ _).trans (bumpTo_length S M k)
theorem zeroTo_length (S : List Seg) : ∀ k, (zeroTo S k).length = S.length
  | 0 => rfl
  | k + 1 => (setM_length _ _ _).trans (zeroTo_length S k)
theorem bumpTo_at (S : List Seg) (M : List Int) (i : Nat) : ∀ k, k ≤ S.length → listG (bumpTo S M k) i = if i < k then ⟨(listG S i).zone, min 100000 ((listG S i).metres + listI M i), (listG S i).seconds⟩ else listG S i
  | 0, _ => by rw [if_neg (Nat.not_lt_zero _)]; rfl
  | k + 1, hk => by
    have ih := fun i => bumpTo_at S M i k (by omega)
    unfold bumpTo
    rw [setM_at (by rw [bumpTo_length]; omega)]
    by_cases e : i = k
    · subst e
      rw [if_pos rfl, if_pos (by omega), ih, if_neg (Nat.lt_irrefl _)]
    · rw [if_neg e, ih]
      by_cases h : i < k
      · rw [if_pos h, if_pos (by omega)]
      · rw [if_neg h, if_neg (by omega)]
theorem zeroTo_at (S : List Seg) (i : Nat) : ∀ k, k ≤ S.length → listG (zeroTo S k) i = if i < k then ⟨(listG S i).zone, 0, (listG S i).seconds⟩ else listG S i
  | 0, _ => by rw [if_neg (Nat.not_lt_zero _)]; rfl
  | k + 1, hk => by
    have ih := fun i => zeroTo_at S i k (by omega)
    unfold zeroTo
    rw [setM_at (by rw [zeroTo_length]; omega)]
    by_cases e : i = k
    · subst e
      rw [if_pos rfl, if_pos (by omega), ih, if_neg (Nat.lt_irrefl _)]
    · rw [if_neg e, ih]
      by_cases h : i < k
      · rw [if_pos h, if_pos (by omega)]
      · rw [if_neg h, if_neg (by omega)]
/-- The trip with more metres. -/
theorem bump_alike {X : Trip} {M : List Int} {k : Nat} (hk : k ≤ X.segs.length) (h : ∀ i, i < k → within (listI M i) 0 100000 = true ∧ within (listG X.segs i).metres 0 100000 = true) :
    Alike X (bumpTo X.segs M k) ∧ ∀ i, i < X.segs.length → (listG X.segs i).metres ≤ (listG (bumpTo X.segs M k) i).metres := by
  refine ⟨⟨bumpTo_length _ _ _, fun i hi => ?_, fun i hi => ?_, fun i hi => ?_⟩, fun i hi => ?_⟩
  · rw [bumpTo_at _ _ _ _ hk]; split <;> rfl
  · rw [bumpTo_at _ _ _ _ hk]; split <;> rfl
  · rw [bumpTo_at _ _ _ _ hk]
    split
    · rename_i hik
      obtain ⟨a, b⟩ := h i hik
      rw [b]
      rw [within_iff] at a b ⊢
      show 0 ≤ min 100000 _ ∧ min 100000 _ ≤ 100000
      omega
    · rfl
  · rw [bumpTo_at _ _ _ _ hk]
    split
    · rename_i hik
      obtain ⟨a, b⟩ := h i hik
      rw [within_iff] at a b
      show _ ≤ min 100000 _
      omega
    · exact Int.le_refl _
theorem zero_alike {X : Trip} {L : List Seg} (h : Alike X L) (hm : ∀ i, i < X.segs.length → within (listG X.segs i).metres 0 100000 = true) :
    Alike X (zeroTo L L.length) ∧ ∀ i, i < X.segs.length → (listG (zeroTo L L.length) i).metres = 0 := by
  have hn := h.n
  refine ⟨⟨(zeroTo_length _ _).trans hn, fun i hi => ?_, fun i hi => ?_, fun i hi => ?_⟩, fun i hi => ?_⟩
  · rw [zeroTo_at _ _ _ (Nat.le_refl _), if_pos (by omega)]; exact h.z i hi
  · rw [zeroTo_at _ _ _ (Nat.le_refl _), if_pos (by omega)]; exact h.s i hi
  · rw [zeroTo_at _ _ _ (Nat.le_refl _), if_pos (by omega), hm i hi]; rfl
  · rw [zeroTo_at _ _ _ (Nat.le_refl _), if_pos (by omega)]
/-- An accepted fare's trip has its metres in their range. -/
theorem fare_metres {T : Tar} {X : Trip} (h : (fareOf T X).2 = 0) (i : Nat) (hi : i < X.segs.length) : within (listG X.segs i).metres 0 100000 = true := by
  obtain ⟨hok, -⟩ := rules_ok (fare_zero h).1
  obtain ⟨-, -, hs⟩ := segs_ok (trip_ok hok).2.2.2
  exact within_iff.2 (hs i hi).1
end Go.Proofs.Ytbehabaoeicgeaa.Fs

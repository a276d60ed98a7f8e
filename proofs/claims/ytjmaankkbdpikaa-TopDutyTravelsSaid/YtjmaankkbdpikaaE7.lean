/- Plain facts about plates: no fewer plates than uses at one time; the order of the uses does not matter. No condition. -/
import Derived.Test.YtjmaankkbdpikaaX11
namespace Go.Proofs.Ytjmaankkbdpikaa
open Go.RowKit Fs

/-- How many below n have q. -/
def Fs.cnt (q : Nat → Bool) : Nat → Nat
  | 0 => 0
  | n + 1 => if q n = true then cnt q n + 1 else cnt q n
theorem Fs.cnt_congr {q r : Nat → Bool} : ∀ n, (∀ i, i < n → q i = r i) → cnt q n = cnt r n
  | 0, _ => rfl
  | n + 1, h => by rw [cnt, cnt, cnt_congr n (fun i hi => h i (by omega)), h n (by omega)]
theorem Fs.cnt_drop {q : Nat → Bool} {f : Nat → Int} {v : Int} : ∀ n, (∀ i j, i < n → j < i → q i = true → q j = true → f i = v → f j ≠ v) → cnt q n ≤ cnt (fun i => q i && decide (f i ≠ v)) n + 1
  | 0, _ => Nat.zero_le _
  | n + 1, h => by
    have ih := cnt_drop (q := q) (f := f) (v := v) n fun i j hi hj => h i j (by omega) hj
    rw [cnt, cnt]
    cases hq : q n with
    | false => rw [if_neg (by decide), Bool.false_and, if_neg (by decide)]; exact ih
    | true =>
      rw [if_pos rfl, Bool.true_and]
      by_cases e : f n = v
      · rw [if_neg (by simpa using e), cnt_congr (q := q) (r := fun i => q i && decide (f i ≠ v)) n fun i hi => ?_]
        · exact Nat.le_refl _
        · cases hi2 : q i with
          | false => rfl
          | true =>
            have := h n i (Nat.lt_succ_self _) hi hq hi2 e
            show true = (true && decide (f i ≠ v))
            rw [decide_eq_true this]; rfl
      · rw [if_pos (by simpa using e)]; omega
theorem Fs.cnt_none {q : Nat → Bool} : ∀ n, (∀ i, i < n → q i = false) → cnt q n = 0
  | 0, _ => rfl
  | n + 1, h => by rw [cnt, h n (by omega), if_neg (by decide)]; exact cnt_none n fun i hi => h i (by omega)
/-- So many different plates. -/
theorem Fs.pigeon : ∀ (C : Nat) {q : Nat → Bool} {f : Nat → Int} {n : Nat}, (∀ i, i < n → q i = true → 0 ≤ f i ∧ f i < (C : Int)) → (∀ i j, i < n → j < i → q i = true → q j = true → f i ≠ f j) → cnt q n ≤ C
  | 0, q, f, n, h, _ => by
    rw [cnt_none n fun i hi => ?_]
    · exact Nat.le_refl _
    · cases e : q i with
      | false => rfl
      | true => have := h i hi e; omega
  | C + 1, q, f, n, h, hd => by
    have a := cnt_drop (q := q) (f := f) (v := (C : Int)) n fun i j hi hj q1 q2 e1 e2 => hd i j hi hj q1 q2 (by rw [e1, e2])
    have b := pigeon C (q := fun i => q i && decide (f i ≠ (C : Int))) (f := f) (n := n) (fun i hi e => by
      rw [Bool.and_eq_true] at e
      have := h i hi e.1
      have e2 : f i ≠ (C : Int) := of_decide_eq_true e.2
      omega) (fun i j hi hj q1 q2 => by
      rw [Bool.and_eq_true] at q1 q2
      exact hd i j hi hj q1.1 q2.1)
    omega
def Fs.inUse (l : List WRec) (t : Int) (i : Nat) : Bool := within t (listW l i).beg ((listW l i).fin - 1)
theorem Fs.atTo_cnt (l : List WRec) (t : Int) : ∀ n, atTo l t n = (cnt (inUse l t) n : Nat)
  | 0 => rfl
  | n + 1 => by
    rw [atTo, cnt, atTo_cnt l t n]
    show (if inUse l t n = true then ((cnt (inUse l t) n : Nat) : Int) + 1 else _) = _
    split <;> simp
theorem Fs.most_ge {l : List WRec} : ∀ {k i : Nat}, i < k → atTo l (listW l i).beg l.length ≤ mostTo l k
  | 0, i, h => absurd h (Nat.not_lt_zero _)
  | k + 1, i, h => by
    rw [mostTo]
    by_cases e : i = k
    · subst e; omega
    · have := most_ge (l := l) (show i < k by omega); omega
theorem Fs.most_le {l : List WRec} {M : Int} (h0 : 0 ≤ M) : ∀ k, (∀ i, i < k → atTo l (listW l i).beg l.length ≤ M) → mostTo l k ≤ M
  | 0, _ => h0
  | k + 1, h => by
    rw [mostTo]
    have := most_le h0 k fun i hi => h i (by omega)
    have := h k (by omega)
    omega
theorem Fs.most_pos (l : List WRec) : ∀ k, 0 ≤ mostTo l k
  | 0 => Int.le_refl _
  | k + 1 => by rw [mostTo]; have := most_pos l k; omega
theorem Fs.count_ge {P : List Int} : ∀ {k i : Nat}, i < k → listI P i + 1 ≤ countTo P k
  | 0, i, h => absurd h (Nat.not_lt_zero _)
  | k + 1, i, h => by
    rw [countTo]
    by_cases e : i = k
    · subst e; omega
    · have := count_ge (P := P) (show i < k by omega); omega
theorem Fs.plates_ok {l : List WRec} {P : List Int} {t : Int} (h : (checkPlates l P t).2 = 0) :
    P.length = l.length ∧ (∀ i, i < l.length → 0 ≤ listI P i) ∧ isClock t = true ∧ (∀ i, i < l.length → ∀ k, k < i → ¬ plateClash l P i k) ∧ (checkPlates l P t).1 = countTo P l.length := by
  unfold checkPlates at h ⊢
  by_cases h1 : P.length = l.length
  · rw [if_neg (fun hh => hh h1)] at h ⊢
    by_cases h2 : fst (plateBad P) l.length = 0
    · rw [if_neg (fun hh => hh h2)] at h ⊢
      cases h3 : isClock t with
      | false => rw [h3, if_pos rfl] at h; exact absurd h (by decide)
      | true =>
        rw [h3, if_neg (by decide)] at h
        rw [if_neg (by decide)]
        by_cases h4 : ∃ i, i < l.length ∧ ∃ k, k < i ∧ plateClash l P i k
        · rw [if_pos h4] at h; exact absurd h (show ¬ ((13 : Int) = 0) by decide)
        · rw [if_neg h4] at h ⊢
          by_cases h5 : atTo l t l.length = countTo P l.length
          · rw [if_neg (fun hh => hh h5)]
            refine ⟨h1, fun i hi => ?_, rfl, fun i hi k hk hc => h4 ⟨i, hi, k, hk, hc⟩, rfl⟩
            have := fst_zero h2 i hi
            unfold plateBad at this
            by_cases e : within (listI P i) 0 13 = true
            · exact (within_iff.1 e).1
            · rw [if_neg e] at this; exact absurd this (by decide)
          · rw [if_pos h5] at h; exact absurd h (show ¬ ((20 : Int) = 0) by decide)
    · rw [if_pos h2] at h; exact absurd h (show ¬ ((2 : Int) = 0) by decide)
  · rw [if_pos h1] at h; exact absurd h (show ¬ ((10 : Int) = 0) by decide)
/-- Any plates that are accepted are no fewer than the uses at one time. -/
theorem Fs.plates_enough {l : List WRec} {P : List Int} {t : Int} (h : (checkPlates l P t).2 = 0) : mostTo l l.length ≤ (checkPlates l P t).1 := by
  obtain ⟨-, h2, -, h4, h5⟩ := plates_ok h
  rw [h5]
  rcases Nat.eq_zero_or_pos l.length with h0 | h0
  · rw [h0]; exact Int.le_refl _
  · have hc : 0 ≤ countTo P l.length := by have := count_ge (P := P) h0; have := h2 0 h0; omega
    refine most_le hc l.length fun i hi => ?_
    rw [atTo_cnt]
    have := pigeon (countTo P l.length).toNat (q := inUse l (listW l i).beg) (f := listI P) (n := l.length)
      (fun j hj _ => ⟨h2 j hj, by have := count_ge (P := P) hj; omega⟩)
      (fun a b ha hb qa qb e => h4 a ha b hb ⟨by
        have x := within_iff.1 (show within (listW l i).beg (listW l a).beg ((listW l a).fin - 1) = true from qa)
        have y := within_iff.1 (show within (listW l i).beg (listW l b).beg ((listW l b).fin - 1) = true from qb)
        unfold overlapB
        rw [decide_eq_true (show (listW l a).beg < (listW l b).fin by omega), decide_eq_true (show (listW l b).beg < (listW l a).fin by omega)]
        rfl, e⟩)
    omega
structure Fs.UsesOk (l : List WRec) : Prop where
  len : l.length ≤ 14
  one : ∀ k, k < l.length → isName (listW l k).who = true ∧ spanErr (listW l k).beg (listW l k).fin = 0
  two : ∀ k, k < l.length → ∀ i, i < k → ¬ clashAt l k i
theorem Fs.uses_ok {l : List WRec} (h : usesErr l = 0) : UsesOk l := by
  unfold usesErr at h
  by_cases h0 : 14 < l.length
  · rw [if_pos h0] at h; exact absurd h (by decide)
  · rw [if_neg h0] at h
    have hz := fst_zero h
    have a : ∀ k, k < l.length → (isName (listW l k).who = true ∧ spanErr (listW l k).beg (listW l k).fin = 0) ∧ ∀ i, i < k → ¬ clashAt l k i := fun k hk => by
      have := hz k hk
      unfold useBad at this
      cases e1 : isName (listW l k).who with
      | false => rw [e1, if_pos rfl] at this; exact absurd this (by decide)
      | true =>
        rw [e1, if_neg (by decide)] at this
        by_cases e2 : spanErr (listW l k).beg (listW l k).fin = 0
        · rw [if_neg (fun hh => hh e2)] at this
          by_cases e3 : ∃ i, i < k ∧ clashAt l k i
          · rw [if_pos e3] at this; exact absurd this (by decide)
          · exact ⟨⟨rfl, e2⟩, fun i hi hc => e3 ⟨i, hi, hc⟩⟩
        · rw [if_pos e2] at this; exact absurd this e2
    exact ⟨by omega, fun k hk => (a k hk).1, fun k hk => (a k hk).2⟩
theorem Fs.uses_zero {l : List WRec} (h : UsesOk l) : usesErr l = 0 := by
  unfold usesErr
  rw [if_neg (by have := h.len; omega)]
  refine fst_none fun k hk => ?_
  unfold useBad
  have a := h.one k hk
  rw [a.1, if_neg (by decide), if_neg (fun hh => hh a.2), if_neg (fun ⟨i, hi, hc⟩ => h.two k hk i hi hc)]
theorem Fs.uses_small {l : List WRec} (h : UsesOk l) : SmallU l := ⟨by have := h.len; omega, fun i hi => spanErr_ok (h.one i hi).2⟩
theorem Fs.listW_rev {l : List WRec} {i : Nat} (h : i < l.length) : listW l.reverse i = listW l (l.length - 1 - i) := by
  unfold listW
  rw [List.getD_eq_getElem?_getD, List.getD_eq_getElem?_getD, List.getElem?_reverse h]
theorem Fs.uses_rev {l : List WRec} (h : UsesOk l) : UsesOk l.reverse := by
  have hl : l.reverse.length = l.length := List.length_reverse
  refine ⟨by rw [hl]; exact h.len, fun k hk => ?_, fun k hk i hi hc => ?_⟩
  · rw [hl] at hk; rw [listW_rev hk]; exact h.one _ (by omega)
  · rw [hl] at hk
    obtain ⟨c1, c2⟩ := hc
    rw [listW_rev hk, listW_rev (show i < l.length by omega)] at c1 c2
    exact h.two (l.length - 1 - i) (by omega) (l.length - 1 - k) (by omega) ⟨c1.symm, by rw [overlap_sym]; exact c2⟩
theorem Fs.cnt_take (l : List WRec) (t : Int) : ∀ k, k ≤ l.length → cnt (inUse l t) k = (l.take k).countP fun x => within t x.beg (x.fin - 1)
  | 0, _ => by simp [cnt]
  | k + 1, hk => by
    have e : l.take (k + 1) = l.take k ++ [listW l k] := by
      rw [List.take_add_one, listW_get (show k < l.length by omega)]; rfl
    rw [e, List.countP_append, cnt, cnt_take l t k (by omega), List.countP_singleton]
    show (if within t (listW l k).beg ((listW l k).fin - 1) = true then _ else _) = _
    split <;> omega
theorem Fs.at_rev (l : List WRec) (t : Int) : atTo l.reverse t l.reverse.length = atTo l t l.length := by
  rw [atTo_cnt, atTo_cnt, cnt_take _ _ _ (Nat.le_refl _), cnt_take _ _ _ (Nat.le_refl _), List.take_length, List.take_length, List.countP_reverse]
theorem Fs.most_rev (l : List WRec) : mostTo l.reverse l.reverse.length = mostTo l l.length := by
  have hl : l.reverse.length = l.length := List.length_reverse
  apply Int.le_antisymm
  · refine most_le (most_pos _ _) _ fun i hi => ?_
    rw [at_rev]
    rw [hl] at hi
    rw [listW_rev hi]
    exact most_ge (show l.length - 1 - i < l.length by omega)
  · refine most_le (most_pos _ _) _ fun i hi => ?_
    have := most_ge (l := l.reverse) (k := l.reverse.length) (i := l.length - 1 - i) (by omega)
    rw [at_rev, listW_rev (by omega)] at this
    rwa [show l.length - 1 - (l.length - 1 - i) = i by omega] at this
theorem Fs.plates_out {l : List WRec} {P : List Int} {t : Int} (h : usesErr l = 0) : platesOut l P t = checkPlates l P t := if_neg (fun hh => hh h)
theorem Fs.plates_outbad {l : List WRec} {P : List Int} {t : Int} (h : usesErr l ≠ 0) : platesOut l P t = (0, usesErr l) := if_pos h
end Go.Proofs.Ytjmaankkbdpikaa
/- Plain facts about records of one car, told as uses of plates, and its drivers. No condition. -/
namespace Go.Proofs.Ytjmaankkbdpikaa
open Go.RowKit Fs

/-- The uses of the first k records, by names. -/
def Fs.usesTo (l : List WRec) (nm : Nat → ByteArray) : Nat → List WRec
  | 0 => []
  | k + 1 => usesTo l nm k ++ [⟨nm k, (listW l k).beg, (listW l k).fin⟩]
theorem Fs.usesTo_len (l : List WRec) (nm : Nat → ByteArray) : ∀ k, (usesTo l nm k).length = k
  | 0 => rfl
  | k + 1 => by rw [usesTo, List.length_append, usesTo_len l nm k]; rfl
theorem Fs.usesTo_at (l : List WRec) (nm : Nat → ByteArray) : ∀ k i, i < k → listW (usesTo l nm k) i = ⟨nm i, (listW l i).beg, (listW l i).fin⟩
  | 0, i, h => absurd h (Nat.not_lt_zero _)
  | k + 1, i, h => by
    rw [usesTo]
    by_cases e : i < k
    · rw [listW_left (by rw [usesTo_len]; exact e)]; exact usesTo_at l nm k i e
    · obtain rfl : i = k := by omega
      have := listW_last (usesTo l nm i) (⟨nm i, (listW l i).beg, (listW l i).fin⟩ : WRec)
      rwa [usesTo_len] at this
theorem Fs.right_apart {l : List WRec} (h : Right l) : ∀ j i, i < j → j < l.length → (listW l i).fin ≤ (listW l j).beg
  | 0, i, h1, _ => absurd h1 (Nat.not_lt_zero _)
  | j + 1, i, h1, h2 => by
    have a := h.next (j + 1) (Nat.succ_pos _) h2
    rw [Nat.add_sub_cancel] at a
    by_cases e : i = j
    · subst e; exact a
    · have b := right_apart h j i (by omega) (by omega)
      have c := h.one j (by omega)
      omega
theorem Fs.uses_right {l : List WRec} {nm : Nat → ByteArray} (h : Right l) (hl : l.length ≤ 14) (hn : ∀ i, isName (nm i) = true) : UsesOk (usesTo l nm l.length) := by
  have e := usesTo_len l nm l.length
  refine ⟨by rw [e]; exact hl, fun k hk => ?_, fun k hk i hi hc => ?_⟩
  · rw [e] at hk
    have a := h.one k hk
    rw [usesTo_at l nm _ k hk]
    refine ⟨hn k, ?_⟩
    show spanErr (listW l k).beg (listW l k).fin = 0
    unfold spanErr
    rw [show isClock (listW l k).beg = true from within_iff.2 ⟨by omega, by omega⟩, show isClock (listW l k).fin = true from within_iff.2 ⟨by omega, by omega⟩]
    exact (if_neg (by omega) : (if (listW l k).fin ≤ (listW l k).beg then (9 : Int) else 0) = 0)
  · rw [e] at hk
    have hc2 := hc.2
    rw [usesTo_at l nm _ k hk, usesTo_at l nm _ i (by omega)] at hc2
    unfold overlapB at hc2
    rw [Bool.and_eq_true] at hc2
    have a := of_decide_eq_true hc2.2
    have b := right_apart h k i hi hk
    have a' : (listW l k).beg < (listW l i).fin := a
    omega
theorem Fs.cnt_pos {q : Nat → Bool} : ∀ {n i : Nat}, i < n → q i = true → 1 ≤ cnt q n
  | 0, i, h, _ => absurd h (Nat.not_lt_zero _)
  | n + 1, i, h, hq => by
    rw [cnt]
    by_cases e : i = n
    · subst e; rw [if_pos hq]; omega
    · have := cnt_pos (q := q) (show i < n by omega) hq
      split <;> omega
theorem Fs.most_one {l : List WRec} {nm : Nat → ByteArray} (h : Right l) : mostTo (usesTo l nm l.length) (usesTo l nm l.length).length = min 1 (l.length : Int) := by
  have e := usesTo_len l nm l.length
  have up : ∀ t, atTo (usesTo l nm l.length) t (usesTo l nm l.length).length ≤ 1 := fun t => by
    rw [atTo_cnt]
    have := pigeon 1 (q := inUse (usesTo l nm l.length) t) (f := fun _ => 0) (n := (usesTo l nm l.length).length) (fun i hi _ => by constructor <;> decide) (fun i j hi hj qi qj => by
      exfalso
      rw [e] at hi
      unfold inUse at qi qj
      rw [usesTo_at l nm _ i hi] at qi
      rw [usesTo_at l nm _ j (by omega)] at qj
      have a := within_iff.1 qi
      have b := within_iff.1 qj
      have c := right_apart h i j hj hi
      have a1 : (listW l i).beg ≤ t := a.1
      have b1 : t ≤ (listW l j).fin - 1 := b.2
      omega)
    omega
  rcases Nat.eq_zero_or_pos l.length with h0 | h0
  · rw [h0]; rfl
  · apply Int.le_antisymm
    · have := most_le (l := usesTo l nm l.length) (M := 1) (by decide) (usesTo l nm l.length).length fun i _ => up _
      omega
    · have a := most_ge (l := usesTo l nm l.length) (k := (usesTo l nm l.length).length) (i := 0) (by omega)
      rw [atTo_cnt] at a
      have c := h.one 0 h0
      have b := cnt_pos (q := inUse (usesTo l nm l.length) (listW (usesTo l nm l.length) 0).beg) (n := (usesTo l nm l.length).length) (i := 0) (by omega) (by
        unfold inUse
        rw [usesTo_at l nm _ 0 h0]
        exact within_iff.2 ⟨Int.le_refl _, by show (listW l 0).beg ≤ (listW l 0).fin - 1; omega⟩)
      omega
theorem Fs.listS_left {l m : List ByteArray} {i : Nat} (h : i < l.length) : listS (l ++ m) i = listS l i := by
  unfold listS
  rw [List.getD_eq_getElem?_getD, List.getD_eq_getElem?_getD, List.getElem?_append_left h]
theorem Fs.listS_last (l : List ByteArray) (x : ByteArray) : listS (l ++ [x]) l.length = x := by
  unfold listS
  rw [List.getD_eq_getElem?_getD, List.getElem?_append_right (Nat.le_refl _)]
  simp
/-- The drivers of the first k records. -/
structure Fs.HandedOk (l : List WRec) (k : Nat) : Prop where
  pos : 0 < k → 0 < (handedTo l k).length
  first : 0 < k → listS (handedTo l k) 0 = (listW l 0).who
  last : 0 < k → listS (handedTo l k) ((handedTo l k).length - 1) = (listW l (k - 1)).who
  next : ∀ i, 0 < i → i < (handedTo l k).length → listS (handedTo l k) i ≠ listS (handedTo l k) (i - 1)
theorem Fs.handed_ok (l : List WRec) : ∀ k, HandedOk l k
  | 0 => ⟨fun h => absurd h (Nat.lt_irrefl _), fun h => absurd h (Nat.lt_irrefl _), fun h => absurd h (Nat.lt_irrefl _), fun i _ h => absurd h (Nat.not_lt_zero _)⟩
  | k + 1 => by
    have ih := handed_ok l k
    by_cases hd : newDriver l k
    · have e : handedTo l (k + 1) = handedTo l k ++ [(listW l k).who] := by rw [handedTo, if_pos hd]
      have el : (handedTo l (k + 1)).length = (handedTo l k).length + 1 := by rw [e]; simp
      refine ⟨fun _ => by omega, fun _ => ?_, fun _ => ?_, fun i h0 hi => ?_⟩
      · rw [e]
        rcases Nat.eq_zero_or_pos k with z | z
        · subst z
          exact listS_last [] _
        · rw [listS_left (ih.pos z)]; exact ih.first z
      · rw [el, Nat.add_sub_cancel, Nat.add_sub_cancel, e]
        exact listS_last _ _
      · rw [el] at hi
        rw [e]
        by_cases z : i < (handedTo l k).length
        · rw [listS_left z, listS_left (show i - 1 < (handedTo l k).length by omega)]; exact ih.next i h0 z
        · obtain rfl : i = (handedTo l k).length := by omega
          have hk : 0 < k := by
            rcases Nat.eq_zero_or_pos k with z | z
            · subst z; exact absurd h0 (Nat.lt_irrefl _)
            · exact z
          rw [listS_last, listS_left (show (handedTo l k).length - 1 < (handedTo l k).length by omega), ih.last hk]
          rcases hd with z | z
          · omega
          · exact z
    · have e : handedTo l (k + 1) = handedTo l k := by rw [handedTo, if_neg hd]
      have hk : 0 < k := by
        rcases Nat.eq_zero_or_pos k with z | z
        · exact absurd (Or.inl z) hd
        · exact z
      refine ⟨fun _ => by rw [e]; exact ih.pos hk, fun _ => by rw [e]; exact ih.first hk, fun _ => ?_, fun i h0 hi => ?_⟩
      · rw [e, ih.last hk, Nat.add_sub_cancel]
        exact Classical.byContradiction fun hc => hd (.inr fun hh => hc hh.symm)
      · rw [e] at hi ⊢; exact ih.next i h0 hi
end Go.Proofs.Ytjmaankkbdpikaa

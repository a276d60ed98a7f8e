/- The reference's checks of rules and records, the first record of a group, the work in a span. Conditions: numbers are within bounds. -/
import Derived.Test.YtjmaankkbdpikaaT14
import Derived.Test.YtjmaankkbdpikaaT2
import Derived.Deep.Cut
namespace Go.Proofs.Ytjmaankkbdpikaa
open Go.RowKit Fs

theorem Fs.goesOn_zero (l : List WRec) (gap : Int) : goesOn l gap 0 = false := rfl
theorem Fs.goesOn_succ (l : List WRec) (gap : Int) (k : Nat) : goesOn l gap (k + 1) = decide ((listW l (k + 1)).beg - (listW l k).fin < gap) := by
  unfold goesOn
  simp

/-! ### records -/
theorem Fs.recs_long {one : Bool} {l : List WRec} (h : 40 < l.length) : recsErr one l = 8 ∧ recsAt one l = 0 := ⟨if_pos h, if_pos h⟩
theorem Fs.recs_hit {one : Bool} {l : List WRec} {k : Nat} (h : ¬ 40 < l.length) (hk : k < l.length) (h1 : ∀ j, j < k → wrongRec one l j = 0) (h2 : wrongRec one l k ≠ 0) : recsErr one l = wrongRec one l k ∧ recsAt one l = k := by
  unfold recsErr recsAt
  rw [if_neg h, if_neg h]
  exact fst_hit hk h1 h2
theorem Fs.recs_none {one : Bool} {l : List WRec} (h : ¬ 40 < l.length) (h1 : ∀ j, j < l.length → wrongRec one l j = 0) : recsErr one l = 0 ∧ recsAt one l = 0 := by
  unfold recsErr recsAt
  rw [if_neg h, if_neg h]
  exact ⟨fst_none h1, idx_none h1⟩
/-! ### rules -/
def Fs.ruleAtN (R : DRules) : Nat → Int
  | 0 => R.brk
  | 1 => R.rest
  | 2 => R.stint
  | 3 => R.shift
  | _ => R.week
theorem Fs.drules_bad {R : DRules} {k : Nat} (hk : k < 5) (h : ruleOk (ruleAtN R k) = false) : drulesErr R = 2 := by
  unfold drulesErr
  have : (ruleOk R.brk && ruleOk R.rest && ruleOk R.stint && ruleOk R.shift && ruleOk R.week) = false := by
    match k, hk with
    | 0, _ => rw [show ruleOk R.brk = false from h]; rfl
    | 1, _ => rw [show ruleOk R.rest = false from h]; simp
    | 2, _ => rw [show ruleOk R.stint = false from h]; simp
    | 3, _ => rw [show ruleOk R.shift = false from h]; simp
    | 4, _ => rw [show ruleOk R.week = false from h]; simp
  rw [this]
  rfl
theorem Fs.drules_good {R : DRules} (h : ∀ k, k < 5 → ruleOk (ruleAtN R k) = true) : drulesErr R = if R.rest < R.brk then 9 else 0 := by
  unfold drulesErr
  have h0 := h 0 (by decide)
  have h1 := h 1 (by decide)
  have h2 := h 2 (by decide)
  have h3 := h 3 (by decide)
  have h4 := h 4 (by decide)
  rw [show ruleOk R.brk = true from h0, show ruleOk R.rest = true from h1, show ruleOk R.stint = true from h2, show ruleOk R.shift = true from h3, show ruleOk R.week = true from h4]
  rfl
theorem Fs.drules_ok {R : DRules} (h : drulesErr R = 0) : (1 ≤ R.brk ∧ R.brk ≤ R.rest) ∧ R.rest ≤ 2000000 ∧ (1 ≤ R.stint ∧ R.stint ≤ 2000000) ∧ (1 ≤ R.shift ∧ R.shift ≤ 2000000) ∧ 1 ≤ R.week ∧ R.week ≤ 2000000 := by
  unfold drulesErr at h
  cases hc : (ruleOk R.brk && ruleOk R.rest && ruleOk R.stint && ruleOk R.shift && ruleOk R.week) with
  | false => rw [hc, if_pos (by decide)] at h; exact absurd h (by decide)
  | true =>
    rw [hc, if_neg (by decide)] at h
    simp only [Bool.and_eq_true] at hc
    obtain ⟨⟨⟨⟨a, b⟩, c⟩, d⟩, e⟩ := hc
    have a := within_iff.1 (show within _ _ _ = true from a)
    have b := within_iff.1 (show within _ _ _ = true from b)
    have c := within_iff.1 (show within _ _ _ = true from c)
    have d := within_iff.1 (show within _ _ _ = true from d)
    have e := within_iff.1 (show within _ _ _ = true from e)
    by_cases h1 : R.rest < R.brk
    · rw [if_pos h1] at h; exact absurd h (by decide)
    · omega
set_option maxHeartbeats 1600000 in
set_option maxRecDepth 100000 in
theorem rCheckRules_any (R : DRules) (w : World) :
    Calls Try.prog 8 #[drulesV R] w fun e w' => e = .returned (.int .i64 (drulesErr R)) ∧ Below w.heap.size w w' := by
  have BR := Lib.hid (RulesIn.new w R 29)
  go_enter Try.func8, Try.ntmps8
  go_upto_region 1 with fail
  generalize hwb : w.alloc _ = wb at *
  have HW : Hid (Below w.heap.size w wb) := by rw [← hwb]; exact Lib.hid ((Below.refl _ _).alloc (Nat.le_refl _) _)
  clear hwb
  obtain ⟨a0, a1, a2, a3, a4⟩ := BR.out
  have HL := Lib.hid (fun k (hk : k < 5) => show (wb.alloc (.cells #[.int .i64 R.brk, .int .i64 R.rest, .int .i64 R.stint, .int .i64 R.shift, .int .i64 R.week] 3)).cell? ⟨wb.heap.size, k, none⟩ = some (.int .i64 (ruleAtN R k)) by
    rw [cellNew]
    match k, hk with
    | 0, _ => rfl
    | 1, _ => rfl
    | 2, _ => rfl
    | 3, _ => rfl
    | 4, _ => rfl)
  have BR2 := Lib.hid (BR.out.keep (Keep.alloc _ (.cells #[.int .i64 R.brk, .int .i64 R.rest, .int .i64 R.stint, .int .i64 R.shift, .int .i64 R.week] 3)))
  have HW2 := Lib.hid (HW.out.alloc HW.out.size (.cells #[.int .i64 R.brk, .int .i64 R.rest, .int .i64 R.stint, .int .i64 R.shift, .int .i64 R.week] 3))
  go_upto_region 2 with fail
  generalize hg : wb.heap.size = g at *
  generalize wb.alloc _ = wc at *
  clear a0 a1 a2 a3 a4
  go_wp2_with fail
  go_loop [4] (fun i => ∃ k : Nat, k ≤ 5 ∧ i = .int .i64 k ∧ Hid (∀ j, j < k → ruleOk (ruleAtN R j) = true)) (fun i => 5 - (intOf i).toNat)
  case atStart => exact ⟨0, Nat.zero_le _, rfl, Lib.hid fun j hj => absurd hj (Nat.not_lt_zero _)⟩
  case round =>
    obtain ⟨k, hk, rfl, Hn⟩ := hrel
    by_cases hlt : k < 5
    · have hkn : (k : Int) < 5 := by omega
      have ck := HL.out k hlt
      cases hr : within (ruleAtN R k) 1 2000000 with
      | false =>
        have F := Lib.hid (drules_bad hlt hr)
        have HR := Lib.hid hr
        clear hr
        go_wp2_with fail
        refine (bwithin_any _ _ _ _).mono ?_
        rintro e w' ⟨rfl, rfl⟩
        rw [HR.out]
        go_wp2_with fail
        go_ret
        exact ⟨ret_int F.out.symm, HW2.out⟩
      | true =>
        have G : Hid (∀ j, j < k + 1 → ruleOk (ruleAtN R j) = true) := Lib.hid fun j hj => by
          by_cases e : j = k
          · subst e; exact hr
          · exact Hn.out j (by omega)
        have HR := Lib.hid hr
        clear hr
        go_wp2_with fail
        refine (bwithin_any _ _ _ _).mono ?_
        rintro e w' ⟨rfl, rfl⟩
        rw [HR.out]
        go_wp2_with fail
        go_round
        case rel => exact ⟨k + 1, by omega, by go_num, G⟩
        case measure => simp [intOf]; omega
    · obtain rfl : k = 5 := by omega
      have F := Lib.hid (drules_good Hn.out)
      obtain ⟨a0, a1, a2, a3, a4⟩ := BR2.out
      by_cases hb : R.rest < R.brk
      · have G := Lib.hid (F.out.trans (if_pos hb))
        have d1 : decide (R.brk > R.rest) = true := decide_eq_true hb
        have d2 : decide (R.rest < R.brk) = true := decide_eq_true hb
        clear hb
        go_wp2_with fail
        go_ret
        exact ⟨ret_int G.out.symm, HW2.out⟩
      · have G := Lib.hid (F.out.trans (if_neg hb))
        have d1 : decide (R.brk > R.rest) = false := decide_eq_false hb
        have d2 : decide (R.rest < R.brk) = false := decide_eq_false hb
        clear hb
        go_wp2_with fail
        go_ret
        exact ⟨ret_int G.out.symm, HW2.out⟩
end Go.Proofs.Ytjmaankkbdpikaa
/- The reference's first record of a group, work in a span, and broken rules. Condition: records are in order, of small numbers. -/
namespace Go.Proofs.Ytjmaankkbdpikaa
open Go.RowKit Fs

/-- Records in order, of which the last one may end a little behind all times. -/
structure Fs.Fit (l : List WRec) : Prop where
  len : l.length ≤ 41
  one : ∀ i, i < l.length → 0 ≤ (listW l i).beg ∧ (listW l i).beg < (listW l i).fin ∧ (listW l i).fin ≤ 8640200000
  next : ∀ i, 0 < i → i < l.length → (listW l (i - 1)).fin ≤ (listW l i).beg
theorem Fs.Right.fit {l : List WRec} (h : Right l) : Fit l := ⟨by have := h.len; omega, fun i hi => by have := h.one i hi; omega, h.next⟩
theorem Fs.Right.trip {l : List WRec} (h : Right l) {s n : Int} (h0 : 0 ≤ s) (h1 : s ≤ 8640000000) (h2 : 0 < n) (h3 : n ≤ 200000) (h4 : 0 < l.length → (listW l (l.length - 1)).fin ≤ s) (h5 : l.length < 41) : Fit (withTrip l s n) := by
  have hlen : (withTrip l s n).length = l.length + 1 := by simp [withTrip]
  refine ⟨by rw [hlen]; omega, fun i hi => ?_, fun i hp hi => ?_⟩
  · rw [hlen] at hi
    by_cases e : i < l.length
    · rw [show listW (withTrip l s n) i = listW l i from listW_left e]
      have := h.one i e
      omega
    · obtain rfl : i = l.length := by omega
      rw [show listW (withTrip l s n) l.length = ⟨xName, s, s + n⟩ from listW_last l _]
      show 0 ≤ s ∧ s < s + n ∧ s + n ≤ 8640200000
      omega
  · rw [hlen] at hi
    by_cases e : i < l.length
    · rw [show listW (withTrip l s n) i = listW l i from listW_left e, show listW (withTrip l s n) (i - 1) = listW l (i - 1) from listW_left (by omega)]
      exact h.next i hp e
    · obtain rfl : i = l.length := by omega
      rw [show listW (withTrip l s n) l.length = ⟨xName, s, s + n⟩ from listW_last l _, show listW (withTrip l s n) (l.length - 1) = listW l (l.length - 1) from listW_left (by omega)]
      exact h4 hp
theorem Fs.overlap_is {x : WRec} {a b : Int} (h0 : 0 ≤ x.beg) (h1 : x.beg < x.fin) (h2 : x.fin ≤ 8640200000) : 0 ≤ overlapOf x a b ∧ overlapOf x a b ≤ 8640200000 := by
  unfold overlapOf
  omega
theorem Fs.workTo_is {l : List WRec} (h : Fit l) (a b : Int) : ∀ k, k ≤ l.length → 0 ≤ workTo l a b k ∧ workTo l a b k ≤ 8640200000 * k
  | 0, _ => ⟨Int.le_refl _, Int.le_refl _⟩
  | k + 1, hk => by
    have ih := workTo_is h a b k (by omega)
    have h1 := h.one k (by omega)
    have h2 := overlap_is (a := a) (b := b) h1.1 h1.2.1 h1.2.2
    show 0 ≤ workTo l a b k + overlapOf (listW l k) a b ∧ workTo l a b k + overlapOf (listW l k) a b ≤ 8640200000 * ((k + 1 : Nat) : Int)
    omega
theorem Fs.lengthsTo_self (l : List WRec) (f : Nat) : lengthsTo l f f = 0 := by
  cases f with
  | zero => rfl
  | succ f => rw [lengthsTo, if_neg (by omega)]
theorem Fs.lengthsTo_next {l : List WRec} {f k : Nat} (h : f ≤ k) : lengthsTo l f (k + 1) = lengthsTo l f k + (listW l k).fin - (listW l k).beg := by rw [lengthsTo, if_pos h]
theorem Fs.lengthsTo_is {l : List WRec} (h : Fit l) (f : Nat) : ∀ k, k ≤ l.length → 0 ≤ lengthsTo l f k ∧ lengthsTo l f k ≤ 8640200000 * k
  | 0, _ => ⟨Int.le_refl _, Int.le_refl _⟩
  | k + 1, hk => by
    have ih := lengthsTo_is h f k (by omega)
    have h1 := h.one k (by omega)
    rw [lengthsTo]
    split <;> omega
end Go.Proofs.Ytjmaankkbdpikaa
/- The reference's broken rules. Condition: rules are right, records in order. -/
namespace Go.Proofs.Ytjmaankkbdpikaa
open Go.RowKit Fs

theorem Fs.stintOf_is {l : List WRec} (h : Fit l) (brk : Int) {k : Nat} (hk : k < l.length) : 0 ≤ stintOf l brk k ∧ stintOf l brk k ≤ 400000000000 := by
  have h1 := lengthsTo_is h (firstIn l brk k) (k + 1) hk
  have h2 := h.len
  unfold stintOf
  omega
end Go.Proofs.Ytjmaankkbdpikaa

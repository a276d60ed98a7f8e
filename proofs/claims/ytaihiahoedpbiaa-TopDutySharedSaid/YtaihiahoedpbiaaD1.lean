/- The reference's checks of rules and records, the first record of a group, the work in a span. Conditions: numbers are within bounds. -/
import Derived.Test.YtaihiahoedpbiaaT14
import Derived.Test.YtaihiahoedpbiaaT2
import Derived.Deep.Cut
namespace Go.Proofs.Ytaihiahoedpbiaa
open Go.RowKit Fs

theorem Fs.goesOn_zero (l : List WRec) (gap : Int) : goesOn l gap 0 = false := rfl
theorem Fs.goesOn_succ (l : List WRec) (gap : Int) (k : Nat) : goesOn l gap (k + 1) = decide ((listW l (k + 1)).beg - (listW l k).fin < gap) := by
  unfold goesOn
  simp

/-! ### records -/
theorem Fs.recs_long {one : Bool} {l : List WRec} (h : 40 < l.length) : recsErr one l = 8 ∧ recsAt one l = 0 := ⟨if_pos h, if_pos h⟩
theorem Fs.recs_hit {one : Bool} {l : List WRec} {k : Nat} (h : ¬ 40 < l.length) (hk : k < l.length) (h1 : ∀ j, j < k → wrongRec one l j = 0) (h2 : wrongRec one l k ≠ 0) : recsErr one l = wrongRec one l k ∧ recsAt one l = k := by
  unfold recsErr recsAt
  rw [if_neg h, if_neg h]
  exact fst_hit hk h1 h2
theorem Fs.recs_none {one : Bool} {l : List WRec} (h : ¬ 40 < l.length) (h1 : ∀ j, j < l.length → wrongRec one l j = 0) : recsErr one l = 0 ∧ recsAt one l = 0 := by
  unfold recsErr recsAt
  rw [if_neg h, if_neg h]
  exact ⟨fst_none h1, idx_none h1⟩
set_option maxHeartbeats 3200000 in
set_option maxRecDepth 100000 in
theorem rCheckedT_any (l : List WRec) (A : Option Addr) (c : Nat) (w : World) (h : ArrW w A l c) :
    Calls Try.prog 119 #[.slice A l.length c, .bool true] w fun e w' => e = .returned (.tuple #[.int .i64 (recsAt true l : Nat), .int .i64 (recsErr true l)]) ∧ Below w.heap.size w w' := by
  have b1 := h.le.1
  have b2 := h.le.2
  have HA := Lib.hid h
  clear h
  go_enter Try.func119, Try.ntmps119
  by_cases h40 : 40 < l.length
  · obtain ⟨F1, F2⟩ := recs_long (one := true) h40
    have G1 := Lib.hid F1
    have G2 := Lib.hid F2
    have d1 : decide ((l.length : Int) > 40) = true := decide_eq_true (by omega)
    have d2 : decide ((40 : Int) < (l.length : Int)) = true := decide_eq_true (by omega)
    clear F1 F2 h40
    go_wp2_with fail
    go_ret2
    exact ⟨by rw [G1.out, G2.out]; rfl, Below.refl _ _⟩
  · have H40 := Lib.hid h40
    have d1 : decide ((l.length : Int) > 40) = false := decide_eq_false (by omega)
    have d2 : decide ((40 : Int) < (l.length : Int)) = false := decide_eq_false (by omega)
    go_wp2_with fail
    go_loopw [6] (fun i wr => ∃ k : Nat, k ≤ l.length ∧ i = .int .i64 k ∧ Hid (∀ j, j < k → wrongRec true l j = 0) ∧ Hid (Below w.heap.size w wr)) (fun i _ => l.length - (intOf i).toNat)
    case atStart => exact ⟨0, Nat.zero_le _, rfl, Lib.hid fun j hj => absurd hj (Nat.not_lt_zero _), Lib.hid (Below.refl _ _)⟩
    case round =>
      obtain ⟨k, hk, rfl, Hn, HB⟩ := hrel
      by_cases hlt : k < l.length
      · have hkn : (k : Int) < (l.length : Int) := by omega
        obtain ⟨b, o, rfl, q⟩ := (HA.out.keep (Keep.below HB.out)).at_ hlt
        obtain ⟨q0, q1, q2⟩ := q
        go_wp2_with fail
        refine (rRecErr_any (listW l k) _).mono ?_
        rintro e' w1 ⟨rfl, hb1⟩
        have HB1 := Lib.hid (HB.out.trans (hb1.mono HB.out.size))
        clear hb1 q0 q1 q2
        by_cases he : recErr (listW l k) = 0
        · have HE := Lib.hid he
          rw [he]
          clear he
          by_cases hk0 : 0 < k
          · have d3 : decide ((k : Int) > 0) = true := decide_eq_true (by omega)
            have d4 : decide (0 < (k : Int)) = true := decide_eq_true (by omega)
            have hkp : (k : Int) - 1 = ((k - 1 : Nat) : Int) := by omega
            have hk1 : ((k - 1 : Nat) : Int) < (l.length : Int) := by omega
            obtain ⟨b', o', e', r, q⟩ := (HA.out.keep (Keep.below HB1.out)).two (i := k - 1) (by omega) hlt
            obtain ⟨rfl, rfl⟩ : b = b' ∧ o = o' := by simpa using e'
            clear e'
            obtain ⟨q0, q1, q2⟩ := q
            obtain ⟨r0, r1, r2⟩ := r
            by_cases hw : (listW l k).who = (listW l (k - 1)).who
            · have HWH := Lib.hid (show ¬ (true = true ∧ 0 < k ∧ (listW l k).who ≠ (listW l (k - 1)).who) from fun hh => hh.2.2 hw)
              have e1 := str_eq hw
              have e2 : ((listW l k).who.toList != (listW l (k - 1)).who.toList) = false := by rw [bne, e1]; rfl
              clear hw
              by_cases hd : (listW l k).beg < (listW l (k - 1)).fin
              · have d5 : decide ((listW l k).beg < (listW l (k - 1)).fin) = true := decide_eq_true hd
                have F : Hid (wrongRec true l k = 26) := Lib.hid (by unfold wrongRec; rw [if_neg (fun hh => hh HE.out), if_neg HWH.out, if_pos ⟨hk0, hd⟩])
                obtain ⟨F1, F2⟩ := recs_hit H40.out hlt Hn.out (by rw [F.out]; decide)
                have G1 := Lib.hid (F1.trans F.out)
                have G2 := Lib.hid F2
                clear F1 F2
                clear hd
                go_wp2_with fail
                go_quiet (fail)
                go_wp2_with fail
                go_quiet (fail)
                go_wp2_with fail
                go_ret2
                exact ⟨by rw [G1.out, G2.out]; rfl, bdrewN (bdrewN HB1.out _) _⟩
              · have d5 : decide ((listW l k).beg < (listW l (k - 1)).fin) = false := decide_eq_false hd
                have G : Hid (∀ j, j < k + 1 → wrongRec true l j = 0) := Lib.hid fun j hj => by
                  by_cases e : j = k
                  · subst e; exact (show wrongRec true l j = 0 by unfold wrongRec; rw [if_neg (fun hh => hh HE.out), if_neg HWH.out, if_neg (fun hh => hd hh.2)])
                  · exact Hn.out j (by omega)
                clear hd
                go_wp2_with fail
                go_quiet (fail)
                go_wp2_with fail
                go_quiet (fail)
                go_wp2_with fail
                go_roundw
                case rel => exact ⟨k + 1, by omega, by go_num, G, Lib.hid (bdrewN HB1.out _)⟩
                case measure => simp [intOf]; omega
            · have e1 := str_ne hw
              have e2 : ((listW l k).who.toList != (listW l (k - 1)).who.toList) = true := by rw [bne, e1]; rfl
              have F : Hid (wrongRec true l k = 13) := Lib.hid (by unfold wrongRec; rw [if_neg (fun hh => hh HE.out), if_pos ⟨rfl, hk0, hw⟩])
              obtain ⟨F1, F2⟩ := recs_hit H40.out hlt Hn.out (by rw [F.out]; decide)
              have G1 := Lib.hid (F1.trans F.out)
              have G2 := Lib.hid F2
              clear F1 F2
              clear hw
              go_wp2_with fail
              go_quiet (fail)
              go_wp2_with fail
              go_ret2
              exact ⟨by rw [G1.out, G2.out]; rfl, bdrewN HB1.out _⟩
          · have d3 : decide ((k : Int) > 0) = false := decide_eq_false (by omega)
            have d4 : decide (0 < (k : Int)) = false := decide_eq_false (by omega)
            have d5 : decide (0 < k) = false := decide_eq_false hk0
            have d6 : decide (k = 0) = true := decide_eq_true (by omega)
            have G : Hid (∀ j, j < k + 1 → wrongRec true l j = 0) := Lib.hid fun j hj => by
              by_cases e : j = k
              · subst e; exact (show wrongRec true l j = 0 by unfold wrongRec; rw [if_neg (fun hh => hh HE.out), if_neg (fun hh => hk0 hh.2.1), if_neg (fun hh => hk0 hh.1)])
              · exact Hn.out j (by omega)
            clear hk0
            go_wp2_with fail
            go_quiet (fail)
            go_wp2_with fail
            go_quiet (fail)
            go_wp2_with fail
            go_roundw
            case rel => exact ⟨k + 1, by omega, by go_num, G, Lib.hid (bdrewN HB1.out _)⟩
            case measure => simp [intOf]; omega
        · have F := Lib.hid (show wrongRec true l k = recErr (listW l k) from if_pos he)
          obtain ⟨F1, F2⟩ := recs_hit H40.out hlt Hn.out (by rw [F.out]; exact he)
          have G1 := Lib.hid (F1.trans F.out)
          have G2 := Lib.hid F2
          have e2 : (recErr (listW l k) != 0) = true := by simpa using he
          clear F1 F2 he
          go_wp2_with fail
          go_ret2
          exact ⟨by rw [G1.out, G2.out]; rfl, HB1.out⟩
      · obtain ⟨F1, F2⟩ := recs_none (one := true) H40.out (fun j hj => Hn.out j (by omega) : ∀ j, j < l.length → wrongRec true l j = 0)
        have G1 := Lib.hid F1
        have G2 := Lib.hid F2
        clear F1 F2
        go_wp2_with fail
        go_ret2
        exact ⟨by rw [G1.out, G2.out]; rfl, HB.out⟩
set_option maxHeartbeats 3200000 in
set_option maxRecDepth 100000 in
theorem rCheckedF_any (l : List WRec) (A : Option Addr) (c : Nat) (w : World) (h : ArrW w A l c) :
    Calls Try.prog 119 #[.slice A l.length c, .bool false] w fun e w' => e = .returned (.tuple #[.int .i64 (recsAt false l : Nat), .int .i64 (recsErr false l)]) ∧ Below w.heap.size w w' := by
  have b1 := h.le.1
  have b2 := h.le.2
  have HA := Lib.hid h
  clear h
  go_enter Try.func119, Try.ntmps119
  by_cases h40 : 40 < l.length
  · obtain ⟨F1, F2⟩ := recs_long (one := false) h40
    have G1 := Lib.hid F1
    have G2 := Lib.hid F2
    have d1 : decide ((l.length : Int) > 40) = true := decide_eq_true (by omega)
    have d2 : decide ((40 : Int) < (l.length : Int)) = true := decide_eq_true (by omega)
    clear F1 F2 h40
    go_wp2_with fail
    go_ret2
    exact ⟨by rw [G1.out, G2.out]; rfl, Below.refl _ _⟩
  · have H40 := Lib.hid h40
    have d1 : decide ((l.length : Int) > 40) = false := decide_eq_false (by omega)
    have d2 : decide ((40 : Int) < (l.length : Int)) = false := decide_eq_false (by omega)
    go_wp2_with fail
    go_loopw [6] (fun i wr => ∃ k : Nat, k ≤ l.length ∧ i = .int .i64 k ∧ Hid (∀ j, j < k → wrongRec false l j = 0) ∧ Hid (Below w.heap.size w wr)) (fun i _ => l.length - (intOf i).toNat)
    case atStart => exact ⟨0, Nat.zero_le _, rfl, Lib.hid fun j hj => absurd hj (Nat.not_lt_zero _), Lib.hid (Below.refl _ _)⟩
    case round =>
      obtain ⟨k, hk, rfl, Hn, HB⟩ := hrel
      by_cases hlt : k < l.length
      · have hkn : (k : Int) < (l.length : Int) := by omega
        obtain ⟨b, o, rfl, q⟩ := (HA.out.keep (Keep.below HB.out)).at_ hlt
        obtain ⟨q0, q1, q2⟩ := q
        go_wp2_with fail
        refine (rRecErr_any (listW l k) _).mono ?_
        rintro e' w1 ⟨rfl, hb1⟩
        have HB1 := Lib.hid (HB.out.trans (hb1.mono HB.out.size))
        clear hb1 q0 q1 q2
        by_cases he : recErr (listW l k) = 0
        · have HE := Lib.hid he
          rw [he]
          clear he
          by_cases hk0 : 0 < k
          · have d3 : decide ((k : Int) > 0) = true := decide_eq_true (by omega)
            have d4 : decide (0 < (k : Int)) = true := decide_eq_true (by omega)
            have hkp : (k : Int) - 1 = ((k - 1 : Nat) : Int) := by omega
            have hk1 : ((k - 1 : Nat) : Int) < (l.length : Int) := by omega
            obtain ⟨b', o', e', r, q⟩ := (HA.out.keep (Keep.below HB1.out)).two (i := k - 1) (by omega) hlt
            obtain ⟨rfl, rfl⟩ : b = b' ∧ o = o' := by simpa using e'
            clear e'
            obtain ⟨q0, q1, q2⟩ := q
            obtain ⟨r0, r1, r2⟩ := r
            have HWH := Lib.hid (show ¬ (false = true ∧ 0 < k ∧ (listW l k).who ≠ (listW l (k - 1)).who) from fun hh => absurd hh.1 (by decide))
            by_cases hd : (listW l k).beg < (listW l (k - 1)).fin
            · have d5 : decide ((listW l k).beg < (listW l (k - 1)).fin) = true := decide_eq_true hd
              have F : Hid (wrongRec false l k = 26) := Lib.hid (by unfold wrongRec; rw [if_neg (fun hh => hh HE.out), if_neg HWH.out, if_pos ⟨hk0, hd⟩])
              obtain ⟨F1, F2⟩ := recs_hit H40.out hlt Hn.out (by rw [F.out]; decide)
              have G1 := Lib.hid (F1.trans F.out)
              have G2 := Lib.hid F2
              clear F1 F2
              clear hd
              go_wp2_with fail
              go_quiet (fail)
              go_wp2_with fail
              go_quiet (fail)
              go_wp2_with fail
              go_ret2
              exact ⟨by rw [G1.out, G2.out]; rfl, bdrewN (bdrewN HB1.out _) _⟩
            · have d5 : decide ((listW l k).beg < (listW l (k - 1)).fin) = false := decide_eq_false hd
              have G : Hid (∀ j, j < k + 1 → wrongRec false l j = 0) := Lib.hid fun j hj => by
                by_cases e : j = k
                · subst e; exact (show wrongRec false l j = 0 by unfold wrongRec; rw [if_neg (fun hh => hh HE.out), if_neg HWH.out, if_neg (fun hh => hd hh.2)])
                · exact Hn.out j (by omega)
              clear hd
              go_wp2_with fail
              go_quiet (fail)
              go_wp2_with fail
              go_quiet (fail)
              go_wp2_with fail
              go_roundw
              case rel => exact ⟨k + 1, by omega, by go_num, G, Lib.hid (bdrewN HB1.out _)⟩
              case measure => simp [intOf]; omega
          · have d3 : decide ((k : Int) > 0) = false := decide_eq_false (by omega)
            have d4 : decide (0 < (k : Int)) = false := decide_eq_false (by omega)
            have d5 : decide (0 < k) = false := decide_eq_false hk0
            have d6 : decide (k = 0) = true := decide_eq_true (by omega)
            have G : Hid (∀ j, j < k + 1 → wrongRec false l j = 0) := Lib.hid fun j hj => by
              by_cases e : j = k
              · subst e; exact (show wrongRec false l j = 0 by unfold wrongRec; rw [if_neg (fun hh => hh HE.out), if_neg (fun hh => hk0 hh.2.1), if_neg (fun hh => hk0 hh.1)])
              · exact Hn.out j (by omega)
            clear hk0
            go_wp2_with fail
            go_quiet (fail)
            go_wp2_with fail
            go_quiet (fail)
            go_wp2_with fail
            go_roundw
            case rel => exact ⟨k + 1, by omega, by go_num, G, Lib.hid (bdrewN HB1.out _)⟩
            case measure => simp [intOf]; omega
        · have F := Lib.hid (show wrongRec false l k = recErr (listW l k) from if_pos he)
          obtain ⟨F1, F2⟩ := recs_hit H40.out hlt Hn.out (by rw [F.out]; exact he)
          have G1 := Lib.hid (F1.trans F.out)
          have G2 := Lib.hid F2
          have e2 : (recErr (listW l k) != 0) = true := by simpa using he
          clear F1 F2 he
          go_wp2_with fail
          go_ret2
          exact ⟨by rw [G1.out, G2.out]; rfl, HB1.out⟩
      · obtain ⟨F1, F2⟩ := recs_none (one := false) H40.out (fun j hj => Hn.out j (by omega) : ∀ j, j < l.length → wrongRec false l j = 0)
        have G1 := Lib.hid F1
        have G2 := Lib.hid F2
        clear F1 F2
        go_wp2_with fail
        go_ret2
        exact ⟨by rw [G1.out, G2.out]; rfl, HB.out⟩
theorem rChecked_any (l : List WRec) (A : Option Addr) (c : Nat) (one : Bool) (w : World) (h : ArrW w A l c) :
    Calls Try.prog 119 #[.slice A l.length c, .bool one] w fun e w' => e = .returned (.tuple #[.int .i64 (recsAt one l : Nat), .int .i64 (recsErr one l)]) ∧ Below w.heap.size w w' := by
  cases one with
  | true => exact rCheckedT_any l A c w h
  | false => exact rCheckedF_any l A c w h
set_option maxHeartbeats 400000 in
theorem rCheckRecords_any (l : List WRec) (A : Option Addr) (c : Nat) (w : World) (h : ArrW w A l c) :
    Calls Try.prog 82 #[.slice A l.length c] w fun e w' => e = .returned (.tuple #[.int .i64 (recsAt true l : Nat), .int .i64 (recsErr true l)]) ∧ Below w.heap.size w w' := by
  go_enter Try.func82, Try.ntmps82
  go_wp2_with fail
  refine (rCheckedT_any l A c _ h).mono ?_
  rintro e w1 ⟨rfl, hb1⟩
  go_wp2_with fail
  go_ret2
  exact ⟨rfl, hb1⟩
set_option maxHeartbeats 400000 in
theorem rRecordsErr_any (l : List WRec) (A : Option Addr) (c : Nat) (w : World) (h : ArrW w A l c) :
    Calls Try.prog 26 #[.slice A l.length c] w fun e w' => e = .returned (.int .i64 (recsErr true l)) ∧ Below w.heap.size w w' := by
  go_enter Try.func26, Try.ntmps26
  go_wp2_with fail
  refine (rCheckRecords_any l A c _ h).mono ?_
  rintro e w1 ⟨rfl, hb1⟩
  go_wp2_with fail
  go_ret
  exact ⟨rfl, hb1⟩
set_option maxHeartbeats 400000 in
theorem rCarErr_any (l : List WRec) (A : Option Addr) (c : Nat) (w : World) (h : ArrW w A l c) :
    Calls Try.prog 60 #[.slice A l.length c] w fun e w' => e = .returned (.int .i64 (recsErr false l)) ∧ Below w.heap.size w w' := by
  go_enter Try.func60, Try.ntmps60
  go_wp2_with fail
  refine (rCheckedF_any l A c _ h).mono ?_
  rintro e w1 ⟨rfl, hb1⟩
  go_wp2_with fail
  go_ret
  exact ⟨rfl, hb1⟩

/-! ### rules -/
def Fs.ruleAtN (R : DRules) : Nat → Int
  | 0 => R.brk
  | 1 => R.rest
  | 2 => R.stint
  | 3 => R.shift
  | _ => R.week
theorem Fs.drules_bad {R : DRules} {k : Nat} (hk : k < 5) (h : ruleOk (ruleAtN R k) = false) : drulesErr R = 2 := by
  unfold drulesErr
  have : (ruleOk R.brk && ruleOk R.rest && ruleOk R.stint && ruleOk R.shift && ruleOk R.week) = false := by
    match k, hk with
    | 0, _ => rw [show ruleOk R.brk = false from h]; rfl
    | 1, _ => rw [show ruleOk R.rest = false from h]; simp
    | 2, _ => rw [show ruleOk R.stint = false from h]; simp
    | 3, _ => rw [show ruleOk R.shift = false from h]; simp
    | 4, _ => rw [show ruleOk R.week = false from h]; simp
  rw [this]
  rfl
theorem Fs.drules_good {R : DRules} (h : ∀ k, k < 5 → ruleOk (ruleAtN R k) = true) : drulesErr R = if R.rest < R.brk then 9 else 0 := by
  unfold drulesErr
  have h0 := h 0 (by decide)
  have h1 := h 1 (by decide)
  have h2 := h 2 (by decide)
  have h3 := h 3 (by decide)
  have h4 := h 4 (by decide)
  rw [show ruleOk R.brk = true from h0, show ruleOk R.rest = true from h1, show ruleOk R.stint = true from h2, show ruleOk R.shift = true from h3, show ruleOk R.week = true from h4]
  rfl
theorem Fs.drules_ok {R : DRules} (h : drulesErr R = 0) : (1 ≤ R.brk ∧ R.brk ≤ R.rest) ∧ R.rest ≤ 2000000 ∧ (1 ≤ R.stint ∧ R.stint ≤ 2000000) ∧ (1 ≤ R.shift ∧ R.shift ≤ 2000000) ∧ 1 ≤ R.week ∧ R.week ≤ 2000000 := by
  unfold drulesErr at h
  cases hc : (ruleOk R.brk && ruleOk R.rest && ruleOk R.stint && ruleOk R.shift && ruleOk R.week) with
  | false => rw [hc, if_pos (by decide)] at h; exact absurd h (by decide)
  | true =>
    rw [hc, if_neg (by decide)] at h
    simp only [Bool.and_eq_true] at hc
    obtain ⟨⟨⟨⟨a, b⟩, c⟩, d⟩, e⟩ := hc
    have a := within_iff.1 (show within _ _ _ = true from a)
    have b := within_iff.1 (show within _ _ _ = true from b)
    have c := within_iff.1 (show within _ _ _ = true from c)
    have d := within_iff.1 (show within _ _ _ = true from d)
    have e := within_iff.1 (show within _ _ _ = true from e)
    by_cases h1 : R.rest < R.brk
    · rw [if_pos h1] at h; exact absurd h (by decide)
    · omega
set_option maxHeartbeats 1600000 in
set_option maxRecDepth 100000 in
theorem rCheckRules_any (R : DRules) (w : World) :
    Calls Try.prog 72 #[drulesV R] w fun e w' => e = .returned (.int .i64 (drulesErr R)) ∧ Below w.heap.size w w' := by
  have BR := Lib.hid (RulesIn.new w R 23)
  go_enter Try.func72, Try.ntmps72
  go_upto_region 1 with fail
  generalize hwb : w.alloc _ = wb at *
  have HW : Hid (Below w.heap.size w wb) := by rw [← hwb]; exact Lib.hid ((Below.refl _ _).alloc (Nat.le_refl _) _)
  clear hwb
  obtain ⟨a0, a1, a2, a3, a4⟩ := BR.out
  have HL := Lib.hid (fun k (hk : k < 5) => show (wb.alloc (.cells #[.int .i64 R.brk, .int .i64 R.rest, .int .i64 R.stint, .int .i64 R.shift, .int .i64 R.week] 3)).cell? ⟨wb.heap.size, k, none⟩ = some (.int .i64 (ruleAtN R k)) by
    rw [cellNew]
    match k, hk with
    | 0, _ => rfl
    | 1, _ => rfl
    | 2, _ => rfl
    | 3, _ => rfl
    | 4, _ => rfl)
  have BR2 := Lib.hid (BR.out.keep (Keep.alloc _ (.cells #[.int .i64 R.brk, .int .i64 R.rest, .int .i64 R.stint, .int .i64 R.shift, .int .i64 R.week] 3)))
  have HW2 := Lib.hid (HW.out.alloc HW.out.size (.cells #[.int .i64 R.brk, .int .i64 R.rest, .int .i64 R.stint, .int .i64 R.shift, .int .i64 R.week] 3))
  go_upto_region 2 with fail
  generalize hg : wb.heap.size = g at *
  generalize wb.alloc _ = wc at *
  clear a0 a1 a2 a3 a4
  go_wp2_with fail
  go_loop [4] (fun i => ∃ k : Nat, k ≤ 5 ∧ i = .int .i64 k ∧ Hid (∀ j, j < k → ruleOk (ruleAtN R j) = true)) (fun i => 5 - (intOf i).toNat)
  case atStart => exact ⟨0, Nat.zero_le _, rfl, Lib.hid fun j hj => absurd hj (Nat.not_lt_zero _)⟩
  case round =>
    obtain ⟨k, hk, rfl, Hn⟩ := hrel
    by_cases hlt : k < 5
    · have hkn : (k : Int) < 5 := by omega
      have ck := HL.out k hlt
      cases hr : within (ruleAtN R k) 1 2000000 with
      | false =>
        have F := Lib.hid (drules_bad hlt hr)
        have HR := Lib.hid hr
        clear hr
        go_wp2_with fail
        refine (bwithin_any _ _ _ _).mono ?_
        rintro e w' ⟨rfl, rfl⟩
        rw [HR.out]
        go_wp2_with fail
        go_ret
        exact ⟨ret_int F.out.symm, HW2.out⟩
      | true =>
        have G : Hid (∀ j, j < k + 1 → ruleOk (ruleAtN R j) = true) := Lib.hid fun j hj => by
          by_cases e : j = k
          · subst e; exact hr
          · exact Hn.out j (by omega)
        have HR := Lib.hid hr
        clear hr
        go_wp2_with fail
        refine (bwithin_any _ _ _ _).mono ?_
        rintro e w' ⟨rfl, rfl⟩
        rw [HR.out]
        go_wp2_with fail
        go_round
        case rel => exact ⟨k + 1, by omega, by go_num, G⟩
        case measure => simp [intOf]; omega
    · obtain rfl : k = 5 := by omega
      have F := Lib.hid (drules_good Hn.out)
      obtain ⟨a0, a1, a2, a3, a4⟩ := BR2.out
      by_cases hb : R.rest < R.brk
      · have G := Lib.hid (F.out.trans (if_pos hb))
        have d1 : decide (R.brk > R.rest) = true := decide_eq_true hb
        have d2 : decide (R.rest < R.brk) = true := decide_eq_true hb
        clear hb
        go_wp2_with fail
        go_ret
        exact ⟨ret_int G.out.symm, HW2.out⟩
      · have G := Lib.hid (F.out.trans (if_neg hb))
        have d1 : decide (R.brk > R.rest) = false := decide_eq_false hb
        have d2 : decide (R.rest < R.brk) = false := decide_eq_false hb
        clear hb
        go_wp2_with fail
        go_ret
        exact ⟨ret_int G.out.symm, HW2.out⟩
set_option maxHeartbeats 800000 in
theorem rBothErr_any (R : DRules) (l : List WRec) (A : Option Addr) (c : Nat) (w : World) (h : ArrW w A l c) :
    Calls Try.prog 22 #[drulesV R, .slice A l.length c] w fun e w' => e = .returned (.int .i64 (bothErr R l)) ∧ Below w.heap.size w w' := by
  have HA := Lib.hid h
  clear h
  have BR := Lib.hid (RulesIn.new w R 23)
  go_enter Try.func22, Try.ntmps22
  go_upto_region 1 with fail
  generalize hwb : w.alloc _ = wb at *
  have HW : Hid (Below w.heap.size w wb) := by rw [← hwb]; exact Lib.hid ((Below.refl _ _).alloc (Nat.le_refl _) _)
  clear hwb
  obtain ⟨a0, a1, a2, a3, a4⟩ := BR.out
  go_wp2_with fail
  refine (rCheckRules_any R _).mono ?_
  rintro e' w1 ⟨rfl, hb1⟩
  replace HW := Lib.hid (HW.out.trans (hb1.mono HW.out.size))
  clear hb1 a0 a1 a2 a3 a4
  by_cases he : drulesErr R = 0
  · have F := Lib.hid (show bothErr R l = recsErr true l by unfold bothErr; rw [if_neg (fun hh => hh he)])
    rw [he]
    clear he
    go_wp2_with fail
    refine (rRecordsErr_any l A c _ (HA.out.keep (Keep.below HW.out))).mono ?_
    rintro e' w2 ⟨rfl, hb2⟩
    replace HW := Lib.hid (HW.out.trans (hb2.mono HW.out.size))
    go_wp2_with fail
    go_ret
    exact ⟨ret_int F.out.symm, HW.out⟩
  · have F := Lib.hid (show bothErr R l = drulesErr R from if_pos he)
    have e1 : (drulesErr R != 0) = true := by simpa using he
    clear he
    go_wp2_with fail
    go_ret
    exact ⟨ret_int F.out.symm, HW.out⟩
end Go.Proofs.Ytaihiahoedpbiaa
/- The reference's first record of a group, work in a span, and broken rules. Condition: records are in order, of small numbers. -/
namespace Go.Proofs.Ytaihiahoedpbiaa
open Go.RowKit Fs

/-- Records in order, of which the last one may end a little behind all times. -/
structure Fs.Fit (l : List WRec) : Prop where
  len : l.length ≤ 41
  one : ∀ i, i < l.length → 0 ≤ (listW l i).beg ∧ (listW l i).beg < (listW l i).fin ∧ (listW l i).fin ≤ 8640200000
  next : ∀ i, 0 < i → i < l.length → (listW l (i - 1)).fin ≤ (listW l i).beg
theorem Fs.Right.fit {l : List WRec} (h : Right l) : Fit l := ⟨by have := h.len; omega, fun i hi => by have := h.one i hi; omega, h.next⟩
theorem Fs.Right.trip {l : List WRec} (h : Right l) {s n : Int} (h0 : 0 ≤ s) (h1 : s ≤ 8640000000) (h2 : 0 < n) (h3 : n ≤ 200000) (h4 : 0 < l.length → (listW l (l.length - 1)).fin ≤ s) (h5 : l.length < 41) : Fit (withTrip l s n) := by
  have hlen : (withTrip l s n).length = l.length + 1 := by simp [withTrip]
  refine ⟨by rw [hlen]; omega, fun i hi => ?_, fun i hp hi => ?_⟩
  · rw [hlen] at hi
    by_cases e : i < l.length
    · rw [show listW (withTrip l s n) i = listW l i from listW_left e]
      have := h.one i e
      omega
    · obtain rfl : i = l.length := by omega
      rw [show listW (withTrip l s n) l.length = ⟨xName, s, s + n⟩ from listW_last l _]
      show 0 ≤ s ∧ s < s + n ∧ s + n ≤ 8640200000
      omega
  · rw [hlen] at hi
    by_cases e : i < l.length
    · rw [show listW (withTrip l s n) i = listW l i from listW_left e, show listW (withTrip l s n) (i - 1) = listW l (i - 1) from listW_left (by omega)]
      exact h.next i hp e
    · obtain rfl : i = l.length := by omega
      rw [show listW (withTrip l s n) l.length = ⟨xName, s, s + n⟩ from listW_last l _, show listW (withTrip l s n) (l.length - 1) = listW l (l.length - 1) from listW_left (by omega)]
      exact h4 hp
theorem Fs.overlap_is {x : WRec} {a b : Int} (h0 : 0 ≤ x.beg) (h1 : x.beg < x.fin) (h2 : x.fin ≤ 8640200000) : 0 ≤ overlapOf x a b ∧ overlapOf x a b ≤ 8640200000 := by
  unfold overlapOf
  omega
theorem Fs.workTo_is {l : List WRec} (h : Fit l) (a b : Int) : ∀ k, k ≤ l.length → 0 ≤ workTo l a b k ∧ workTo l a b k ≤ 8640200000 * k
  | 0, _ => ⟨Int.le_refl _, Int.le_refl _⟩
  | k + 1, hk => by
    have ih := workTo_is h a b k (by omega)
    have h1 := h.one k (by omega)
    have h2 := overlap_is (a := a) (b := b) h1.1 h1.2.1 h1.2.2
    show 0 ≤ workTo l a b k + overlapOf (listW l k) a b ∧ workTo l a b k + overlapOf (listW l k) a b ≤ 8640200000 * ((k + 1 : Nat) : Int)
    omega
theorem Fs.lengthsTo_self (l : List WRec) (f : Nat) : lengthsTo l f f = 0 := by
  cases f with
  | zero => rfl
  | succ f => rw [lengthsTo, if_neg (by omega)]
theorem Fs.lengthsTo_next {l : List WRec} {f k : Nat} (h : f ≤ k) : lengthsTo l f (k + 1) = lengthsTo l f k + (listW l k).fin - (listW l k).beg := by rw [lengthsTo, if_pos h]
theorem Fs.lengthsTo_is {l : List WRec} (h : Fit l) (f : Nat) : ∀ k, k ≤ l.length → 0 ≤ lengthsTo l f k ∧ lengthsTo l f k ≤ 8640200000 * k
  | 0, _ => ⟨Int.le_refl _, Int.le_refl _⟩
  | k + 1, hk => by
    have ih := lengthsTo_is h f k (by omega)
    have h1 := h.one k (by omega)
    rw [lengthsTo]
    split <;> omega
set_option maxHeartbeats 1600000 in
set_option maxRecDepth 100000 in
theorem rFirst_any (l : List WRec) (A : Option Addr) (c k : Nat) (gap : Int) (w : World) (h : ArrW w A l c) (hF : Fit l) (hk : k < l.length) :
    Calls Try.prog 134 #[.slice A l.length c, .int .i64 k, .int .i64 gap] w fun e w' => e = .returned (.int .i64 (firstIn l gap k : Nat)) ∧ Below w.heap.size w w' := by
  have b1 := h.le.1
  have b2 := h.le.2
  have HA := Lib.hid h
  clear h
  have HFT := Lib.hid hF
  have hlen := hF.len
  clear hF
  go_enter Try.func134, Try.ntmps134
  go_upto_region 1 with fail
  go_loopw [1] (fun i wr => ∃ j : Nat, j ≤ k ∧ i = .int .i64 j ∧ Hid (firstIn l gap j = firstIn l gap k) ∧ Hid (Below w.heap.size w wr)) (fun i _ => (intOf i).toNat)
  case atStart => exact ⟨k, Nat.le_refl _, rfl, Lib.hid rfl, Lib.hid (Below.refl _ _)⟩
  case round =>
    obtain ⟨j, hj, rfl, HE, HB⟩ := hrel
    by_cases h0 : 0 < j
    · have hjl : j < l.length := by omega
      have d3 : decide ((j : Int) > 0) = true := decide_eq_true (by omega)
      have d4 : decide (0 < (j : Int)) = true := decide_eq_true (by omega)
      have hjp : (j : Int) - 1 = ((j - 1 : Nat) : Int) := by omega
      have hj1 : ((j - 1 : Nat) : Int) < (l.length : Int) := by omega
      have hjn : (j : Int) < (l.length : Int) := by omega
      obtain ⟨b, o, rfl, r, q⟩ := (HA.out.keep (Keep.below HB.out)).two (i := j - 1) (by omega) hjl
      obtain ⟨q0, q1, q2⟩ := q
      obtain ⟨r0, r1, r2⟩ := r
      have x1 := HFT.out.one j hjl
      have x2 := HFT.out.one (j - 1) (by omega)
      obtain ⟨p, hp⟩ : ∃ p, j = p + 1 := ⟨j - 1, by omega⟩
      by_cases hg : (listW l j).beg - (listW l (j - 1)).fin < gap
      · have G : Hid (firstIn l gap (j - 1) = firstIn l gap k) := Lib.hid (by
          rw [← HE.out, hp, Nat.add_sub_cancel, firstIn, if_pos (by rw [hp, Nat.add_sub_cancel] at hg; exact hg)])
        have d5 : decide ((listW l j).beg - (listW l (j - 1)).fin < gap) = true := decide_eq_true hg
        clear hg hp
        go_wp2_with fail
        go_quiet (fail)
        go_wp2_with fail
        go_roundw
        case rel => exact ⟨j - 1, by omega, by go_num, G, Lib.hid (bdrewN HB.out _)⟩
        case measure => simp [intOf]; omega
      · have G := Lib.hid (show firstIn l gap k = j from by
          rw [← HE.out, hp, firstIn, if_neg (by rw [hp, Nat.add_sub_cancel] at hg; exact hg)])
        have d5 : decide ((listW l j).beg - (listW l (j - 1)).fin < gap) = false := decide_eq_false hg
        clear hg hp
        go_wp2_with fail
        go_quiet (fail)
        go_wp2_with fail
        go_ret
        exact ⟨by rw [G.out]; rfl, bdrewN HB.out _⟩
    · obtain rfl : j = 0 := by omega
      have G := Lib.hid (show firstIn l gap k = 0 from HE.out.symm)
      go_wp2_with fail
      go_quiet (fail)
      go_wp2_with fail
      go_ret
      exact ⟨by rw [G.out]; rfl, bdrewN HB.out _⟩

set_option maxHeartbeats 1600000 in
set_option maxRecDepth 100000 in
theorem rWorkIn_any (l : List WRec) (A : Option Addr) (c n : Nat) (a b : Int) (w : World) (h : ArrW w A l c) (hF : Fit l) (hn : n ≤ l.length) (ha : -1000000 ≤ a ∧ a ≤ 9000000000) (hb : -1000000 ≤ b ∧ b ≤ 9000000000) :
    Calls Try.prog 28 #[.slice A n c, .int .i64 a, .int .i64 b] w fun e w' => e = .returned (.int .i64 (workTo l a b n)) ∧ Below w.heap.size w w' := by
  have b1 := h.le.1
  have b2 := h.le.2
  have HA := Lib.hid h
  clear h
  have HFT := Lib.hid hF
  have hlen := hF.len
  clear hF
  obtain ⟨a0, a1⟩ := ha
  obtain ⟨b0, b3⟩ := hb
  go_enter Try.func28, Try.ntmps28
  go_wp2_with fail
  go_loopw [7, 8] (fun u i wr => ∃ k : Nat, k ≤ n ∧ u = .int .i64 (workTo l a b k) ∧ i = .int .i64 k ∧ Hid (Below w.heap.size w wr)) (fun _ i _ => n - (intOf i).toNat)
  case atStart => exact ⟨0, Nat.zero_le _, rfl, rfl, Lib.hid (Below.refl _ _)⟩
  case round =>
    obtain ⟨k, hk, rfl, rfl, HB⟩ := hrel
    by_cases hlt : k < n
    · have hkn : (k : Int) < (n : Int) := by omega
      obtain ⟨bb, o, rfl, q⟩ := (HA.out.keep (Keep.below HB.out)).at_ (k := k) (by omega)
      obtain ⟨q0, q1, q2⟩ := q
      have x1 := HFT.out.one k (by omega)
      have x2 := workTo_is HFT.out a b k (by omega)
      have x3 := overlap_is (a := a) (b := b) x1.1 x1.2.1 x1.2.2
      have F := Lib.hid (show workTo l a b (k + 1) = workTo l a b k + overlapOf (listW l k) a b from rfl)
      have U := Lib.hid (show overlapOf (listW l k) a b = max 0 (min (listW l k).fin b - max (listW l k).beg a) from rfl)
      rw [U.out] at x3 F
      have y1 : -20000000000 ≤ min (listW l k).fin b - max (listW l k).beg a ∧ min (listW l k).fin b - max (listW l k).beg a ≤ 20000000000 := by omega
      go_wp2_with fail
      go_quiet (fail)
      go_wp2_with fail
      rw [← F.out]
      go_roundw
      case rel => exact ⟨k + 1, by omega, rfl, by go_num, Lib.hid (bdrewN HB.out _)⟩
      case measure => simp [intOf]; omega
    · obtain rfl : k = n := by omega
      go_wp2_with fail
      go_ret
      exact ⟨rfl, HB.out⟩
end Go.Proofs.Ytaihiahoedpbiaa
/- The reference's broken rules. Condition: rules are right, records in order. -/
namespace Go.Proofs.Ytaihiahoedpbiaa
open Go.RowKit Fs

theorem Fs.stintOf_is {l : List WRec} (h : Fit l) (brk : Int) {k : Nat} (hk : k < l.length) : 0 ≤ stintOf l brk k ∧ stintOf l brk k ≤ 400000000000 := by
  have h1 := lengthsTo_is h (firstIn l brk k) (k + 1) hk
  have h2 := h.len
  unfold stintOf
  omega
set_option maxHeartbeats 3200000 in
set_option maxRecDepth 100000 in
theorem rBrokenAt_any (R : DRules) (l : List WRec) (A : Option Addr) (c k : Nat) (w : World) (h : ArrW w A l c) (hF : Fit l) (hk : k < l.length) :
    Calls Try.prog 84 #[drulesV R, .slice A l.length c, .int .i64 k] w fun e w' => e = .returned (.int .i64 (brokenAt R l k)) ∧ Below w.heap.size w w' := by
  have b1 := h.le.1
  have b2 := h.le.2
  have HA := Lib.hid h
  clear h
  have HFT := Lib.hid hF
  have hlen := hF.len
  clear hF
  have hkn : (k : Int) < (l.length : Int) := by omega
  have BR := Lib.hid (RulesIn.new w R 23)
  go_enter Try.func84, Try.ntmps84
  go_upto_region 1 with fail
  generalize hwb : w.alloc _ = wb at *
  have HW : Hid (Below w.heap.size w wb) := by rw [← hwb]; exact Lib.hid ((Below.refl _ _).alloc (Nat.le_refl _) _)
  clear hwb
  obtain ⟨a0, a1, a2, a3, a4⟩ := BR.out
  go_wp2_with fail
  refine (rFirst_any l A c k R.brk _ (HA.out.keep (Keep.below HW.out)) HFT.out hk).mono ?_
  rintro e' w1 ⟨rfl, hb1⟩
  replace HW := Lib.hid (HW.out.trans (hb1.mono HW.out.size))
  replace BR := Lib.hid (BR.out.keep (Keep.below hb1))
  clear hb1 a0 a1 a2 a3 a4
  have hfl := firstIn_le l R.brk k
  have HSO := Lib.hid (show stintOf l R.brk k = lengthsTo l (firstIn l R.brk k) (k + 1) from rfl)
  obtain ⟨f1, hf1⟩ : ∃ f1, f1 = firstIn l R.brk k := ⟨_, rfl⟩
  rw [← hf1] at hfl HSO
  rw [← hf1]
  have HBA := Lib.hid (show brokenAt R l k = if R.stint < stintOf l R.brk k then 1 else if R.shift < (listW l k).fin - (listW l (firstIn l R.rest k)).beg then 2 else if R.week < workTo l ((listW l k).fin - 604800) (listW l k).fin (k + 1) then 3 else 0 from rfl)
  clear hf1
  go_wp2_with fail
  go_loopw [7, 8] (fun u i wr => ∃ j : Nat, f1 ≤ j ∧ j ≤ k + 1 ∧ u = .int .i64 (lengthsTo l f1 j) ∧ i = .int .i64 j ∧ Hid (Below w1.heap.size w1 wr)) (fun _ i _ => k + 1 - (intOf i).toNat)
  case atStart => exact ⟨f1, Nat.le_refl _, by omega, by rw [lengthsTo_self], rfl, Lib.hid (Below.refl _ _)⟩
  case round =>
    obtain ⟨j, hj1, hj2, rfl, rfl, HB⟩ := hrel
    by_cases hle : j ≤ k
    · have d1 : decide ((j : Int) ≤ (k : Int)) = true := decide_eq_true (by omega)
      have hjn : (j : Int) < (l.length : Int) := by omega
      obtain ⟨b, o, rfl, q⟩ := ((HA.out.keep (Keep.below HW.out)).keep (Keep.below HB.out)).at_ (k := j) (by omega)
      obtain ⟨q0, q1, q2⟩ := q
      have x1 := HFT.out.one j (by omega)
      have x2 := lengthsTo_is HFT.out f1 j (by omega)
      have F := Lib.hid (lengthsTo_next (l := l) hj1)
      clear HBA HSO
      go_wp2_with fail
      go_quiet (fail)
      go_wp2_with fail
      rw [← F.out]
      go_roundw
      case rel => exact ⟨j + 1, by omega, by omega, rfl, by go_num, Lib.hid (bdrewN HB.out _)⟩
      case measure => simp [intOf]; omega
    · obtain rfl : j = k + 1 := by omega
      have d1 : decide (((k + 1 : Nat) : Int) ≤ (k : Int)) = false := decide_eq_false (by omega)
      rw [← HSO.out]
      have hso := stintOf_is HFT.out R.brk hk
      clear HSO
      replace HW := Lib.hid (HW.out.trans (HB.out.mono HW.out.size))
      replace BR := Lib.hid (BR.out.keep (Keep.below HB.out))
      obtain ⟨w2, hw2⟩ : ∃ w2, w2 = wr := ⟨_, rfl⟩
      subst hw2
      clear HB hj1 hj2 hle hfl
      obtain ⟨a0, a1, a2, a3, a4⟩ := BR.out
      by_cases h1 : R.stint < stintOf l R.brk k
      · have G := Lib.hid (HBA.out.trans (if_pos h1))
        have d2 : decide (stintOf l R.brk k > R.stint) = true := decide_eq_true h1
        have d3 : decide (R.stint < stintOf l R.brk k) = true := decide_eq_true h1
        clear h1
        go_wp2_with fail
        go_ret
        exact ⟨ret_int G.out.symm, HW.out⟩
      · replace HBA := Lib.hid (HBA.out.trans (if_neg h1))
        have d2 : decide (stintOf l R.brk k > R.stint) = false := decide_eq_false h1
        have d3 : decide (R.stint < stintOf l R.brk k) = false := decide_eq_false h1
        clear h1
        have hfr := firstIn_le l R.rest k
        obtain ⟨f2, hf2⟩ : ∃ f2, f2 = firstIn l R.rest k := ⟨_, rfl⟩
        rw [← hf2] at hfr HBA
        have HF2 := Lib.hid hf2
        clear hf2
        have hfn : (f2 : Int) < (l.length : Int) := by omega
        obtain ⟨b, o, rfl, q, r⟩ := (HA.out.keep (Keep.below HW.out)).two hk (show f2 < l.length by omega)
        obtain ⟨q0, q1, q2⟩ := q
        obtain ⟨r0, r1, r2⟩ := r
        have x1 := HFT.out.one k hk
        have x2 := HFT.out.one f2 (by omega)
        by_cases h2 : R.shift < (listW l k).fin - (listW l f2).beg
        · have G := Lib.hid (HBA.out.trans (if_pos h2))
          have e2 : decide ((listW l k).fin - (listW l f2).beg > R.shift) = true := decide_eq_true h2
          have e3 : decide (R.shift < (listW l k).fin - (listW l f2).beg) = true := decide_eq_true h2
          go_wp2_with fail
          obtain ⟨C, Ci, Co⟩ := classOf w2
          refine quietC (C := C) (by kernel_rfl) (by kernel_rfl) (Co.out _ (Below.refl _ _).drew) ?_
          repeat (first
            | go_big_quiet_skip
            | (go_big_quiet_want; go_big_quiet_op; go_big_quiet_on)
            | (refine quiet_yes (by rfl) ?_
               apply Exists.intro
               refine ⟨fun w' hC => ?_, ?_⟩
               · have hbb := Ci.out _ hC
                 have zz0 := Keep.below hbb _ _ a1
                 have zz1 := Keep.below hbb _ _ a3
                 have zz2 := Keep.below hbb _ _ q2
                 have zz3 := Keep.below hbb _ _ r1
                 go_simp
                 try go_bits
                 first
                   | done
                   | rfl
                   | (go_at_call 134
                      refine (rFirst_any l _ c k R.rest _ ((HA.out.keep (Keep.below HW.out)).keep (Keep.below hbb)) HFT.out hk).mono ?_
                      rintro e' w1 ⟨rfl, hb1⟩
                      rw [← HF2.out]
                      exact ⟨rfl, Co.out _ (hbb.trans (hb1.mono hbb.size))⟩)
               simp only [Act.put, List.setIfInBounds_toArray, List.set_cons_zero, List.set_cons_succ]))
          refine wpQuiet_nil ?_
          intro w3 hC1
          have hbq := Ci.out _ hC1
          replace HW := Lib.hid (HW.out.trans (hbq.mono HW.out.size))
          replace BR := Lib.hid (BR.out.keep (Keep.below hbq))
          clear hC1 hbq Ci Co
          go_wp2_with fail
          go_ret
          exact ⟨ret_int G.out.symm, HW.out⟩
        · replace HBA := Lib.hid (HBA.out.trans (if_neg h2))
          have e2 : decide ((listW l k).fin - (listW l f2).beg > R.shift) = false := decide_eq_false h2
          have e3 : decide (R.shift < (listW l k).fin - (listW l f2).beg) = false := decide_eq_false h2
          go_wp2_with fail
          obtain ⟨C, Ci, Co⟩ := classOf w2
          refine quietC (C := C) (by kernel_rfl) (by kernel_rfl) (Co.out _ (Below.refl _ _).drew) ?_
          repeat (first
            | go_big_quiet_skip
            | (go_big_quiet_want; go_big_quiet_op; go_big_quiet_on)
            | (refine quiet_yes (by rfl) ?_
               apply Exists.intro
               refine ⟨fun w' hC => ?_, ?_⟩
               · have hbb := Ci.out _ hC
                 have zz0 := Keep.below hbb _ _ a1
                 have zz1 := Keep.below hbb _ _ a3
                 have zz2 := Keep.below hbb _ _ q2
                 have zz3 := Keep.below hbb _ _ r1
                 go_simp
                 try go_bits
                 first
                   | done
                   | rfl
                   | (go_at_call 134
                      refine (rFirst_any l _ c k R.rest _ ((HA.out.keep (Keep.below HW.out)).keep (Keep.below hbb)) HFT.out hk).mono ?_
                      rintro e' w1 ⟨rfl, hb1⟩
                      rw [← HF2.out]
                      exact ⟨rfl, Co.out _ (hbb.trans (hb1.mono hbb.size))⟩)
               simp only [Act.put, List.setIfInBounds_toArray, List.set_cons_zero, List.set_cons_succ]))
          refine wpQuiet_nil ?_
          intro w3 hC1
          have hbq := Ci.out _ hC1
          replace HW := Lib.hid (HW.out.trans (hbq.mono HW.out.size))
          replace BR := Lib.hid (BR.out.keep (Keep.below hbq))
          clear hC1 hbq Ci Co
          clear a0 a1 a2 a3 a4 q0 q1 q2 r0 r1 r2 hfn
          obtain ⟨a0, a1, a2, a3, a4⟩ := BR.out
          obtain ⟨b', o', e', q⟩ := (HA.out.keep (Keep.below HW.out)).at_ hk
          obtain ⟨rfl, rfl⟩ : b = b' ∧ o = o' := by simpa using e'
          clear e'
          obtain ⟨q0, q1, q2⟩ := q
          have y1 := workTo_is HFT.out ((listW l k).fin - 604800) (listW l k).fin (k + 1) hk
          have hk3 : (k : Int) + 1 ≤ (l.length : Int) := by omega
          have hk4 : (k : Int) + 1 ≤ (c : Int) := by omega
          have hk5 : 0 ≤ (k : Int) + 1 := by omega
          by_cases h3 : R.week < workTo l ((listW l k).fin - 604800) (listW l k).fin (k + 1)
          · have G := Lib.hid (HBA.out.trans (if_pos h3))
            have g2 : decide (workTo l ((listW l k).fin - 604800) (listW l k).fin (k + 1) > R.week) = true := decide_eq_true h3
            have g3 : decide (R.week < workTo l ((listW l k).fin - 604800) (listW l k).fin (k + 1)) = true := decide_eq_true h3
            go_wp2_with fail
            obtain ⟨C, Ci, Co⟩ := classOf w3
            refine quietC (C := C) (by kernel_rfl) (by kernel_rfl) (Co.out _ (Below.refl _ _).drew) ?_
            repeat (first
              | go_big_quiet_skip
              | (go_big_quiet_want; go_big_quiet_op; go_big_quiet_on)
              | (refine quiet_yes (by rfl) ?_
                 apply Exists.intro
                 refine ⟨fun w' hC => ?_, ?_⟩
                 · have hbb := Ci.out _ hC
                   have zz0 := Keep.below hbb _ _ a4
                   have zz1 := Keep.below hbb _ _ q2
                   go_simp
                   try go_bits
                   first
                     | done
                     | rfl
                     | (go_at_call 28
                        refine (rWorkIn_any l _ c (k + 1) _ _ _ ((HA.out.keep (Keep.below HW.out)).keep (Keep.below hbb)) HFT.out hk (by omega) (by omega)).mono ?_
                        rintro e' w1 ⟨rfl, hb1⟩
                        exact ⟨rfl, Co.out _ (hbb.trans (hb1.mono hbb.size))⟩)
                 simp only [Act.put, List.setIfInBounds_toArray, List.set_cons_zero, List.set_cons_succ]))
            refine wpQuiet_nil ?_
            intro w4 hC1
            have hbq := Ci.out _ hC1
            replace HW := Lib.hid (HW.out.trans (hbq.mono HW.out.size))
            replace BR := Lib.hid (BR.out.keep (Keep.below hbq))
            clear hC1 hbq Ci Co
            go_wp2_with fail
            go_ret
            exact ⟨ret_int G.out.symm, HW.out⟩
          · have G := Lib.hid (HBA.out.trans (if_neg h3))
            have g2 : decide (workTo l ((listW l k).fin - 604800) (listW l k).fin (k + 1) > R.week) = false := decide_eq_false h3
            have g3 : decide (R.week < workTo l ((listW l k).fin - 604800) (listW l k).fin (k + 1)) = false := decide_eq_false h3
            go_wp2_with fail
            obtain ⟨C, Ci, Co⟩ := classOf w3
            refine quietC (C := C) (by kernel_rfl) (by kernel_rfl) (Co.out _ (Below.refl _ _).drew) ?_
            repeat (first
              | go_big_quiet_skip
              | (go_big_quiet_want; go_big_quiet_op; go_big_quiet_on)
              | (refine quiet_yes (by rfl) ?_
                 apply Exists.intro
                 refine ⟨fun w' hC => ?_, ?_⟩
                 · have hbb := Ci.out _ hC
                   have zz0 := Keep.below hbb _ _ a4
                   have zz1 := Keep.below hbb _ _ q2
                   go_simp
                   try go_bits
                   first
                     | done
                     | rfl
                     | (go_at_call 28
                        refine (rWorkIn_any l _ c (k + 1) _ _ _ ((HA.out.keep (Keep.below HW.out)).keep (Keep.below hbb)) HFT.out hk (by omega) (by omega)).mono ?_
                        rintro e' w1 ⟨rfl, hb1⟩
                        exact ⟨rfl, Co.out _ (hbb.trans (hb1.mono hbb.size))⟩)
                 simp only [Act.put, List.setIfInBounds_toArray, List.set_cons_zero, List.set_cons_succ]))
            refine wpQuiet_nil ?_
            intro w4 hC1
            have hbq := Ci.out _ hC1
            replace HW := Lib.hid (HW.out.trans (hbq.mono HW.out.size))
            replace BR := Lib.hid (BR.out.keep (Keep.below hbq))
            clear hC1 hbq Ci Co
            go_wp2_with fail
            go_ret
            exact ⟨ret_int G.out.symm, HW.out⟩

end Go.Proofs.Ytaihiahoedpbiaa

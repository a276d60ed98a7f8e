/- The reference's TripErr and Allowed. Condition: records are right. -/
import Derived.Test.YtaihiahoedpbiaaT47
import Derived.Test.YtaihiahoedpbiaaN2
namespace Go.Proofs.Ytaihiahoedpbiaa
open Go.RowKit Fs

/-- What a right trip has. -/
theorem Fs.dtrip_ok {R : DRules} {l : List WRec} {t : DTrip} (h : dtripErr R l t = 0) : Behind l t ∧ (0 ≤ t.lo ∧ t.lo ≤ 200000) ∧ (0 ≤ t.hi ∧ t.hi ≤ 200000) ∧ t.lo ≤ t.hi ∧ brokenRule R l = 0 := by
  unfold dtripErr at h
  by_cases h40 : 40 ≤ l.length
  · rw [if_pos h40] at h; exact absurd h (by decide)
  · rw [if_neg h40] at h
    by_cases hb : isClock t.start = true ∧ within t.lo 0 200000 = true ∧ within t.hi 0 200000 = true
    · obtain ⟨h1, h2, h3⟩ := hb
      rw [if_neg (by rw [h1, h2, h3]; decide)] at h
      have a1 := within_iff.1 (show within t.start 0 8640000000 = true from h1)
      have a2 := within_iff.1 h2
      have a3 := within_iff.1 h3
      by_cases h9 : t.hi < t.lo
      · rw [if_pos h9] at h; exact absurd h (by decide)
      · rw [if_neg h9] at h
        by_cases hx : t.next ≠ -1 ∧ isClock t.next = false
        · rw [if_pos hx] at h; exact absurd h (by decide)
        · rw [if_neg hx] at h
          by_cases hl : 0 < l.length ∧ t.start < (listW l (l.length - 1)).fin
          · rw [if_pos hl] at h; exact absurd h (by decide)
          · rw [if_neg hl] at h
            by_cases hk : brokenRule R l ≠ 0
            · rw [if_pos hk] at h; exact absurd h (by decide)
            · have hn : -1 ≤ t.next ∧ t.next ≤ 8640000000 := by
                by_cases e : t.next = -1
                · omega
                · have a4 := within_iff.1 (show within t.next 0 8640000000 = true from by
                    cases e4 : isClock t.next with
                    | false => exact absurd ⟨e, e4⟩ hx
                    | true => exact e4)
                  omega
              exact ⟨⟨by omega, a1.1, a1.2, hn.1, hn.2, fun hp => Int.not_lt.1 fun hc => hl ⟨hp, hc⟩⟩, a2, a3, by omega, Classical.byContradiction hk⟩
    · rw [if_pos (by cases h1 : isClock t.start <;> cases h2 : within t.lo 0 200000 <;> cases h3 : within t.hi 0 200000 <;> first | rfl | exact absurd ⟨h1, h2, h3⟩ hb)] at h
      exact absurd h (by decide)
set_option linter.unusedSimpArgs false in
set_option maxHeartbeats 12800000 in
set_option maxRecDepth 100000 in
theorem rdTripErr_any (R : DRules) (l : List WRec) (t : DTrip) (A : Option Addr) (c : Nat) (w : World) (h : ArrW w A l c) (hF : Fit l) :
    Calls Try.prog 87 #[drulesV R, .slice A l.length c, dtripV t] w fun e w' => e = .returned (.int .i64 (dtripErr R l t)) ∧ Below w.heap.size w w' := by
  have b1 := h.le.1
  have b2 := h.le.2
  have HA := Lib.hid h
  clear h
  have BR := Lib.hid ((RulesIn.new w R 23).keep (Keep.alloc _ (.cells #[.int .i64 t.start, .int .i64 t.lo, .int .i64 t.hi, .int .i64 t.next] 54)))
  have BT := Lib.hid (show TripIn ((w.alloc (.cells #[.int .i64 R.brk, .int .i64 R.rest, .int .i64 R.stint, .int .i64 R.shift, .int .i64 R.week] 23)).alloc (.cells #[.int .i64 t.start, .int .i64 t.lo, .int .i64 t.hi, .int .i64 t.next] 54)) (w.heap.size + 1) t from ⟨cellNew1 _ _ _ _ 0, cellNew1 _ _ _ _ 1, cellNew1 _ _ _ _ 2, cellNew1 _ _ _ _ 3⟩)
  go_enter Try.func87, Try.ntmps87
  go_upto_region 1 with fail
  generalize hwb : (w.alloc _).alloc _ = wb at *
  have HW : Hid (Below w.heap.size w wb) := by rw [← hwb]; exact Lib.hid (((Below.refl _ _).alloc (Nat.le_refl _) _).alloc (by simp) _)
  clear hwb
  by_cases h40 : 40 ≤ l.length
  · have G := Lib.hid (show dtripErr R l t = 16 from if_pos h40)
    have d1 : decide ((l.length : Int) ≥ 40) = true := decide_eq_true (by omega)
    have d2 : decide (40 ≤ (l.length : Int)) = true := decide_eq_true (by omega)
    clear h40
    go_wp2_with fail
    go_ret
    exact ⟨ret_int G.out.symm, HW.out⟩
  · have F1 := Lib.hid (show dtripErr R l t = if !(isClock t.start && within t.lo 0 200000 && within t.hi 0 200000) then 2 else if t.hi < t.lo then 9 else if t.next ≠ -1 ∧ isClock t.next = false then 2 else if 0 < l.length ∧ t.start < (listW l (l.length - 1)).fin then 26 else if brokenRule R l ≠ 0 then 22 else 0 from if_neg h40)
    have d1 : decide ((l.length : Int) ≥ 40) = false := decide_eq_false (by omega)
    have d2 : decide (40 ≤ (l.length : Int)) = false := decide_eq_false (by omega)
    have h40n : l.length < 40 := by omega
    clear h40
    obtain ⟨t0, t1, t2, t3⟩ := BT.out
    obtain ⟨a0, a1, a2, a3, a4⟩ := BR.out
    by_cases hb : isClock t.start = true ∧ within t.lo 0 200000 = true ∧ within t.hi 0 200000 = true
    · obtain ⟨h1, h2, h3⟩ := hb
      have F2 := Lib.hid (F1.out.trans (if_neg (by rw [h1, h2, h3]; decide)))
      by_cases h9 : t.hi < t.lo
      · have G := Lib.hid (F2.out.trans (if_pos h9))
        have d3 : decide (t.lo > t.hi) = true := decide_eq_true h9
        have d4 : decide (t.hi < t.lo) = true := decide_eq_true h9
        clear h9
        go_wp2_with (first
          | (go_at_call 27
             refine (rIsTime_any _ _).mono ?_
             rintro e w' ⟨rfl, rfl⟩
             first | rw [h1] | rw [h4])
          | (go_at_call 34
             refine (bwithin_any _ _ _ _).mono ?_
             rintro e w' ⟨rfl, rfl⟩
             first | rw [h2] | rw [h3]))
        go_ret
        exact ⟨ret_int G.out.symm, HW.out⟩
      · have F3 := Lib.hid (F2.out.trans (if_neg h9))
        have d3 : decide (t.lo > t.hi) = false := decide_eq_false h9
        have d4 : decide (t.hi < t.lo) = false := decide_eq_false h9
        clear h9
        by_cases hx : t.next = -1
        · have F4 := Lib.hid (F3.out.trans (if_neg (fun hh => hh.1 hx)))
          have d5 : (t.next == -1) = true := by simpa using hx
          have d6 : (t.next != -1) = false := by simpa using hx
          clear hx
          by_cases h0 : 0 < l.length
          · have d7 : decide ((l.length : Int) > 0) = true := decide_eq_true (by omega)
            have d8 : decide (0 < (l.length : Int)) = true := decide_eq_true (by omega)
            have d11 : decide (0 < l.length) = true := decide_eq_true h0
            have d12 : decide (l.length = 0) = false := decide_eq_false (by omega)
            replace F4 := Lib.hid F4.out
            obtain ⟨n', hn'⟩ : ∃ n', n' = l.length - 1 := ⟨_, rfl⟩
            rw [← hn'] at F4
            have hw0 : (l.length : Int) - 1 = (n' : Int) := by omega
            have hw1 : IntKind.i64.wrap ((l.length : Int) - 1) = (n' : Int) := by rw [IntKind.wrap_i64]; omega
            have hk1 : (n' : Int) < (l.length : Int) := by omega
            obtain ⟨b, o, rfl, q⟩ := (HA.out.keep (Keep.below HW.out)).at_ (k := n') (by omega)
            clear hn'
            obtain ⟨q0, q1, q2⟩ := q
            by_cases hf : t.start < (listW l n').fin
            · have G := Lib.hid (F4.out.trans (if_pos ⟨h0, hf⟩))
              have d9 : decide (t.start < (listW l n').fin) = true := decide_eq_true hf
              clear hf h0
              go_wp2_with (first
                | (go_at_call 27
                   refine (rIsTime_any _ _).mono ?_
                   rintro e w' ⟨rfl, rfl⟩
                   first | rw [h1] | rw [h4])
                | (go_at_call 34
                   refine (bwithin_any _ _ _ _).mono ?_
                   rintro e w' ⟨rfl, rfl⟩
                   first | rw [h2] | rw [h3]))
              go_quiet (fail)
              go_wp2_with fail
              go_ret
              exact ⟨ret_int G.out.symm, bdrewN HW.out _⟩
            · have F5 := Lib.hid (F4.out.trans (if_neg (fun hh => hf hh.2)))
              have d9 : decide (t.start < (listW l n').fin) = false := decide_eq_false hf
              clear hf h0
              go_wp2_with (first
                | (go_at_call 27
                   refine (rIsTime_any _ _).mono ?_
                   rintro e w' ⟨rfl, rfl⟩
                   first | rw [h1] | rw [h4])
                | (go_at_call 34
                   refine (bwithin_any _ _ _ _).mono ?_
                   rintro e w' ⟨rfl, rfl⟩
                   first | rw [h2] | rw [h3]))
              go_quiet (fail)
              go_wp2_with fail
              refine (rBroken_any R l _ c _ ((HA.out.keep (Keep.below HW.out)).keep (Keep.below (bdrewN (Below.refl _ _) _))) hF).mono ?_
              rintro e' w1 ⟨rfl, hb1⟩
              have HW1 := Lib.hid ((bdrewN HW.out _).trans (hb1.mono (bdrewN HW.out _).size))
              clear hb1
              have hfd : ∀ (x y : Int) (w : World), (Instr.field 47 (.agg #[.int .i64 x, .int .i64 y]) 0).run Try.prog w = .ok (.int .i64 x) w := fun _ _ _ => by kernel_rfl
              by_cases hk : brokenRule R l = 0
              · have G := Lib.hid (F5.out.trans (if_neg (fun hh => hh hk)))
                rw [hk]
                clear hk
                go_wp2_with fail
                go_ret
                exact ⟨ret_int G.out.symm, HW1.out⟩
              · have G := Lib.hid (F5.out.trans (if_pos hk))
                have e5 : (brokenRule R l == 0) = false := by simpa using hk
                have e6 : (brokenRule R l != 0) = true := by simpa using hk
                clear hk
                go_wp2_with fail
                go_ret
                exact ⟨ret_int G.out.symm, HW1.out⟩
          · have d7 : decide ((l.length : Int) > 0) = false := decide_eq_false (by omega)
            have d8 : decide (0 < (l.length : Int)) = false := decide_eq_false (by omega)
            have d9 : decide (0 < l.length) = false := decide_eq_false h0
            have d10 : decide (l.length = 0) = true := decide_eq_true (by omega)
            have F5 := Lib.hid (F4.out.trans (if_neg (fun hh => h0 hh.1)))
            clear h0
            go_wp2_with (first
              | (go_at_call 27
                 refine (rIsTime_any _ _).mono ?_
                 rintro e w' ⟨rfl, rfl⟩
                 first | rw [h1] | rw [h4])
              | (go_at_call 34
                 refine (bwithin_any _ _ _ _).mono ?_
                 rintro e w' ⟨rfl, rfl⟩
                 first | rw [h2] | rw [h3]))
            go_quiet (fail)
            go_wp2_with fail
            refine (rBroken_any R l _ c _ ((HA.out.keep (Keep.below HW.out)).keep (Keep.below (bdrewN (Below.refl _ _) _))) hF).mono ?_
            rintro e' w1 ⟨rfl, hb1⟩
            have HW1 := Lib.hid ((bdrewN HW.out _).trans (hb1.mono (bdrewN HW.out _).size))
            clear hb1
            have hfd : ∀ (x y : Int) (w : World), (Instr.field 47 (.agg #[.int .i64 x, .int .i64 y]) 0).run Try.prog w = .ok (.int .i64 x) w := fun _ _ _ => by kernel_rfl
            by_cases hk : brokenRule R l = 0
            · have G := Lib.hid (F5.out.trans (if_neg (fun hh => hh hk)))
              rw [hk]
              clear hk
              go_wp2_with fail
              go_ret
              exact ⟨ret_int G.out.symm, HW1.out⟩
            · have G := Lib.hid (F5.out.trans (if_pos hk))
              have e5 : (brokenRule R l == 0) = false := by simpa using hk
              have e6 : (brokenRule R l != 0) = true := by simpa using hk
              clear hk
              go_wp2_with fail
              go_ret
              exact ⟨ret_int G.out.symm, HW1.out⟩
        · have d5 : (t.next == -1) = false := by simpa using hx
          have d6 : (t.next != -1) = true := by simpa using hx
          cases h4 : isClock t.next with
          | false =>
            have G := Lib.hid (F3.out.trans (if_pos ⟨hx, h4⟩))
            clear hx
            go_wp2_with (first
              | (go_at_call 27
                 refine (rIsTime_any _ _).mono ?_
                 rintro e w' ⟨rfl, rfl⟩
                 first | rw [h1] | rw [h4])
              | (go_at_call 34
                 refine (bwithin_any _ _ _ _).mono ?_
                 rintro e w' ⟨rfl, rfl⟩
                 first | rw [h2] | rw [h3]))
            go_ret
            exact ⟨ret_int G.out.symm, HW.out⟩
          | true =>
            have F4 := Lib.hid (F3.out.trans (if_neg (fun hh => by rw [h4] at hh; exact absurd hh.2 (by decide))))
            clear hx
            by_cases h0 : 0 < l.length
            · have d7 : decide ((l.length : Int) > 0) = true := decide_eq_true (by omega)
              have d8 : decide (0 < (l.length : Int)) = true := decide_eq_true (by omega)
              have d11 : decide (0 < l.length) = true := decide_eq_true h0
              have d12 : decide (l.length = 0) = false := decide_eq_false (by omega)
              replace F4 := Lib.hid F4.out
              obtain ⟨n', hn'⟩ : ∃ n', n' = l.length - 1 := ⟨_, rfl⟩
              rw [← hn'] at F4
              have hw0 : (l.length : Int) - 1 = (n' : Int) := by omega
              have hw1 : IntKind.i64.wrap ((l.length : Int) - 1) = (n' : Int) := by rw [IntKind.wrap_i64]; omega
              have hk1 : (n' : Int) < (l.length : Int) := by omega
              obtain ⟨b, o, rfl, q⟩ := (HA.out.keep (Keep.below HW.out)).at_ (k := n') (by omega)
              clear hn'
              obtain ⟨q0, q1, q2⟩ := q
              by_cases hf : t.start < (listW l n').fin
              · have G := Lib.hid (F4.out.trans (if_pos ⟨h0, hf⟩))
                have d9 : decide (t.start < (listW l n').fin) = true := decide_eq_true hf
                clear hf h0
                go_wp2_with (first
                  | (go_at_call 27
                     refine (rIsTime_any _ _).mono ?_
                     rintro e w' ⟨rfl, rfl⟩
                     first | rw [h1] | rw [h4])
                  | (go_at_call 34
                     refine (bwithin_any _ _ _ _).mono ?_
                     rintro e w' ⟨rfl, rfl⟩
                     first | rw [h2] | rw [h3]))
                go_quiet (fail)
                go_wp2_with fail
                go_ret
                exact ⟨ret_int G.out.symm, bdrewN HW.out _⟩
              · have F5 := Lib.hid (F4.out.trans (if_neg (fun hh => hf hh.2)))
                have d9 : decide (t.start < (listW l n').fin) = false := decide_eq_false hf
                clear hf h0
                go_wp2_with (first
                  | (go_at_call 27
                     refine (rIsTime_any _ _).mono ?_
                     rintro e w' ⟨rfl, rfl⟩
                     first | rw [h1] | rw [h4])
                  | (go_at_call 34
                     refine (bwithin_any _ _ _ _).mono ?_
                     rintro e w' ⟨rfl, rfl⟩
                     first | rw [h2] | rw [h3]))
                go_quiet (fail)
                go_wp2_with fail
                refine (rBroken_any R l _ c _ ((HA.out.keep (Keep.below HW.out)).keep (Keep.below (bdrewN (Below.refl _ _) _))) hF).mono ?_
                rintro e' w1 ⟨rfl, hb1⟩
                have HW1 := Lib.hid ((bdrewN HW.out _).trans (hb1.mono (bdrewN HW.out _).size))
                clear hb1
                have hfd : ∀ (x y : Int) (w : World), (Instr.field 47 (.agg #[.int .i64 x, .int .i64 y]) 0).run Try.prog w = .ok (.int .i64 x) w := fun _ _ _ => by kernel_rfl
                by_cases hk : brokenRule R l = 0
                · have G := Lib.hid (F5.out.trans (if_neg (fun hh => hh hk)))
                  rw [hk]
                  clear hk
                  go_wp2_with fail
                  go_ret
                  exact ⟨ret_int G.out.symm, HW1.out⟩
                · have G := Lib.hid (F5.out.trans (if_pos hk))
                  have e5 : (brokenRule R l == 0) = false := by simpa using hk
                  have e6 : (brokenRule R l != 0) = true := by simpa using hk
                  clear hk
                  go_wp2_with fail
                  go_ret
                  exact ⟨ret_int G.out.symm, HW1.out⟩
            · have d7 : decide ((l.length : Int) > 0) = false := decide_eq_false (by omega)
              have d8 : decide (0 < (l.length : Int)) = false := decide_eq_false (by omega)
              have d9 : decide (0 < l.length) = false := decide_eq_false h0
              have d10 : decide (l.length = 0) = true := decide_eq_true (by omega)
              have F5 := Lib.hid (F4.out.trans (if_neg (fun hh => h0 hh.1)))
              clear h0
              go_wp2_with (first
                | (go_at_call 27
                   refine (rIsTime_any _ _).mono ?_
                   rintro e w' ⟨rfl, rfl⟩
                   first | rw [h1] | rw [h4])
                | (go_at_call 34
                   refine (bwithin_any _ _ _ _).mono ?_
                   rintro e w' ⟨rfl, rfl⟩
                   first | rw [h2] | rw [h3]))
              go_quiet (fail)
              go_wp2_with fail
              refine (rBroken_any R l _ c _ ((HA.out.keep (Keep.below HW.out)).keep (Keep.below (bdrewN (Below.refl _ _) _))) hF).mono ?_
              rintro e' w1 ⟨rfl, hb1⟩
              have HW1 := Lib.hid ((bdrewN HW.out _).trans (hb1.mono (bdrewN HW.out _).size))
              clear hb1
              have hfd : ∀ (x y : Int) (w : World), (Instr.field 47 (.agg #[.int .i64 x, .int .i64 y]) 0).run Try.prog w = .ok (.int .i64 x) w := fun _ _ _ => by kernel_rfl
              by_cases hk : brokenRule R l = 0
              · have G := Lib.hid (F5.out.trans (if_neg (fun hh => hh hk)))
                rw [hk]
                clear hk
                go_wp2_with fail
                go_ret
                exact ⟨ret_int G.out.symm, HW1.out⟩
              · have G := Lib.hid (F5.out.trans (if_pos hk))
                have e5 : (brokenRule R l == 0) = false := by simpa using hk
                have e6 : (brokenRule R l != 0) = true := by simpa using hk
                clear hk
                go_wp2_with fail
                go_ret
                exact ⟨ret_int G.out.symm, HW1.out⟩
    · have G : Hid (dtripErr R l t = 2) := Lib.hid (F1.out.trans (if_pos (by
        cases h1 : isClock t.start <;> cases h2 : within t.lo 0 200000 <;> cases h3 : within t.hi 0 200000 <;> first | rfl | exact absurd ⟨h1, h2, h3⟩ hb)))
      cases h1 : isClock t.start with
      | false =>
        go_wp2_with (first
          | (go_at_call 27
             refine (rIsTime_any _ _).mono ?_
             rintro e w' ⟨rfl, rfl⟩
             first | rw [h1] | rw [h4])
          | (go_at_call 34
             refine (bwithin_any _ _ _ _).mono ?_
             rintro e w' ⟨rfl, rfl⟩
             first | rw [h2] | rw [h3]))
        go_ret
        exact ⟨ret_int G.out.symm, HW.out⟩
      | true =>
        cases h2 : within t.lo 0 200000 with
        | false =>
          go_wp2_with (first
            | (go_at_call 27
               refine (rIsTime_any _ _).mono ?_
               rintro e w' ⟨rfl, rfl⟩
               first | rw [h1] | rw [h4])
            | (go_at_call 34
               refine (bwithin_any _ _ _ _).mono ?_
               rintro e w' ⟨rfl, rfl⟩
               first | rw [h2] | rw [h3]))
          go_ret
          exact ⟨ret_int G.out.symm, HW.out⟩
        | true =>
          cases h3 : within t.hi 0 200000 with
          | false =>
            go_wp2_with (first
              | (go_at_call 27
                 refine (rIsTime_any _ _).mono ?_
                 rintro e w' ⟨rfl, rfl⟩
                 first | rw [h1] | rw [h4])
              | (go_at_call 34
                 refine (bwithin_any _ _ _ _).mono ?_
                 rintro e w' ⟨rfl, rfl⟩
                 first | rw [h2] | rw [h3]))
            go_ret
            exact ⟨ret_int G.out.symm, HW.out⟩
          | true => exact absurd ⟨h1, h2, h3⟩ hb

set_option maxHeartbeats 3200000 in
set_option maxRecDepth 100000 in
theorem rAllowed_any (R : DRules) (l : List WRec) (t : DTrip) (A : Option Addr) (c : Nat) (w : World) (h : ArrW w A l c) (hR : Right l) (hT : Behind l t) (h1 : 0 ≤ t.lo ∧ t.lo ≤ 200000) (h2 : 0 ≤ t.hi ∧ t.hi ≤ 200000) :
    Calls Try.prog 33 #[drulesV R, .slice A l.length c, dtripV t] w fun e w' => e = .returned (.tuple #[.int .i64 (allowed R l t).1, .int .i64 (allowed R l t).2]) ∧ Below w.heap.size w w' := by
  have b1 := h.le.1
  have b2 := h.le.2
  have HA := Lib.hid h
  clear h
  have BR := Lib.hid ((RulesIn.new w R 23).keep (Keep.alloc _ (.cells #[.int .i64 t.start, .int .i64 t.lo, .int .i64 t.hi, .int .i64 t.next] 54)))
  have BT := Lib.hid (show TripIn ((w.alloc (.cells #[.int .i64 R.brk, .int .i64 R.rest, .int .i64 R.stint, .int .i64 R.shift, .int .i64 R.week] 23)).alloc (.cells #[.int .i64 t.start, .int .i64 t.lo, .int .i64 t.hi, .int .i64 t.next] 54)) (w.heap.size + 1) t from ⟨cellNew1 _ _ _ _ 0, cellNew1 _ _ _ _ 1, cellNew1 _ _ _ _ 2, cellNew1 _ _ _ _ 3⟩)
  go_enter Try.func33, Try.ntmps33
  go_upto_region 1 with fail
  generalize hwb : (w.alloc _).alloc _ = wb at *
  have HW : Hid (Below w.heap.size w wb) := by rw [← hwb]; exact Lib.hid (((Below.refl _ _).alloc (Nat.le_refl _) _).alloc (by simp) _)
  clear hwb
  obtain ⟨t0, t1, t2, t3⟩ := BT.out
  obtain ⟨a0, a1, a2, a3, a4⟩ := BR.out
  go_wp2_with fail
  refine (rBreaks_any R l t t.hi A c _ (HA.out.keep (Keep.below HW.out)) hR hT h2).mono ?_
  rintro e' w1 ⟨rfl, hb1⟩
  replace BR := Lib.hid (BR.out.keep (Keep.below hb1))
  replace BT := Lib.hid (BT.out.keep (Keep.below hb1))
  replace HW := Lib.hid (HW.out.trans (hb1.mono HW.out.size))
  clear hb1 t0 t1 t2 t3 a0 a1 a2 a3 a4
  by_cases hk : breaks R l t t.hi = 0
  · have G := Lib.hid (show allowed R l t = (2, 0) from if_pos hk)
    rw [hk]
    clear hk
    go_wp2_with fail
    go_ret2
    exact ⟨by rw [G.out]; rfl, HW.out⟩
  · have F := Lib.hid (show allowed R l t = if breaks R l t t.lo = 0 then (1, breaks R l t t.hi) else (0, breaks R l t t.hi) from if_neg hk)
    have e5 : (breaks R l t t.hi == 0) = false := by simpa using hk
    clear hk
    obtain ⟨t0, t1, t2, t3⟩ := BT.out
    obtain ⟨a0, a1, a2, a3, a4⟩ := BR.out
    go_wp2_with fail
    refine (rBreaks_any R l t t.lo A c _ (HA.out.keep (Keep.below HW.out)) hR hT h1).mono ?_
    rintro e' w2 ⟨rfl, hb1⟩
    replace BR := Lib.hid (BR.out.keep (Keep.below hb1))
    replace BT := Lib.hid (BT.out.keep (Keep.below hb1))
    replace HW := Lib.hid (HW.out.trans (hb1.mono HW.out.size))
    clear hb1 t0 t1 t2 t3 a0 a1 a2 a3 a4
    by_cases hj : breaks R l t t.lo = 0
    · have G := Lib.hid (F.out.trans (if_pos hj))
      rw [hj]
      clear hj
      go_wp2_with fail
      go_ret2
      exact ⟨by rw [G.out]; rfl, HW.out⟩
    · have G := Lib.hid (F.out.trans (if_neg hj))
      have e6 : (breaks R l t t.lo == 0) = false := by simpa using hj
      clear hj
      go_wp2_with fail
      go_ret2
      exact ⟨by rw [G.out]; rfl, HW.out⟩
end Go.Proofs.Ytaihiahoedpbiaa
/- A longer trip breaks what a shorter one breaks: plain facts. Condition: records are right. -/
namespace Go.Proofs.Ytaihiahoedpbiaa.Fs

theorem workTo_next (l : List WRec) (a b : Int) (k : Nat) : workTo l a b (k + 1) = workTo l a b k + overlapOf (listW l k) a b := rfl
theorem workTo_congr {l m : List WRec} (a b : Int) : ∀ k, (∀ i, i < k → listW l i = listW m i) → workTo l a b k = workTo m a b k
  | 0, _ => rfl
  | k + 1, h => by
    rw [workTo_next, workTo_next, workTo_congr a b k (fun i hi => h i (by omega)), h k (by omega)]
/-- A window that goes on by d loses no more work at its beginning than d. -/
theorem slide {l : List WRec} (h : Right l) (a d B : Int) (hd : 0 ≤ d) (hB : ∀ i, i < l.length → (listW l i).fin ≤ B) :
    ∀ k, k < l.length → workTo l a B (k + 1) ≤ workTo l (a + d) (B + d) (k + 1) + max 0 (min d ((listW l k).fin - a))
  | 0, hk => by
    have h1 := h.one 0 hk
    have h2 := hB 0 hk
    rw [workTo_next, workTo_next, show workTo l a B 0 = 0 from rfl, show workTo l (a + d) (B + d) 0 = 0 from rfl]
    unfold overlapOf
    omega
  | k + 1, hk => by
    have ih := slide h a d B hd hB k (by omega)
    have h1 := h.one (k + 1) hk
    have h2 := hB (k + 1) hk
    have h3 := h.next (k + 1) (by omega) hk
    rw [show k + 1 - 1 = k from rfl] at h3
    rw [workTo_next l a B (k + 1), workTo_next l (a + d) (B + d) (k + 1)]
    generalize workTo l a B (k + 1) = u at *
    generalize workTo l (a + d) (B + d) (k + 1) = v at *
    unfold overlapOf
    omega
theorem fin_le {l : List WRec} (h : Right l) : ∀ k, k < l.length → ∀ i, i ≤ k → (listW l i).fin ≤ (listW l k).fin
  | 0, _, i, hi => by obtain rfl : i = 0 := by omega
                      exact Int.le_refl _
  | k + 1, hk, i, hi => by
    by_cases e : i = k + 1
    · subst e; exact Int.le_refl _
    · have h1 := fin_le h k (by omega) i (by omega)
      have h2 := h.one (k + 1) hk
      have h3 := h.next (k + 1) (by omega) hk
      rw [show k + 1 - 1 = k from rfl] at h3
      omega
theorem slide_all {l : List WRec} (h : Right l) (a d B : Int) (hd : 0 ≤ d) (hB : 0 < l.length → (listW l (l.length - 1)).fin ≤ B) : workTo l a B l.length ≤ workTo l (a + d) (B + d) l.length + d := by
  rcases Nat.eq_zero_or_pos l.length with h0 | h0
  · rw [h0, show workTo l a B 0 = 0 from rfl, show workTo l (a + d) (B + d) 0 = 0 from rfl]; omega
  · have h1 := slide h a d B hd (fun i hi => Int.le_trans (fin_le h (l.length - 1) (by omega) i (by omega)) (hB h0)) (l.length - 1) (by omega)
    rw [Nat.sub_add_cancel h0] at h1
    omega
/-! ### a trip behind right records -/
theorem withTrip_at {l : List WRec} {s n : Int} {i : Nat} (h : i < l.length) : listW (withTrip l s n) i = listW l i := listW_left h
theorem withTrip_last (l : List WRec) (s n : Int) : listW (withTrip l s n) l.length = ⟨xName, s, s + n⟩ := listW_last l _
theorem firstIn_congr {l m : List WRec} (gap : Int) : ∀ k, (∀ i, i ≤ k → (listW l i).beg = (listW m i).beg) → (∀ i, i < k → (listW l i).fin = (listW m i).fin) → firstIn l gap k = firstIn m gap k
  | 0, _, _ => rfl
  | k + 1, h1, h2 => by
    rw [firstIn, firstIn, h1 (k + 1) (Nat.le_refl _), h2 k (by omega), firstIn_congr gap k (fun i hi => h1 i (by omega)) (fun i hi => h2 i (by omega))]
theorem withTrip_first (l : List WRec) (s n n' gap : Int) : firstIn (withTrip l s n) gap l.length = firstIn (withTrip l s n') gap l.length := by
  refine firstIn_congr gap _ (fun i hi => ?_) (fun i hi => ?_)
  · by_cases e : i < l.length
    · rw [withTrip_at e, withTrip_at e]
    · obtain rfl : i = l.length := by omega
      rw [withTrip_last, withTrip_last]
  · rw [withTrip_at hi, withTrip_at hi]
theorem lengthsTo_congr {l m : List WRec} (f : Nat) : ∀ k, (∀ i, i < k → listW l i = listW m i) → lengthsTo l f k = lengthsTo m f k
  | 0, _ => rfl
  | k + 1, h => by
    rw [lengthsTo, lengthsTo, lengthsTo_congr f k (fun i hi => h i (by omega)), h k (by omega)]
theorem withTrip_stint (l : List WRec) (s n brk : Int) : stintOf (withTrip l s n) brk l.length = lengthsTo l (firstIn (withTrip l s 0) brk l.length) l.length + n := by
  have hf := firstIn_le (withTrip l s 0) brk l.length
  rw [stintOf, withTrip_first l s n 0, lengthsTo_next hf, withTrip_last, lengthsTo_congr (m := l) _ l.length (fun i hi => withTrip_at hi)]
  show _ + (s + n) - s = _
  omega
theorem withTrip_shift (l : List WRec) (s n gap : Int) : (listW (withTrip l s n) l.length).fin - (listW (withTrip l s n) (firstIn (withTrip l s n) gap l.length)).beg = s + n - (listW (withTrip l s 0) (firstIn (withTrip l s 0) gap l.length)).beg := by
  have hf := firstIn_le (withTrip l s 0) gap l.length
  rw [withTrip_first l s n 0, withTrip_last]
  generalize firstIn (withTrip l s 0) gap l.length = f at *
  by_cases e : f < l.length
  · rw [withTrip_at e, withTrip_at e]
  · obtain rfl : f = l.length := by omega
    rw [withTrip_last, withTrip_last]
theorem withTrip_week (l : List WRec) (s n : Int) (hn : 0 ≤ n) (hn' : n ≤ 604800) : workTo (withTrip l s n) (s + n - 604800) (s + n) (l.length + 1) = workTo l (s + n - 604800) (s + n) l.length + n := by
  rw [workTo_next, withTrip_last, workTo_congr (m := l) _ _ l.length (fun i hi => withTrip_at hi)]
  unfold overlapOf
  dsimp only
  omega
theorem brokenAt_zero {R : DRules} {l : List WRec} {k : Nat} : brokenAt R l k = 0 ↔ stintOf l R.brk k ≤ R.stint ∧ (listW l k).fin - (listW l (firstIn l R.rest k)).beg ≤ R.shift ∧ workTo l ((listW l k).fin - 604800) (listW l k).fin (k + 1) ≤ R.week := by
  unfold brokenAt
  by_cases h1 : R.stint < stintOf l R.brk k
  · rw [if_pos h1]
    exact ⟨fun h => absurd h (by decide), fun h => absurd h.1 (by omega)⟩
  · rw [if_neg h1]
    by_cases h2 : R.shift < (listW l k).fin - (listW l (firstIn l R.rest k)).beg
    · rw [if_pos h2]
      exact ⟨fun h => absurd h (by decide), fun h => absurd h.2.1 (by omega)⟩
    · rw [if_neg h2]
      by_cases h3 : R.week < workTo l ((listW l k).fin - 604800) (listW l k).fin (k + 1)
      · rw [if_pos h3]
        exact ⟨fun h => absurd h (by decide), fun h => absurd h.2.2 (by omega)⟩
      · rw [if_neg h3]
        exact ⟨fun _ => ⟨by omega, by omega, by omega⟩, fun _ => rfl⟩
/-- The three rules at a trip's end, told of the records and of the trip's length. -/
theorem withTrip_zero {R : DRules} {l : List WRec} {s n : Int} (hn : 0 ≤ n) (hn' : n ≤ 604800) : brokenAt R (withTrip l s n) l.length = 0 ↔
    lengthsTo l (firstIn (withTrip l s 0) R.brk l.length) l.length + n ≤ R.stint ∧ s + n - (listW (withTrip l s 0) (firstIn (withTrip l s 0) R.rest l.length)).beg ≤ R.shift ∧ workTo l (s + n - 604800) (s + n) l.length + n ≤ R.week := by
  rw [brokenAt_zero, withTrip_stint, withTrip_shift, show (listW (withTrip l s n) l.length).fin = s + n by rw [withTrip_last], withTrip_week l s n hn hn']
theorem broken_mono {R : DRules} {l : List WRec} {s n n' : Int} (h : Right l) (hs : 0 < l.length → (listW l (l.length - 1)).fin ≤ s) (h0 : 0 ≤ n) (h1 : n ≤ n') (h2 : n' ≤ 604800) (hb : brokenAt R (withTrip l s n') l.length = 0) : brokenAt R (withTrip l s n) l.length = 0 := by
  rw [withTrip_zero (by omega) (by omega)] at hb ⊢
  have h3 := slide_all h (s + n - 604800) (n' - n) (s + n) (by omega) (fun hp => by have := hs hp; omega)
  rw [show s + n - 604800 + (n' - n) = s + n' - 604800 by omega, show s + n + (n' - n) = s + n' by omega] at h3
  exact ⟨by omega, by omega, by omega⟩
theorem breaks_zero {R : DRules} {l : List WRec} {t : DTrip} {n : Int} : breaks R l t n = 0 ↔ (0 < n → brokenAt R (withTrip l t.start n) l.length = 0) ∧ (t.next ≠ -1 → R.rest ≤ t.next - (t.start + n)) := by
  unfold breaks
  by_cases h1 : 0 < n ∧ brokenAt R (withTrip l t.start n) l.length ≠ 0
  · rw [if_pos h1]
    exact ⟨fun h => absurd h h1.2, fun h => absurd (h.1 h1.1) h1.2⟩
  · rw [if_neg h1]
    have h3 : 0 < n → brokenAt R (withTrip l t.start n) l.length = 0 := fun h => Classical.byContradiction fun hc => h1 ⟨h, hc⟩
    by_cases h2 : t.next ≠ -1 ∧ t.next - (t.start + n) < R.rest
    · rw [if_pos h2]
      exact ⟨fun h => absurd h (by decide), fun h => absurd (h.2 h2.1) (by omega)⟩
    · rw [if_neg h2]
      exact ⟨fun _ => ⟨h3, fun h => Int.not_lt.1 fun hc => h2 ⟨h, hc⟩⟩, fun _ => rfl⟩
theorem breaks_mono {R : DRules} {l : List WRec} {t : DTrip} {n n' : Int} (h : Right l) (hT : Behind l t) (h1 : n ≤ n') (h2 : n' ≤ 604800) (hb : breaks R l t n' = 0) : breaks R l t n = 0 := by
  rw [breaks_zero] at hb ⊢
  refine ⟨fun hp => broken_mono h hT.last (by omega) h1 h2 (hb.1 (by omega)), fun hx => ?_⟩
  have := hb.2 hx
  omega
end Go.Proofs.Ytaihiahoedpbiaa.Fs
/- The reference's LongestFrom. Condition: records are right, the start is behind them. -/
namespace Go.Proofs.Ytaihiahoedpbiaa
open Go.RowKit Fs

/-- n is the greatest length of a trip from a start that breaks no rule. -/
structure Fs.Longest (R : DRules) (l : List WRec) (t : DTrip) (n : Int) : Prop where
  n0 : 0 ≤ n
  n1 : n ≤ 200000
  ok : breaks R l t n = 0
  no : ∀ m, n < m → m ≤ 200000 → breaks R l t m ≠ 0
theorem Fs.Longest.same {R : DRules} {l : List WRec} {t : DTrip} {n m : Int} (h : Longest R l t n) (h' : Longest R l t m) : n = m := by
  rcases Int.lt_trichotomy n m with e | e | e
  · exact absurd h'.ok (h.no m e h'.n1)
  · exact e
  · exact absurd h.ok (h'.no n e h.n1)
def Fs.bare (s : Int) : DTrip := ⟨s, 0, 0, -1⟩
theorem Fs.bare_zero (R : DRules) (l : List WRec) (s : Int) : breaks R l (bare s) 0 = 0 :=
  breaks_zero.2 ⟨fun h => absurd h (by decide), fun h => absurd rfl h⟩

set_option linter.unusedSimpArgs false in
set_option maxHeartbeats 6400000 in
set_option maxRecDepth 100000 in
theorem rLongest_any (R : DRules) (l : List WRec) (s : Int) (A : Option Addr) (c : Nat) (w : World) (h : ArrW w A l c) (hR : Right l) (hT : Behind l (bare s)) :
    Calls Try.prog 36 #[drulesV R, .slice A l.length c, .int .i64 s] w fun e w' => (∃ n, e = .returned (.int .i64 n) ∧ Longest R l (bare s) n) ∧ Below w.heap.size w w' := by
  have b1 := h.le.1
  have b2 := h.le.2
  have HA := Lib.hid h
  clear h
  have BR := Lib.hid ((RulesIn.new w R 23).keep (Keep.alloc _ (.cells #[.int .i64 s, .int .i64 0, .int .i64 0, .int .i64 (-1)] 54)))
  have BT := Lib.hid (show TripIn ((w.alloc (.cells #[.int .i64 R.brk, .int .i64 R.rest, .int .i64 R.stint, .int .i64 R.shift, .int .i64 R.week] 23)).alloc (.cells #[.int .i64 s, .int .i64 0, .int .i64 0, .int .i64 (-1)] 54)) (w.heap.size + 1) (bare s) from ⟨cellNew1 _ _ _ _ 0, cellNew1 _ _ _ _ 1, cellNew1 _ _ _ _ 2, cellNew1 _ _ _ _ 3⟩)
  go_enter Try.func36, Try.ntmps36
  go_upto_region 2 with fail
  generalize hwb : (w.alloc _).alloc _ = wb at *
  have HW : Hid (Below w.heap.size w wb) := by rw [← hwb]; exact Lib.hid (((Below.refl _ _).alloc (Nat.le_refl _) _).alloc (by simp) _)
  clear hwb
  go_wp2_with fail
  go_loopw [8, 9] (fun u v wr => ∃ x y : Int, u = .int .i64 x ∧ v = .int .i64 y ∧ 0 ≤ x ∧ x ≤ y ∧ y ≤ 200000 ∧ Hid (breaks R l (bare s) x = 0) ∧ Hid (∀ m, y < m → m ≤ 200000 → breaks R l (bare s) m ≠ 0) ∧ Hid (Below wb.heap.size wb wr)) (fun u v _ => (intOf v - intOf u).toNat)
  case atStart => exact ⟨0, 200000, rfl, rfl, by omega, by omega, by omega, Lib.hid (bare_zero _ _ _), Lib.hid fun m h1 h2 => absurd h1 (by omega), Lib.hid (Below.refl _ _)⟩
  case round =>
    obtain ⟨x, y, rfl, rfl, hx0, hxy, hy, HX, HY, HB⟩ := hrel
    by_cases hlt : x < y
    · have d1 : decide (x < y) = true := decide_eq_true hlt
      obtain ⟨q, hq⟩ : ∃ q, q = -((-(x + y)) / 2) := ⟨_, rfl⟩
      have hq1 : x < q := by omega
      have hq2 : q ≤ y := by omega
      have hw1 : IntKind.i64.wrap (x + y) = x + y := by rw [IntKind.wrap_i64]; omega
      have hw2 : IntKind.i64.wrap (q - 1) = q - 1 := by rw [IntKind.wrap_i64]; omega
      have HQ := Lib.hid hq
      clear hq
      obtain ⟨t0, t1, t2, t3⟩ := BT.out.keep (Keep.below HB.out)
      obtain ⟨a0, a1, a2, a3, a4⟩ := BR.out.keep (Keep.below HB.out)
      go_wp2_with (go_at_call 91
                   refine (ceil_any (x + y) 2 _ (by omega) (by omega) (by decide) (by decide)).mono ?_
                   rintro e w' ⟨rfl, rfl⟩
                   rw [← HQ.out])
      refine (rBreaks_any R l (bare s) q A c _ ((HA.out.keep (Keep.below HW.out)).keep (Keep.below HB.out)) hR hT ⟨by omega, by omega⟩).mono ?_
      rintro e' w1 ⟨rfl, hb1⟩
      have HB1 := Lib.hid (HB.out.trans (hb1.mono HB.out.size))
      clear hb1 t0 t1 t2 t3 a0 a1 a2 a3 a4
      by_cases hk : breaks R l (bare s) q = 0
      · have HK := Lib.hid hk
        rw [hk]
        clear hk
        go_wp2_with fail
        go_roundw
        case rel => exact ⟨q, y, rfl, rfl, by omega, hq2, hy, HK, HY, HB1⟩
        case measure => simp [intOf]; omega
      · have HK := Lib.hid hk
        have e5 : (breaks R l (bare s) q == 0) = false := by simpa using hk
        clear hk
        go_wp2_with fail
        go_roundw
        case rel => exact ⟨x, q - 1, rfl, rfl, hx0, by omega, by omega, HX, Lib.hid fun m h1 h2 hm => HK.out (breaks_mono hR hT (show q ≤ m by omega) (by omega) hm), HB1⟩
        case measure => simp [intOf]; omega
    · have d1 : decide (x < y) = false := decide_eq_false hlt
      have hexy : x = y := by omega
      have L : Hid (Longest R l (bare s) x) := Lib.hid ⟨hx0, by omega, HX.out, by rw [hexy]; exact HY.out⟩
      clear hexy
      go_wp2_with fail
      go_ret
      exact ⟨⟨x, rfl, L.out⟩, HW.out.trans (HB.out.mono HW.out.size)⟩
end Go.Proofs.Ytaihiahoedpbiaa

/- The reference's EarliestStart. Condition: the rules, the records and the trip are right. -/
import Derived.Test.YtolicafhbeiciaaD25
import Derived.Test.YtolicafhbeiciaaT36
namespace Go.Proofs.Ytolicafhbeiciaa
open Go.RowKit Fs

theorem oneI (w : World) (x : Int) : ArrI (w.alloc (.cells #[.int .i64 x] 3)) (some ⟨w.heap.size, 0, none⟩) [x] 1 := by
  refine ⟨Nat.le_refl _, by omega, fun _ => ⟨w.heap.size, 0, rfl, fun i j hi hj => ?_⟩⟩
  obtain rfl : i = 0 := by have : i < 1 := hi; omega
  obtain rfl : j = 0 := by omega
  exact cellNew _ _ _ 0
set_option linter.unusedSimpArgs false in
set_option maxHeartbeats 12800000 in
set_option maxRecDepth 100000 in
theorem rEarliest_any (R : DRules) (l : List WRec) (t : DTrip) (A : Option Addr) (c : Nat) (w : World) (h : ArrW w A l c) (hY : Ready R l t) (hk : 1 ≤ R.brk ∧ R.brk ≤ 2000000) (hr : 1 ≤ R.rest ∧ R.rest ≤ 2000000) :
    Calls Try.prog 38 #[drulesV R, .slice A l.length c, dtripV t] w fun e w' => (∃ n, e = .returned (.int .i64 n) ∧ Earliest R l t n) ∧ Below w.heap.size w w' := by
  have b1 := h.le.1
  have b2 := h.le.2
  have HA := Lib.hid h
  clear h
  have BR := Lib.hid ((RulesIn.new w R 23).keep (Keep.alloc _ (.cells #[.int .i64 t.start, .int .i64 t.lo, .int .i64 t.hi, .int .i64 t.next] 54)))
  have BT := Lib.hid (show TripIn ((w.alloc (.cells #[.int .i64 R.brk, .int .i64 R.rest, .int .i64 R.stint, .int .i64 R.shift, .int .i64 R.week] 23)).alloc (.cells #[.int .i64 t.start, .int .i64 t.lo, .int .i64 t.hi, .int .i64 t.next] 54)) (w.heap.size + 1) t from ⟨cellNew1 _ _ _ _ 0, cellNew1 _ _ _ _ 1, cellNew1 _ _ _ _ 2, cellNew1 _ _ _ _ 3⟩)
  have hs0 := hY.behind.from0
  have hs1 := hY.behind.from1
  have hl40 := hY.behind.len
  have hh0 := hY.hi0
  have hh1 := hY.hi1
  obtain ⟨hk0, hk1⟩ := hk
  obtain ⟨hr0, hr1⟩ := hr
  have HY := Lib.hid hY
  clear hY
  have hwe : IntKind.i64.wrap (t.start + 10000000) = t.start + 10000000 := by rw [IntKind.wrap_i64]; omega
  obtain ⟨en, hen⟩ : ∃ en, en = endOf t.start := ⟨_, rfl⟩
  have hen' : min (t.start + 10000000) 8640000000 = en := hen.symm
  have hem : en ≤ 8640000000 := by rw [hen]; unfold endOf; omega
  have HEN := Lib.hid hen
  clear hen
  obtain ⟨B, hB⟩ : ∃ B, B = beginsOf R l t.start := ⟨_, rfl⟩
  have HBG := Lib.hid hB
  clear hB
  obtain ⟨i0, hi, hz0, hz1, hz2⟩ := info_parts Try.infoInt
  go_enter Try.func38, Try.ntmps38
  go_upto_region 1 with fail
  generalize hwb : (w.alloc _).alloc _ = wb at *
  have HW : Hid (Below w.heap.size w wb) := by rw [← hwb]; exact Lib.hid (((Below.refl _ _).alloc (Nat.le_refl _) _).alloc (by simp) _)
  clear hwb
  obtain ⟨t0, t1, t2, t3⟩ := BT.out
  obtain ⟨a0, a1, a2, a3, a4⟩ := BR.out
  go_upto_region 3 with fail
  have HO := Lib.hid (World.ownsRow_lit (e := 3) (size := 1) (base := wb.heap.size) wb #[.int .i64 t.start] 1 (Nat.le_refl _) (by unfold maxLen; omega) rfl)
  have H0 := Lib.hid (oneI wb t.start)
  have HX0 : Hid (Below wb.heap.size wb (wb.alloc (.cells #[.int .i64 t.start] 3))) := Lib.hid ((Below.refl _ _).alloc (Nat.le_refl _) _)
  generalize hww : wb.alloc _ = w0 at *
  clear hww
  clear t0 t1 t2 t3 a0 a1 a2 a3 a4
  obtain ⟨t0, t1, t2, t3⟩ := BT.out.keep (Keep.below HX0.out)
  obtain ⟨a0, a1, a2, a3, a4⟩ := BR.out.keep (Keep.below HX0.out)
  go_cut [24] from 22 to 24 (fun s wx => s = .bool (decide (0 < l.length)) ∧ w0 = wx)
  case first =>
    have z1 : decide ((l.length : Int) > 0) = decide (0 < l.length) := by by_cases h : 0 < l.length <;> simp [h]
    go_wp2_with fail
    go_meet
    exact ⟨by first | rfl | (simp; done), rfl⟩
  case rest =>
    obtain ⟨rfl, rfl⟩ := hcut
    first
      | (rename_i hK0; refine hK0 _ _ ?_)
      | (rename_i hK0 _; refine hK0 _ _ ?_)
      | (rename_i hK0 _ _; refine hK0 _ _ ?_)
      | (rename_i hK0 _ _ _; refine hK0 _ _ ?_)
      | (rename_i hK0 _ _ _ _; refine hK0 _ _ ?_)
      | (rename_i hK0 _ _ _ _ _; refine hK0 _ _ ?_)
    go_cut [8] from 9 to 48 (fun s wx => ∃ A8 c8, s = .slice A8 B.length c8 ∧ Hid (ArrI wx A8 B c8) ∧ Hid (Below wb.heap.size wb wx))
    case first =>
      by_cases h0 : l.length = 0
      · have d1 : decide ((l.length : Int) > 0) = false := decide_eq_false (by omega)
        have d2 : decide (0 < (l.length : Int)) = false := decide_eq_false (by omega)
        have d3 : decide (0 < l.length) = false := decide_eq_false (by omega)
        have hBB := Lib.hid (show B = [t.start] by rw [HBG.out]; unfold beginsOf; rw [if_pos h0])
        clear h0
        rw [d3]
        go_wp2_with fail
        go_meet
        exact ⟨_, 1, by rw [hBB.out]; rfl, by rw [hBB.out]; exact H0, HX0⟩
      · have d1 : decide ((l.length : Int) > 0) = true := decide_eq_true (by omega)
        have d2 : decide (0 < (l.length : Int)) = true := decide_eq_true (by omega)
        have d3 : decide (0 < l.length) = true := decide_eq_true (by omega)
        obtain ⟨j, hj⟩ : ∃ j, j = l.length - 1 := ⟨_, rfl⟩
        have hBB := Lib.hid (show B = [t.start, max t.start ((listW l j).fin + R.brk), max t.start ((listW l j).fin + R.rest)] by rw [HBG.out, hj]; unfold beginsOf; rw [if_neg h0]; rfl)
        have hkp : (l.length : Int) - 1 = (j : Int) := by omega
        have hwk : IntKind.i64.wrap ((l.length : Int) - 1) = (j : Int) := by rw [IntKind.wrap_i64]; omega
        have hkj : (j : Int) < (l.length : Int) := by omega
        have x1 := HY.out.right.one j (by omega)
        have hw1 : IntKind.i64.wrap ((listW l j).fin + R.brk) = (listW l j).fin + R.brk := by rw [IntKind.wrap_i64]; omega
        have hw2 : IntKind.i64.wrap ((listW l j).fin + R.rest) = (listW l j).fin + R.rest := by rw [IntKind.wrap_i64]; omega
        obtain ⟨b, o, rfl, q⟩ := (HA.out.keep (Keep.below (HW.out.trans (HX0.out.mono HW.out.size)))).at_ (k := j) (by omega)
        obtain ⟨q0, q1, q2⟩ := q
        clear hj h0
        rw [d3]
        go_wp2_with (at_builtin
                     refine wpList_append_own _ rfl (.tmp 32) (.tmp 47) 92 rfl wb.heap.size 3 i0 (.int .i64 0) 1 8 Try.underlying92 hi hz0 hz1 hz2 rfl (by decide) _ _ _ rfl (HO.out.alloc _) ⟨_, 0, none⟩ 2 2 [.int .i64 (max t.start ((listW l j).fin + R.brk)), .int .i64 (max t.start ((listW l j).fin + R.rest))] rfl rfl ?c1 ?c2 ?c3 ?c4 ?c5 ?_)
        case c2 => exact ⟨rfl, rfl⟩
        case c3 => unfold maxLen; omega
        case c5 => have := HX0.out.size; simp; omega
        intro v9 w9 ho9 hg9 _
        obtain ⟨A8, c8, rfl, ha8⟩ := own_arr (l := [t.start, max t.start ((listW l j).fin + R.brk), max t.start ((listW l j).fin + R.rest)]) ho9
        have H8 := Lib.hid ha8
        have HX := Lib.hid ((HX0.out.alloc HX0.out.size _).grown hg9 (by have := HX0.out.size; simp; omega) (fun j hj => (HO.out.lt j hj).1))
        clear ho9 hg9 ha8
        go_wp2_with fail
        go_meet
        exact ⟨A8, c8, by rw [hBB.out], by rw [hBB.out]; exact H8, HX⟩
    case rest =>
      obtain ⟨A8, c8, rfl, H8, HC⟩ := hcut
      have b3 := H8.out.le.1
      have b4 := H8.out.le.2
      have hBl : B.length ≤ 3 := by rw [HBG.out]; unfold beginsOf; split <;> simp
      clear t0 t1 t2 t3 a0 a1 a2 a3 a4 hen' hwe
      go_wp2_with fail
      go_loopw [10] (fun s wr => ∃ i : Nat, i ≤ B.length ∧ s = .int .i64 i ∧ Hid (Done R l t B i) ∧ Hid (Below wc.heap.size wc wr)) (fun s _ => B.length - (intOf s).toNat)
      case atStart => exact ⟨0, Nat.zero_le _, rfl, Lib.hid (by rw [HBG.out]; exact done_zero R l t), Lib.hid (Below.refl _ _)⟩
      case round =>
        obtain ⟨i, hi', rfl, HD, HB1⟩ := hrel
        by_cases hlt : i < B.length
        · have hki : (i : Int) < (B.length : Int) := by omega
          obtain ⟨b8, o8, rfl, s0⟩ := (H8.out.keep (Keep.below HB1.out)).at_ hlt
          obtain ⟨b0, hb0⟩ : ∃ b0, b0 = listI B i := ⟨_, rfl⟩
          have HB0 := Lib.hid hb0
          have hbs : t.start ≤ b0 := by rw [hb0, HBG.out]; exact begins_from (by rw [← HBG.out]; exact hlt)
          rw [← hb0] at s0
          clear hb0
          by_cases hfar : en < b0
          · have d4 : decide (b0 > en) = true := decide_eq_true hfar
            have d5 : decide (en < b0) = true := decide_eq_true hfar
            have G : Hid (Done R l t B (i + 1)) := Lib.hid (by rw [HBG.out]; exact done_far (by rw [← HBG.out]; exact hlt) (by rw [← HBG.out]; exact HD.out) (by rw [← HEN.out, ← HBG.out, ← HB0.out]; exact hfar))
            go_wp2_with fail
            go_roundw
            case rel => exact ⟨i + 1, by omega, by go_num, G, HB1⟩
            case measure => simp [intOf]; omega
          · have d4 : decide (b0 > en) = false := decide_eq_false hfar
            have d5 : decide (en < b0) = false := decide_eq_false hfar
            go_wp2_with fail
            go_loopw [11, 12] (fun u v wr => ∃ x y : Int, u = .int .i64 x ∧ v = .int .i64 y ∧ b0 ≤ x ∧ x ≤ y ∧ y ≤ en ∧ Hid (∀ z, b0 ≤ z → z < x → R.week < weekly l z t.hi) ∧ Hid (y = en ∨ weekly l y t.hi ≤ R.week) ∧ Hid (Below wc.heap.size wc wr)) (fun u v _ => (intOf v - intOf u).toNat)
            case atStart => exact ⟨b0, en, rfl, rfl, Int.le_refl _, by omega, Int.le_refl _, Lib.hid fun z h1 h2 => absurd h1 (by omega), Lib.hid (Or.inl rfl), HB1⟩
            case round =>
              clear HB1
              obtain ⟨x, y, rfl, rfl, hx0, hxy, hy, HX, HYY, HB1⟩ := hrel
              have HB2 := Lib.hid (HC.out.trans (HB1.out.mono HC.out.size))
              by_cases hlt : x < y
              · have d1 : decide (x < y) = true := decide_eq_true hlt
                obtain ⟨q, hq⟩ : ∃ q, q = (x + y) / 2 := ⟨_, rfl⟩
                have hq1 : x ≤ q := by omega
                have hq2 : q < y := by omega
                have hw1 : IntKind.i64.wrap (x + y) = x + y := by rw [IntKind.wrap_i64]; omega
                have hw2 : IntKind.i64.wrap (q + 1) = q + 1 := by rw [IntKind.wrap_i64]; omega
                have HQ := Lib.hid hq
                clear hq
                obtain ⟨t0, t1, t2, t3⟩ := BT.out.keep (Keep.below HB2.out)
                obtain ⟨a0, a1, a2, a3, a4⟩ := BR.out.keep (Keep.below HB2.out)
                obtain ⟨wq, hwq⟩ : ∃ wq, wq = wr := ⟨_, rfl⟩
                subst hwq
                by_cases hk : weekly l q t.hi ≤ R.week
                · have d2 : decide (weekly l q t.hi ≤ R.week) = true := decide_eq_true hk
                  have HK := Lib.hid hk
                  clear hk
                  go_wp2_with (go_at_call 94
                               refine (floor_any (x + y) 2 _ (by omega) (by omega) (by decide) (by decide)).mono ?_
                               rintro e w' ⟨rfl, rfl⟩
                               rw [← HQ.out])
                  obtain ⟨C, Ci, Co⟩ := classOf wq
                  refine quietC (C := C) (by kernel_rfl) (by kernel_rfl) (Co.out _ (Below.refl _ _).drew) ?_
                  repeat (first
                    | go_big_quiet_skip
                    | (go_big_quiet_want; go_big_quiet_op; go_big_quiet_on)
                    | (refine quiet_yes (by rfl) ?_
                       apply Exists.intro
                       refine ⟨fun w' hC => ?_, ?_⟩
                       · have hbb := Ci.out _ hC
                         have zz0 := Keep.below hbb _ _ t2
                         have zz1 := Keep.below hbb _ _ a4
                         go_simp
                         first
                           | done
                           | rfl
                           | (go_at_call 95
                              refine (rWeekly_any l q t.hi A c _ (HA.out.keep (Keep.below (HW.out.trans ((HB2.out.trans (hbb.mono HB2.out.size)).mono HW.out.size)))) HY.out.right ⟨by omega, by omega⟩ ⟨hh0, hh1⟩).mono ?_
                              rintro e' w1 ⟨rfl, hb1⟩
                              exact ⟨rfl, Co.out _ (hbb.trans (hb1.mono hbb.size))⟩)
                       simp only [Act.put, List.setIfInBounds_toArray, List.set_cons_zero, List.set_cons_succ]))
                  refine wpQuiet_nil ?_
                  intro wz hC1
                  have HZ := Lib.hid (HB1.out.trans ((Ci.out _ hC1).mono HB1.out.size))
                  clear hC1 Ci Co
                  go_wp2_with fail
                  go_roundw
                  case rel => exact ⟨x, q, rfl, rfl, hx0, hq1, by omega, HX, Lib.hid (Or.inr HK.out), HZ⟩
                  case measure => simp [intOf]; omega
                · have d2 : decide (weekly l q t.hi ≤ R.week) = false := decide_eq_false hk
                  have HK := Lib.hid (show R.week < weekly l q t.hi by omega)
                  clear hk
                  go_wp2_with (go_at_call 94
                               refine (floor_any (x + y) 2 _ (by omega) (by omega) (by decide) (by decide)).mono ?_
                               rintro e w' ⟨rfl, rfl⟩
                               rw [← HQ.out])
                  obtain ⟨C, Ci, Co⟩ := classOf wq
                  refine quietC (C := C) (by kernel_rfl) (by kernel_rfl) (Co.out _ (Below.refl _ _).drew) ?_
                  repeat (first
                    | go_big_quiet_skip
                    | (go_big_quiet_want; go_big_quiet_op; go_big_quiet_on)
                    | (refine quiet_yes (by rfl) ?_
                       apply Exists.intro
                       refine ⟨fun w' hC => ?_, ?_⟩
                       · have hbb := Ci.out _ hC
                         have zz0 := Keep.below hbb _ _ t2
                         have zz1 := Keep.below hbb _ _ a4
                         go_simp
                         first
                           | done
                           | rfl
                           | (go_at_call 95
                              refine (rWeekly_any l q t.hi A c _ (HA.out.keep (Keep.below (HW.out.trans ((HB2.out.trans (hbb.mono HB2.out.size)).mono HW.out.size)))) HY.out.right ⟨by omega, by omega⟩ ⟨hh0, hh1⟩).mono ?_
                              rintro e' w1 ⟨rfl, hb1⟩
                              exact ⟨rfl, Co.out _ (hbb.trans (hb1.mono hbb.size))⟩)
                       simp only [Act.put, List.setIfInBounds_toArray, List.set_cons_zero, List.set_cons_succ]))
                  refine wpQuiet_nil ?_
                  intro wz hC1
                  have HZ := Lib.hid (HB1.out.trans ((Ci.out _ hC1).mono HB1.out.size))
                  clear hC1 Ci Co
                  go_wp2_with fail
                  go_roundw
                  case rel =>
                    exact ⟨q + 1, y, rfl, rfl, by omega, by omega, hy, Lib.hid fun z h1 h2 => Int.lt_of_lt_of_le HK.out (weekly_falls HY.out.right (show z ≤ q by omega) (HY.out.last (by omega))), HYY, HZ⟩
                  case measure => simp [intOf]; omega
              · have d1 : decide (x < y) = false := decide_eq_false hlt
                have hexy : y = x := by omega
                have WA : Hid (WeekAt R l t b0 en x) := Lib.hid ⟨hx0, by omega, HX.out, by have := HYY.out; rwa [hexy] at this⟩
                clear hexy hlt HX HYY hxy hy
                obtain ⟨t0, t1, t2, t3⟩ := BT.out.keep (Keep.below HB2.out)
                obtain ⟨a0, a1, a2, a3, a4⟩ := BR.out.keep (Keep.below HB2.out)
                have hxe := WA.out.top
                have hxl := WA.out.low
                have BO : Hid (TripIn (wr.alloc (.cells #[.int .i64 x, .int .i64 t.lo, .int .i64 t.hi, .int .i64 t.next] 54)) wr.heap.size (fromAt t x)) := Lib.hid ⟨cellNew wr _ _ 0, cellNew wr _ _ 1, cellNew wr _ _ 2, cellNew wr _ _ 3⟩
                have HWO : Hid (Below wc.heap.size wc (wr.alloc (.cells #[.int .i64 x, .int .i64 t.lo, .int .i64 t.hi, .int .i64 t.next] 54))) := Lib.hid (HB1.out.alloc HB1.out.size _)
                have HBH : Hid (Behind l (fromAt t x)) := Lib.hid ⟨hl40, by show 0 ≤ x; omega, by show x ≤ 8640000000; omega, HY.out.behind.next0, HY.out.behind.next1, HY.out.last (show t.start ≤ x by omega)⟩
                go_upto_region 18 with fail
                generalize hwo : World.alloc wr _ = wo at *
                clear hwo t0 t1 t2 t3 a0 a1 a2 a3 a4
                have HW3 := Lib.hid (HC.out.trans (HWO.out.mono HC.out.size))
                have HW4 := Lib.hid (HW.out.trans (HW3.out.mono HW.out.size))
                obtain ⟨i', hi'⟩ : ∃ i' : Nat, i' = i + 1 := ⟨_, rfl⟩
                have HII := Lib.hid hi'
                have hwi : IntKind.i64.wrap ((i : Int) + 1) = (i' : Int) := by rw [IntKind.wrap_i64]; omega
                by_cases hn : i + 1 < B.length
                · have k1 : decide ((i' : Int) < (B.length : Int)) = true := decide_eq_true (by omega)
                  have k2 : (i' : Int) < (B.length : Int) := by omega
                  have k4 : decide (i' < B.length) = true := decide_eq_true (by omega)
                  obtain ⟨b9, o9, e9, s1⟩ := (H8.out.keep (Keep.below HWO.out)).at_ hn
                  obtain ⟨rfl, rfl⟩ : b8 = b9 ∧ o8 = o9 := by simpa using e9
                  clear e9
                  obtain ⟨b9, o9, e9, s0⟩ := (H8.out.keep (Keep.below HWO.out)).at_ hlt
                  obtain ⟨rfl, rfl⟩ : b8 = b9 ∧ o8 = o9 := by simpa using e9
                  clear e9
                  rw [← HB0.out] at s0
                  obtain ⟨bn, hbn⟩ : ∃ bn, bn = listI B (i + 1) := ⟨_, rfl⟩
                  have HBN := Lib.hid hbn
                  rw [← hbn, ← hi'] at s1
                  clear hbn hi'
                  by_cases hge : bn ≤ x
                  · have k5 : decide (x ≥ bn) = true := decide_eq_true hge
                    have k6 : decide (bn ≤ x) = true := decide_eq_true hge
                    by_cases hgt : b0 < bn
                    · have k7 : decide (bn > b0) = true := decide_eq_true hgt
                      have k8 : decide (b0 < bn) = true := decide_eq_true hgt
                      have G : Hid (Done R l t B (i + 1)) := Lib.hid (by
                        rw [HBG.out]
                        exact done_skip HY.out (by rw [← HBG.out]; exact hn) (by rw [← HBG.out]; exact HD.out) (by rw [← HBG.out, ← HB0.out, ← HEN.out]; exact WA.out) (by rw [← HBG.out, ← HBN.out]; exact hge))
                      go_wp2_with fail
                      have HBd : Hid (Below wo.heap.size wo wo.drew) := Lib.hid (Below.refl _ _).drew
                      have MK : Hid (∀ w', Below wo.heap.size wo w' → w'.cell? ⟨b8, o8 + i, none⟩ = some (.int .i64 b0) ∧ w'.cell? ⟨b8, o8 + i', none⟩ = some (.int .i64 bn) ∧ Hid (Below wo.heap.size wo w')) :=
                        Lib.hid fun w' hw => ⟨Keep.below hw _ _ s0, Keep.below hw _ _ s1, Lib.hid hw⟩
                      refine wp_region_held_drew (S := fun w' => w'.cell? ⟨b8, o8 + i, none⟩ = some (.int .i64 b0) ∧ w'.cell? ⟨b8, o8 + i', none⟩ = some (.int .i64 bn) ∧ Hid (Below wo.heap.size wo w')) (by kernel_rfl) (MK.out _ HBd.out) (fun hHeld => ?_)
                      refine wpAnyH_take (i := 0) (v := ?val0x1) rfl (by kernel_rfl) (by kernel_rfl) (by kernel_rfl) (fun _ _ _ h => h) (Or.inl ⟨by rfl, fun w9 hS9 => ?yields0x1⟩) (by assumption) ?later0x1
                      case yields0x1 =>
                        dsimp only at hS9
                        go_simp
                        try with_reducible rfl
                      try simp only [Act.put, List.getElem_toArray, List.getElem_cons_succ, List.getElem_cons_zero, List.setIfInBounds_toArray, List.set_cons_zero, List.set_cons_succ]
                      refine wpAnyH_take (i := 1) (v := ?val1x2) rfl (by kernel_rfl) (by kernel_rfl) (by kernel_rfl) (fun _ _ _ h => h) (Or.inl ⟨by rfl, fun w9 hS9 => ?yields1x2⟩) (by assumption) ?later1x2
                      case yields1x2 =>
                        dsimp only at hS9
                        go_simp
                        try with_reducible rfl
                      try simp only [Act.put, List.getElem_toArray, List.getElem_cons_succ, List.getElem_cons_zero, List.setIfInBounds_toArray, List.set_cons_zero, List.set_cons_succ]
                      refine wpAnyH_take (i := 2) (v := ?val2x3) rfl (by kernel_rfl) (by kernel_rfl) (by kernel_rfl) (fun _ _ _ h => h) (Or.inl ⟨by rfl, fun w9 hS9 => ?yields2x3⟩) (by assumption) ?later2x3
                      case yields2x3 =>
                        dsimp only at hS9
                        go_simp
                        try with_reducible rfl
                      try simp only [Act.put, List.getElem_toArray, List.getElem_cons_succ, List.getElem_cons_zero, List.setIfInBounds_toArray, List.set_cons_zero, List.set_cons_succ]
                      refine wpAnyH_take (i := 3) (v := ?val3x4) rfl (by kernel_rfl) (by kernel_rfl) (by kernel_rfl) (fun _ _ _ h => h) (Or.inl ⟨by rfl, fun w9 hS9 => ?yields3x4⟩) (by assumption) ?later3x4
                      case yields3x4 =>
                        dsimp only at hS9
                        go_simp
                        try with_reducible rfl
                      try simp only [Act.put, List.getElem_toArray, List.getElem_cons_succ, List.getElem_cons_zero, List.setIfInBounds_toArray, List.set_cons_zero, List.set_cons_succ]
                      refine wpAnyH_take (i := 4) (v := ?val4x5) rfl (by kernel_rfl) (by kernel_rfl) (by kernel_rfl) (fun _ _ _ h => h) (Or.inl ⟨by rfl, fun w9 hS9 => ?yields4x5⟩) (by assumption) ?later4x5
                      case yields4x5 =>
                        dsimp only at hS9
                        go_simp
                        try with_reducible rfl
                      try simp only [Act.put, List.getElem_toArray, List.getElem_cons_succ, List.getElem_cons_zero, List.setIfInBounds_toArray, List.set_cons_zero, List.set_cons_succ]
                      refine wpAnyH_take (i := 5) (v := ?val5x6) rfl (by kernel_rfl) (by kernel_rfl) (by kernel_rfl) (fun _ _ _ h => h) (Or.inl ⟨by rfl, fun w9 hS9 => ?yields5x6⟩) (by assumption) ?later5x6
                      case yields5x6 =>
                        dsimp only at hS9
                        go_simp
                        try with_reducible rfl
                      try simp only [Act.put, List.getElem_toArray, List.getElem_cons_succ, List.getElem_cons_zero, List.setIfInBounds_toArray, List.set_cons_zero, List.set_cons_succ]
                      refine wpAnyH_take (i := 6) (v := ?val6x7) rfl (by kernel_rfl) (by kernel_rfl) (by kernel_rfl) (fun _ _ _ h => h) (Or.inl ⟨by rfl, fun w9 hS9 => ?yields6x7⟩) (by assumption) ?later6x7
                      case yields6x7 =>
                        dsimp only at hS9
                        go_simp
                        try with_reducible rfl
                      try simp only [Act.put, List.getElem_toArray, List.getElem_cons_succ, List.getElem_cons_zero, List.setIfInBounds_toArray, List.set_cons_zero, List.set_cons_succ]
                      refine wpAnyH_take (i := 7) (v := ?val7x8) rfl (by kernel_rfl) (by kernel_rfl) (by kernel_rfl) (fun _ _ _ h => h) (Or.inl ⟨by rfl, fun w9 hS9 => ?yields7x8⟩) (by assumption) ?later7x8
                      case yields7x8 =>
                        dsimp only at hS9
                        go_simp
                        try with_reducible rfl
                      try simp only [Act.put, List.getElem_toArray, List.getElem_cons_succ, List.getElem_cons_zero, List.setIfInBounds_toArray, List.set_cons_zero, List.set_cons_succ]
                      refine wpAnyH_take (i := 8) (v := ?val8x9) rfl (by kernel_rfl) (by kernel_rfl) (by kernel_rfl) (fun _ _ _ h => h) (Or.inl ⟨by rfl, fun w9 hS9 => ?yields8x9⟩) (by assumption) ?later8x9
                      case yields8x9 =>
                        dsimp only at hS9
                        go_simp
                        try with_reducible rfl
                      try simp only [Act.put, List.getElem_toArray, List.getElem_cons_succ, List.getElem_cons_zero, List.setIfInBounds_toArray, List.set_cons_zero, List.set_cons_succ]
                      refine wpAnyH_take (i := 9) (v := ?val9x10) rfl (by kernel_rfl) (by kernel_rfl) (by kernel_rfl) (fun _ _ _ h => h) (Or.inl ⟨by rfl, fun w9 hS9 => ?yields9x10⟩) (by assumption) ?later9x10
                      case yields9x10 =>
                        dsimp only at hS9
                        go_simp
                        try with_reducible rfl
                      try simp only [Act.put, List.getElem_toArray, List.getElem_cons_succ, List.getElem_cons_zero, List.setIfInBounds_toArray, List.set_cons_zero, List.set_cons_succ]
                      refine wpAnyH_take (i := 10) (v := ?val10x11) rfl (by kernel_rfl) (by kernel_rfl) (by kernel_rfl) (fun _ _ _ h => h) (Or.inl ⟨by rfl, fun w9 hS9 => ?yields10x11⟩) (by assumption) ?later10x11
                      case yields10x11 =>
                        dsimp only at hS9
                        go_simp
                        try with_reducible rfl
                      try simp only [Act.put, List.getElem_toArray, List.getElem_cons_succ, List.getElem_cons_zero, List.setIfInBounds_toArray, List.set_cons_zero, List.set_cons_succ]
                      refine wpAnyH_take (i := 11) (v := ?val11x12) rfl (by kernel_rfl) (by kernel_rfl) (by kernel_rfl) (fun _ _ _ h => h) (Or.inl ⟨by rfl, fun w9 hS9 => ?yields11x12⟩) (by assumption) ?later11x12
                      case yields11x12 =>
                        dsimp only at hS9
                        go_simp
                        try with_reducible rfl
                      try simp only [Act.put, List.getElem_toArray, List.getElem_cons_succ, List.getElem_cons_zero, List.setIfInBounds_toArray, List.set_cons_zero, List.set_cons_succ]
                      refine wpAnyH_take (i := 12) (v := ?val12x13) rfl (by kernel_rfl) (by kernel_rfl) (by kernel_rfl) (fun _ _ _ h => h) (Or.inl ⟨by rfl, fun w9 hS9 => ?yields12x13⟩) (by assumption) ?later12x13
                      case yields12x13 =>
                        dsimp only at hS9
                        go_simp
                        try with_reducible rfl
                      try simp only [Act.put, List.getElem_toArray, List.getElem_cons_succ, List.getElem_cons_zero, List.setIfInBounds_toArray, List.set_cons_zero, List.set_cons_succ]
                      refine wpAnyH_take (i := 13) (v := ?val13x14) rfl (by kernel_rfl) (by kernel_rfl) (by kernel_rfl) (fun _ _ _ h => h) (Or.inl ⟨by rfl, fun w9 hS9 => ?yields13x14⟩) (by assumption) ?later13x14
                      case yields13x14 =>
                        dsimp only at hS9
                        go_simp
                        try with_reducible rfl
                      try simp only [Act.put, List.getElem_toArray, List.getElem_cons_succ, List.getElem_cons_zero, List.setIfInBounds_toArray, List.set_cons_zero, List.set_cons_succ]
                      refine wpAnyH_take (i := 14) (v := ?val14x15) rfl (by kernel_rfl) (by kernel_rfl) (by kernel_rfl) (fun _ _ _ h => h) (Or.inl ⟨by rfl, fun w9 hS9 => ?yields14x15⟩) (by assumption) ?later14x15
                      case yields14x15 =>
                        dsimp only at hS9
                        go_simp
                        try with_reducible rfl
                      try simp only [Act.put, List.getElem_toArray, List.getElem_cons_succ, List.getElem_cons_zero, List.setIfInBounds_toArray, List.set_cons_zero, List.set_cons_succ]
                      refine wpAnyH_take (i := 15) (v := ?val15x16) rfl (by kernel_rfl) (by kernel_rfl) (by kernel_rfl) (fun _ _ _ h => h) (Or.inl ⟨by rfl, fun w9 hS9 => ?yields15x16⟩) (by assumption) ?later15x16
                      case yields15x16 =>
                        dsimp only at hS9
                        go_simp
                        try with_reducible rfl
                      try simp only [Act.put, List.getElem_toArray, List.getElem_cons_succ, List.getElem_cons_zero, List.setIfInBounds_toArray, List.set_cons_zero, List.set_cons_succ]
                      refine wpAnyH_take (i := 16) (v := ?val16x17) rfl (by kernel_rfl) (by kernel_rfl) (by kernel_rfl) (fun _ _ _ h => h) (Or.inl ⟨by rfl, fun w9 hS9 => ?yields16x17⟩) (by assumption) ?later16x17
                      case yields16x17 =>
                        dsimp only at hS9
                        go_simp
                        try with_reducible rfl
                      try simp only [Act.put, List.getElem_toArray, List.getElem_cons_succ, List.getElem_cons_zero, List.setIfInBounds_toArray, List.set_cons_zero, List.set_cons_succ]
                      refine wpAnyH_take (i := 17) (v := ?val17x18) rfl (by kernel_rfl) (by kernel_rfl) (by kernel_rfl) (fun _ _ _ h => h) (Or.inl ⟨by rfl, fun w9 hS9 => ?yields17x18⟩) (by assumption) ?later17x18
                      case yields17x18 =>
                        dsimp only at hS9
                        go_simp
                        try with_reducible rfl
                      try simp only [Act.put, List.getElem_toArray, List.getElem_cons_succ, List.getElem_cons_zero, List.setIfInBounds_toArray, List.set_cons_zero, List.set_cons_succ]
                      refine wpAnyH_take (i := 18) (v := ?val18x19) rfl (by kernel_rfl) (by kernel_rfl) (by kernel_rfl) (fun _ _ _ h => h) (Or.inl ⟨by rfl, fun w9 hS9 => ?yields18x19⟩) (by assumption) ?later18x19
                      case yields18x19 =>
                        dsimp only at hS9
                        go_simp
                        try with_reducible rfl
                      try simp only [Act.put, List.getElem_toArray, List.getElem_cons_succ, List.getElem_cons_zero, List.setIfInBounds_toArray, List.set_cons_zero, List.set_cons_succ]
                      refine wpAnyH_take (i := 19) (v := ?val19x20) rfl (by kernel_rfl) (by kernel_rfl) (by kernel_rfl) (fun _ _ _ h => h) (Or.inl ⟨by rfl, fun w9 hS9 => ?yields19x20⟩) (by assumption) ?later19x20
                      case yields19x20 =>
                        dsimp only at hS9
                        go_simp
                        try with_reducible rfl
                      try simp only [Act.put, List.getElem_toArray, List.getElem_cons_succ, List.getElem_cons_zero, List.setIfInBounds_toArray, List.set_cons_zero, List.set_cons_succ]
                      refine wpAnyH_take (i := 20) (v := ?val20x21) rfl (by kernel_rfl) (by kernel_rfl) (by kernel_rfl) (fun _ _ _ h => h) (Or.inl ⟨by rfl, fun w9 hS9 => ?yields20x21⟩) (by assumption) ?later20x21
                      case yields20x21 =>
                        dsimp only at hS9
                        go_simp
                        try with_reducible rfl
                      try simp only [Act.put, List.getElem_toArray, List.getElem_cons_succ, List.getElem_cons_zero, List.setIfInBounds_toArray, List.set_cons_zero, List.set_cons_succ]
                      refine wpAnyH_take (i := 21) (v := ?val21x22) rfl (by kernel_rfl) (by kernel_rfl) (by kernel_rfl) (fun _ _ _ h => h) (Or.inl ⟨by rfl, fun w9 hS9 => ?yields21x22⟩) (by assumption) ?later21x22
                      case yields21x22 =>
                        dsimp only at hS9
                        go_simp
                        try with_reducible rfl
                      try simp only [Act.put, List.getElem_toArray, List.getElem_cons_succ, List.getElem_cons_zero, List.setIfInBounds_toArray, List.set_cons_zero, List.set_cons_succ]
                      refine wpAnyH_take (i := 22) (v := ?val22x23) rfl (by kernel_rfl) (by kernel_rfl) (by kernel_rfl) (fun _ _ _ h => h) (Or.inl ⟨by rfl, fun w9 hS9 => ?yields22x23⟩) (by assumption) ?later22x23
                      case yields22x23 =>
                        dsimp only at hS9
                        go_simp
                        try with_reducible rfl
                      try simp only [Act.put, List.getElem_toArray, List.getElem_cons_succ, List.getElem_cons_zero, List.setIfInBounds_toArray, List.set_cons_zero, List.set_cons_succ]
                      refine wpAnyH_take (i := 23) (v := ?val23x24) rfl (by kernel_rfl) (by kernel_rfl) (by kernel_rfl) (fun _ _ _ h => h) (Or.inl ⟨by rfl, fun w9 hS9 => ?yields23x24⟩) (by assumption) ?later23x24
                      case yields23x24 =>
                        dsimp only at hS9
                        go_simp
                        try with_reducible rfl
                      try simp only [Act.put, List.getElem_toArray, List.getElem_cons_succ, List.getElem_cons_zero, List.setIfInBounds_toArray, List.set_cons_zero, List.set_cons_succ]
                      refine wpAnyH_take (i := 24) (v := ?val24x25) rfl (by kernel_rfl) (by kernel_rfl) (by kernel_rfl) (fun _ _ _ h => h) (Or.inl ⟨by rfl, fun w9 hS9 => ?yields24x25⟩) (by assumption) ?later24x25
                      case yields24x25 =>
                        dsimp only at hS9
                        go_simp
                        try with_reducible rfl
                      try simp only [Act.put, List.getElem_toArray, List.getElem_cons_succ, List.getElem_cons_zero, List.setIfInBounds_toArray, List.set_cons_zero, List.set_cons_succ]
                      refine wpAnyH_take (i := 25) (v := ?val25x26) rfl (by kernel_rfl) (by kernel_rfl) (by kernel_rfl) (fun _ _ _ h => h) (Or.inl ⟨by rfl, fun w9 hS9 => ?yields25x26⟩) (by assumption) ?later25x26
                      case yields25x26 =>
                        dsimp only at hS9
                        go_simp
                        try with_reducible rfl
                      try simp only [Act.put, List.getElem_toArray, List.getElem_cons_succ, List.getElem_cons_zero, List.setIfInBounds_toArray, List.set_cons_zero, List.set_cons_succ]
                      refine wpAnyH_done (by kernel_rfl) ?_ _
                      obtain ⟨-, -, HB⟩ := hHeld
                      have HW5 := Lib.hid (HWO.out.trans (HB.out.mono HWO.out.size))
                      have HW35 := Lib.hid (HC.out.trans (HW5.out.mono HC.out.size))
                      clear HBd MK
                      generalize hw5 : World.drew wo = w5 at *
                      clear hw5
                      go_wp2_with fail
                      go_roundw
                      case rel => exact ⟨i', by have := HII.out; omega, rfl, by rw [HII.out]; exact G, HW5⟩
                      case measure => have := HII.out; simp [intOf]; omega
                    · have k7 : decide (bn > b0) = false := decide_eq_false hgt
                      have k8 : decide (b0 < bn) = false := decide_eq_false hgt
                      have HSK : Hid (¬ (i + 1 < B.length ∧ listI B (i + 1) ≤ x ∧ b0 < listI B (i + 1))) := Lib.hid fun hh => hgt (by rw [HBN.out]; exact hh.2.2)
                      go_wp2_with fail
                      have HBd : Hid (Below wo.heap.size wo wo.drew) := Lib.hid (Below.refl _ _).drew
                      have MK : Hid (∀ w', Below wo.heap.size wo w' → w'.cell? ⟨b8, o8 + i, none⟩ = some (.int .i64 b0) ∧ w'.cell? ⟨b8, o8 + i', none⟩ = some (.int .i64 bn) ∧ Hid (Below wo.heap.size wo w')) :=
                        Lib.hid fun w' hw => ⟨Keep.below hw _ _ s0, Keep.below hw _ _ s1, Lib.hid hw⟩
                      refine wp_region_held_drew (S := fun w' => w'.cell? ⟨b8, o8 + i, none⟩ = some (.int .i64 b0) ∧ w'.cell? ⟨b8, o8 + i', none⟩ = some (.int .i64 bn) ∧ Hid (Below wo.heap.size wo w')) (by kernel_rfl) (MK.out _ HBd.out) (fun hHeld => ?_)
                      refine wpAnyH_take (i := 0) (v := ?val0x52) rfl (by kernel_rfl) (by kernel_rfl) (by kernel_rfl) (fun _ _ _ h => h) (Or.inl ⟨by rfl, fun w9 hS9 => ?yields0x52⟩) (by assumption) ?later0x52
                      case yields0x52 =>
                        dsimp only at hS9
                        go_simp
                        try with_reducible rfl
                      try simp only [Act.put, List.getElem_toArray, List.getElem_cons_succ, List.getElem_cons_zero, List.setIfInBounds_toArray, List.set_cons_zero, List.set_cons_succ]
                      refine wpAnyH_take (i := 1) (v := ?val1x53) rfl (by kernel_rfl) (by kernel_rfl) (by kernel_rfl) (fun _ _ _ h => h) (Or.inl ⟨by rfl, fun w9 hS9 => ?yields1x53⟩) (by assumption) ?later1x53
                      case yields1x53 =>
                        dsimp only at hS9
                        go_simp
                        try with_reducible rfl
                      try simp only [Act.put, List.getElem_toArray, List.getElem_cons_succ, List.getElem_cons_zero, List.setIfInBounds_toArray, List.set_cons_zero, List.set_cons_succ]
                      refine wpAnyH_take (i := 2) (v := ?val2x54) rfl (by kernel_rfl) (by kernel_rfl) (by kernel_rfl) (fun _ _ _ h => h) (Or.inl ⟨by rfl, fun w9 hS9 => ?yields2x54⟩) (by assumption) ?later2x54
                      case yields2x54 =>
                        dsimp only at hS9
                        go_simp
                        try with_reducible rfl
                      try simp only [Act.put, List.getElem_toArray, List.getElem_cons_succ, List.getElem_cons_zero, List.setIfInBounds_toArray, List.set_cons_zero, List.set_cons_succ]
                      refine wpAnyH_take (i := 3) (v := ?val3x55) rfl (by kernel_rfl) (by kernel_rfl) (by kernel_rfl) (fun _ _ _ h => h) (Or.inl ⟨by rfl, fun w9 hS9 => ?yields3x55⟩) (by assumption) ?later3x55
                      case yields3x55 =>
                        dsimp only at hS9
                        go_simp
                        try with_reducible rfl
                      try simp only [Act.put, List.getElem_toArray, List.getElem_cons_succ, List.getElem_cons_zero, List.setIfInBounds_toArray, List.set_cons_zero, List.set_cons_succ]
                      refine wpAnyH_take (i := 4) (v := ?val4x56) rfl (by kernel_rfl) (by kernel_rfl) (by kernel_rfl) (fun _ _ _ h => h) (Or.inl ⟨by rfl, fun w9 hS9 => ?yields4x56⟩) (by assumption) ?later4x56
                      case yields4x56 =>
                        dsimp only at hS9
                        go_simp
                        try with_reducible rfl
                      try simp only [Act.put, List.getElem_toArray, List.getElem_cons_succ, List.getElem_cons_zero, List.setIfInBounds_toArray, List.set_cons_zero, List.set_cons_succ]
                      refine wpAnyH_take (i := 5) (v := ?val5x57) rfl (by kernel_rfl) (by kernel_rfl) (by kernel_rfl) (fun _ _ _ h => h) (Or.inl ⟨by rfl, fun w9 hS9 => ?yields5x57⟩) (by assumption) ?later5x57
                      case yields5x57 =>
                        dsimp only at hS9
                        go_simp
                        try with_reducible rfl
                      try simp only [Act.put, List.getElem_toArray, List.getElem_cons_succ, List.getElem_cons_zero, List.setIfInBounds_toArray, List.set_cons_zero, List.set_cons_succ]
                      refine wpAnyH_take (i := 6) (v := ?val6x58) rfl (by kernel_rfl) (by kernel_rfl) (by kernel_rfl) (fun _ _ _ h => h) (Or.inl ⟨by rfl, fun w9 hS9 => ?yields6x58⟩) (by assumption) ?later6x58
                      case yields6x58 =>
                        dsimp only at hS9
                        go_simp
                        try with_reducible rfl
                      try simp only [Act.put, List.getElem_toArray, List.getElem_cons_succ, List.getElem_cons_zero, List.setIfInBounds_toArray, List.set_cons_zero, List.set_cons_succ]
                      refine wpAnyH_take (i := 7) (v := ?val7x59) rfl (by kernel_rfl) (by kernel_rfl) (by kernel_rfl) (fun _ _ _ h => h) (Or.inl ⟨by rfl, fun w9 hS9 => ?yields7x59⟩) (by assumption) ?later7x59
                      case yields7x59 =>
                        dsimp only at hS9
                        go_simp
                        try with_reducible rfl
                      try simp only [Act.put, List.getElem_toArray, List.getElem_cons_succ, List.getElem_cons_zero, List.setIfInBounds_toArray, List.set_cons_zero, List.set_cons_succ]
                      refine wpAnyH_take (i := 8) (v := ?val8x60) rfl (by kernel_rfl) (by kernel_rfl) (by kernel_rfl) (fun _ _ _ h => h) (Or.inl ⟨by rfl, fun w9 hS9 => ?yields8x60⟩) (by assumption) ?later8x60
                      case yields8x60 =>
                        dsimp only at hS9
                        go_simp
                        try with_reducible rfl
                      try simp only [Act.put, List.getElem_toArray, List.getElem_cons_succ, List.getElem_cons_zero, List.setIfInBounds_toArray, List.set_cons_zero, List.set_cons_succ]
                      refine wpAnyH_take (i := 9) (v := ?val9x61) rfl (by kernel_rfl) (by kernel_rfl) (by kernel_rfl) (fun _ _ _ h => h) (Or.inl ⟨by rfl, fun w9 hS9 => ?yields9x61⟩) (by assumption) ?later9x61
                      case yields9x61 =>
                        dsimp only at hS9
                        go_simp
                        try with_reducible rfl
                      try simp only [Act.put, List.getElem_toArray, List.getElem_cons_succ, List.getElem_cons_zero, List.setIfInBounds_toArray, List.set_cons_zero, List.set_cons_succ]
                      refine wpAnyH_take (i := 10) (v := ?val10x62) rfl (by kernel_rfl) (by kernel_rfl) (by kernel_rfl) (fun _ _ _ h => h) (Or.inl ⟨by rfl, fun w9 hS9 => ?yields10x62⟩) (by assumption) ?later10x62
                      case yields10x62 =>
                        dsimp only at hS9
                        go_simp
                        try with_reducible rfl
                      try simp only [Act.put, List.getElem_toArray, List.getElem_cons_succ, List.getElem_cons_zero, List.setIfInBounds_toArray, List.set_cons_zero, List.set_cons_succ]
                      refine wpAnyH_take (i := 11) (v := ?val11x63) rfl (by kernel_rfl) (by kernel_rfl) (by kernel_rfl) (fun _ _ _ h => h) (Or.inl ⟨by rfl, fun w9 hS9 => ?yields11x63⟩) (by assumption) ?later11x63
                      case yields11x63 =>
                        dsimp only at hS9
                        go_simp
                        try with_reducible rfl
                      try simp only [Act.put, List.getElem_toArray, List.getElem_cons_succ, List.getElem_cons_zero, List.setIfInBounds_toArray, List.set_cons_zero, List.set_cons_succ]
                      refine wpAnyH_take (i := 12) (v := ?val12x64) rfl (by kernel_rfl) (by kernel_rfl) (by kernel_rfl) (fun _ _ _ h => h) (Or.inl ⟨by rfl, fun w9 hS9 => ?yields12x64⟩) (by assumption) ?later12x64
                      case yields12x64 =>
                        dsimp only at hS9
                        go_simp
                        try with_reducible rfl
                      try simp only [Act.put, List.getElem_toArray, List.getElem_cons_succ, List.getElem_cons_zero, List.setIfInBounds_toArray, List.set_cons_zero, List.set_cons_succ]
                      refine wpAnyH_take (i := 13) (v := ?val13x65) rfl (by kernel_rfl) (by kernel_rfl) (by kernel_rfl) (fun _ _ _ h => h) (Or.inl ⟨by rfl, fun w9 hS9 => ?yields13x65⟩) (by assumption) ?later13x65
                      case yields13x65 =>
                        dsimp only at hS9
                        go_simp
                        try with_reducible rfl
                      try simp only [Act.put, List.getElem_toArray, List.getElem_cons_succ, List.getElem_cons_zero, List.setIfInBounds_toArray, List.set_cons_zero, List.set_cons_succ]
                      refine wpAnyH_take (i := 14) (v := ?val14x66) rfl (by kernel_rfl) (by kernel_rfl) (by kernel_rfl) (fun _ _ _ h => h) (Or.inl ⟨by rfl, fun w9 hS9 => ?yields14x66⟩) (by assumption) ?later14x66
                      case yields14x66 =>
                        dsimp only at hS9
                        go_simp
                        try with_reducible rfl
                      try simp only [Act.put, List.getElem_toArray, List.getElem_cons_succ, List.getElem_cons_zero, List.setIfInBounds_toArray, List.set_cons_zero, List.set_cons_succ]
                      refine wpAnyH_take (i := 15) (v := ?val15x67) rfl (by kernel_rfl) (by kernel_rfl) (by kernel_rfl) (fun _ _ _ h => h) (Or.inl ⟨by rfl, fun w9 hS9 => ?yields15x67⟩) (by assumption) ?later15x67
                      case yields15x67 =>
                        dsimp only at hS9
                        go_simp
                        try with_reducible rfl
                      try simp only [Act.put, List.getElem_toArray, List.getElem_cons_succ, List.getElem_cons_zero, List.setIfInBounds_toArray, List.set_cons_zero, List.set_cons_succ]
                      refine wpAnyH_take (i := 16) (v := ?val16x68) rfl (by kernel_rfl) (by kernel_rfl) (by kernel_rfl) (fun _ _ _ h => h) (Or.inl ⟨by rfl, fun w9 hS9 => ?yields16x68⟩) (by assumption) ?later16x68
                      case yields16x68 =>
                        dsimp only at hS9
                        go_simp
                        try with_reducible rfl
                      try simp only [Act.put, List.getElem_toArray, List.getElem_cons_succ, List.getElem_cons_zero, List.setIfInBounds_toArray, List.set_cons_zero, List.set_cons_succ]
                      refine wpAnyH_take (i := 17) (v := ?val17x69) rfl (by kernel_rfl) (by kernel_rfl) (by kernel_rfl) (fun _ _ _ h => h) (Or.inl ⟨by rfl, fun w9 hS9 => ?yields17x69⟩) (by assumption) ?later17x69
                      case yields17x69 =>
                        dsimp only at hS9
                        go_simp
                        try with_reducible rfl
                      try simp only [Act.put, List.getElem_toArray, List.getElem_cons_succ, List.getElem_cons_zero, List.setIfInBounds_toArray, List.set_cons_zero, List.set_cons_succ]
                      refine wpAnyH_take (i := 18) (v := ?val18x70) rfl (by kernel_rfl) (by kernel_rfl) (by kernel_rfl) (fun _ _ _ h => h) (Or.inl ⟨by rfl, fun w9 hS9 => ?yields18x70⟩) (by assumption) ?later18x70
                      case yields18x70 =>
                        dsimp only at hS9
                        go_simp
                        try with_reducible rfl
                      try simp only [Act.put, List.getElem_toArray, List.getElem_cons_succ, List.getElem_cons_zero, List.setIfInBounds_toArray, List.set_cons_zero, List.set_cons_succ]
                      refine wpAnyH_take (i := 19) (v := ?val19x71) rfl (by kernel_rfl) (by kernel_rfl) (by kernel_rfl) (fun _ _ _ h => h) (Or.inl ⟨by rfl, fun w9 hS9 => ?yields19x71⟩) (by assumption) ?later19x71
                      case yields19x71 =>
                        dsimp only at hS9
                        go_simp
                        try with_reducible rfl
                      try simp only [Act.put, List.getElem_toArray, List.getElem_cons_succ, List.getElem_cons_zero, List.setIfInBounds_toArray, List.set_cons_zero, List.set_cons_succ]
                      refine wpAnyH_take (i := 20) (v := ?val20x72) rfl (by kernel_rfl) (by kernel_rfl) (by kernel_rfl) (fun _ _ _ h => h) (Or.inl ⟨by rfl, fun w9 hS9 => ?yields20x72⟩) (by assumption) ?later20x72
                      case yields20x72 =>
                        dsimp only at hS9
                        go_simp
                        try with_reducible rfl
                      try simp only [Act.put, List.getElem_toArray, List.getElem_cons_succ, List.getElem_cons_zero, List.setIfInBounds_toArray, List.set_cons_zero, List.set_cons_succ]
                      refine wpAnyH_take (i := 21) (v := ?val21x73) rfl (by kernel_rfl) (by kernel_rfl) (by kernel_rfl) (fun _ _ _ h => h) (Or.inl ⟨by rfl, fun w9 hS9 => ?yields21x73⟩) (by assumption) ?later21x73
                      case yields21x73 =>
                        dsimp only at hS9
                        go_simp
                        try with_reducible rfl
                      try simp only [Act.put, List.getElem_toArray, List.getElem_cons_succ, List.getElem_cons_zero, List.setIfInBounds_toArray, List.set_cons_zero, List.set_cons_succ]
                      refine wpAnyH_take (i := 22) (v := ?val22x74) rfl (by kernel_rfl) (by kernel_rfl) (by kernel_rfl) (fun _ _ _ h => h) (Or.inl ⟨by rfl, fun w9 hS9 => ?yields22x74⟩) (by assumption) ?later22x74
                      case yields22x74 =>
                        dsimp only at hS9
                        go_simp
                        try with_reducible rfl
                      try simp only [Act.put, List.getElem_toArray, List.getElem_cons_succ, List.getElem_cons_zero, List.setIfInBounds_toArray, List.set_cons_zero, List.set_cons_succ]
                      refine wpAnyH_take (i := 23) (v := ?val23x75) rfl (by kernel_rfl) (by kernel_rfl) (by kernel_rfl) (fun _ _ _ h => h) (Or.inl ⟨by rfl, fun w9 hS9 => ?yields23x75⟩) (by assumption) ?later23x75
                      case yields23x75 =>
                        dsimp only at hS9
                        go_simp
                        try with_reducible rfl
                      try simp only [Act.put, List.getElem_toArray, List.getElem_cons_succ, List.getElem_cons_zero, List.setIfInBounds_toArray, List.set_cons_zero, List.set_cons_succ]
                      refine wpAnyH_take (i := 24) (v := ?val24x76) rfl (by kernel_rfl) (by kernel_rfl) (by kernel_rfl) (fun _ _ _ h => h) (Or.inl ⟨by rfl, fun w9 hS9 => ?yields24x76⟩) (by assumption) ?later24x76
                      case yields24x76 =>
                        dsimp only at hS9
                        go_simp
                        try with_reducible rfl
                      try simp only [Act.put, List.getElem_toArray, List.getElem_cons_succ, List.getElem_cons_zero, List.setIfInBounds_toArray, List.set_cons_zero, List.set_cons_succ]
                      refine wpAnyH_take (i := 25) (v := ?val25x77) rfl (by kernel_rfl) (by kernel_rfl) (by kernel_rfl) (fun _ _ _ h => h) (Or.inl ⟨by rfl, fun w9 hS9 => ?yields25x77⟩) (by assumption) ?later25x77
                      case yields25x77 =>
                        dsimp only at hS9
                        go_simp
                        try with_reducible rfl
                      try simp only [Act.put, List.getElem_toArray, List.getElem_cons_succ, List.getElem_cons_zero, List.setIfInBounds_toArray, List.set_cons_zero, List.set_cons_succ]
                      refine wpAnyH_done (by kernel_rfl) ?_ _
                      obtain ⟨-, -, HB⟩ := hHeld
                      have HW5 := Lib.hid (HWO.out.trans (HB.out.mono HWO.out.size))
                      have HW35 := Lib.hid (HC.out.trans (HW5.out.mono HC.out.size))
                      clear HBd MK
                      generalize hw5 : World.drew wo = w5 at *
                      clear hw5
                      obtain ⟨t0, t1, t2, t3⟩ := BT.out.keep (Keep.below HW35.out)
                      obtain ⟨a0, a1, a2, a3, a4⟩ := BR.out.keep (Keep.below HW35.out)
                      have oo := BO.out.keep (Keep.below HB.out)
                      have o0 : w5.cell? ⟨wr.heap.size, 0, none⟩ = some (.int .i64 x) := oo.c0
                      have o1 : w5.cell? ⟨wr.heap.size, 1, none⟩ = some (.int .i64 t.lo) := oo.c1
                      have o2 : w5.cell? ⟨wr.heap.size, 2, none⟩ = some (.int .i64 t.hi) := oo.c2
                      have o3 : w5.cell? ⟨wr.heap.size, 3, none⟩ = some (.int .i64 t.next) := oo.c3
                      clear oo
                      go_wp2_with fail
                      refine (rBreaks_any R l (fromAt t x) t.hi A c _ (HA.out.keep (Keep.below (HW.out.trans (HW35.out.mono HW.out.size)))) HY.out.right HBH.out ⟨hh0, hh1⟩).mono ?_
                      rintro e' w9 ⟨rfl, hb1⟩
                      have HW9 := Lib.hid (HW5.out.trans (hb1.mono HW5.out.size))
                      clear hb1 o0 o1 o2 o3 t0 t1 t2 t3 a0 a1 a2 a3 a4
                      by_cases hbr : breaks R l (fromAt t x) t.hi = 0
                      · have L : Hid (Earliest R l t x) := Lib.hid (earliest_found HY.out (i := i) (by rw [← HBG.out]; exact hlt) (by rw [← HBG.out]; exact HD.out) (by rw [← HBG.out, ← HB0.out, ← HEN.out]; exact WA.out) hbr)
                        rw [hbr]
                        clear hbr
                        go_wp2_with fail
                        go_ret
                        exact ⟨⟨x, rfl, L.out⟩, HW.out.trans ((HC.out.trans (HW9.out.mono HC.out.size)).mono HW.out.size)⟩
                      · have G : Hid (Done R l t B (i + 1)) := Lib.hid (by
                          rw [HBG.out]
                          exact done_step HY.out (by rw [← HBG.out]; exact hlt) (by rw [← HBG.out]; exact HD.out) (by rw [← HBG.out, ← HB0.out, ← HEN.out]; exact WA.out) (by rw [← HBG.out, ← HB0.out]; exact HSK.out) hbr)
                        have e5 : (breaks R l (fromAt t x) t.hi == 0) = false := by simpa using hbr
                        clear hbr
                        go_wp2_with fail
                        go_roundw
                        case rel => exact ⟨i', by have := HII.out; omega, rfl, by rw [HII.out]; exact G, HW9⟩
                        case measure => have := HII.out; simp [intOf]; omega
                  · have k5 : decide (x ≥ bn) = false := decide_eq_false hge
                    have k6 : decide (bn ≤ x) = false := decide_eq_false hge
                    have HSK : Hid (¬ (i + 1 < B.length ∧ listI B (i + 1) ≤ x ∧ b0 < listI B (i + 1))) := Lib.hid fun hh => hge (by rw [HBN.out]; exact hh.2.1)
                    go_wp2_with fail
                    have HBd : Hid (Below wo.heap.size wo wo.drew) := Lib.hid (Below.refl _ _).drew
                    have MK : Hid (∀ w', Below wo.heap.size wo w' → w'.cell? ⟨b8, o8 + i, none⟩ = some (.int .i64 b0) ∧ w'.cell? ⟨b8, o8 + i', none⟩ = some (.int .i64 bn) ∧ Hid (Below wo.heap.size wo w')) :=
                      Lib.hid fun w' hw => ⟨Keep.below hw _ _ s0, Keep.below hw _ _ s1, Lib.hid hw⟩
                    refine wp_region_held_drew (S := fun w' => w'.cell? ⟨b8, o8 + i, none⟩ = some (.int .i64 b0) ∧ w'.cell? ⟨b8, o8 + i', none⟩ = some (.int .i64 bn) ∧ Hid (Below wo.heap.size wo w')) (by kernel_rfl) (MK.out _ HBd.out) (fun hHeld => ?_)
                    refine wpAnyH_take (i := 0) (v := ?val0x27) rfl (by kernel_rfl) (by kernel_rfl) (by kernel_rfl) (fun _ _ _ h => h) (Or.inl ⟨by rfl, fun w9 hS9 => ?yields0x27⟩) (by assumption) ?later0x27
                    case yields0x27 =>
                      dsimp only at hS9
                      go_simp
                      try with_reducible rfl
                    try simp only [Act.put, List.getElem_toArray, List.getElem_cons_succ, List.getElem_cons_zero, List.setIfInBounds_toArray, List.set_cons_zero, List.set_cons_succ]
                    refine wpAnyH_take (i := 1) (v := ?val1x28) rfl (by kernel_rfl) (by kernel_rfl) (by kernel_rfl) (fun _ _ _ h => h) (Or.inl ⟨by rfl, fun w9 hS9 => ?yields1x28⟩) (by assumption) ?later1x28
                    case yields1x28 =>
                      dsimp only at hS9
                      go_simp
                      try with_reducible rfl
                    try simp only [Act.put, List.getElem_toArray, List.getElem_cons_succ, List.getElem_cons_zero, List.setIfInBounds_toArray, List.set_cons_zero, List.set_cons_succ]
                    refine wpAnyH_take (i := 2) (v := ?val2x29) rfl (by kernel_rfl) (by kernel_rfl) (by kernel_rfl) (fun _ _ _ h => h) (Or.inl ⟨by rfl, fun w9 hS9 => ?yields2x29⟩) (by assumption) ?later2x29
                    case yields2x29 =>
                      dsimp only at hS9
                      go_simp
                      try with_reducible rfl
                    try simp only [Act.put, List.getElem_toArray, List.getElem_cons_succ, List.getElem_cons_zero, List.setIfInBounds_toArray, List.set_cons_zero, List.set_cons_succ]
                    refine wpAnyH_take (i := 3) (v := ?val3x30) rfl (by kernel_rfl) (by kernel_rfl) (by kernel_rfl) (fun _ _ _ h => h) (Or.inl ⟨by rfl, fun w9 hS9 => ?yields3x30⟩) (by assumption) ?later3x30
                    case yields3x30 =>
                      dsimp only at hS9
                      go_simp
                      try with_reducible rfl
                    try simp only [Act.put, List.getElem_toArray, List.getElem_cons_succ, List.getElem_cons_zero, List.setIfInBounds_toArray, List.set_cons_zero, List.set_cons_succ]
                    refine wpAnyH_take (i := 4) (v := ?val4x31) rfl (by kernel_rfl) (by kernel_rfl) (by kernel_rfl) (fun _ _ _ h => h) (Or.inl ⟨by rfl, fun w9 hS9 => ?yields4x31⟩) (by assumption) ?later4x31
                    case yields4x31 =>
                      dsimp only at hS9
                      go_simp
                      try with_reducible rfl
                    try simp only [Act.put, List.getElem_toArray, List.getElem_cons_succ, List.getElem_cons_zero, List.setIfInBounds_toArray, List.set_cons_zero, List.set_cons_succ]
                    refine wpAnyH_take (i := 5) (v := ?val5x32) rfl (by kernel_rfl) (by kernel_rfl) (by kernel_rfl) (fun _ _ _ h => h) (Or.inl ⟨by rfl, fun w9 hS9 => ?yields5x32⟩) (by assumption) ?later5x32
                    case yields5x32 =>
                      dsimp only at hS9
                      go_simp
                      try with_reducible rfl
                    try simp only [Act.put, List.getElem_toArray, List.getElem_cons_succ, List.getElem_cons_zero, List.setIfInBounds_toArray, List.set_cons_zero, List.set_cons_succ]
                    refine wpAnyH_take (i := 6) (v := ?val6x33) rfl (by kernel_rfl) (by kernel_rfl) (by kernel_rfl) (fun _ _ _ h => h) (Or.inl ⟨by rfl, fun w9 hS9 => ?yields6x33⟩) (by assumption) ?later6x33
                    case yields6x33 =>
                      dsimp only at hS9
                      go_simp
                      try with_reducible rfl
                    try simp only [Act.put, List.getElem_toArray, List.getElem_cons_succ, List.getElem_cons_zero, List.setIfInBounds_toArray, List.set_cons_zero, List.set_cons_succ]
                    refine wpAnyH_take (i := 7) (v := ?val7x34) rfl (by kernel_rfl) (by kernel_rfl) (by kernel_rfl) (fun _ _ _ h => h) (Or.inl ⟨by rfl, fun w9 hS9 => ?yields7x34⟩) (by assumption) ?later7x34
                    case yields7x34 =>
                      dsimp only at hS9
                      go_simp
                      try with_reducible rfl
                    try simp only [Act.put, List.getElem_toArray, List.getElem_cons_succ, List.getElem_cons_zero, List.setIfInBounds_toArray, List.set_cons_zero, List.set_cons_succ]
                    refine wpAnyH_take (i := 8) (v := ?val8x35) rfl (by kernel_rfl) (by kernel_rfl) (by kernel_rfl) (fun _ _ _ h => h) (Or.inl ⟨by rfl, fun w9 hS9 => ?yields8x35⟩) (by assumption) ?later8x35
                    case yields8x35 =>
                      dsimp only at hS9
                      go_simp
                      try with_reducible rfl
                    try simp only [Act.put, List.getElem_toArray, List.getElem_cons_succ, List.getElem_cons_zero, List.setIfInBounds_toArray, List.set_cons_zero, List.set_cons_succ]
                    refine wpAnyH_take (i := 9) (v := ?val9x36) rfl (by kernel_rfl) (by kernel_rfl) (by kernel_rfl) (fun _ _ _ h => h) (Or.inl ⟨by rfl, fun w9 hS9 => ?yields9x36⟩) (by assumption) ?later9x36
                    case yields9x36 =>
                      dsimp only at hS9
                      go_simp
                      try with_reducible rfl
                    try simp only [Act.put, List.getElem_toArray, List.getElem_cons_succ, List.getElem_cons_zero, List.setIfInBounds_toArray, List.set_cons_zero, List.set_cons_succ]
                    refine wpAnyH_take (i := 10) (v := ?val10x37) rfl (by kernel_rfl) (by kernel_rfl) (by kernel_rfl) (fun _ _ _ h => h) (Or.inl ⟨by rfl, fun w9 hS9 => ?yields10x37⟩) (by assumption) ?later10x37
                    case yields10x37 =>
                      dsimp only at hS9
                      go_simp
                      try with_reducible rfl
                    try simp only [Act.put, List.getElem_toArray, List.getElem_cons_succ, List.getElem_cons_zero, List.setIfInBounds_toArray, List.set_cons_zero, List.set_cons_succ]
                    refine wpAnyH_take (i := 11) (v := ?val11x38) rfl (by kernel_rfl) (by kernel_rfl) (by kernel_rfl) (fun _ _ _ h => h) (Or.inl ⟨by rfl, fun w9 hS9 => ?yields11x38⟩) (by assumption) ?later11x38
                    case yields11x38 =>
                      dsimp only at hS9
                      go_simp
                      try with_reducible rfl
                    try simp only [Act.put, List.getElem_toArray, List.getElem_cons_succ, List.getElem_cons_zero, List.setIfInBounds_toArray, List.set_cons_zero, List.set_cons_succ]
                    refine wpAnyH_take (i := 12) (v := ?val12x39) rfl (by kernel_rfl) (by kernel_rfl) (by kernel_rfl) (fun _ _ _ h => h) (Or.inl ⟨by rfl, fun w9 hS9 => ?yields12x39⟩) (by assumption) ?later12x39
                    case yields12x39 =>
                      dsimp only at hS9
                      go_simp
                      try with_reducible rfl
                    try simp only [Act.put, List.getElem_toArray, List.getElem_cons_succ, List.getElem_cons_zero, List.setIfInBounds_toArray, List.set_cons_zero, List.set_cons_succ]
                    refine wpAnyH_take (i := 13) (v := ?val13x40) rfl (by kernel_rfl) (by kernel_rfl) (by kernel_rfl) (fun _ _ _ h => h) (Or.inl ⟨by rfl, fun w9 hS9 => ?yields13x40⟩) (by assumption) ?later13x40
                    case yields13x40 =>
                      dsimp only at hS9
                      go_simp
                      try with_reducible rfl
                    try simp only [Act.put, List.getElem_toArray, List.getElem_cons_succ, List.getElem_cons_zero, List.setIfInBounds_toArray, List.set_cons_zero, List.set_cons_succ]
                    refine wpAnyH_take (i := 14) (v := ?val14x41) rfl (by kernel_rfl) (by kernel_rfl) (by kernel_rfl) (fun _ _ _ h => h) (Or.inl ⟨by rfl, fun w9 hS9 => ?yields14x41⟩) (by assumption) ?later14x41
                    case yields14x41 =>
                      dsimp only at hS9
                      go_simp
                      try with_reducible rfl
                    try simp only [Act.put, List.getElem_toArray, List.getElem_cons_succ, List.getElem_cons_zero, List.setIfInBounds_toArray, List.set_cons_zero, List.set_cons_succ]
                    refine wpAnyH_take (i := 15) (v := undef) rfl (by kernel_rfl) (by kernel_rfl) (by kernel_rfl) (fun _ _ _ h => h) (Or.inr (And.intro (by kernel_rfl) rfl)) (by assumption) ?_
                    try simp only [Act.put, List.getElem_toArray, List.getElem_cons_succ, List.getElem_cons_zero, List.setIfInBounds_toArray, List.set_cons_zero, List.set_cons_succ]
                    refine wpAnyH_take (i := 16) (v := undef) rfl (by kernel_rfl) (by kernel_rfl) (by kernel_rfl) (fun _ _ _ h => h) (Or.inr (And.intro (by kernel_rfl) rfl)) (by assumption) ?_
                    try simp only [Act.put, List.getElem_toArray, List.getElem_cons_succ, List.getElem_cons_zero, List.setIfInBounds_toArray, List.set_cons_zero, List.set_cons_succ]
                    refine wpAnyH_take (i := 17) (v := undef) rfl (by kernel_rfl) (by kernel_rfl) (by kernel_rfl) (fun _ _ _ h => h) (Or.inr (And.intro (by kernel_rfl) rfl)) (by assumption) ?_
                    try simp only [Act.put, List.getElem_toArray, List.getElem_cons_succ, List.getElem_cons_zero, List.setIfInBounds_toArray, List.set_cons_zero, List.set_cons_succ]
                    refine wpAnyH_take (i := 18) (v := undef) rfl (by kernel_rfl) (by kernel_rfl) (by kernel_rfl) (fun _ _ _ h => h) (Or.inr (And.intro (by kernel_rfl) rfl)) (by assumption) ?_
                    try simp only [Act.put, List.getElem_toArray, List.getElem_cons_succ, List.getElem_cons_zero, List.setIfInBounds_toArray, List.set_cons_zero, List.set_cons_succ]
                    refine wpAnyH_take (i := 19) (v := undef) rfl (by kernel_rfl) (by kernel_rfl) (by kernel_rfl) (fun _ _ _ h => h) (Or.inr (And.intro (by kernel_rfl) rfl)) (by assumption) ?_
                    try simp only [Act.put, List.getElem_toArray, List.getElem_cons_succ, List.getElem_cons_zero, List.setIfInBounds_toArray, List.set_cons_zero, List.set_cons_succ]
                    refine wpAnyH_take (i := 20) (v := undef) rfl (by kernel_rfl) (by kernel_rfl) (by kernel_rfl) (fun _ _ _ h => h) (Or.inr (And.intro (by kernel_rfl) rfl)) (by assumption) ?_
                    try simp only [Act.put, List.getElem_toArray, List.getElem_cons_succ, List.getElem_cons_zero, List.setIfInBounds_toArray, List.set_cons_zero, List.set_cons_succ]
                    refine wpAnyH_take (i := 21) (v := undef) rfl (by kernel_rfl) (by kernel_rfl) (by kernel_rfl) (fun _ _ _ h => h) (Or.inr (And.intro (by kernel_rfl) rfl)) (by assumption) ?_
                    try simp only [Act.put, List.getElem_toArray, List.getElem_cons_succ, List.getElem_cons_zero, List.setIfInBounds_toArray, List.set_cons_zero, List.set_cons_succ]
                    refine wpAnyH_take (i := 22) (v := undef) rfl (by kernel_rfl) (by kernel_rfl) (by kernel_rfl) (fun _ _ _ h => h) (Or.inr (And.intro (by kernel_rfl) rfl)) (by assumption) ?_
                    try simp only [Act.put, List.getElem_toArray, List.getElem_cons_succ, List.getElem_cons_zero, List.setIfInBounds_toArray, List.set_cons_zero, List.set_cons_succ]
                    refine wpAnyH_take (i := 23) (v := undef) rfl (by kernel_rfl) (by kernel_rfl) (by kernel_rfl) (fun _ _ _ h => h) (Or.inr (And.intro (by kernel_rfl) rfl)) (by assumption) ?_
                    try simp only [Act.put, List.getElem_toArray, List.getElem_cons_succ, List.getElem_cons_zero, List.setIfInBounds_toArray, List.set_cons_zero, List.set_cons_succ]
                    refine wpAnyH_take (i := 24) (v := undef) rfl (by kernel_rfl) (by kernel_rfl) (by kernel_rfl) (fun _ _ _ h => h) (Or.inr (And.intro (by kernel_rfl) rfl)) (by assumption) ?_
                    try simp only [Act.put, List.getElem_toArray, List.getElem_cons_succ, List.getElem_cons_zero, List.setIfInBounds_toArray, List.set_cons_zero, List.set_cons_succ]
                    refine wpAnyH_take (i := 25) (v := ?val25x42) rfl (by kernel_rfl) (by kernel_rfl) (by kernel_rfl) (fun _ _ _ h => h) (Or.inl ⟨by rfl, fun w9 hS9 => ?yields25x42⟩) (by assumption) ?later25x42
                    case yields25x42 =>
                      dsimp only at hS9
                      go_simp
                      try with_reducible rfl
                    try simp only [Act.put, List.getElem_toArray, List.getElem_cons_succ, List.getElem_cons_zero, List.setIfInBounds_toArray, List.set_cons_zero, List.set_cons_succ]
                    refine wpAnyH_done (by kernel_rfl) ?_ _
                    obtain ⟨-, -, HB⟩ := hHeld
                    have HW5 := Lib.hid (HWO.out.trans (HB.out.mono HWO.out.size))
                    have HW35 := Lib.hid (HC.out.trans (HW5.out.mono HC.out.size))
                    clear HBd MK
                    generalize hw5 : World.drew wo = w5 at *
                    clear hw5
                    obtain ⟨t0, t1, t2, t3⟩ := BT.out.keep (Keep.below HW35.out)
                    obtain ⟨a0, a1, a2, a3, a4⟩ := BR.out.keep (Keep.below HW35.out)
                    have oo := BO.out.keep (Keep.below HB.out)
                    have o0 : w5.cell? ⟨wr.heap.size, 0, none⟩ = some (.int .i64 x) := oo.c0
                    have o1 : w5.cell? ⟨wr.heap.size, 1, none⟩ = some (.int .i64 t.lo) := oo.c1
                    have o2 : w5.cell? ⟨wr.heap.size, 2, none⟩ = some (.int .i64 t.hi) := oo.c2
                    have o3 : w5.cell? ⟨wr.heap.size, 3, none⟩ = some (.int .i64 t.next) := oo.c3
                    clear oo
                    go_wp2_with fail
                    refine (rBreaks_any R l (fromAt t x) t.hi A c _ (HA.out.keep (Keep.below (HW.out.trans (HW35.out.mono HW.out.size)))) HY.out.right HBH.out ⟨hh0, hh1⟩).mono ?_
                    rintro e' w9 ⟨rfl, hb1⟩
                    have HW9 := Lib.hid (HW5.out.trans (hb1.mono HW5.out.size))
                    clear hb1 o0 o1 o2 o3 t0 t1 t2 t3 a0 a1 a2 a3 a4
                    by_cases hbr : breaks R l (fromAt t x) t.hi = 0
                    · have L : Hid (Earliest R l t x) := Lib.hid (earliest_found HY.out (i := i) (by rw [← HBG.out]; exact hlt) (by rw [← HBG.out]; exact HD.out) (by rw [← HBG.out, ← HB0.out, ← HEN.out]; exact WA.out) hbr)
                      rw [hbr]
                      clear hbr
                      go_wp2_with fail
                      go_ret
                      exact ⟨⟨x, rfl, L.out⟩, HW.out.trans ((HC.out.trans (HW9.out.mono HC.out.size)).mono HW.out.size)⟩
                    · have G : Hid (Done R l t B (i + 1)) := Lib.hid (by
                        rw [HBG.out]
                        exact done_step HY.out (by rw [← HBG.out]; exact hlt) (by rw [← HBG.out]; exact HD.out) (by rw [← HBG.out, ← HB0.out, ← HEN.out]; exact WA.out) (by rw [← HBG.out, ← HB0.out]; exact HSK.out) hbr)
                      have e5 : (breaks R l (fromAt t x) t.hi == 0) = false := by simpa using hbr
                      clear hbr
                      go_wp2_with fail
                      go_roundw
                      case rel => exact ⟨i', by have := HII.out; omega, rfl, by rw [HII.out]; exact G, HW9⟩
                      case measure => have := HII.out; simp [intOf]; omega
                · have k1 : decide ((i' : Int) < (B.length : Int)) = false := decide_eq_false (by omega)
                  have k4 : decide (i' < B.length) = false := decide_eq_false (by omega)
                  have HSK : Hid (¬ (i + 1 < B.length ∧ listI B (i + 1) ≤ x ∧ b0 < listI B (i + 1))) := Lib.hid fun hh => hn hh.1
                  clear hi'
                  go_wp2_with fail
                  have HBd : Hid (Below wo.heap.size wo wo.drew) := Lib.hid (Below.refl _ _).drew
                  have MK : Hid (∀ w', Below wo.heap.size wo w' → Hid (Below wo.heap.size wo w')) :=
                    Lib.hid fun w' hw => Lib.hid hw
                  refine wp_region_held_drew (S := fun w' => Hid (Below wo.heap.size wo w')) (by kernel_rfl) (MK.out _ HBd.out) (fun hHeld => ?_)
                  refine wpAnyH_take (i := 0) (v := ?val0x43) rfl (by kernel_rfl) (by kernel_rfl) (by kernel_rfl) (fun _ _ _ h => h) (Or.inl ⟨by rfl, fun w9 hS9 => ?yields0x43⟩) (by assumption) ?later0x43
                  case yields0x43 =>
                    dsimp only at hS9
                    go_simp
                    try with_reducible rfl
                  try simp only [Act.put, List.getElem_toArray, List.getElem_cons_succ, List.getElem_cons_zero, List.setIfInBounds_toArray, List.set_cons_zero, List.set_cons_succ]
                  refine wpAnyH_take (i := 1) (v := ?val1x44) rfl (by kernel_rfl) (by kernel_rfl) (by kernel_rfl) (fun _ _ _ h => h) (Or.inl ⟨by rfl, fun w9 hS9 => ?yields1x44⟩) (by assumption) ?later1x44
                  case yields1x44 =>
                    dsimp only at hS9
                    go_simp
                    try with_reducible rfl
                  try simp only [Act.put, List.getElem_toArray, List.getElem_cons_succ, List.getElem_cons_zero, List.setIfInBounds_toArray, List.set_cons_zero, List.set_cons_succ]
                  refine wpAnyH_take (i := 2) (v := ?val2x45) rfl (by kernel_rfl) (by kernel_rfl) (by kernel_rfl) (fun _ _ _ h => h) (Or.inl ⟨by rfl, fun w9 hS9 => ?yields2x45⟩) (by assumption) ?later2x45
                  case yields2x45 =>
                    dsimp only at hS9
                    go_simp
                    try with_reducible rfl
                  try simp only [Act.put, List.getElem_toArray, List.getElem_cons_succ, List.getElem_cons_zero, List.setIfInBounds_toArray, List.set_cons_zero, List.set_cons_succ]
                  refine wpAnyH_take (i := 3) (v := ?val3x46) rfl (by kernel_rfl) (by kernel_rfl) (by kernel_rfl) (fun _ _ _ h => h) (Or.inl ⟨by rfl, fun w9 hS9 => ?yields3x46⟩) (by assumption) ?later3x46
                  case yields3x46 =>
                    dsimp only at hS9
                    go_simp
                    try with_reducible rfl
                  try simp only [Act.put, List.getElem_toArray, List.getElem_cons_succ, List.getElem_cons_zero, List.setIfInBounds_toArray, List.set_cons_zero, List.set_cons_succ]
                  refine wpAnyH_take (i := 4) (v := ?val4x47) rfl (by kernel_rfl) (by kernel_rfl) (by kernel_rfl) (fun _ _ _ h => h) (Or.inl ⟨by rfl, fun w9 hS9 => ?yields4x47⟩) (by assumption) ?later4x47
                  case yields4x47 =>
                    dsimp only at hS9
                    go_simp
                    try with_reducible rfl
                  try simp only [Act.put, List.getElem_toArray, List.getElem_cons_succ, List.getElem_cons_zero, List.setIfInBounds_toArray, List.set_cons_zero, List.set_cons_succ]
                  refine wpAnyH_take (i := 5) (v := ?val5x48) rfl (by kernel_rfl) (by kernel_rfl) (by kernel_rfl) (fun _ _ _ h => h) (Or.inl ⟨by rfl, fun w9 hS9 => ?yields5x48⟩) (by assumption) ?later5x48
                  case yields5x48 =>
                    dsimp only at hS9
                    go_simp
                    try with_reducible rfl
                  try simp only [Act.put, List.getElem_toArray, List.getElem_cons_succ, List.getElem_cons_zero, List.setIfInBounds_toArray, List.set_cons_zero, List.set_cons_succ]
                  refine wpAnyH_take (i := 6) (v := undef) rfl (by kernel_rfl) (by kernel_rfl) (by kernel_rfl) (fun _ _ _ h => h) (Or.inr (And.intro (by kernel_rfl) rfl)) (by assumption) ?_
                  try simp only [Act.put, List.getElem_toArray, List.getElem_cons_succ, List.getElem_cons_zero, List.setIfInBounds_toArray, List.set_cons_zero, List.set_cons_succ]
                  refine wpAnyH_take (i := 7) (v := undef) rfl (by kernel_rfl) (by kernel_rfl) (by kernel_rfl) (fun _ _ _ h => h) (Or.inr (And.intro (by kernel_rfl) rfl)) (by assumption) ?_
                  try simp only [Act.put, List.getElem_toArray, List.getElem_cons_succ, List.getElem_cons_zero, List.setIfInBounds_toArray, List.set_cons_zero, List.set_cons_succ]
                  refine wpAnyH_take (i := 8) (v := undef) rfl (by kernel_rfl) (by kernel_rfl) (by kernel_rfl) (fun _ _ _ h => h) (Or.inr (And.intro (by kernel_rfl) rfl)) (by assumption) ?_
                  try simp only [Act.put, List.getElem_toArray, List.getElem_cons_succ, List.getElem_cons_zero, List.setIfInBounds_toArray, List.set_cons_zero, List.set_cons_succ]
                  refine wpAnyH_take (i := 9) (v := undef) rfl (by kernel_rfl) (by kernel_rfl) (by kernel_rfl) (fun _ _ _ h => h) (Or.inr (And.intro (by kernel_rfl) rfl)) (by assumption) ?_
                  try simp only [Act.put, List.getElem_toArray, List.getElem_cons_succ, List.getElem_cons_zero, List.setIfInBounds_toArray, List.set_cons_zero, List.set_cons_succ]
                  refine wpAnyH_take (i := 10) (v := undef) rfl (by kernel_rfl) (by kernel_rfl) (by kernel_rfl) (fun _ _ _ h => h) (Or.inr (And.intro (by kernel_rfl) rfl)) (by assumption) ?_
                  try simp only [Act.put, List.getElem_toArray, List.getElem_cons_succ, List.getElem_cons_zero, List.setIfInBounds_toArray, List.set_cons_zero, List.set_cons_succ]
                  refine wpAnyH_take (i := 11) (v := undef) rfl (by kernel_rfl) (by kernel_rfl) (by kernel_rfl) (fun _ _ _ h => h) (Or.inr (And.intro (by kernel_rfl) rfl)) (by assumption) ?_
                  try simp only [Act.put, List.getElem_toArray, List.getElem_cons_succ, List.getElem_cons_zero, List.setIfInBounds_toArray, List.set_cons_zero, List.set_cons_succ]
                  refine wpAnyH_take (i := 12) (v := undef) rfl (by kernel_rfl) (by kernel_rfl) (by kernel_rfl) (fun _ _ _ h => h) (Or.inr (And.intro (by kernel_rfl) rfl)) (by assumption) ?_
                  try simp only [Act.put, List.getElem_toArray, List.getElem_cons_succ, List.getElem_cons_zero, List.setIfInBounds_toArray, List.set_cons_zero, List.set_cons_succ]
                  refine wpAnyH_take (i := 13) (v := ?val13x49) rfl (by kernel_rfl) (by kernel_rfl) (by kernel_rfl) (fun _ _ _ h => h) (Or.inl ⟨by rfl, fun w9 hS9 => ?yields13x49⟩) (by assumption) ?later13x49
                  case yields13x49 =>
                    dsimp only at hS9
                    go_simp
                    try with_reducible rfl
                  try simp only [Act.put, List.getElem_toArray, List.getElem_cons_succ, List.getElem_cons_zero, List.setIfInBounds_toArray, List.set_cons_zero, List.set_cons_succ]
                  refine wpAnyH_take (i := 14) (v := ?val14x50) rfl (by kernel_rfl) (by kernel_rfl) (by kernel_rfl) (fun _ _ _ h => h) (Or.inl ⟨by rfl, fun w9 hS9 => ?yields14x50⟩) (by assumption) ?later14x50
                  case yields14x50 =>
                    dsimp only at hS9
                    go_simp
                    try with_reducible rfl
                  try simp only [Act.put, List.getElem_toArray, List.getElem_cons_succ, List.getElem_cons_zero, List.setIfInBounds_toArray, List.set_cons_zero, List.set_cons_succ]
                  refine wpAnyH_take (i := 15) (v := undef) rfl (by kernel_rfl) (by kernel_rfl) (by kernel_rfl) (fun _ _ _ h => h) (Or.inr (And.intro (by kernel_rfl) rfl)) (by assumption) ?_
                  try simp only [Act.put, List.getElem_toArray, List.getElem_cons_succ, List.getElem_cons_zero, List.setIfInBounds_toArray, List.set_cons_zero, List.set_cons_succ]
                  refine wpAnyH_take (i := 16) (v := undef) rfl (by kernel_rfl) (by kernel_rfl) (by kernel_rfl) (fun _ _ _ h => h) (Or.inr (And.intro (by kernel_rfl) rfl)) (by assumption) ?_
                  try simp only [Act.put, List.getElem_toArray, List.getElem_cons_succ, List.getElem_cons_zero, List.setIfInBounds_toArray, List.set_cons_zero, List.set_cons_succ]
                  refine wpAnyH_take (i := 17) (v := undef) rfl (by kernel_rfl) (by kernel_rfl) (by kernel_rfl) (fun _ _ _ h => h) (Or.inr (And.intro (by kernel_rfl) rfl)) (by assumption) ?_
                  try simp only [Act.put, List.getElem_toArray, List.getElem_cons_succ, List.getElem_cons_zero, List.setIfInBounds_toArray, List.set_cons_zero, List.set_cons_succ]
                  refine wpAnyH_take (i := 18) (v := undef) rfl (by kernel_rfl) (by kernel_rfl) (by kernel_rfl) (fun _ _ _ h => h) (Or.inr (And.intro (by kernel_rfl) rfl)) (by assumption) ?_
                  try simp only [Act.put, List.getElem_toArray, List.getElem_cons_succ, List.getElem_cons_zero, List.setIfInBounds_toArray, List.set_cons_zero, List.set_cons_succ]
                  refine wpAnyH_take (i := 19) (v := undef) rfl (by kernel_rfl) (by kernel_rfl) (by kernel_rfl) (fun _ _ _ h => h) (Or.inr (And.intro (by kernel_rfl) rfl)) (by assumption) ?_
                  try simp only [Act.put, List.getElem_toArray, List.getElem_cons_succ, List.getElem_cons_zero, List.setIfInBounds_toArray, List.set_cons_zero, List.set_cons_succ]
                  refine wpAnyH_take (i := 20) (v := undef) rfl (by kernel_rfl) (by kernel_rfl) (by kernel_rfl) (fun _ _ _ h => h) (Or.inr (And.intro (by kernel_rfl) rfl)) (by assumption) ?_
                  try simp only [Act.put, List.getElem_toArray, List.getElem_cons_succ, List.getElem_cons_zero, List.setIfInBounds_toArray, List.set_cons_zero, List.set_cons_succ]
                  refine wpAnyH_take (i := 21) (v := undef) rfl (by kernel_rfl) (by kernel_rfl) (by kernel_rfl) (fun _ _ _ h => h) (Or.inr (And.intro (by kernel_rfl) rfl)) (by assumption) ?_
                  try simp only [Act.put, List.getElem_toArray, List.getElem_cons_succ, List.getElem_cons_zero, List.setIfInBounds_toArray, List.set_cons_zero, List.set_cons_succ]
                  refine wpAnyH_take (i := 22) (v := undef) rfl (by kernel_rfl) (by kernel_rfl) (by kernel_rfl) (fun _ _ _ h => h) (Or.inr (And.intro (by kernel_rfl) rfl)) (by assumption) ?_
                  try simp only [Act.put, List.getElem_toArray, List.getElem_cons_succ, List.getElem_cons_zero, List.setIfInBounds_toArray, List.set_cons_zero, List.set_cons_succ]
                  refine wpAnyH_take (i := 23) (v := undef) rfl (by kernel_rfl) (by kernel_rfl) (by kernel_rfl) (fun _ _ _ h => h) (Or.inr (And.intro (by kernel_rfl) rfl)) (by assumption) ?_
                  try simp only [Act.put, List.getElem_toArray, List.getElem_cons_succ, List.getElem_cons_zero, List.setIfInBounds_toArray, List.set_cons_zero, List.set_cons_succ]
                  refine wpAnyH_take (i := 24) (v := undef) rfl (by kernel_rfl) (by kernel_rfl) (by kernel_rfl) (fun _ _ _ h => h) (Or.inr (And.intro (by kernel_rfl) rfl)) (by assumption) ?_
                  try simp only [Act.put, List.getElem_toArray, List.getElem_cons_succ, List.getElem_cons_zero, List.setIfInBounds_toArray, List.set_cons_zero, List.set_cons_succ]
                  refine wpAnyH_take (i := 25) (v := ?val25x51) rfl (by kernel_rfl) (by kernel_rfl) (by kernel_rfl) (fun _ _ _ h => h) (Or.inl ⟨by rfl, fun w9 hS9 => ?yields25x51⟩) (by assumption) ?later25x51
                  case yields25x51 =>
                    dsimp only at hS9
                    go_simp
                    try with_reducible rfl
                  try simp only [Act.put, List.getElem_toArray, List.getElem_cons_succ, List.getElem_cons_zero, List.setIfInBounds_toArray, List.set_cons_zero, List.set_cons_succ]
                  refine wpAnyH_done (by kernel_rfl) ?_ _
                  have HB := hHeld
                  have HW5 := Lib.hid (HWO.out.trans (HB.out.mono HWO.out.size))
                  have HW35 := Lib.hid (HC.out.trans (HW5.out.mono HC.out.size))
                  clear HBd MK
                  generalize hw5 : World.drew wo = w5 at *
                  clear hw5
                  obtain ⟨t0, t1, t2, t3⟩ := BT.out.keep (Keep.below HW35.out)
                  obtain ⟨a0, a1, a2, a3, a4⟩ := BR.out.keep (Keep.below HW35.out)
                  have oo := BO.out.keep (Keep.below HB.out)
                  have o0 : w5.cell? ⟨wr.heap.size, 0, none⟩ = some (.int .i64 x) := oo.c0
                  have o1 : w5.cell? ⟨wr.heap.size, 1, none⟩ = some (.int .i64 t.lo) := oo.c1
                  have o2 : w5.cell? ⟨wr.heap.size, 2, none⟩ = some (.int .i64 t.hi) := oo.c2
                  have o3 : w5.cell? ⟨wr.heap.size, 3, none⟩ = some (.int .i64 t.next) := oo.c3
                  clear oo
                  go_wp2_with fail
                  refine (rBreaks_any R l (fromAt t x) t.hi A c _ (HA.out.keep (Keep.below (HW.out.trans (HW35.out.mono HW.out.size)))) HY.out.right HBH.out ⟨hh0, hh1⟩).mono ?_
                  rintro e' w9 ⟨rfl, hb1⟩
                  have HW9 := Lib.hid (HW5.out.trans (hb1.mono HW5.out.size))
                  clear hb1 o0 o1 o2 o3 t0 t1 t2 t3 a0 a1 a2 a3 a4
                  by_cases hbr : breaks R l (fromAt t x) t.hi = 0
                  · have L : Hid (Earliest R l t x) := Lib.hid (earliest_found HY.out (i := i) (by rw [← HBG.out]; exact hlt) (by rw [← HBG.out]; exact HD.out) (by rw [← HBG.out, ← HB0.out, ← HEN.out]; exact WA.out) hbr)
                    rw [hbr]
                    clear hbr
                    go_wp2_with fail
                    go_ret
                    exact ⟨⟨x, rfl, L.out⟩, HW.out.trans ((HC.out.trans (HW9.out.mono HC.out.size)).mono HW.out.size)⟩
                  · have G : Hid (Done R l t B (i + 1)) := Lib.hid (by
                      rw [HBG.out]
                      exact done_step HY.out (by rw [← HBG.out]; exact hlt) (by rw [← HBG.out]; exact HD.out) (by rw [← HBG.out, ← HB0.out, ← HEN.out]; exact WA.out) (by rw [← HBG.out, ← HB0.out]; exact HSK.out) hbr)
                    have e5 : (breaks R l (fromAt t x) t.hi == 0) = false := by simpa using hbr
                    clear hbr
                    go_wp2_with fail
                    go_roundw
                    case rel => exact ⟨i', by have := HII.out; omega, rfl, by rw [HII.out]; exact G, HW9⟩
                    case measure => have := HII.out; simp [intOf]; omega
        · have L : Hid (Earliest R l t (-1)) := Lib.hid (earliest_none (by rw [← HBG.out, show B.length = i by omega]; exact HD.out))
          go_wp2_with fail
          go_ret
          exact ⟨⟨_, rfl, L.out⟩, HW.out.trans ((HC.out.trans (HB1.out.mono HC.out.size)).mono HW.out.size)⟩
end Go.Proofs.Ytolicafhbeiciaa

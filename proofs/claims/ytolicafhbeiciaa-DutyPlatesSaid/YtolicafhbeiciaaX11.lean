/- Which trips are allowed; for how long a trip may last. No condition. -/
import Derived.Test.YtolicafhbeiciaaX10
import Derived.Test.YtolicafhbeiciaaX7
import Derived.Test.YtolicafhbeiciaaX5
import Derived.Test.YtolicafhbeiciaaX1
namespace Go.Proofs.Ytolicafhbeiciaa
open Go.RowKit Fs

set_option linter.unusedSimpArgs false in
set_option maxHeartbeats 12800000 in
set_option maxRecDepth 100000 in
theorem xAllowed_any (R : DRules) (l : List WRec) (A : Option Addr) (c : Nat) (t : DTrip) (w : World) (h : ArrW w A l c) :
    Calls Try.prog 31 #[drulesV R, .slice A l.length c, dtripV t] w fun e w' => e = .returned (.tuple #[.int .i64 (allowedOut R l t).1, .int .i64 (allowedOut R l t).2, .int .i64 (lawTripErr R l t)]) ∧ Below w.heap.size w w' := by
  have b1 := h.le.1
  have b2 := h.le.2
  have HA := Lib.hid h
  clear h
  have BR := Lib.hid ((RulesIn.new w R 23).keep (Keep.alloc _ (.cells #[.int .i64 t.start, .int .i64 t.lo, .int .i64 t.hi, .int .i64 t.next] 54)))
  have BT := Lib.hid (show TripIn ((w.alloc (.cells #[.int .i64 R.brk, .int .i64 R.rest, .int .i64 R.stint, .int .i64 R.shift, .int .i64 R.week] 23)).alloc (.cells #[.int .i64 t.start, .int .i64 t.lo, .int .i64 t.hi, .int .i64 t.next] 54)) (w.heap.size + 1) t from ⟨cellNew1 _ _ _ _ 0, cellNew1 _ _ _ _ 1, cellNew1 _ _ _ _ 2, cellNew1 _ _ _ _ 3⟩)
  go_enter Try.func31, Try.ntmps31
  go_upto_region 1 with fail
  generalize hwb : (w.alloc _).alloc _ = wb at *
  have HW : Hid (Below w.heap.size w wb) := by rw [← hwb]; exact Lib.hid (((Below.refl _ _).alloc (Nat.le_refl _) _).alloc (by simp) _)
  clear hwb
  obtain ⟨a0, a1, a2, a3, a4⟩ := BR.out
  obtain ⟨t0, t1, t2, t3⟩ := BT.out
  by_cases he : lawTripErr R l t = 0
  · have HE := Lib.hid he
    obtain ⟨hk1, hk2⟩ := lawTrip_ok he
    obtain ⟨hh1, hh2, hh3, hh4, hh5⟩ := dtrip_ok hk2
    have HRT := Lib.hid (recs_right (both_ok hk1).2)
    have HT := Lib.hid hh1
    have HH2 := Lib.hid hh2
    have HH3 := Lib.hid hh3
    have HAO := Lib.hid (show allowedOut R l t = allowed R l t from if_pos he)
    clear he hk1 hk2 hh1 hh2 hh3 hh4 hh5
    go_upto_region 2 with (go_at_call 85
                           refine (xBookFor_any R l t A c _ (HA.out.keep (Keep.below HW.out))).mono ?_
                           rintro e' w1 ⟨⟨v, rfl, hv1, -⟩, hb1⟩
                           obtain rfl := hv1 HE.out
                           rw [HE.out]
                           have BX := Lib.hid (BookIn.new w1 R A l.length c 127)
                           have hbx := (hb1.alloc hb1.size (.cells #[.int .i64 R.brk, .int .i64 R.rest, .int .i64 R.stint, .int .i64 R.shift, .int .i64 R.week, .slice A l.length c] 127))
                           replace BT := Lib.hid (BT.out.keep (Keep.below hbx))
                           replace HW := Lib.hid (HW.out.trans (hbx.mono HW.out.size))
                           clear hb1 hbx hv1 a0 a1 a2 a3 a4 t0 t1 t2 t3 BR)
    generalize hg : w1.heap.size = g at *
    generalize hwy : w1.alloc _ = wy at *
    clear hwy hg
    obtain ⟨t0, t1, t2, t3⟩ := BT.out
    obtain ⟨k0, k1, k2, k3, k4, k5⟩ := BX.out
    go_wp2_with fail
    refine (xBrokenBy_any R l t t.hi A c _ (HA.out.keep (Keep.below HW.out)) HRT.out HT.out HH3.out).mono ?_
    rintro e' w2 ⟨rfl, hb1⟩
    replace BT := Lib.hid (BT.out.keep (Keep.below hb1))
    replace BX := Lib.hid (BX.out.keep (Keep.below hb1))
    replace HW := Lib.hid (HW.out.trans (hb1.mono HW.out.size))
    clear hb1 t0 t1 t2 t3 k0 k1 k2 k3 k4 k5
    obtain ⟨t0, t1, t2, t3⟩ := BT.out
    obtain ⟨k0, k1, k2, k3, k4, k5⟩ := BX.out
    by_cases h1 : breaks R l t t.hi = 0
    · have F := Lib.hid (show allowed R l t = (2, 0) from if_pos h1)
      rw [h1]
      clear h1
      go_wp2_with fail
      refine bodyPost_ret (v := .tuple #[.int .i64 2, .int .i64 0, .int .i64 0]) (by simp [results, Try.results31, go_sem]) rfl ⟨by rw [HAO.out, F.out, HE.out], HW.out⟩
    · have F1 := Lib.hid (show allowed R l t = if breaks R l t t.lo = 0 then (1, breaks R l t t.hi) else (0, breaks R l t t.hi) from if_neg h1)
      have HNE := Lib.hid h1
      generalize hX : breaks R l t t.hi = X at *
      have e1 : (X == 0) = false := by simpa using h1
      have e2 : (X != 0) = true := by simpa using h1
      clear h1 hX
      go_wp2_with fail
      refine (xBrokenBy_any R l t t.lo A c _ (HA.out.keep (Keep.below HW.out)) HRT.out HT.out HH2.out).mono ?_
      rintro e' w3 ⟨rfl, hb1⟩
      replace BT := Lib.hid (BT.out.keep (Keep.below hb1))
      replace BX := Lib.hid (BX.out.keep (Keep.below hb1))
      replace HW := Lib.hid (HW.out.trans (hb1.mono HW.out.size))
      clear hb1 t0 t1 t2 t3 k0 k1 k2 k3 k4 k5
      obtain ⟨t0, t1, t2, t3⟩ := BT.out
      obtain ⟨k0, k1, k2, k3, k4, k5⟩ := BX.out
      by_cases h2 : breaks R l t t.lo = 0
      · have F := Lib.hid (F1.out.trans (if_pos h2))
        rw [h2]
        clear h2
        go_wp2_with fail
        refine bodyPost_ret (v := .tuple #[.int .i64 1, .int .i64 X, .int .i64 0]) (by simp [results, Try.results31, go_sem]) rfl ⟨by rw [HAO.out, F.out, HE.out], HW.out⟩
      · have F := Lib.hid (F1.out.trans (if_neg h2))
        generalize hY : breaks R l t t.lo = Y at *
        have e3 : (Y == 0) = false := by simpa using h2
        have e4 : (Y != 0) = true := by simpa using h2
        clear h2 hY
        go_wp2_with fail
        refine bodyPost_ret (v := .tuple #[.int .i64 0, .int .i64 X, .int .i64 0]) (by simp [results, Try.results31, go_sem]) rfl ⟨by rw [HAO.out, F.out, HE.out], HW.out⟩
  · have HE := Lib.hid he
    have HAO := Lib.hid (show allowedOut R l t = (0, 0) from if_neg he)
    have e1 : (lawTripErr R l t == 0) = false := by simpa using he
    have e2 : (lawTripErr R l t != 0) = true := by simpa using he
    clear he
    go_upto_region 2 with (go_at_call 85
                           refine (xBookFor_any R l t A c _ (HA.out.keep (Keep.below HW.out))).mono ?_
                           rintro e' w1 ⟨⟨v, rfl, -, hv1⟩, hb1⟩
                           obtain rfl := hv1 HE.out
                           have hbx := (hb1.alloc hb1.size (.cells #[.int .i64 0, .int .i64 0, .int .i64 0, .int .i64 0, .int .i64 0, .slice none 0 0] 127))
                           replace BT := Lib.hid (BT.out.keep (Keep.below hbx))
                           replace HW := Lib.hid (HW.out.trans (hbx.mono HW.out.size))
                           clear hb1 hbx hv1 a0 a1 a2 a3 a4 t0 t1 t2 t3 BR)
    generalize hg : w1.heap.size = g at *
    generalize hwy : w1.alloc _ = wy at *
    clear hwy hg
    go_wp2_with fail
    refine bodyPost_ret (v := .tuple #[.int .i64 0, .int .i64 0, .int .i64 (lawTripErr R l t)]) (by simp [results, Try.results31, go_sem]) rfl ⟨by rw [HAO.out], HW.out⟩
set_option linter.unusedSimpArgs false in
set_option maxHeartbeats 12800000 in
set_option maxRecDepth 100000 in
theorem xLonger_any (R : DRules) (l : List WRec) (t : DTrip) (A : Option Addr) (c g q k : Nat) (w : World) (h : ArrW w A l c) (hB : BookIn w g R A l.length c) (hT : TripIn w q t) (hR : Right l) (hBT : Behind l t) (hk : k < 200000) :
    Calls Try.prog 90 #[.int .i64 k, .pointer (some ⟨g, 0, none⟩), .pointer (some ⟨q, 0, none⟩)] w fun e w' => e = .returned (.bool (decide (breaks R l t ((k : Int) + 1) ≠ 0))) ∧ Below w.heap.size w w' := by
  have HA := Lib.hid h
  have HRT := Lib.hid hR
  have HBT := Lib.hid hBT
  clear h hR hBT
  obtain ⟨t0, t1, t2, t3⟩ := hT
  obtain ⟨k0, k1, k2, k3, k4, k5⟩ := hB
  have hw1 : IntKind.i64.wrap ((k : Int) + 1) = (k : Int) + 1 := by rw [IntKind.wrap_i64]; omega
  obtain ⟨z, hz⟩ : ∃ z : Int, z = (k : Int) + 1 := ⟨_, rfl⟩
  rw [← hz] at hw1 ⊢
  have hz1 : (k : Int) + 1 = z := hz.symm
  have HZ := Lib.hid (show 0 ≤ z ∧ z ≤ 200000 by omega)
  clear hz hk
  go_enter Try.func90, Try.ntmps90
  go_wp2_with fail
  refine (xBrokenBy_any R l t z A c _ HA.out HRT.out HBT.out HZ.out).mono ?_
  rintro e' w2 ⟨rfl, hb1⟩
  go_wp2_with fail
  go_ret
  refine ⟨ret_bool ?_, hb1⟩
  by_cases h1 : breaks R l t z = 0
  · simp [h1]
  · simp [h1]
set_option linter.unusedSimpArgs false in
set_option maxHeartbeats 12800000 in
set_option maxRecDepth 100000 in
theorem xLongest_any (R : DRules) (l : List WRec) (A : Option Addr) (c : Nat) (s : Int) (w : World) (h : ArrW w A l c) :
    Calls Try.prog 35 #[drulesV R, .slice A l.length c, .int .i64 s] w fun e w' => (∃ n, e = .returned (.tuple #[.int .i64 n, .int .i64 (lawTripErr R l (bare s))]) ∧ LongestIs R l s n) ∧ Below w.heap.size w w' := by
  have b1 := h.le.1
  have b2 := h.le.2
  have HA := Lib.hid h
  clear h
  have BR := Lib.hid ((RulesIn.new w R 23).keep (Keep.alloc _ (.cells #[.int .i64 s, .int .i64 0, .int .i64 0, .int .i64 (-1)] 54)))
  have BT := Lib.hid (show TripIn ((w.alloc (.cells #[.int .i64 R.brk, .int .i64 R.rest, .int .i64 R.stint, .int .i64 R.shift, .int .i64 R.week] 23)).alloc (.cells #[.int .i64 s, .int .i64 0, .int .i64 0, .int .i64 (-1)] 54)) (w.heap.size + 1) (bare s) from ⟨cellNew1 _ _ _ _ 0, cellNew1 _ _ _ _ 1, cellNew1 _ _ _ _ 2, cellNew1 _ _ _ _ 3⟩)
  go_enter Try.func35, Try.ntmps35
  go_upto_region 2 with fail
  generalize hwb : (w.alloc _).alloc _ = wb at *
  have HW : Hid (Below w.heap.size w wb) := by rw [← hwb]; exact Lib.hid (((Below.refl _ _).alloc (Nat.le_refl _) _).alloc (by simp) _)
  clear hwb
  obtain ⟨a0, a1, a2, a3, a4⟩ := BR.out
  obtain ⟨t0, t1, t2, t3⟩ := BT.out
  by_cases he : lawTripErr R l (bare s) = 0
  · have HE := Lib.hid he
    obtain ⟨hk1, hk2⟩ := lawTrip_ok he
    obtain ⟨hh1, hh2, hh3, hh4, hh5⟩ := dtrip_ok hk2
    have HRT := Lib.hid (recs_right (both_ok hk1).2)
    have HT := Lib.hid hh1
    clear he hk1 hk2 hh1 hh2 hh3 hh4 hh5
    go_upto_region 3 with (go_at_call 85
                           refine (xBookFor_any R l (bare s) A c _ (HA.out.keep (Keep.below HW.out))).mono ?_
                           rintro e' w1 ⟨⟨v, rfl, hv1, -⟩, hb1⟩
                           obtain rfl := hv1 HE.out
                           rw [HE.out]
                           have BX := Lib.hid (BookIn.new w1 R A l.length c 127)
                           have hbx := (hb1.alloc hb1.size (.cells #[.int .i64 R.brk, .int .i64 R.rest, .int .i64 R.stint, .int .i64 R.shift, .int .i64 R.week, .slice A l.length c] 127))
                           replace BT := Lib.hid (BT.out.keep (Keep.below hbx))
                           replace HW := Lib.hid (HW.out.trans (hbx.mono HW.out.size))
                           clear hb1 hbx hv1 a0 a1 a2 a3 a4 t0 t1 t2 t3 BR)
    generalize hg : w1.heap.size = g at *
    generalize hwy : w1.alloc _ = wy at *
    clear hwy hg
    go_wp2_with fail
    refine (sortSearch_any 90 (.pointer (some ⟨g, 0, none⟩)) (.pointer (some ⟨w.heap.size + 1, 0, none⟩)) 200000 (fun k => decide (breaks R l (bare s) ((k : Int) + 1) ≠ 0)) _ (by decide) (fun args w => by kernel_rfl) (fun w' hb i hi => xLonger_any R l (bare s) A c g (w.heap.size + 1) i w' (HA.out.keep (Keep.below (HW.out.trans (hb.mono HW.out.size)))) (BX.out.keep (Keep.below hb)) (BT.out.keep (Keep.below hb)) HRT.out HT.out hi) (fun a b hab hb hpa => ?_)).mono ?_
    · simp only [decide_eq_true_eq] at hpa ⊢
      exact fun h => hpa (breaks_mono HRT.out HT.out (by omega) (by omega) h)
    · rintro e' w3 ⟨k, hk, rfl, hk1, hk2, hb1⟩
      have HL := Lib.hid (show LongestIs R l s k from ⟨fun h => absurd HE.out h, fun _ => ⟨by omega, by omega, by
          rcases Nat.eq_zero_or_pos k with h0 | h0
          · rw [h0]; exact bare_zero R l s
          · have := hk1 (k - 1) (by omega)
            simp only [ne_eq, decide_eq_false_iff_not, Decidable.not_not] at this
            rw [show ((k - 1 : Nat) : Int) + 1 = (k : Int) by omega] at this
            exact this, fun m h1 h2 h3 => by
          have := hk2 (m - 1).toNat (by omega) (by omega)
          simp only [ne_eq, decide_eq_true_eq] at this
          rw [show (((m - 1).toNat : Nat) : Int) + 1 = m by omega] at this
          exact this h3⟩⟩)
      clear hk1 hk2
      go_wp2_with fail
      refine bodyPost_ret (v := .tuple #[.int .i64 (k : Nat), .int .i64 0]) (by simp [results, Try.results35, go_sem]) rfl ⟨⟨_, by rw [HE.out], HL.out⟩, HW.out.trans (hb1.mono HW.out.size)⟩
  · have HE := Lib.hid he
    have e1 : (lawTripErr R l (bare s) == 0) = false := by simpa using he
    have e2 : (lawTripErr R l (bare s) != 0) = true := by simpa using he
    clear he
    go_upto_region 3 with (go_at_call 85
                           refine (xBookFor_any R l (bare s) A c _ (HA.out.keep (Keep.below HW.out))).mono ?_
                           rintro e' w1 ⟨⟨v, rfl, -, hv1⟩, hb1⟩
                           obtain rfl := hv1 HE.out
                           have hbx := (hb1.alloc hb1.size (.cells #[.int .i64 0, .int .i64 0, .int .i64 0, .int .i64 0, .int .i64 0, .slice none 0 0] 127))
                           replace BT := Lib.hid (BT.out.keep (Keep.below hbx))
                           replace HW := Lib.hid (HW.out.trans (hbx.mono HW.out.size))
                           clear hb1 hbx hv1 a0 a1 a2 a3 a4 t0 t1 t2 t3 BR)
    generalize hg : w1.heap.size = g at *
    generalize hwy : w1.alloc _ = wy at *
    clear hwy hg
    go_wp2_with fail
    refine bodyPost_ret (v := .tuple #[.int .i64 0, .int .i64 (lawTripErr R l (bare s))]) (by simp [results, Try.results35, go_sem]) rfl ⟨⟨_, rfl, ⟨fun _ => rfl, fun h => absurd h HE.out⟩⟩, HW.out⟩
end Go.Proofs.Ytolicafhbeiciaa
/- Contracts of duty's functions that the laws of chapter 7 call: the work, groups, what is broken, trips. No condition. -/

/- The chapter's examples are so. No condition. -/
namespace Go.Proofs.Ytolicafhbeiciaa
open Go.RowKit Fs

theorem ann_out1 : groupsOut annRules annList annRules.brk = [(0, 1), (2, 2)] := by unfold groupsOut; rw [if_pos ann_both]; exact ann_stints
theorem ann_trip0 : lawTripErr annRules annList annTrip = 0 := by unfold lawTripErr; rw [if_neg (fun h => h ann_both)]; exact ann_trip
theorem ann_bare0 : lawTripErr annRules annList (bare 20000) = 0 := by unfold lawTripErr; rw [if_neg (fun h => h ann_both)]; exact ann_bare
theorem ann_out3 : allowedOut annRules annList annTrip = (1, 1) := by unfold allowedOut; rw [if_pos ann_trip0]; exact ann_allowed
theorem ann_err4 : workErr annList 9000 11000 = 0 := by unfold workErr; rw [if_neg (fun h => h ann_recs)]; decide
theorem ann_out4 : workOut annList 9000 11000 = 1500 := by unfold workOut; rw [if_pos ann_err4]; exact ann_work
theorem ann_long {n : Int} (h : LongestIs annRules annList 20000 n) : n = 12200 := (h.good ann_bare0).same ann_longest
set_option linter.unusedSimpArgs false in
set_option maxHeartbeats 3200000 in
set_option maxRecDepth 100000 in
theorem lawAwake_any (w : World) : Calls Try.prog 17 #[] w fun e w' => e = .returned (.bool true) ∧ Below w.heap.size w w' := by
  have F1 := Lib.hid ann_out1
  have F2 := Lib.hid ann_trip0
  have F3 := Lib.hid ann_out3
  have F4 := Lib.hid (And.intro ann_out4 ann_err4)
  have heq := eqTwo
  have hgt := guardTwo
  go_enter Try.func17, Try.ntmps17
  go_wp2_with fail
  refine (lawRules_any _).mono ?_
  rintro e' w1 ⟨rfl, hb1⟩
  have HB := Lib.hid hb1
  clear hb1
  go_wp2_with fail
  refine (lawAnn_any _).mono ?_
  rintro e' w2 ⟨⟨A2, c2, rfl, h2⟩, hb1⟩
  replace HB := Lib.hid (HB.out.trans (hb1.mono HB.out.size))
  have H2 := Lib.hid h2
  clear h2
  clear hb1
  go_wp2_with fail
  refine (xStints_any annRules annList A2 c2 _ H2.out).mono ?_
  rintro e' w3 ⟨⟨A3, c3, rfl, h3⟩, hb1⟩
  replace HB := Lib.hid (HB.out.trans (hb1.mono HB.out.size))
  rw [F1.out] at h3
  rw [F1.out, ann_both]
  have H3 := Lib.hid h3
  clear h3 H2
  clear hb1
  go_wp2_with fail
  refine (lawRules_any _).mono ?_
  rintro e' w1 ⟨rfl, hb1⟩
  replace HB := Lib.hid (HB.out.trans (hb1.mono HB.out.size))
  replace H3 := Lib.hid (H3.out.keep (Keep.below hb1))
  clear hb1
  go_wp2_with fail
  refine (lawAnn_any _).mono ?_
  rintro e' w2 ⟨⟨A2, c2, rfl, h2⟩, hb1⟩
  replace HB := Lib.hid (HB.out.trans (hb1.mono HB.out.size))
  replace H3 := Lib.hid (H3.out.keep (Keep.below hb1))
  have H2 := Lib.hid h2
  clear h2
  clear hb1
  go_wp2_with fail
  refine (xLongest_any annRules annList A2 c2 20000 _ H2.out).mono ?_
  rintro e' w3 ⟨⟨n, rfl, hn⟩, hb1⟩
  replace HB := Lib.hid (HB.out.trans (hb1.mono HB.out.size))
  replace H3 := Lib.hid (H3.out.keep (Keep.below hb1))
  obtain rfl := ann_long hn
  rw [ann_bare0]
  clear hn H2
  clear hb1
  go_wp2_with fail
  refine (lawRules_any _).mono ?_
  rintro e' w1 ⟨rfl, hb1⟩
  replace HB := Lib.hid (HB.out.trans (hb1.mono HB.out.size))
  replace H3 := Lib.hid (H3.out.keep (Keep.below hb1))
  clear hb1
  go_wp2_with fail
  refine (lawAnn_any _).mono ?_
  rintro e' w2 ⟨⟨A2, c2, rfl, h2⟩, hb1⟩
  replace HB := Lib.hid (HB.out.trans (hb1.mono HB.out.size))
  replace H3 := Lib.hid (H3.out.keep (Keep.below hb1))
  have H2 := Lib.hid h2
  clear h2
  clear hb1
  go_wp2_with fail
  refine (xAllowed_any annRules annList A2 c2 annTrip _ H2.out).mono ?_
  rintro e' w3 ⟨rfl, hb1⟩
  replace HB := Lib.hid (HB.out.trans (hb1.mono HB.out.size))
  replace H3 := Lib.hid (H3.out.keep (Keep.below hb1))
  rw [F3.out, F2.out]
  clear H2
  clear hb1
  go_wp2_with fail
  refine (lawAnn_any _).mono ?_
  rintro e' w2 ⟨⟨A2, c2, rfl, h2⟩, hb1⟩
  replace HB := Lib.hid (HB.out.trans (hb1.mono HB.out.size))
  replace H3 := Lib.hid (H3.out.keep (Keep.below hb1))
  have H2 := Lib.hid h2
  clear h2
  clear hb1
  go_wp2_with fail
  refine (xWork_any annList A2 c2 9000 11000 _ H2.out).mono ?_
  rintro e' w3 ⟨rfl, hb1⟩
  replace HB := Lib.hid (HB.out.trans (hb1.mono HB.out.size))
  replace H3 := Lib.hid (H3.out.keep (Keep.below hb1))
  rw [F4.out.1, F4.out.2]
  clear H2
  clear hb1
  obtain ⟨b, o, rfl, q0, q1⟩ := H3.out.at_ (k := 0) (by decide)
  simp only [Nat.zero_mul, Nat.add_zero] at q0 q1
  have k0 : w3.cell? ⟨b, o, none⟩ = some (.int .i64 0) := q0
  have k1 : w3.cell? ⟨b, o + 1, none⟩ = some (.int .i64 1) := q1
  clear q0 q1
  go_wp2_with fail
  go_ret
  exact ⟨rfl, HB.out⟩
end Go.Proofs.Ytolicafhbeiciaa

/- Which trips are allowed; for how long a trip may last. No condition. -/
import Derived.Test.YtjmaankkbdpikaaX9
import Derived.Test.YtjmaankkbdpikaaX7
import Derived.Test.YtjmaankkbdpikaaX5
import Derived.Test.YtjmaankkbdpikaaX1
import Derived.Deep.AppendLies
namespace Go.Proofs.Ytjmaankkbdpikaa
open Go.RowKit Fs

set_option linter.unusedSimpArgs false in
set_option maxHeartbeats 12800000 in
set_option maxRecDepth 100000 in
theorem xAllowed_any (R : DRules) (l : List WRec) (A : Option Addr) (c : Nat) (t : DTrip) (w : World) (h : ArrW w A l c) :
    Calls Try.prog 12 #[drulesV R, .slice A l.length c, dtripV t] w fun e w' => e = .returned (.tuple #[.int .i64 (allowedOut R l t).1, .int .i64 (allowedOut R l t).2, .int .i64 (lawTripErr R l t)]) ∧ Below w.heap.size w w' := by
  have b1 := h.le.1
  have b2 := h.le.2
  have HA := Lib.hid h
  clear h
  have BR := Lib.hid ((RulesIn.new w R 29).keep (Keep.alloc _ (.cells #[.int .i64 t.start, .int .i64 t.lo, .int .i64 t.hi, .int .i64 t.next] 45)))
  have BT := Lib.hid (show TripIn ((w.alloc (.cells #[.int .i64 R.brk, .int .i64 R.rest, .int .i64 R.stint, .int .i64 R.shift, .int .i64 R.week] 29)).alloc (.cells #[.int .i64 t.start, .int .i64 t.lo, .int .i64 t.hi, .int .i64 t.next] 45)) (w.heap.size + 1) t from ⟨cellNew1 _ _ _ _ 0, cellNew1 _ _ _ _ 1, cellNew1 _ _ _ _ 2, cellNew1 _ _ _ _ 3⟩)
  go_enter Try.func12, Try.ntmps12
  go_upto_region 1 with fail
  generalize hwb : (w.alloc _).alloc _ = wb at *
  have HW : Hid (Below w.heap.size w wb) := by rw [← hwb]; exact Lib.hid (((Below.refl _ _).alloc (Nat.le_refl _) _).alloc (by simp) _)
  clear hwb
  obtain ⟨a0, a1, a2, a3, a4⟩ := BR.out
  obtain ⟨t0, t1, t2, t3⟩ := BT.out
  by_cases he : lawTripErr R l t = 0
  · have HE := Lib.hid he
    obtain ⟨hk1, hk2⟩ := lawTrip_ok he
    obtain ⟨hh1, hh2, hh3, hh4, hh5⟩ := dtrip_ok hk2
    have HRT := Lib.hid (recs_right (both_ok hk1).2)
    have HT := Lib.hid hh1
    have HH2 := Lib.hid hh2
    have HH3 := Lib.hid hh3
    have HAO := Lib.hid (show allowedOut R l t = allowed R l t from if_pos he)
    clear he hk1 hk2 hh1 hh2 hh3 hh4 hh5
    go_upto_region 2 with (go_at_call 27
                           refine (xBookFor_any R l t A c _ (HA.out.keep (Keep.below HW.out))).mono ?_
                           rintro e' w1 ⟨⟨v, rfl, hv1, -⟩, hb1⟩
                           obtain rfl := hv1 HE.out
                           rw [HE.out]
                           have BX := Lib.hid (BookIn.new w1 R A l.length c 74)
                           have hbx := (hb1.alloc hb1.size (.cells #[.int .i64 R.brk, .int .i64 R.rest, .int .i64 R.stint, .int .i64 R.shift, .int .i64 R.week, .slice A l.length c] 74))
                           replace BT := Lib.hid (BT.out.keep (Keep.below hbx))
                           replace HW := Lib.hid (HW.out.trans (hbx.mono HW.out.size))
                           clear hb1 hbx hv1 a0 a1 a2 a3 a4 t0 t1 t2 t3 BR)
    generalize hg : w1.heap.size = g at *
    generalize hwy : w1.alloc _ = wy at *
    clear hwy hg
    obtain ⟨t0, t1, t2, t3⟩ := BT.out
    obtain ⟨k0, k1, k2, k3, k4, k5⟩ := BX.out
    go_wp2_with fail
    refine (xBrokenBy_any R l t t.hi A c _ (HA.out.keep (Keep.below HW.out)) HRT.out HT.out HH3.out).mono ?_
    rintro e' w2 ⟨rfl, hb1⟩
    replace BT := Lib.hid (BT.out.keep (Keep.below hb1))
    replace BX := Lib.hid (BX.out.keep (Keep.below hb1))
    replace HW := Lib.hid (HW.out.trans (hb1.mono HW.out.size))
    clear hb1 t0 t1 t2 t3 k0 k1 k2 k3 k4 k5
    obtain ⟨t0, t1, t2, t3⟩ := BT.out
    obtain ⟨k0, k1, k2, k3, k4, k5⟩ := BX.out
    by_cases h1 : breaks R l t t.hi = 0
    · have F := Lib.hid (show allowed R l t = (2, 0) from if_pos h1)
      rw [h1]
      clear h1
      go_wp2_with fail
      refine bodyPost_ret (v := .tuple #[.int .i64 2, .int .i64 0, .int .i64 0]) (by simp [results, Try.results12, go_sem]) rfl ⟨by rw [HAO.out, F.out, HE.out], HW.out⟩
    · have F1 := Lib.hid (show allowed R l t = if breaks R l t t.lo = 0 then (1, breaks R l t t.hi) else (0, breaks R l t t.hi) from if_neg h1)
      have HNE := Lib.hid h1
      generalize hX : breaks R l t t.hi = X at *
      have e1 : (X == 0) = false := by simpa using h1
      have e2 : (X != 0) = true := by simpa using h1
      clear h1 hX
      go_wp2_with fail
      refine (xBrokenBy_any R l t t.lo A c _ (HA.out.keep (Keep.below HW.out)) HRT.out HT.out HH2.out).mono ?_
      rintro e' w3 ⟨rfl, hb1⟩
      replace BT := Lib.hid (BT.out.keep (Keep.below hb1))
      replace BX := Lib.hid (BX.out.keep (Keep.below hb1))
      replace HW := Lib.hid (HW.out.trans (hb1.mono HW.out.size))
      clear hb1 t0 t1 t2 t3 k0 k1 k2 k3 k4 k5
      obtain ⟨t0, t1, t2, t3⟩ := BT.out
      obtain ⟨k0, k1, k2, k3, k4, k5⟩ := BX.out
      by_cases h2 : breaks R l t t.lo = 0
      · have F := Lib.hid (F1.out.trans (if_pos h2))
        rw [h2]
        clear h2
        go_wp2_with fail
        refine bodyPost_ret (v := .tuple #[.int .i64 1, .int .i64 X, .int .i64 0]) (by simp [results, Try.results12, go_sem]) rfl ⟨by rw [HAO.out, F.out, HE.out], HW.out⟩
      · have F := Lib.hid (F1.out.trans (if_neg h2))
        generalize hY : breaks R l t t.lo = Y at *
        have e3 : (Y == 0) = false := by simpa using h2
        have e4 : (Y != 0) = true := by simpa using h2
        clear h2 hY
        go_wp2_with fail
        refine bodyPost_ret (v := .tuple #[.int .i64 0, .int .i64 X, .int .i64 0]) (by simp [results, Try.results12, go_sem]) rfl ⟨by rw [HAO.out, F.out, HE.out], HW.out⟩
  · have HE := Lib.hid he
    have HAO := Lib.hid (show allowedOut R l t = (0, 0) from if_neg he)
    have e1 : (lawTripErr R l t == 0) = false := by simpa using he
    have e2 : (lawTripErr R l t != 0) = true := by simpa using he
    clear he
    go_upto_region 2 with (go_at_call 27
                           refine (xBookFor_any R l t A c _ (HA.out.keep (Keep.below HW.out))).mono ?_
                           rintro e' w1 ⟨⟨v, rfl, -, hv1⟩, hb1⟩
                           obtain rfl := hv1 HE.out
                           have hbx := (hb1.alloc hb1.size (.cells #[.int .i64 0, .int .i64 0, .int .i64 0, .int .i64 0, .int .i64 0, .slice none 0 0] 74))
                           replace BT := Lib.hid (BT.out.keep (Keep.below hbx))
                           replace HW := Lib.hid (HW.out.trans (hbx.mono HW.out.size))
                           clear hb1 hbx hv1 a0 a1 a2 a3 a4 t0 t1 t2 t3 BR)
    generalize hg : w1.heap.size = g at *
    generalize hwy : w1.alloc _ = wy at *
    clear hwy hg
    go_wp2_with fail
    refine bodyPost_ret (v := .tuple #[.int .i64 0, .int .i64 0, .int .i64 (lawTripErr R l t)]) (by simp [results, Try.results12, go_sem]) rfl ⟨by rw [HAO.out], HW.out⟩
set_option linter.unusedSimpArgs false in
set_option maxHeartbeats 12800000 in
set_option maxRecDepth 100000 in
theorem xLonger_any (R : DRules) (l : List WRec) (t : DTrip) (A : Option Addr) (c g q k : Nat) (w : World) (h : ArrW w A l c) (hB : BookIn w g R A l.length c) (hT : TripIn w q t) (hR : Right l) (hBT : Behind l t) (hk : k < 200000) :
    Calls Try.prog 30 #[.int .i64 k, .pointer (some ⟨g, 0, none⟩), .pointer (some ⟨q, 0, none⟩)] w fun e w' => e = .returned (.bool (decide (breaks R l t ((k : Int) + 1) ≠ 0))) ∧ Below w.heap.size w w' := by
  have HA := Lib.hid h
  have HRT := Lib.hid hR
  have HBT := Lib.hid hBT
  clear h hR hBT
  obtain ⟨t0, t1, t2, t3⟩ := hT
  obtain ⟨k0, k1, k2, k3, k4, k5⟩ := hB
  have hw1 : IntKind.i64.wrap ((k : Int) + 1) = (k : Int) + 1 := by rw [IntKind.wrap_i64]; omega
  obtain ⟨z, hz⟩ : ∃ z : Int, z = (k : Int) + 1 := ⟨_, rfl⟩
  rw [← hz] at hw1 ⊢
  have hz1 : (k : Int) + 1 = z := hz.symm
  have HZ := Lib.hid (show 0 ≤ z ∧ z ≤ 200000 by omega)
  clear hz hk
  go_enter Try.func30, Try.ntmps30
  go_wp2_with fail
  refine (xBrokenBy_any R l t z A c _ HA.out HRT.out HBT.out HZ.out).mono ?_
  rintro e' w2 ⟨rfl, hb1⟩
  go_wp2_with fail
  go_ret
  refine ⟨ret_bool ?_, hb1⟩
  by_cases h1 : breaks R l t z = 0
  · simp [h1]
  · simp [h1]
set_option linter.unusedSimpArgs false in
set_option maxHeartbeats 12800000 in
set_option maxRecDepth 100000 in
theorem xLongest_any (R : DRules) (l : List WRec) (A : Option Addr) (c : Nat) (s : Int) (w : World) (h : ArrW w A l c) :
    Calls Try.prog 13 #[drulesV R, .slice A l.length c, .int .i64 s] w fun e w' => (∃ n, e = .returned (.tuple #[.int .i64 n, .int .i64 (lawTripErr R l (bare s))]) ∧ LongestIs R l s n) ∧ Below w.heap.size w w' := by
  have b1 := h.le.1
  have b2 := h.le.2
  have HA := Lib.hid h
  clear h
  have BR := Lib.hid ((RulesIn.new w R 29).keep (Keep.alloc _ (.cells #[.int .i64 s, .int .i64 0, .int .i64 0, .int .i64 (-1)] 45)))
  have BT := Lib.hid (show TripIn ((w.alloc (.cells #[.int .i64 R.brk, .int .i64 R.rest, .int .i64 R.stint, .int .i64 R.shift, .int .i64 R.week] 29)).alloc (.cells #[.int .i64 s, .int .i64 0, .int .i64 0, .int .i64 (-1)] 45)) (w.heap.size + 1) (bare s) from ⟨cellNew1 _ _ _ _ 0, cellNew1 _ _ _ _ 1, cellNew1 _ _ _ _ 2, cellNew1 _ _ _ _ 3⟩)
  go_enter Try.func13, Try.ntmps13
  go_upto_region 2 with fail
  generalize hwb : (w.alloc _).alloc _ = wb at *
  have HW : Hid (Below w.heap.size w wb) := by rw [← hwb]; exact Lib.hid (((Below.refl _ _).alloc (Nat.le_refl _) _).alloc (by simp) _)
  clear hwb
  obtain ⟨a0, a1, a2, a3, a4⟩ := BR.out
  obtain ⟨t0, t1, t2, t3⟩ := BT.out
  by_cases he : lawTripErr R l (bare s) = 0
  · have HE := Lib.hid he
    obtain ⟨hk1, hk2⟩ := lawTrip_ok he
    obtain ⟨hh1, hh2, hh3, hh4, hh5⟩ := dtrip_ok hk2
    have HRT := Lib.hid (recs_right (both_ok hk1).2)
    have HT := Lib.hid hh1
    clear he hk1 hk2 hh1 hh2 hh3 hh4 hh5
    go_upto_region 3 with (go_at_call 27
                           refine (xBookFor_any R l (bare s) A c _ (HA.out.keep (Keep.below HW.out))).mono ?_
                           rintro e' w1 ⟨⟨v, rfl, hv1, -⟩, hb1⟩
                           obtain rfl := hv1 HE.out
                           rw [HE.out]
                           have BX := Lib.hid (BookIn.new w1 R A l.length c 74)
                           have hbx := (hb1.alloc hb1.size (.cells #[.int .i64 R.brk, .int .i64 R.rest, .int .i64 R.stint, .int .i64 R.shift, .int .i64 R.week, .slice A l.length c] 74))
                           replace BT := Lib.hid (BT.out.keep (Keep.below hbx))
                           replace HW := Lib.hid (HW.out.trans (hbx.mono HW.out.size))
                           clear hb1 hbx hv1 a0 a1 a2 a3 a4 t0 t1 t2 t3 BR)
    generalize hg : w1.heap.size = g at *
    generalize hwy : w1.alloc _ = wy at *
    clear hwy hg
    go_wp2_with fail
    refine (sortSearch_any 30 (.pointer (some ⟨g, 0, none⟩)) (.pointer (some ⟨w.heap.size + 1, 0, none⟩)) 200000 (fun k => decide (breaks R l (bare s) ((k : Int) + 1) ≠ 0)) _ (by decide) (fun args w => by kernel_rfl) (fun w' hb i hi => xLonger_any R l (bare s) A c g (w.heap.size + 1) i w' (HA.out.keep (Keep.below (HW.out.trans (hb.mono HW.out.size)))) (BX.out.keep (Keep.below hb)) (BT.out.keep (Keep.below hb)) HRT.out HT.out hi) (fun a b hab hb hpa => ?_)).mono ?_
    · simp only [decide_eq_true_eq] at hpa ⊢
      exact fun h => hpa (breaks_mono HRT.out HT.out (by omega) (by omega) h)
    · rintro e' w3 ⟨k, hk, rfl, hk1, hk2, hb1⟩
      have HL := Lib.hid (show LongestIs R l s k from ⟨fun h => absurd HE.out h, fun _ => ⟨by omega, by omega, by
          rcases Nat.eq_zero_or_pos k with h0 | h0
          · rw [h0]; exact bare_zero R l s
          · have := hk1 (k - 1) (by omega)
            simp only [ne_eq, decide_eq_false_iff_not, Decidable.not_not] at this
            rw [show ((k - 1 : Nat) : Int) + 1 = (k : Int) by omega] at this
            exact this, fun m h1 h2 h3 => by
          have := hk2 (m - 1).toNat (by omega) (by omega)
          simp only [ne_eq, decide_eq_true_eq] at this
          rw [show (((m - 1).toNat : Nat) : Int) + 1 = m by omega] at this
          exact this h3⟩⟩)
      clear hk1 hk2
      go_wp2_with fail
      refine bodyPost_ret (v := .tuple #[.int .i64 (k : Nat), .int .i64 0]) (by simp [results, Try.results13, go_sem]) rfl ⟨⟨_, by rw [HE.out], HL.out⟩, HW.out.trans (hb1.mono HW.out.size)⟩
  · have HE := Lib.hid he
    have e1 : (lawTripErr R l (bare s) == 0) = false := by simpa using he
    have e2 : (lawTripErr R l (bare s) != 0) = true := by simpa using he
    clear he
    go_upto_region 3 with (go_at_call 27
                           refine (xBookFor_any R l (bare s) A c _ (HA.out.keep (Keep.below HW.out))).mono ?_
                           rintro e' w1 ⟨⟨v, rfl, -, hv1⟩, hb1⟩
                           obtain rfl := hv1 HE.out
                           have hbx := (hb1.alloc hb1.size (.cells #[.int .i64 0, .int .i64 0, .int .i64 0, .int .i64 0, .int .i64 0, .slice none 0 0] 74))
                           replace BT := Lib.hid (BT.out.keep (Keep.below hbx))
                           replace HW := Lib.hid (HW.out.trans (hbx.mono HW.out.size))
                           clear hb1 hbx hv1 a0 a1 a2 a3 a4 t0 t1 t2 t3 BR)
    generalize hg : w1.heap.size = g at *
    generalize hwy : w1.alloc _ = wy at *
    clear hwy hg
    go_wp2_with fail
    refine bodyPost_ret (v := .tuple #[.int .i64 0, .int .i64 (lawTripErr R l (bare s))]) (by simp [results, Try.results13, go_sem]) rfl ⟨⟨_, rfl, ⟨fun _ => rfl, fun h => absurd h HE.out⟩⟩, HW.out⟩
end Go.Proofs.Ytjmaankkbdpikaa
/- Contracts of duty's functions that the laws of chapter 7 call: the work, groups, what is broken, trips. No condition. -/

/- The chapter's examples are so. No condition. -/
namespace Go.Proofs.Ytjmaankkbdpikaa
open Go.RowKit Fs

theorem ann_out1 : groupsOut annRules annList annRules.brk = [(0, 1), (2, 2)] := by unfold groupsOut; rw [if_pos ann_both]; exact ann_stints
theorem ann_trip0 : lawTripErr annRules annList annTrip = 0 := by unfold lawTripErr; rw [if_neg (fun h => h ann_both)]; exact ann_trip
theorem ann_bare0 : lawTripErr annRules annList (bare 20000) = 0 := by unfold lawTripErr; rw [if_neg (fun h => h ann_both)]; exact ann_bare
theorem ann_out3 : allowedOut annRules annList annTrip = (1, 1) := by unfold allowedOut; rw [if_pos ann_trip0]; exact ann_allowed
theorem ann_err4 : workErr annList 9000 11000 = 0 := by unfold workErr; rw [if_neg (fun h => h ann_recs)]; decide
theorem ann_out4 : workOut annList 9000 11000 = 1500 := by unfold workOut; rw [if_pos ann_err4]; exact ann_work
theorem ann_long {n : Int} (h : LongestIs annRules annList 20000 n) : n = 12200 := (h.good ann_bare0).same ann_longest
end Go.Proofs.Ytjmaankkbdpikaa
/- Plain facts about trips, for the laws of chapter 7. No condition. -/
namespace Go.Proofs.Ytjmaankkbdpikaa.Fs

theorem dtrip_zero {R : DRules} {l : List WRec} {t : DTrip} (h : Behind l t) (h1 : 0 ≤ t.lo) (h2 : t.lo ≤ t.hi) (h3 : t.hi ≤ 200000) (hb : brokenRule R l = 0) : dtripErr R l t = 0 := by
  have a1 : isClock t.start = true := within_iff.2 ⟨h.from0, h.from1⟩
  have a2 : within t.lo 0 200000 = true := within_iff.2 ⟨h1, by omega⟩
  have a3 : within t.hi 0 200000 = true := within_iff.2 ⟨by omega, h3⟩
  unfold dtripErr
  rw [if_neg (by have := h.len; omega), a1, a2, a3, if_neg (by decide), if_neg (by omega), if_neg, if_neg, if_neg (by rw [hb]; decide)]
  · rintro ⟨p, q⟩
    have := h.last p
    omega
  · rintro ⟨p, q⟩
    have := h.next0
    have := h.next1
    rw [show isClock t.next = true from within_iff.2 ⟨by omega, by omega⟩] at q
    cases q
theorem lawTrip_zero {R : DRules} {l : List WRec} {t : DTrip} (h : bothErr R l = 0) (h2 : dtripErr R l t = 0) : lawTripErr R l t = 0 := by
  unfold lawTripErr; rw [if_neg (fun hh => hh h)]; exact h2
/-- A trip of just one length. -/
def just (s n : Int) : DTrip := ⟨s, n, n, -1⟩
theorem just_ok {R : DRules} {l : List WRec} {s n : Int} (h : lawTripErr R l (bare s) = 0) (h0 : 0 ≤ n) (h1 : n ≤ 200000) : lawTripErr R l (just s n) = 0 := by
  obtain ⟨a, b⟩ := lawTrip_ok h
  obtain ⟨c1, -, -, -, c5⟩ := dtrip_ok b
  exact lawTrip_zero a (dtrip_zero (t := just s n) ⟨c1.len, c1.from0, c1.from1, by show (-1 : Int) ≤ -1; omega, by show (-1 : Int) ≤ 8640000000; omega, c1.last⟩ h0 (Int.le_refl _) h1 c5)
theorem just_breaks (R : DRules) (l : List WRec) (s n m : Int) : breaks R l (just s n) m = breaks R l (bare s) m := rfl
theorem allowed_yes {R : DRules} {l : List WRec} {t : DTrip} (h : breaks R l t t.hi = 0) : allowed R l t = (2, 0) := if_pos h
theorem allowed_no {R : DRules} {l : List WRec} {t : DTrip} (h : breaks R l t t.hi ≠ 0) (h2 : breaks R l t t.lo ≠ 0) : allowed R l t = (0, breaks R l t t.hi) := by
  unfold allowed; rw [if_neg h, if_neg h2]
theorem allowed_two {R : DRules} {l : List WRec} {t : DTrip} : (allowed R l t).1 = 2 ↔ breaks R l t t.hi = 0 := by
  by_cases h : breaks R l t t.hi = 0
  · rw [allowed_yes h]; exact ⟨fun _ => h, fun _ => rfl⟩
  · by_cases h2 : breaks R l t t.lo = 0
    · rw [show allowed R l t = (1, breaks R l t t.hi) by unfold allowed; rw [if_neg h, if_pos h2]]
      exact ⟨fun hh => absurd (show (1 : Int) = 2 from hh) (by decide), fun hh => absurd hh h⟩
    · rw [allowed_no h h2]
      exact ⟨fun hh => absurd (show (0 : Int) = 2 from hh) (by decide), fun hh => absurd hh h⟩
theorem allowed_bad {R : DRules} {l : List WRec} {t : DTrip} (h : lawTripErr R l t ≠ 0) : allowedOut R l t = (0, 0) := if_neg h
theorem allowed_good {R : DRules} {l : List WRec} {t : DTrip} (h : lawTripErr R l t = 0) : allowedOut R l t = allowed R l t := if_pos h
theorem just_yes {R : DRules} {l : List WRec} {s n : Int} (h : lawTripErr R l (bare s) = 0) (hL : Longest R l (bare s) n) : allowedOut R l (just s n) = (2, 0) := by
  rw [allowed_good (just_ok h hL.n0 hL.n1)]
  exact allowed_yes ((just_breaks R l s n n).trans hL.ok)
theorem just_no {R : DRules} {l : List WRec} {s n : Int} (h : lawTripErr R l (bare s) = 0) (hL : Longest R l (bare s) n) (hn : n ≠ 200000) : (allowedOut R l (just s (n + 1))).1 = 0 := by
  have h0 := hL.n0
  have h1 := hL.n1
  have hb := hL.no (n + 1) (by omega) (by omega)
  rw [allowed_good (just_ok h (by omega) (by omega)), allowed_no hb hb]
end Go.Proofs.Ytjmaankkbdpikaa.Fs
/- Plain facts about the first broken rule of a beginning of records. No condition. -/
namespace Go.Proofs.Ytjmaankkbdpikaa
open Go.RowKit Fs
theorem Fs.fst_first {f : Nat → Int} : ∀ {n : Nat}, fst f n ≠ 0 → idx f n < n ∧ (∀ i, i < idx f n → f i = 0) ∧ f (idx f n) = fst f n
  | 0, h => absurd rfl h
  | n + 1, h => by
    by_cases h0 : fst f n = 0
    · have hn : f n ≠ 0 := fun e => h (by rw [fst, if_pos h0, e])
      have e1 : idx f (n + 1) = n := by rw [idx, if_pos h0, if_neg hn]
      have e2 : fst f (n + 1) = f n := by rw [fst, if_pos h0]
      rw [e1, e2]
      exact ⟨Nat.lt_succ_self _, fst_zero h0, rfl⟩
    · obtain ⟨a, b, c⟩ := fst_first h0
      have e1 : idx f (n + 1) = idx f n := by rw [idx, if_neg h0]
      have e2 : fst f (n + 1) = fst f n := by rw [fst, if_neg h0]
      rw [e1, e2]
      exact ⟨by omega, b, c⟩
theorem Fs.takeW_len {l : List WRec} {n : Nat} (h : n ≤ l.length) : (l.take n).length = n := by rw [List.length_take]; omega
theorem Fs.takeW_at {l : List WRec} {n i : Nat} (h : i < n) : listW (l.take n) i = listW l i := by
  unfold listW
  rw [List.getD_eq_getElem?_getD, List.getD_eq_getElem?_getD, List.getElem?_take_of_lt h]
theorem Fs.stint_take {l : List WRec} {n i : Nat} (brk : Int) (h : i < n) : stintOf (l.take n) brk i = stintOf l brk i := by
  unfold stintOf
  rw [firstIn_congr brk i (l := l.take n) (m := l) (fun j hj => by rw [takeW_at (by omega)]) (fun j hj => by rw [takeW_at (by omega)])]
  exact lengthsTo_congr _ _ fun j hj => takeW_at (by omega)
theorem Fs.brokenAt_take {R : DRules} {l : List WRec} {n i : Nat} (h : i < n) : brokenAt R (l.take n) i = brokenAt R l i := by
  unfold brokenAt
  rw [stint_take _ h, firstIn_congr R.rest i (l := l.take n) (m := l) (fun j hj => by rw [takeW_at (by omega)]) (fun j hj => by rw [takeW_at (by omega)]), takeW_at h,
    takeW_at (show firstIn l R.rest i < n from Nat.lt_of_le_of_lt (firstIn_le l R.rest i) h), workTo_congr _ _ (i + 1) fun j hj => takeW_at (show j < n by omega)]
theorem Fs.recs_take {l : List WRec} {n : Nat} (hn : n ≤ l.length) (h : recsErr true l = 0) : recsErr true (l.take n) = 0 := by
  unfold recsErr at h ⊢
  by_cases h0 : 40 < l.length
  · rw [if_pos h0] at h; exact absurd h (by decide)
  · rw [if_neg h0] at h
    rw [takeW_len hn, if_neg (by omega)]
    refine fst_none fun i hi => ?_
    have := fst_zero h i (by omega)
    unfold wrongRec at this ⊢
    rw [takeW_at hi]
    by_cases e : 0 < i
    · rw [takeW_at (show i - 1 < n by omega)]; exact this
    · simp only [e, false_and, and_false, if_false] at this ⊢
      exact this
theorem Fs.both_take {R : DRules} {l : List WRec} {n : Nat} (hn : n ≤ l.length) (h : bothErr R l = 0) : bothErr R (l.take n) = 0 := by
  obtain ⟨a, b⟩ := both_ok h
  unfold bothErr
  rw [if_neg (fun hh => hh a)]
  exact recs_take hn b
theorem Fs.broken_none {R : DRules} {l : List WRec} (h : bothErr R l = 0) (hb : brokenRule R l = 0) : brokenErr R l = 12 ∧ brokenOut R l = (0, 0) := by
  have e : brokenErr R l = 12 := by unfold brokenErr; rw [if_neg (fun hh => hh h), if_pos hb]
  exact ⟨e, by unfold brokenOut; rw [e]; exact if_neg (by decide)⟩
theorem Fs.broken_some {R : DRules} {l : List WRec} (h : bothErr R l = 0) (hb : brokenRule R l ≠ 0) : brokenErr R l = 0 ∧ brokenOut R l = (brokenRule R l, brokenRec R l) := by
  have e : brokenErr R l = 0 := by unfold brokenErr; rw [if_neg (fun hh => hh h), if_neg hb]
  exact ⟨e, by unfold brokenOut; rw [e]; exact if_pos rfl⟩
theorem Fs.broken_bad {R : DRules} {l : List WRec} (h : bothErr R l ≠ 0) : brokenErr R l = bothErr R l ∧ brokenOut R l = (0, 0) := by
  have e : brokenErr R l = bothErr R l := by unfold brokenErr; rw [if_pos h]
  exact ⟨e, by unfold brokenOut; rw [e]; exact if_neg h⟩
theorem Fs.broken_here {R : DRules} {l : List WRec} (h : bothErr R l = 0) (hb : brokenRule R l ≠ 0) :
    brokenErr R (l.take (brokenRec R l + 1)) = 0 ∧ brokenOut R (l.take (brokenRec R l + 1)) = (brokenRule R l, brokenRec R l) := by
  obtain ⟨a, b, c⟩ := fst_first (f := brokenAt R l) (n := l.length) hb
  have hk : brokenRec R l < l.length := a
  have hne : brokenAt R l (brokenRec R l) ≠ 0 := by show brokenAt R l (idx (brokenAt R l) l.length) ≠ 0; rw [c]; exact hb
  have hit := fst_hit (f := brokenAt R (l.take (brokenRec R l + 1))) (k := brokenRec R l) (n := brokenRec R l + 1) (Nat.lt_succ_self _)
    (fun i hi => by rw [brokenAt_take (by omega)]; exact b i hi) (by rw [brokenAt_take (by omega)]; exact hne)
  have hl := takeW_len (l := l) (n := brokenRec R l + 1) (by omega)
  have e1 : brokenRule R (l.take (brokenRec R l + 1)) = brokenRule R l := by
    have h1 : brokenRule R (l.take (brokenRec R l + 1)) = fst (brokenAt R (l.take (brokenRec R l + 1))) (l.take (brokenRec R l + 1)).length := rfl
    rw [h1, hl, hit.1, brokenAt_take (by omega)]
    exact c
  have e2 : brokenRec R (l.take (brokenRec R l + 1)) = brokenRec R l := by
    have h1 : brokenRec R (l.take (brokenRec R l + 1)) = idx (brokenAt R (l.take (brokenRec R l + 1))) (l.take (brokenRec R l + 1)).length := rfl
    rw [h1, hl, hit.2]
  have := broken_some (R := R) (l := l.take (brokenRec R l + 1)) (both_take (by omega) h) (by rw [e1]; exact hb)
  rw [e1, e2] at this
  exact this
theorem Fs.broken_before {R : DRules} {l : List WRec} (h : bothErr R l = 0) (hb : brokenRule R l ≠ 0) : brokenRec R l < l.length ∧ brokenErr R (l.take (brokenRec R l)) = 12 := by
  obtain ⟨a, b, c⟩ := fst_first (f := brokenAt R l) (n := l.length) hb
  have hk : brokenRec R l < l.length := a
  refine ⟨hk, (broken_none (both_take (by omega) h) ?_).1⟩
  show fst (brokenAt R (l.take (brokenRec R l))) (l.take (brokenRec R l)).length = 0
  rw [takeW_len (by omega)]
  exact fst_none fun i hi => by rw [brokenAt_take hi]; exact b i hi
/-- A beginning of a row. -/
theorem ArrW.take_ {w : World} {A : Option Addr} {l : List WRec} {c n : Nat} (h : ArrW w A l c) (hn : n ≤ l.length) : ArrW w A (l.take n) c := by
  have hl := takeW_len hn
  refine ⟨by rw [hl]; exact Nat.le_trans hn h.le.1, h.le.2, fun h0 => ?_⟩
  rw [hl] at h0
  obtain ⟨b, o, e, hc⟩ := h.2.2 (by omega)
  refine ⟨b, o, e, fun i j hi hj => ?_⟩
  rw [hl] at hi
  have := hc i j (by omega) hj
  show w.cell? _ = some (recCells (listW (l.take n) i) j)
  rw [takeW_at hi]
  exact this
end Go.Proofs.Ytjmaankkbdpikaa
/- Plain facts about records that are joined. Condition: both lists are right. -/
namespace Go.Proofs.Ytjmaankkbdpikaa
open Go.RowKit Fs

theorem Fs.overlap_sym (x y : WRec) : overlapB x y = overlapB y x := Bool.and_comm _ _
theorem Fs.djoin_sym (a b : List WRec) : djoinErr b a = djoinErr a b := by
  have e1 : (0 < b.length ∧ 0 < a.length ∧ (listW b 0).who ≠ (listW a 0).who) ↔ (0 < a.length ∧ 0 < b.length ∧ (listW a 0).who ≠ (listW b 0).who) :=
    ⟨fun ⟨p, q, r⟩ => ⟨q, p, fun e => r e.symm⟩, fun ⟨p, q, r⟩ => ⟨q, p, fun e => r e.symm⟩⟩
  have e2 : (∃ i, i < b.length ∧ ∃ k, k < a.length ∧ overlapB (listW b i) (listW a k) = true) ↔ (∃ i, i < a.length ∧ ∃ k, k < b.length ∧ overlapB (listW a i) (listW b k) = true) :=
    ⟨fun ⟨i, p, k, q, r⟩ => ⟨k, q, i, p, by rw [overlap_sym]; exact r⟩, fun ⟨i, p, k, q, r⟩ => ⟨k, q, i, p, by rw [overlap_sym]; exact r⟩⟩
  have e3 : (40 < b.length + a.length) ↔ (40 < a.length + b.length) := by omega
  unfold djoinErr
  simp only [e1, e2, e3]
theorem Fs.mergeL_cons (x : WRec) (a : List WRec) (y : WRec) (b : List WRec) : mergeL (x :: a) (y :: b) = if x.beg < y.beg then x :: mergeL a (y :: b) else y :: mergeL (x :: a) b := by rw [mergeL]
theorem Fs.mergeL_comm : ∀ (n : Nat) (a b : List WRec), a.length + b.length ≤ n → (∀ x ∈ a, ∀ y ∈ b, x.beg ≠ y.beg) → mergeL b a = mergeL a b
  | 0, a, b, hn, _ => by
    have ha : a = [] := List.eq_nil_of_length_eq_zero (by omega)
    have hb : b = [] := List.eq_nil_of_length_eq_zero (by omega)
    subst ha; subst hb; rfl
  | n + 1, [], b, _, _ => by rw [mergeL_nil, mergeL_none]
  | n + 1, x :: a, [], _, _ => by rw [mergeL_nil, mergeL_none]
  | n + 1, x :: a, y :: b, hn, h => by
    have hne := h x (by simp) y (by simp)
    have hn' : a.length + 1 + (b.length + 1) ≤ n + 1 := hn
    rw [mergeL_cons, mergeL_cons]
    by_cases e : x.beg < y.beg
    · rw [if_pos e, if_neg (by omega), mergeL_comm n a (y :: b) (by show a.length + (b.length + 1) ≤ n; omega) fun p hp q hq => h p (List.mem_cons_of_mem _ hp) q hq]
    · rw [if_neg e, if_pos (by omega), mergeL_comm n (x :: a) b (by show a.length + 1 + b.length ≤ n; omega) fun p hp q hq => h p hp q (List.mem_cons_of_mem _ hq)]
theorem Fs.mem_listW {l : List WRec} {x : WRec} (h : x ∈ l) : ∃ i, i < l.length ∧ listW l i = x := by
  obtain ⟨i, hi, e⟩ := List.getElem_of_mem h
  refine ⟨i, hi, ?_⟩
  unfold listW
  rw [List.getD_eq_getElem?_getD, List.getElem?_eq_getElem hi]
  exact e
theorem Fs.merge_sym {a b : List WRec} (ha : Right a) (hb : Right b) (h : djoinErr a b = 0) : mergeL b a = mergeL a b := by
  refine mergeL_comm _ a b (Nat.le_refl _) fun x hx y hy e => ?_
  obtain ⟨i, hi, rfl⟩ := mem_listW hx
  obtain ⟨k, hk, rfl⟩ := mem_listW hy
  have h1 := ha.one i hi
  have h2 := hb.one k hk
  unfold djoinErr at h
  by_cases c1 : 0 < a.length ∧ 0 < b.length ∧ (listW a 0).who ≠ (listW b 0).who
  · rw [if_pos c1] at h; exact absurd h (by decide)
  · rw [if_neg c1, if_pos ⟨i, hi, k, hk, by unfold overlapB; rw [decide_eq_true (show (listW a i).beg < (listW b k).fin by omega), decide_eq_true (show (listW b k).beg < (listW a i).fin by omega)]; rfl⟩] at h
    exact absurd h (by decide)
theorem Fs.recs_nil : recsErr true [] = 0 := by decide
theorem Fs.djoin_nil {a : List WRec} (ha : Right a) : djoinErr a [] = 0 := by
  unfold djoinErr
  rw [if_neg (fun hh => absurd hh.2.1 (Nat.lt_irrefl _)), if_neg (fun ⟨i, _, k, hk, _⟩ => absurd hk (Nat.not_lt_zero _)), if_neg (by have := ha.len; show ¬ 40 < a.length + 0; omega)]
theorem Fs.joined_is {a b : List WRec} (ha : recsErr true a = 0) (hb : recsErr true b = 0) : joinedErr a b = djoinErr a b := by
  unfold joinedErr; rw [if_neg (fun h => h ha), if_neg (fun h => h hb)]
theorem Fs.joined_one {a b : List WRec} (ha : recsErr true a ≠ 0) : joinedErr a b = recsErr true a ∧ joinedOut a b = [] := by
  have e : joinedErr a b = recsErr true a := if_pos ha
  exact ⟨e, by unfold joinedOut; rw [e]; exact if_neg ha⟩
theorem Fs.joined_two {a b : List WRec} (ha : recsErr true a = 0) (hb : recsErr true b ≠ 0) : joinedErr a b = recsErr true b ∧ joinedOut a b = [] := by
  have e : joinedErr a b = recsErr true b := by unfold joinedErr; rw [if_neg (fun h => h ha), if_pos hb]
  exact ⟨e, by unfold joinedOut; rw [e]; exact if_neg hb⟩
theorem Fs.joined_sym {a b : List WRec} (ha : recsErr true a = 0) (hb : recsErr true b = 0) : joinedErr b a = joinedErr a b ∧ joinedOut b a = joinedOut a b := by
  have e : joinedErr b a = joinedErr a b := by rw [joined_is ha hb, joined_is hb ha, djoin_sym]
  refine ⟨e, ?_⟩
  unfold joinedOut
  rw [e]
  by_cases h : joinedErr a b = 0
  · rw [if_pos h, if_pos h]
    rw [joined_is ha hb] at h
    exact merge_sym (recs_right ha) (recs_right hb) h
  · rw [if_neg h, if_neg h]
theorem Fs.joined_nil {a : List WRec} (ha : recsErr true a = 0) : joinedErr a [] = 0 ∧ joinedOut a [] = a := by
  have e : joinedErr a [] = 0 := by rw [joined_is ha recs_nil]; exact djoin_nil (recs_right ha)
  exact ⟨e, by unfold joinedOut; rw [if_pos e, mergeL_nil]⟩
theorem rdNone (w : World) : ArrW w none [] 0 := ⟨Nat.le_refl _, by decide, fun h => absurd h (Nat.lt_irrefl _)⟩
end Go.Proofs.Ytjmaankkbdpikaa
/- Plain facts about records with one more behind them; a row with one record more. No condition. -/
namespace Go.Proofs.Ytjmaankkbdpikaa
open Go.RowKit Fs

theorem Fs.lengthsTo_congr2 {l m : List WRec} (f : Nat) : ∀ k, (∀ i, i < k → (listW l i).beg = (listW m i).beg ∧ (listW l i).fin = (listW m i).fin) → lengthsTo l f k = lengthsTo m f k
  | 0, _ => rfl
  | k + 1, h => by rw [lengthsTo, lengthsTo, lengthsTo_congr2 f k (fun i hi => h i (by omega)), (h k (by omega)).1, (h k (by omega)).2]
theorem Fs.workTo_congr2 {l m : List WRec} (a b : Int) : ∀ k, (∀ i, i < k → (listW l i).beg = (listW m i).beg ∧ (listW l i).fin = (listW m i).fin) → workTo l a b k = workTo m a b k
  | 0, _ => rfl
  | k + 1, h => by
    rw [workTo_next, workTo_next, workTo_congr2 a b k (fun i hi => h i (by omega))]
    unfold overlapOf
    rw [(h k (by omega)).1, (h k (by omega)).2]
theorem Fs.brokenAt_congr2 {R : DRules} {l m : List WRec} (h : ∀ i, (listW l i).beg = (listW m i).beg ∧ (listW l i).fin = (listW m i).fin) (k : Nat) : brokenAt R l k = brokenAt R m k := by
  unfold brokenAt stintOf
  rw [firstIn_congr R.brk k (l := l) (m := m) (fun j _ => (h j).1) (fun j _ => (h j).2), firstIn_congr R.rest k (l := l) (m := m) (fun j _ => (h j).1) (fun j _ => (h j).2),
    lengthsTo_congr2 _ (k + 1) (fun j _ => h j), (h k).2, (h _).1, workTo_congr2 _ _ (k + 1) (fun j _ => h j)]
theorem Fs.more_len (l : List WRec) (x : WRec) : (l ++ [x]).length = l.length + 1 := by simp
theorem Fs.more_who (l : List WRec) (a b : ByteArray) (s f : Int) (i : Nat) : (listW (l ++ [⟨a, s, f⟩]) i).beg = (listW (l ++ [⟨b, s, f⟩]) i).beg ∧ (listW (l ++ [⟨a, s, f⟩]) i).fin = (listW (l ++ [⟨b, s, f⟩]) i).fin := by
  by_cases h : i < l.length
  · rw [listW_left h, listW_left h]; exact ⟨rfl, rfl⟩
  · by_cases e : i = l.length
    · subst e; rw [listW_last, listW_last]; exact ⟨rfl, rfl⟩
    · unfold listW
      rw [List.getD_eq_getElem?_getD, List.getD_eq_getElem?_getD, List.getElem?_eq_none (by simp; omega), List.getElem?_eq_none (by simp; omega)]
      exact ⟨rfl, rfl⟩
theorem Fs.same_who {l : List WRec} (h : recsErr true l = 0) : ∀ i, i < l.length → (listW l i).who = (listW l 0).who
  | 0, _ => rfl
  | i + 1, hi => by
    rw [← same_who h i (by omega)]
    unfold recsErr at h
    by_cases h0 : 40 < l.length
    · rw [if_pos h0] at h; exact absurd h (by decide)
    · rw [if_neg h0] at h
      exact (wrongRec_ok (fst_zero h (i + 1) hi)).2.1 rfl (Nat.succ_pos _)
theorem Fs.recs_one {l : List WRec} (h : recsErr true l = 0) {i : Nat} (hi : i < l.length) : wrongRec true l i = 0 := by
  unfold recsErr at h
  by_cases h0 : 40 < l.length
  · rw [if_pos h0] at h; exact absurd h (by decide)
  · rw [if_neg h0] at h; exact fst_zero h i hi
/-- Right records with one more behind them, of the same driver. -/
theorem Fs.more_right {l : List WRec} {who : ByteArray} {s f : Int} (h : recsErr true l = 0) (hl : l.length < 40) (hn : isName who = true) (hw : 0 < l.length → who = (listW l 0).who)
    (h0 : 0 ≤ s) (h1 : s < f) (h2 : f ≤ 8640000000) (hb : 0 < l.length → (listW l (l.length - 1)).fin ≤ s) : recsErr true (l ++ [⟨who, s, f⟩]) = 0 := by
  unfold recsErr
  rw [more_len, if_neg (by omega)]
  refine fst_none fun i hi => ?_
  by_cases e : i < l.length
  · have a := recs_one h e
    unfold wrongRec at a ⊢
    rw [listW_left e]
    by_cases e0 : 0 < i
    · rw [listW_left (show i - 1 < l.length by omega)]; exact a
    · simp only [e0, false_and, and_false, if_false] at a ⊢
      exact a
  · obtain rfl : i = l.length := by omega
    unfold wrongRec
    rw [listW_last]
    have e1 : recErr ⟨who, s, f⟩ = 0 := by
      unfold recErr
      rw [hn, if_pos rfl]
      unfold spanErr
      rw [show isClock s = true from within_iff.2 ⟨by omega, by omega⟩, show isClock f = true from within_iff.2 ⟨by omega, by omega⟩]
      exact (if_neg (by omega) : (if f ≤ s then (9 : Int) else 0) = 0)
    rw [if_neg (fun hh => hh e1)]
    by_cases e0 : 0 < l.length
    · rw [listW_left (show l.length - 1 < l.length by omega), if_neg, if_neg]
      · rintro ⟨-, q⟩
        have := hb e0
        have : s < (listW l (l.length - 1)).fin := q
        omega
      · rintro ⟨-, -, q⟩
        exact q (by rw [same_who h _ (show l.length - 1 < l.length by omega)]; exact hw e0)
    · rw [if_neg (fun hh => e0 hh.2.1), if_neg (fun hh => e0 hh.1)]
/-- Which rule the record behind all others breaks. -/
theorem Fs.more_broken {R : DRules} {l : List WRec} {who : ByteArray} {s n : Int} (hb : brokenRule R l = 0) : brokenRule R (l ++ [⟨who, s, s + n⟩]) = brokenAt R (withTrip l s n) l.length := by
  have e : brokenAt R (l ++ [⟨who, s, s + n⟩]) l.length = brokenAt R (withTrip l s n) l.length := brokenAt_congr2 (more_who l who xName s (s + n)) _
  have h0 : fst (brokenAt R (l ++ [⟨who, s, s + n⟩])) l.length = 0 := by
    rw [← hb]
    refine (fst_congr fun i hi => ?_).1
    have := brokenAt_take (R := R) (l := l ++ [⟨who, s, s + n⟩]) (n := l.length) hi
    rw [List.take_left] at this
    exact this.symm
  show fst _ (l ++ [_]).length = _
  rw [more_len, fst, if_pos h0, e]
/-- What FirstBroken answers to it. -/
theorem Fs.more_err {R : DRules} {l : List WRec} {who : ByteArray} {s n : Int} (hB : drulesErr R = 0) (hr : recsErr true (l ++ [⟨who, s, s + n⟩]) = 0) (hb : brokenRule R l = 0) :
    brokenErr R (l ++ [⟨who, s, s + n⟩]) = if brokenAt R (withTrip l s n) l.length = 0 then 12 else 0 := by
  have hB2 : bothErr R (l ++ [⟨who, s, s + n⟩]) = 0 := by unfold bothErr; rw [if_neg (fun hh => hh hB)]; exact hr
  rw [← more_broken (who := who) hb]
  by_cases h : brokenRule R (l ++ [⟨who, s, s + n⟩]) = 0
  · rw [if_pos h]; exact (broken_none hB2 h).1
  · rw [if_neg h]; exact (broken_some hB2 h).1
theorem oneRecG (w : World) (who : ByteArray) (s f : Int) : Arr (w.alloc (.cells #[.string who, .int .i64 s, .int .i64 f] 91)) (some ⟨w.heap.size, 0, none⟩) 1 1 3 (fun _ j => recCells ⟨who, s, f⟩ j) := by
  refine ⟨Nat.le_refl _, by omega, fun _ => ⟨w.heap.size, 0, rfl, fun i j hi hj => ?_⟩⟩
  obtain rfl : i = 0 := by omega
  obtain rfl | rfl | rfl : j = 0 ∨ j = 1 ∨ j = 2 := by omega
  · exact cellNew _ _ _ 0
  · exact cellNew _ _ _ 1
  · exact cellNew _ _ _ 2
theorem moreFlat {l W : List WRec} {x : WRec} (h : W = l ++ [x]) : recFlat l ++ flat 1 3 (fun _ j => recCells x j) = flat (l.length + 1) 3 fun i j => recCells (listW W i) j := by
  subst h
  refine flat_join (by decide) (fun i j hi hj => ?_) (fun i j hi hj => ?_)
  · rw [listW_left hi]
  · obtain rfl : i = 0 := by omega
    rw [Nat.add_zero, listW_last]
end Go.Proofs.Ytjmaankkbdpikaa
/- The cells of a trip and a length; which answers a trip of a length has. No condition. -/
namespace Go.Proofs.Ytjmaankkbdpikaa
open Go.RowKit Fs

abbrev caseV (t : DTrip) (n : Int) : Value := .agg #[.int .i64 t.start, .int .i64 t.lo, .int .i64 t.hi, .int .i64 t.next, .int .i64 n]
structure CaseIn (w : World) (g : Nat) (t : DTrip) (n : Int) : Prop where
  c0 : w.cell? ⟨g, 0, none⟩ = some (.int .i64 t.start)
  c1 : w.cell? ⟨g, 1, none⟩ = some (.int .i64 t.lo)
  c2 : w.cell? ⟨g, 2, none⟩ = some (.int .i64 t.hi)
  c3 : w.cell? ⟨g, 3, none⟩ = some (.int .i64 t.next)
  c4 : w.cell? ⟨g, 4, none⟩ = some (.int .i64 n)
theorem CaseIn.keep {w w' : World} (k : Keep w w') {g : Nat} {t : DTrip} {n : Int} (m : CaseIn w g t n) : CaseIn w' g t n := ⟨k _ _ m.c0, k _ _ m.c1, k _ _ m.c2, k _ _ m.c3, k _ _ m.c4⟩
theorem Fs.allowed_len {R : DRules} {l : List WRec} {t : DTrip} {n : Int} (h : Right l) (hT : Behind l t) (h1 : t.lo ≤ n) (h2 : n ≤ t.hi) (h3 : t.hi ≤ 200000) :
    ((allowed R l t).1 = 2 ∧ breaks R l t n = 0) ∨ (allowed R l t).1 = 1 ∨ ((allowed R l t).1 = 0 ∧ breaks R l t n ≠ 0) := by
  by_cases a : breaks R l t t.hi = 0
  · rw [allowed_yes a]
    exact .inl ⟨rfl, breaks_mono h hT h2 (by omega) a⟩
  · by_cases b : breaks R l t t.lo = 0
    · right; left; unfold allowed; rw [if_neg a, if_pos b]
    · rw [allowed_no a b]
      exact .inr (.inr ⟨rfl, fun hh => b (breaks_mono h hT h1 (by omega) hh)⟩)
theorem Fs.name_first {l : List WRec} (h : recsErr true l = 0) (h0 : 0 < l.length) : isName (listW l 0).who = true := by
  have := recs_one h h0
  exact (recErr_ok (wrongRec_ok this).1).1
theorem Fs.ann_name : isName ⟨#[97, 110, 110]⟩ = true := by decide +kernel
/-- One record more, of a right driver, behind right records. -/
theorem Fs.more_fine {R : DRules} {l : List WRec} {t : DTrip} {n : Int} {who : ByteArray} (hE : lawTripErr R l t = 0) (hn : isName who = true) (hw : 0 < l.length → who = (listW l 0).who) (h0 : 0 < n) (h1 : t.start + n ≤ 8640000000) :
    brokenErr R (l ++ [⟨who, t.start, t.start + n⟩]) = if brokenAt R (withTrip l t.start n) l.length = 0 then 12 else 0 := by
  obtain ⟨a, b⟩ := lawTrip_ok hE
  obtain ⟨c1, -, -, -, c5⟩ := dtrip_ok b
  obtain ⟨d1, d2⟩ := both_ok a
  exact more_err d1 (more_right d2 c1.len hn hw c1.from0 (by omega) h1 c1.last) c5
end Go.Proofs.Ytjmaankkbdpikaa

/- The law of nets: which are right, and how long a road takes. No condition. -/
import Derived.Test.YthipneggplebcaaT35
import Derived.Test.YthipneggplebcaaT36
import Derived.Test.YthipneggplebcaaT38
import Derived.Test.YthipneggplebcaaWQ
namespace Go.Proofs.Ythipneggplebcaa
open Go.RowKit Fs

theorem Fs.tkErr_net {N : Net} {i a : Int} (h : netErr N ≠ 0) : tkErr N i a = netErr N := by
  have : tkErr N i a = listI [netErr N, noRoad N i, timeErr a] 0 := (fst_hit (k := 0) (n := 3) (by decide) (fun j hj => absurd hj (Nat.not_lt_zero _)) h).1
  exact this
theorem Fs.tkErr_road {N : Net} {i a : Int} (h : netErr N = 0) (h1 : noRoad N i ≠ 0) : tkErr N i a = noRoad N i := by
  have : tkErr N i a = listI [netErr N, noRoad N i, timeErr a] 1 := (fst_hit (k := 1) (n := 3) (by decide) (fun j hj => by
    obtain rfl : j = 0 := by omega
    exact h) h1).1
  exact this
theorem Fs.tkErr_time {N : Net} {i a : Int} (h : netErr N = 0) (h1 : noRoad N i = 0) : tkErr N i a = timeErr a := by
  unfold tkErr
  rw [h, h1]
  by_cases e : timeErr a = 0
  · rw [e]; rfl
  · have : fst (listI [0, 0, timeErr a]) 3 = listI [0, 0, timeErr a] 2 := (fst_hit (k := 2) (n := 3) (by decide) (fun j hj => by
      rcases (show j = 0 ∨ j = 1 by omega) with rfl | rfl <;> rfl) e).1
    exact this
theorem Fs.takes_err {N : Net} {i a : Int} (h : tkErr N i a ≠ 0) : takes N i a = ((0, 0), tkErr N i a) := if_neg h
theorem Fs.noRoad_road {N : Net} {i : Int} (h : noRoad N i = 0) : 0 ≤ i ∧ i < N.roads.length := by
  unfold noRoad at h
  cases hp : isRoad N i with
  | true => exact isRoad_is hp
  | false => rw [hp, if_neg (by decide)] at h; exact absurd h (by decide)

set_option maxHeartbeats 6400000 in
set_option maxRecDepth 100000 in
theorem law31_any (N : Net) (v : Value) (i a : Int) (w : World) (hN : RdNet w v N) :
    Calls Try.prog 3 #[v, .int .i64 i, .int .i64 a] w fun e w' => e = .returned (.bool true) ∧ Below w.heap.size w w' := by
  have hN0 := Lib.hid hN
  obtain ⟨p, q, hcn⟩ : ∃ p q : Nat, checkNet N = ((p, q), netErr N) := ⟨_, _, rfl⟩
  have HCN := Lib.hid hcn
  clear hcn
  obtain ⟨P, R, pc, rc, ar, rfl, mm⟩ := hN
  have M := Lib.hid mm
  have rb1 := mm.roads.le.1
  have rb2 := mm.roads.le.2
  clear mm
  have BN := Lib.hid (BoxN.new w N P R pc rc 25)
  go_enter Try.func3, Try.ntmps3
  go_upto_region 1 with fail
  generalize hwb : w.alloc _ = wb at *
  have HW : Hid (Below w.heap.size w wb) := by rw [← hwb]; exact Lib.hid ((Below.refl _ _).alloc (Nat.le_refl _) _)
  clear hwb
  go_wp2_with fail
  refine (awake_any _).mono ?_
  rintro e' w1 ⟨rfl, hb1⟩
  replace HW := Lib.hid (HW.out.trans (hb1.mono HW.out.size))
  replace BN := Lib.hid (BN.out.keep (Keep.below hb1))
  clear hb1
  obtain ⟨n0, n1⟩ := BN.out
  go_wp2_with fail
  refine (few_any N _ _ (hN0.out.keep (Keep.below HW.out))).mono ?_
  rintro e' w2 ⟨rfl, hb2⟩
  replace HW := Lib.hid (HW.out.trans (hb2.mono HW.out.size))
  replace BN := Lib.hid (BN.out.keep (Keep.below hb2))
  clear hb2 n0 n1
  cases hf : fewN N with
  | false =>
    go_wp2_with fail
    go_ret
    exact ⟨rfl, HW.out⟩
  | true =>
    have HL := Lib.hid (few_lens hf)
    clear hf
    obtain ⟨n0, n1⟩ := BN.out
    go_wp2_with fail
    refine (copyNet_any N _ _ (hN0.out.keep (Keep.below HW.out)) HL.out.1 HL.out.2.1 HL.out.2.2).mono ?_
    rintro e' w3 ⟨v3, rfl, h3, hb3⟩
    replace HW := Lib.hid (HW.out.trans (hb3.mono HW.out.size))
    replace BN := Lib.hid (BN.out.keep (Keep.below hb3))
    clear hb3 n0 n1
    go_wp2_with fail
    refine (checkNet_any N _ _ h3).mono ?_
    rintro e' w4 ⟨rfl, hb4⟩
    rw [HCN.out]
    replace HW := Lib.hid (HW.out.trans (hb4.mono HW.out.size))
    replace BN := Lib.hid (BN.out.keep (Keep.below hb4))
    clear hb4 h3
    have HM := Lib.hid (TreeAt.new w4 (.int .i64 p) (.int .i64 q) 29)
    have BN2 := Lib.hid (BN.out.keep (Keep.alloc _ (.cells #[.int .i64 p, .int .i64 q] 29)))
    obtain ⟨n0, n1⟩ := BN.out
    obtain ⟨k0, k1⟩ := BN2.out
    go_wp2_with fail
    generalize hw5 : w4.alloc _ = w5 at *
    have hb5 : Below w4.heap.size w4 w5 := by rw [← hw5]; exact (Below.refl _ _).alloc (Nat.le_refl _) _
    clear hw5 n0 n1 k0 k1
    replace HW := Lib.hid (HW.out.trans (hb5.mono HW.out.size))
    replace BN := BN2
    clear hb5 BN2
    refine (copyNet_any N _ _ (hN0.out.keep (Keep.below HW.out)) HL.out.1 HL.out.2.1 HL.out.2.2).mono ?_
    rintro e' w6 ⟨v6, rfl, h6, hb6⟩
    replace HW := Lib.hid (HW.out.trans (hb6.mono HW.out.size))
    replace BN := Lib.hid (BN.out.keep (Keep.below hb6))
    replace HM := Lib.hid (HM.out.keep hb6)
    clear hb6
    go_wp2_with fail
    refine (takes_any N _ i a _ h6).mono ?_
    rintro e' w7 ⟨rfl, hb7⟩
    replace HW := Lib.hid (HW.out.trans (hb7.mono HW.out.size))
    replace BN := Lib.hid (BN.out.keep (Keep.below hb7))
    replace HM := Lib.hid (HM.out.keep hb7)
    clear hb7 h6
    have HT := Lib.hid (TreeAt.new w7 (.int .i64 (takes N i a).1.1) (.int .i64 (takes N i a).1.2) 35)
    have BN2 := Lib.hid (BN.out.keep (Keep.alloc _ (.cells #[.int .i64 (takes N i a).1.1, .int .i64 (takes N i a).1.2] 35)))
    obtain ⟨n0, n1⟩ := BN.out
    obtain ⟨k0, k1⟩ := BN2.out
    go_wp2_with fail
    generalize hw8 : w7.alloc _ = w8 at *
    have hb8 : Below w7.heap.size w7 w8 := by rw [← hw8]; exact (Below.refl _ _).alloc (Nat.le_refl _) _
    clear hw8 n0 n1 k0 k1
    replace HW := Lib.hid (HW.out.trans (hb8.mono HW.out.size))
    replace HM := Lib.hid (HM.out.keep hb8)
    replace BN := BN2
    clear hb8 BN2
    refine (rCheckNet_any N _ _ (hN0.out.keep (Keep.below HW.out))).mono ?_
    rintro e' w9 ⟨rfl, hb9⟩
    rw [HCN.out]
    replace HW := Lib.hid (HW.out.trans (hb9.mono HW.out.size))
    replace BN := Lib.hid (BN.out.keep (Keep.below hb9))
    replace HM := Lib.hid (HM.out.keep hb9)
    replace HT := Lib.hid (HT.out.keep hb9)
    clear hb9
    have HWF := Lib.hid ((HW.out.alloc HW.out.size (.cells #[.int .i64 p, .int .i64 q] 29)))
    have HBF : Hid (Below w9.heap.size w9 (w9.alloc (.cells #[.int .i64 p, .int .i64 q] 29))) := Lib.hid ((Below.refl _ _).alloc (Nat.le_refl _) _)
    obtain ⟨m0, m1, -, -⟩ := HM.out.keep HBF.out
    obtain ⟨t0, t1, -, -⟩ := HT.out.keep HBF.out
    obtain ⟨n0, n1⟩ := BN.out.keep (Keep.below HBF.out)
    by_cases he : netErr N = 0
    · have HE := Lib.hid he
      by_cases hr : noRoad N i = 0
      · have HR := Lib.hid hr
        have HI := Lib.hid (noRoad_road hr)
        have hk := tkErr_time (a := a) he hr
        by_cases ht : timeErr a = 0
        · have HQ := Lib.hid ht
          have HF := Lib.hid (show takes N i a = (takesAt (listD N.roads i.toNat).pts a, 0) from if_pos (hk.trans ht))
          have ha := timeErr_ok ht
          rw [HF.out] at t0 t1
          rw [he, HF.out]
          clear he hr ht hk
          obtain ⟨r, hr⟩ : ∃ r : Nat, i = r := ⟨_, (Int.toNat_of_nonneg HI.out.1).symm⟩
          subst hr
          have hrl : r < N.roads.length := by have := HI.out.2; omega
          have hrn : (r : Int) < (N.roads.length : Int) := by omega
          have HOK := Lib.hid (net_roads_ok HE.out r hrl).pts
          have hRR := M.out.roads.keep (Keep.below HWF.out)
          obtain ⟨rb, ro, hRa, qq⟩ := hRR.at_ hrl
          have HP := Lib.hid (hRR.2 r hrl)
          subst hRa
          obtain ⟨q0, q1, q2, q3, q4⟩ := qq
          rw [Int.toNat_natCast] at t0 t1 ⊢
          clear hRR HF
          go_wp2_with fail
          refine (rNoRoad_any N _ _ _ (hN0.out.keep (Keep.below HWF.out))).mono ?_
          rintro e' wC ⟨rfl, hbC⟩
          rw [HR.out]
          replace n0 := Keep.below hbC _ _ n0
          replace n1 := Keep.below hbC _ _ n1
          replace t0 := Keep.below hbC _ _ t0
          replace t1 := Keep.below hbC _ _ t1
          replace q0 := Keep.below hbC _ _ q0
          replace q1 := Keep.below hbC _ _ q1
          replace q2 := Keep.below hbC _ _ q2
          replace q3 := Keep.below hbC _ _ q3
          replace q4 := Keep.below hbC _ _ q4
          replace HP := Lib.hid (HP.out.keep (Keep.below hbC))
          replace HWF := Lib.hid (HWF.out.trans (hbC.mono HWF.out.size))
          clear hbC m0 m1
          go_wp2_with fail
          refine (rTimeErr_any a _).mono ?_
          rintro e' wD ⟨rfl, rfl⟩
          rw [HQ.out]
          go_wp2_with fail
          obtain ⟨C, Ci, Co⟩ := classOf wC
          refine quietC (C := C) (by kernel_rfl) (by kernel_rfl) (Co.out _ (Below.refl _ _).drew) ?_
          repeat (first
            | go_big_quiet_skip
            | (go_big_quiet_want; go_big_quiet_op; go_big_quiet_on)
            | (refine quiet_yes (by rfl) ?_
               apply Exists.intro
               refine ⟨fun w' hC => ?_, ?_⟩
               · have hbb := Ci.out _ hC
                 have z0 := Keep.below hbb _ _ n0
                 have z1 := Keep.below hbb _ _ n1
                 have z2 := Keep.below hbb _ _ t0
                 have z3 := Keep.below hbb _ _ t1
                 have z4 := Keep.below hbb _ _ q0
                 have z5 := Keep.below hbb _ _ q1
                 have z6 := Keep.below hbb _ _ q2
                 have z7 := Keep.below hbb _ _ q3
                 have z8 := Keep.below hbb _ _ q4
                 go_simp
                 first
                   | done
                   | rfl
                   | (go_at_call 26
                      refine (rTakes_any (listD N.roads r) _ _ a _ (HP.out.keep (Keep.below hbb)) HOK.out ha.1 (by omega)).mono ?_
                      rintro e' w1 ⟨rfl, hb1⟩
                      exact ⟨rfl, Co.out _ (hbb.trans (hb1.mono hbb.size))⟩)
               simp only [Act.put, List.setIfInBounds_toArray, List.set_cons_zero, List.set_cons_succ]))
          refine wpQuiet_nil ?_
          intro wE hC1
          have HQ2 := Lib.hid (Ci.out _ hC1)
          go_wp2
          go_ret
          exact ⟨rfl, HWF.out.trans (HQ2.out.mono HWF.out.size)⟩
        · have HF := Lib.hid ((takes_err (show tkErr N i a ≠ 0 by rw [hk]; exact ht)).trans (show ((0, 0), tkErr N i a) = (((0, 0), timeErr a) : (Int × Int) × Int) by rw [hk]))
          have e1 : (timeErr a == 0) = false := by simpa using ht
          have e2 : (timeErr a != 0) = true := by simpa using ht
          rw [HF.out] at t0 t1
          rw [he, HF.out]
          clear he hr ht hk
          go_wp2_with fail
          refine (rNoRoad_any N _ _ _ (hN0.out.keep (Keep.below HWF.out))).mono ?_
          rintro e' wC ⟨rfl, hbC⟩
          rw [HR.out]
          replace t0 := Keep.below hbC _ _ t0
          replace t1 := Keep.below hbC _ _ t1
          replace HWF := Lib.hid (HWF.out.trans (hbC.mono HWF.out.size))
          clear hbC m0 m1 n0 n1
          go_wp2_with fail
          refine (rTimeErr_any a _).mono ?_
          rintro e' wD ⟨rfl, rfl⟩
          go_wp2_with fail
          go_ret
          exact ⟨rfl, HWF.out⟩
      · have hk := tkErr_road (a := a) he hr
        have HF := Lib.hid ((takes_err (show tkErr N i a ≠ 0 by rw [hk]; exact hr)).trans (show ((0, 0), tkErr N i a) = (((0, 0), noRoad N i) : (Int × Int) × Int) by rw [hk]))
        have e1 : (noRoad N i == 0) = false := by simpa using hr
        have e2 : (noRoad N i != 0) = true := by simpa using hr
        rw [HF.out] at t0 t1
        rw [he, HF.out]
        clear he hr hk
        go_wp2_with fail
        refine (rNoRoad_any N _ _ _ (hN0.out.keep (Keep.below HWF.out))).mono ?_
        rintro e' wC ⟨rfl, hbC⟩
        replace t0 := Keep.below hbC _ _ t0
        replace t1 := Keep.below hbC _ _ t1
        replace HWF := Lib.hid (HWF.out.trans (hbC.mono HWF.out.size))
        clear hbC m0 m1 n0 n1
        go_wp2_with fail
        go_ret
        exact ⟨rfl, HWF.out⟩
    · have hk := tkErr_net (i := i) (a := a) he
      have HF := Lib.hid ((takes_err (show tkErr N i a ≠ 0 by rw [hk]; exact he)).trans (show ((0, 0), tkErr N i a) = (((0, 0), netErr N) : (Int × Int) × Int) by rw [hk]))
      have e1 : (netErr N == 0) = false := by simpa using he
      have e2 : (netErr N != 0) = true := by simpa using he
      rw [HF.out] at t0 t1
      rw [HF.out]
      clear he hk
      go_wp2_with fail
      go_ret
      exact ⟨rfl, HWF.out⟩
end Go.Proofs.Ythipneggplebcaa

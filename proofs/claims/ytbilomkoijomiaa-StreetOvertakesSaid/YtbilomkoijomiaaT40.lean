/- Ways and trips: what is wrong with one, as the reference tells it. Condition: the net can be read. -/
import Derived.Test.YtbilomkoijomiaaT38
import Derived.Test.YtbilomkoijomiaaWQ
namespace Go.Proofs.Ytbilomkoijomiaa
open Go.RowKit Fs

set_option maxHeartbeats 1600000 in
set_option maxRecDepth 100000 in
theorem rWayErr_any (N : Net) (v : Value) (l : List Int) (A : Option Addr) (c : Nat) (w : World) (hN : RdNet w v N) (h : ArrI w A l c) :
    Calls Try.prog 30 #[v, .slice A l.length c] w fun e w' => e = .returned (.tuple #[.int .i64 (wayAt N l : Nat), .int .i64 (wayErr N l)]) ∧ Below w.heap.size w w' := by
  have hN0 := Lib.hid hN
  obtain ⟨P, R, pc, rc, ar, rfl, m⟩ := hN
  have M := Lib.hid m
  have rb1 := m.roads.le.1
  have rb2 := m.roads.le.2
  clear m
  have b1 := h.le.1
  have b2 := h.le.2
  have HA := Lib.hid h
  clear h
  have BN := Lib.hid (BoxN.new w N P R pc rc 25)
  go_enter Try.func30, Try.ntmps30
  go_upto_region 1 with fail
  generalize hwb : w.alloc _ = wb at *
  have HW : Hid (Below w.heap.size w wb) := by rw [← hwb]; exact Lib.hid ((Below.refl _ _).alloc (Nat.le_refl _) _)
  clear hwb
  by_cases hl : 200 < l.length
  · have d1 : decide ((l.length : Int) > 200) = true := decide_eq_true (by omega)
    have d2 : decide (200 < (l.length : Int)) = true := decide_eq_true (by omega)
    have F2 := Lib.hid (show wayErr N l = 8 ∧ wayAt N l = 0 from ⟨if_pos hl, if_pos hl⟩)
    clear hl
    go_wp2_with fail
    go_ret2
    exact ⟨ret2_int (i := 0) F2.out.1.symm F2.out.2.symm, HW.out⟩
  · have d1 : decide ((l.length : Int) > 200) = false := decide_eq_false (by omega)
    have d2 : decide (200 < (l.length : Int)) = false := decide_eq_false (by omega)
    have HL := Lib.hid hl
    clear hl
    go_wp2_with fail
    go_loopw [6] (fun i wr => ∃ k : Nat, k ≤ l.length ∧ i = .int .i64 k ∧ Hid (∀ j, j < k → errHop N l j = 0) ∧ Hid (Below wb.heap.size wb wr)) (fun i _ => l.length - (intOf i).toNat)
    case atStart => exact ⟨0, Nat.zero_le _, rfl, Lib.hid (fun j hj => absurd hj (Nat.not_lt_zero _)), Lib.hid (Below.refl _ _)⟩
    case round =>
      obtain ⟨k, hk, rfl, HG, HB⟩ := hrel
      have HX := Lib.hid (HW.out.trans (HB.out.mono HW.out.size))
      by_cases hlt : k < l.length
      · have hkn : (k : Int) < (l.length : Int) := by omega
        obtain ⟨b, o, hAe, hc⟩ := (HA.out.keep (Keep.below HX.out)).at_ hlt
        subst hAe
        obtain ⟨n0, n1⟩ := BN.out.keep (Keep.below HB.out)
        cases hr : isRoad N (listI l k) with
        | false =>
          have F2 := Lib.hid (way_hit HL.out hlt HG.out (by rw [hop_none hr]; decide))
          have F3 := Lib.hid (hop_none hr)
          have Z := Lib.hid hr
          clear hr
          go_wp2_with fail
          obtain ⟨C, Ci, Co⟩ := classOf wr
          refine quietC (C := C) (by kernel_rfl) (by kernel_rfl) (Co.out _ (Below.refl _ _).drew) ?_
          repeat (first
            | go_big_quiet_skip
            | (go_big_quiet_want; go_big_quiet_op; go_big_quiet_on)
            | (refine quiet_yes (by rfl) ?_
               apply Exists.intro
               refine ⟨fun w' hC => ?_, ?_⟩
               · have hbb := Ci.out _ hC
                 have q1 := Keep.below hbb _ _ n0
                 have q2 := Keep.below hbb _ _ n1
                 have q3 := Keep.below hbb _ _ hc
                 go_simp
                 first
                   | done
                   | rfl
                   | (go_at_call 73
                      refine (rIsRoad_any N _ _ _ (hN0.out.keep (Keep.below (HX.out.trans (hbb.mono HX.out.size))))).mono ?_
                      rintro e' w1 ⟨rfl, hb1⟩
                      rw [Z.out]
                      exact ⟨rfl, Co.out _ (hbb.trans (hb1.mono hbb.size))⟩)
               simp only [Act.put, List.setIfInBounds_toArray, List.set_cons_zero, List.set_cons_succ]))
          refine wpQuiet_nil ?_
          intro w1 hC1
          have HQ := Lib.hid (Ci.out _ hC1)
          go_wp2
          go_ret2
          exact ⟨ret2_int (F3.out.symm.trans F2.out.1.symm) F2.out.2.symm, HX.out.trans (HQ.out.mono HX.out.size)⟩
        | true =>
          have HR := Lib.hid hr
          have hrr := isRoad_is hr
          clear hr
          go_wp2_with fail
          obtain ⟨C, Ci, Co⟩ := classOf wr
          refine quietC (C := C) (by kernel_rfl) (by kernel_rfl) (Co.out _ (Below.refl _ _).drew) ?_
          repeat (first
            | go_big_quiet_skip
            | (go_big_quiet_want; go_big_quiet_op; go_big_quiet_on)
            | (refine quiet_yes (by rfl) ?_
               apply Exists.intro
               refine ⟨fun w' hC => ?_, ?_⟩
               · have hbb := Ci.out _ hC
                 have q1 := Keep.below hbb _ _ n0
                 have q2 := Keep.below hbb _ _ n1
                 have q3 := Keep.below hbb _ _ hc
                 go_simp
                 first
                   | done
                   | rfl
                   | (go_at_call 73
                      refine (rIsRoad_any N _ _ _ (hN0.out.keep (Keep.below (HX.out.trans (hbb.mono HX.out.size))))).mono ?_
                      rintro e' w1 ⟨rfl, hb1⟩
                      rw [HR.out]
                      exact ⟨rfl, Co.out _ (hbb.trans (hb1.mono hbb.size))⟩)
               simp only [Act.put, List.setIfInBounds_toArray, List.set_cons_zero, List.set_cons_succ]))
          refine wpQuiet_nil ?_
          intro w2 hC1
          have hb2 := Ci.out _ hC1
          replace HB := Lib.hid (HB.out.trans (hb2.mono HB.out.size))
          replace HX := Lib.hid (HX.out.trans (hb2.mono HX.out.size))
          clear n0 n1 hc hb2 hC1 Ci Co
          obtain ⟨n0, n1⟩ := BN.out.keep (Keep.below HB.out)
          by_cases hk0 : 0 < k
          · have d3 : decide ((k : Int) > 0) = true := decide_eq_true (by omega)
            have d4 : decide (0 < (k : Int)) = true := decide_eq_true (by omega)
            have hpp := (hop_ok (HG.out (k - 1) (by omega))).1
            obtain ⟨q, hq⟩ : ∃ q : Nat, listI l k = q := ⟨_, (Int.toNat_of_nonneg hrr.1).symm⟩
            obtain ⟨p, hp⟩ : ∃ p : Nat, listI l (k - 1) = p := ⟨_, (Int.toNat_of_nonneg hpp.1).symm⟩
            have hql : q < N.roads.length := by omega
            have hpl : p < N.roads.length := by omega
            have hqn : (q : Int) < (N.roads.length : Int) := by omega
            have hpn : (p : Int) < (N.roads.length : Int) := by omega
            have hc := (HA.out.keep (Keep.below HX.out)).cells (k := k - 1) (by omega)
            have hc2 := (HA.out.keep (Keep.below HX.out)).cells (k := k) hlt
            rw [hp] at hc
            rw [hq] at hc2
            have hkp : (k : Int) - 1 = ((k - 1 : Nat) : Int) := by omega
            have hk1 : ((k - 1 : Nat) : Int) < (l.length : Int) := by omega
            have hR := M.out.roads.keep (Keep.below HX.out)
            obtain ⟨rb, ro, hRa, x⟩ := hR.at_ hql
            subst hRa
            have x1 := x.c1
            have y2 := (hR.cells (k := p) hpl).c2
            clear x hR
            have HPQ := Lib.hid (show (listI l k).toNat = q ∧ (listI l (k - 1)).toNat = p by omega)
            clear hrr hpp
            by_cases hj : (listD N.roads p).dst = (listD N.roads q).src
            · have F2 := Lib.hid (hop_yes (i := k) HR.out (fun hh => hh.2 (by rw [HPQ.out.1, HPQ.out.2]; exact hj)))
              have e1 : ((listD N.roads q).src == (listD N.roads p).dst) = true := by simpa using hj.symm
              have e2 : ((listD N.roads q).src != (listD N.roads p).dst) = false := by simpa using hj.symm
              clear hj hp hq
              go_wp2_with fail
              go_quiet (fail)
              go_wp2_with fail
              go_roundw
              case rel => exact ⟨k + 1, by omega, by go_num, Lib.hid (fun j hj => if e : j = k then e ▸ F2.out else HG.out j (by omega)), Lib.hid (bdrewN HB.out _)⟩
              case measure => simp [intOf]; omega
            · have F3 := Lib.hid (hop_open (i := k) HR.out hk0 (by rw [HPQ.out.1, HPQ.out.2]; exact hj))
              have F2 := Lib.hid (way_hit HL.out hlt HG.out (by rw [F3.out]; decide))
              have hj' : ¬ (listD N.roads q).src = (listD N.roads p).dst := fun h => hj h.symm
              have e1 : ((listD N.roads q).src == (listD N.roads p).dst) = false := by simpa using hj'
              have e2 : ((listD N.roads q).src != (listD N.roads p).dst) = true := by simpa using hj'
              clear hj hj' hp hq
              go_wp2_with fail
              go_quiet (fail)
              go_wp2_with fail
              go_ret2
              exact ⟨ret2_int (F3.out.symm.trans F2.out.1.symm) F2.out.2.symm, bdrewN HX.out _⟩
          · have d3 : decide ((k : Int) > 0) = false := decide_eq_false (by omega)
            have d4 : decide (0 < (k : Int)) = false := decide_eq_false (by omega)
            have d5 : decide (0 < k) = false := decide_eq_false hk0
            have d6 : decide (k = 0) = true := decide_eq_true (by omega)
            have F2 := Lib.hid (hop_yes (i := k) HR.out (fun hh => hk0 hh.1))
            clear hk0 hrr
            go_wp2_with fail
            go_quiet (fail)
            go_wp2_with fail
            go_roundw
            case rel => exact ⟨k + 1, by omega, by go_num, Lib.hid (fun j hj => if e : j = k then e ▸ F2.out else HG.out j (by omega)), Lib.hid (bdrewN HB.out _)⟩
            case measure => simp [intOf]; omega
      · obtain rfl : k = l.length := by omega
        have F2 := Lib.hid (way_none HL.out HG.out)
        clear hlt hk
        go_wp2_with fail
        go_ret2
        exact ⟨ret2_int (i := 0) F2.out.1.symm F2.out.2.symm, HX.out⟩
end Go.Proofs.Ytbilomkoijomiaa

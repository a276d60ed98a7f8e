/- Proofs: base.Has, the reference's CheckCover. Conditions: the lists are short. -/
import Derived.Test.YtfjdnbnalihjiaaGreatDoorH15
import Derived.Test.YtfjdnbnalihjiaaGreatDoorG12
import Derived.Test.YtfjdnbnalihjiaaGreatDoorH2
import Derived.Test.YtfjdnbnalihjiaaGreatDoorK16
namespace Go.Proofs.YtfjdnbnalihjiaaGreatDoor
open Go.RowKit Fs

theorem Fs.glistI_get {l : List Int} {j : Nat} (hj : j < l.length) : listI l j = l[j] := by
  unfold listI
  rw [List.getD_eq_getElem?_getD, List.getElem?_eq_getElem hj]
  rfl
theorem Fs.gmem_at {l : List Int} {z : Int} : z ∈ l ↔ ∃ j, j < l.length ∧ listI l j = z := by
  constructor
  · intro h
    obtain ⟨j, hj, e⟩ := List.getElem_of_mem h
    exact ⟨j, hj, by rw [glistI_get hj]; exact e⟩
  · rintro ⟨j, hj, e⟩
    rw [glistI_get hj] at e
    rw [← e]
    exact List.getElem_mem hj
set_option maxHeartbeats 800000 in
set_option maxRecDepth 100000 in
theorem bhas_any (l : List Int) (A : Option Addr) (c : Nat) (z : Int) (w : World) (hA : ArrI w A l c) :
    Calls Tryz.prog 69 #[.slice A l.length c, .int .i64 z] w fun e w' => e = .returned (.bool (decide (z ∈ l))) ∧ Below w.heap.size w w' := by
  have b1 := hA.le.1
  have b2 := hA.le.2
  have HA := Lib.hid hA
  clear hA
  go_enter Tryz.func69, Tryz.ntmps69
  go_wp2_with fail
  go_loopw [5] (fun i wr => ∃ k : Nat, k ≤ l.length ∧ i = .int .i64 k ∧ Hid (∀ j, j < k → listI l j ≠ z) ∧ Hid (Below w.heap.size w wr)) (fun i _ => l.length - (intOf i).toNat)
  case atStart => exact ⟨0, Nat.zero_le _, rfl, Lib.hid (fun j hj => absurd hj (Nat.not_lt_zero _)), Lib.hid (Below.refl _ _)⟩
  case round =>
    obtain ⟨k, hk, rfl, HG, HX⟩ := hrel
    by_cases hlt : k < l.length
    · have hkn : (k : Int) < (l.length : Int) := by omega
      obtain ⟨b1', o1, h1, c1⟩ := (HA.out.keep (Keep.below HX.out)).at_ hlt
      subst h1
      by_cases e : listI l k = z
      · have F := Lib.hid (show decide (z ∈ l) = true from decide_eq_true (gmem_at.2 ⟨k, hlt, e⟩))
        have e1 : (listI l k == z) = true := by simpa using e
        clear e
        go_wp2_with fail
        go_ret
        exact ⟨ret_bool F.out.symm, HX.out⟩
      · have G : Hid (∀ j, j < k + 1 → listI l j ≠ z) := Lib.hid fun j hj => by
          by_cases e2 : j = k
          · subst e2; exact e
          · exact HG.out j (by omega)
        have e1 : (listI l k == z) = false := by simpa using e
        clear e
        go_wp2_with fail
        go_roundw
        case rel => exact ⟨k + 1, by omega, by go_num, G, HX⟩
        case measure => simp [intOf]; omega
    · obtain rfl : k = l.length := by omega
      have F := Lib.hid (show decide (z ∈ l) = false from decide_eq_false (fun h => by
        obtain ⟨j, hj, e⟩ := gmem_at.1 h
        exact HG.out j hj e))
      clear hlt hk
      go_wp2_with fail
      go_ret
      exact ⟨ret_bool F.out.symm, HX.out⟩

/-- Item i and claim k can be one, and neither is in the cover. -/
def Fs.Bare (l d : List Thg) (s t : List Int) (i k : Nat) : Prop := canBe (lThg l i) (lThg d k) = true ∧ (i : Int) ∉ s ∧ (k : Int) ∉ t
theorem Fs.cover_bare {l d : List Thg} {s t : List Int} (h0 : pairErr l d = 0) (h1 : numsErr s l.length = 0) (h2 : numsErr t d.length = 0) {i k : Nat} (hi : i < l.length) (hk : k < d.length) (h : Bare l d s t i k) : coverErr l d s t = 20 := by
  unfold coverErr
  rw [if_neg (fun hh => hh h0), if_neg (fun hh => hh h1), if_neg (fun hh => hh h2), if_pos ⟨i, k, hi, hk, h.1, h.2.1, h.2.2⟩]
theorem Fs.cover_fine {l d : List Thg} {s t : List Int} (h0 : pairErr l d = 0) (h1 : numsErr s l.length = 0) (h2 : numsErr t d.length = 0) (h : ∀ i, i < l.length → ∀ k, k < d.length → ¬ Bare l d s t i k) : coverErr l d s t = 0 := by
  unfold coverErr
  rw [if_neg (fun hh => hh h0), if_neg (fun hh => hh h1), if_neg (fun hh => hh h2), if_neg (fun ⟨i, k, hi, hk, h3⟩ => h i hi k hk h3)]
set_option linter.unusedSimpArgs false in
set_option maxHeartbeats 12800000 in
set_option maxRecDepth 100000 in
theorem rCheckCover_any (l d : List Thg) (s t : List Int) (A B S T : Option Addr) (c e sc tc : Nat) (a b : GA) (w : World) (h : ArrTh w A l c a) (h2 : ArrTh w B d e b) (h3 : ArrI w S s sc) (h4 : ArrI w T t tc) (hl14 : l.length ≤ 14) (hd14 : d.length ≤ 14) (hs15 : s.length ≤ 15) (ht15 : t.length ≤ 15) :
    Calls Tryz.prog 50 #[.slice A l.length c, .slice B d.length e, .agg #[.slice S s.length sc, .slice T t.length tc]] w fun x w' => x = .returned (.tuple #[.int .i64 (cvOut l d s t), .int .i64 (coverErr l d s t)]) ∧ Below w.heap.size w w' := by
  have b1 := h.le.1
  have b2 := h.le.2
  have b3 := h2.le.1
  have b4 := h2.le.2
  have HA := Lib.hid h
  have HA2 := Lib.hid h2
  have HS := Lib.hid h3
  have HT := Lib.hid h4
  have BX := Lib.hid (show BoxTwo (w.alloc (.cells #[.slice S s.length sc, .slice T t.length tc] 70)) w.heap.size (.slice S s.length sc) (.slice T t.length tc) from ⟨cellNew _ _ _ 0, cellNew _ _ _ 1⟩)
  have hws : IntKind.i64.wrap ((s.length : Int) + (t.length : Int)) = (s.length : Int) + (t.length : Int) := by rw [IntKind.wrap_i64]; omega
  clear h h2 h3 h4
  go_enter Tryz.func50, Tryz.ntmps50
  go_upto_region 1 with fail
  generalize hwb : w.alloc _ = wb at *
  have HW : Hid (Below w.heap.size w wb) := by rw [← hwb]; exact Lib.hid ((Below.refl _ _).alloc (Nat.le_refl _) _)
  clear hwb
  obtain ⟨q0, q1⟩ := BX.out
  go_wp2_with fail
  refine (rBothErr_any l d A B c e a b _ (HA.out.keep (Keep.below HW.out)) (HA2.out.keep (Keep.below HW.out))).mono ?_
  rintro e' w1 ⟨rfl, hb1⟩
  replace HW := Lib.hid (HW.out.trans (hb1.mono HW.out.size))
  replace BX := Lib.hid (BX.out.keep (Keep.below hb1))
  clear q0 q1
  clear hb1
  by_cases he : pairErr l d = 0
  · have HE := Lib.hid he
    have HTS := Lib.hid (pair_ok he)
    have HK1 := Lib.hid (all_ok HTS.out.1)
    have HK2 := Lib.hid (all_ok HTS.out.2)
    rw [he]
    clear he
    obtain ⟨q0, q1⟩ := BX.out
    go_wp2_with fail
    refine (rNums_any s S sc l.length _ (HS.out.keep (Keep.below HW.out)) (by omega)).mono ?_
    rintro e' w2 ⟨rfl, hb1⟩
    replace HW := Lib.hid (HW.out.trans (hb1.mono HW.out.size))
    replace BX := Lib.hid (BX.out.keep (Keep.below hb1))
    clear q0 q1
    clear hb1
    by_cases he : numsErr s l.length = 0
    · have HN1 := Lib.hid he
      rw [he]
      clear he
      obtain ⟨q0, q1⟩ := BX.out
      go_wp2_with fail
      refine (rNums_any t T tc d.length _ (HT.out.keep (Keep.below HW.out)) (by omega)).mono ?_
      rintro e' w3 ⟨rfl, hb1⟩
      replace HW := Lib.hid (HW.out.trans (hb1.mono HW.out.size))
      replace BX := Lib.hid (BX.out.keep (Keep.below hb1))
      clear q0 q1
      clear hb1
      by_cases he : numsErr t d.length = 0
      · have HN2 := Lib.hid he
        rw [he]
        clear he
        have HWa := HW
        clear HW
        go_wp2_with fail
        go_loopw [11] (fun i wr => ∃ k : Nat, k ≤ l.length ∧ i = .int .i64 k ∧ Hid (∀ i, i < k → ∀ j, j < d.length → ¬ Bare l d s t i j) ∧ Hid (Below w3.heap.size w3 wr)) (fun i _ => l.length - (intOf i).toNat)
        case atStart => exact ⟨0, Nat.zero_le _, rfl, Lib.hid fun j hj => absurd hj (Nat.not_lt_zero _), Lib.hid (Below.refl _ _)⟩
        case round =>
          obtain ⟨k, hk, rfl, Hn, HB⟩ := hrel
          by_cases hlt : k < l.length
          · have hkn : (k : Int) < (l.length : Int) := by omega
            have d1 : decide ((k : Int) < (l.length : Int)) = true := decide_eq_true hkn
            obtain ⟨wx, hwx⟩ : ∃ wz, wz = wr := ⟨_, rfl⟩
            subst hwx
            go_wp2_with fail
            go_loopw [12] (fun i wr => ∃ j : Nat, j ≤ d.length ∧ i = .int .i64 j ∧ Hid (∀ q, q < j → ¬ Bare l d s t k q) ∧ Hid (Below wx.heap.size wx wr)) (fun i _ => d.length - (intOf i).toNat)
            case atStart => exact ⟨0, Nat.zero_le _, rfl, Lib.hid fun j hj => absurd hj (Nat.not_lt_zero _), Lib.hid (Below.refl _ _)⟩
            case round =>
              obtain ⟨j, hj, rfl, Hj, HB2⟩ := hrel
              have HBX := Lib.hid (HB.out.trans (HB2.out.mono HB.out.size))
              have HW := Lib.hid (HWa.out.trans (HBX.out.mono HWa.out.size))
              by_cases hjd : j < d.length
              · have hjn : (j : Int) < (d.length : Int) := by omega
                have d2 : decide ((j : Int) < (d.length : Int)) = true := decide_eq_true hjn
                obtain ⟨q0, q1⟩ := BX.out.keep (Keep.below HBX.out)
                obtain ⟨g4, o4, e4, ⟨i0, i1, i2, i3⟩, im⟩ := (HA.out.keep (Keep.below HW.out)).at_ hlt
                obtain ⟨g5, o5, e5, ⟨z0, z1, z2, z3⟩, sm⟩ := (HA2.out.keep (Keep.below HW.out)).at_ hjd
                subst e4; subst e5
                have IM := Lib.hid im
                have SM := Lib.hid sm
                clear im sm
                have HOK1 := Lib.hid (HK1.out k hlt)
                have HOK2 := Lib.hid (HK2.out j hjd)
                cases hcb : canBe (lThg l k) (lThg d j) with
                | false =>
                  have CB := Lib.hid hcb
                  have F := Lib.hid (show ¬ Bare l d s t k j from fun hh => by have := hh.1; rw [hcb] at this; cases this)
                  clear hcb
                  go_wp2_with fail
                  obtain ⟨C, Ci, Co⟩ := classOf wr
                  refine quietC (C := C) (by kernel_rfl) (by kernel_rfl) (Co.out _ (Below.refl _ _).drew) ?_
                  repeat (first
                    | go_big_quiet_skip
                    | (go_big_quiet_want; go_big_quiet_op; go_big_quiet_on)
                    | (refine quiet_yes (by rfl) ?_
                       apply Exists.intro
                       refine ⟨fun w' hC => ?_, ?_⟩
                       · have hbb := Ci.out _ hC
                         have zz0 := Keep.below hbb _ _ q0
                         have zz1 := Keep.below hbb _ _ q1
                         have zz2 := Keep.below hbb _ _ i0
                         have zz3 := Keep.below hbb _ _ i1
                         have zz4 := Keep.below hbb _ _ i2
                         have zz5 := Keep.below hbb _ _ i3
                         have zz6 := Keep.below hbb _ _ z0
                         have zz7 := Keep.below hbb _ _ z1
                         have zz8 := Keep.below hbb _ _ z2
                         have zz9 := Keep.below hbb _ _ z3
                         go_simp
                         first
                           | done
                           | rfl
                           | (go_at_call 35
                              refine (rCanBe_any (lThg l k) (lThg d j) _ _ _ ⟨_, _, rfl, IM.out.keep (Keep.below hbb)⟩ ⟨_, _, rfl, SM.out.keep (Keep.below hbb)⟩ HOK1.out HOK2.out).mono ?_
                              rintro e' w1 ⟨rfl, hb1⟩
                              rw [CB.out]
                              exact ⟨rfl, Co.out _ (hbb.trans (hb1.mono hbb.size))⟩)
                           | (go_at_call 69
                              have KS := HS.out.keep (Keep.below (HW.out.trans (hbb.mono HW.out.size)))
                              have KT := HT.out.keep (Keep.below (HW.out.trans (hbb.mono HW.out.size)))
                              refine (bhas_any _ _ _ _ _ (by with_reducible assumption)).mono ?_
                              rintro e' w1 ⟨rfl, hb1⟩
                              first
                                | rw [HM1.out]
                                | rw [HM2.out]
                              exact ⟨rfl, Co.out _ (hbb.trans (hb1.mono hbb.size))⟩)
                       simp only [Act.put, List.setIfInBounds_toArray, List.set_cons_zero, List.set_cons_succ]))
                  refine wpQuiet_nil ?_
                  intro wz hC1
                  have HBY := Lib.hid (HW.out.trans ((Ci.out _ hC1).mono HW.out.size))
                  have HBZ := Lib.hid (HB2.out.trans ((Ci.out _ hC1).mono HB2.out.size))
                  clear hC1 Ci Co i0 i1 i2 i3 z0 z1 z2 z3 q0 q1
                  go_wp2_with fail
                  go_roundw
                  case rel =>
                    exact ⟨j + 1, by omega, by go_num, Lib.hid fun q hq => by
                      by_cases e : q = j
                      · subst e; exact F.out
                      · exact Hj.out q (by omega), HBZ⟩
                  case measure => simp [intOf]; omega
                | true =>
                  have CB := Lib.hid hcb
                  clear hcb
                  cases hm1 : decide ((k : Int) ∈ s) with
                  | true =>
                    have HM1 := Lib.hid hm1
                    have F := Lib.hid (show ¬ Bare l d s t k j from fun hh => hh.2.1 (of_decide_eq_true hm1))
                    clear hm1
                    go_wp2_with fail
                    obtain ⟨C, Ci, Co⟩ := classOf wr
                    refine quietC (C := C) (by kernel_rfl) (by kernel_rfl) (Co.out _ (Below.refl _ _).drew) ?_
                    repeat (first
                      | go_big_quiet_skip
                      | (go_big_quiet_want; go_big_quiet_op; go_big_quiet_on)
                      | (refine quiet_yes (by rfl) ?_
                         apply Exists.intro
                         refine ⟨fun w' hC => ?_, ?_⟩
                         · have hbb := Ci.out _ hC
                           have zz0 := Keep.below hbb _ _ q0
                           have zz1 := Keep.below hbb _ _ q1
                           have zz2 := Keep.below hbb _ _ i0
                           have zz3 := Keep.below hbb _ _ i1
                           have zz4 := Keep.below hbb _ _ i2
                           have zz5 := Keep.below hbb _ _ i3
                           have zz6 := Keep.below hbb _ _ z0
                           have zz7 := Keep.below hbb _ _ z1
                           have zz8 := Keep.below hbb _ _ z2
                           have zz9 := Keep.below hbb _ _ z3
                           go_simp
                           first
                             | done
                             | rfl
                             | (go_at_call 35
                                refine (rCanBe_any (lThg l k) (lThg d j) _ _ _ ⟨_, _, rfl, IM.out.keep (Keep.below hbb)⟩ ⟨_, _, rfl, SM.out.keep (Keep.below hbb)⟩ HOK1.out HOK2.out).mono ?_
                                rintro e' w1 ⟨rfl, hb1⟩
                                rw [CB.out]
                                exact ⟨rfl, Co.out _ (hbb.trans (hb1.mono hbb.size))⟩)
                             | (go_at_call 69
                                have KS := HS.out.keep (Keep.below (HW.out.trans (hbb.mono HW.out.size)))
                                have KT := HT.out.keep (Keep.below (HW.out.trans (hbb.mono HW.out.size)))
                                refine (bhas_any _ _ _ _ _ (by with_reducible assumption)).mono ?_
                                rintro e' w1 ⟨rfl, hb1⟩
                                first
                                  | rw [HM1.out]
                                  | rw [HM2.out]
                                exact ⟨rfl, Co.out _ (hbb.trans (hb1.mono hbb.size))⟩)
                         simp only [Act.put, List.setIfInBounds_toArray, List.set_cons_zero, List.set_cons_succ]))
                    refine wpQuiet_nil ?_
                    intro wz hC1
                    have HBY := Lib.hid (HW.out.trans ((Ci.out _ hC1).mono HW.out.size))
                    have HBZ := Lib.hid (HB2.out.trans ((Ci.out _ hC1).mono HB2.out.size))
                    clear hC1 Ci Co i0 i1 i2 i3 z0 z1 z2 z3 q0 q1
                    go_wp2_with fail
                    go_roundw
                    case rel =>
                      exact ⟨j + 1, by omega, by go_num, Lib.hid fun q hq => by
                        by_cases e : q = j
                        · subst e; exact F.out
                        · exact Hj.out q (by omega), HBZ⟩
                    case measure => simp [intOf]; omega
                  | false =>
                    have HM1 := Lib.hid hm1
                    clear hm1
                    cases hm2 : decide ((j : Int) ∈ t) with
                    | true =>
                      have HM2 := Lib.hid hm2
                      have F := Lib.hid (show ¬ Bare l d s t k j from fun hh => hh.2.2 (of_decide_eq_true hm2))
                      clear hm2
                      go_wp2_with fail
                      obtain ⟨C, Ci, Co⟩ := classOf wr
                      refine quietC (C := C) (by kernel_rfl) (by kernel_rfl) (Co.out _ (Below.refl _ _).drew) ?_
                      repeat (first
                        | go_big_quiet_skip
                        | (go_big_quiet_want; go_big_quiet_op; go_big_quiet_on)
                        | (refine quiet_yes (by rfl) ?_
                           apply Exists.intro
                           refine ⟨fun w' hC => ?_, ?_⟩
                           · have hbb := Ci.out _ hC
                             have zz0 := Keep.below hbb _ _ q0
                             have zz1 := Keep.below hbb _ _ q1
                             have zz2 := Keep.below hbb _ _ i0
                             have zz3 := Keep.below hbb _ _ i1
                             have zz4 := Keep.below hbb _ _ i2
                             have zz5 := Keep.below hbb _ _ i3
                             have zz6 := Keep.below hbb _ _ z0
                             have zz7 := Keep.below hbb _ _ z1
                             have zz8 := Keep.below hbb _ _ z2
                             have zz9 := Keep.below hbb _ _ z3
                             go_simp
                             first
                               | done
                               | rfl
                               | (go_at_call 35
                                  refine (rCanBe_any (lThg l k) (lThg d j) _ _ _ ⟨_, _, rfl, IM.out.keep (Keep.below hbb)⟩ ⟨_, _, rfl, SM.out.keep (Keep.below hbb)⟩ HOK1.out HOK2.out).mono ?_
                                  rintro e' w1 ⟨rfl, hb1⟩
                                  rw [CB.out]
                                  exact ⟨rfl, Co.out _ (hbb.trans (hb1.mono hbb.size))⟩)
                               | (go_at_call 69
                                  have KS := HS.out.keep (Keep.below (HW.out.trans (hbb.mono HW.out.size)))
                                  have KT := HT.out.keep (Keep.below (HW.out.trans (hbb.mono HW.out.size)))
                                  refine (bhas_any _ _ _ _ _ (by with_reducible assumption)).mono ?_
                                  rintro e' w1 ⟨rfl, hb1⟩
                                  first
                                    | rw [HM1.out]
                                    | rw [HM2.out]
                                  exact ⟨rfl, Co.out _ (hbb.trans (hb1.mono hbb.size))⟩)
                           simp only [Act.put, List.setIfInBounds_toArray, List.set_cons_zero, List.set_cons_succ]))
                      refine wpQuiet_nil ?_
                      intro wz hC1
                      have HBY := Lib.hid (HW.out.trans ((Ci.out _ hC1).mono HW.out.size))
                      have HBZ := Lib.hid (HB2.out.trans ((Ci.out _ hC1).mono HB2.out.size))
                      clear hC1 Ci Co i0 i1 i2 i3 z0 z1 z2 z3 q0 q1
                      go_wp2_with fail
                      go_roundw
                      case rel =>
                        exact ⟨j + 1, by omega, by go_num, Lib.hid fun q hq => by
                          by_cases e : q = j
                          · subst e; exact F.out
                          · exact Hj.out q (by omega), HBZ⟩
                      case measure => simp [intOf]; omega
                    | false =>
                      have HM2 := Lib.hid hm2
                      have F := Lib.hid (cover_bare HE.out HN1.out HN2.out hlt hjd ⟨CB.out, of_decide_eq_false HM1.out, of_decide_eq_false HM2.out⟩)
                      clear hm2
                      go_wp2_with fail
                      obtain ⟨C, Ci, Co⟩ := classOf wr
                      refine quietC (C := C) (by kernel_rfl) (by kernel_rfl) (Co.out _ (Below.refl _ _).drew) ?_
                      repeat (first
                        | go_big_quiet_skip
                        | (go_big_quiet_want; go_big_quiet_op; go_big_quiet_on)
                        | (refine quiet_yes (by rfl) ?_
                           apply Exists.intro
                           refine ⟨fun w' hC => ?_, ?_⟩
                           · have hbb := Ci.out _ hC
                             have zz0 := Keep.below hbb _ _ q0
                             have zz1 := Keep.below hbb _ _ q1
                             have zz2 := Keep.below hbb _ _ i0
                             have zz3 := Keep.below hbb _ _ i1
                             have zz4 := Keep.below hbb _ _ i2
                             have zz5 := Keep.below hbb _ _ i3
                             have zz6 := Keep.below hbb _ _ z0
                             have zz7 := Keep.below hbb _ _ z1
                             have zz8 := Keep.below hbb _ _ z2
                             have zz9 := Keep.below hbb _ _ z3
                             go_simp
                             first
                               | done
                               | rfl
                               | (go_at_call 35
                                  refine (rCanBe_any (lThg l k) (lThg d j) _ _ _ ⟨_, _, rfl, IM.out.keep (Keep.below hbb)⟩ ⟨_, _, rfl, SM.out.keep (Keep.below hbb)⟩ HOK1.out HOK2.out).mono ?_
                                  rintro e' w1 ⟨rfl, hb1⟩
                                  rw [CB.out]
                                  exact ⟨rfl, Co.out _ (hbb.trans (hb1.mono hbb.size))⟩)
                               | (go_at_call 69
                                  have KS := HS.out.keep (Keep.below (HW.out.trans (hbb.mono HW.out.size)))
                                  have KT := HT.out.keep (Keep.below (HW.out.trans (hbb.mono HW.out.size)))
                                  refine (bhas_any _ _ _ _ _ (by with_reducible assumption)).mono ?_
                                  rintro e' w1 ⟨rfl, hb1⟩
                                  first
                                    | rw [HM1.out]
                                    | rw [HM2.out]
                                  exact ⟨rfl, Co.out _ (hbb.trans (hb1.mono hbb.size))⟩)
                           simp only [Act.put, List.setIfInBounds_toArray, List.set_cons_zero, List.set_cons_succ]))
                      refine wpQuiet_nil ?_
                      intro wz hC1
                      have HBY := Lib.hid (HW.out.trans ((Ci.out _ hC1).mono HW.out.size))
                      have HBZ := Lib.hid (HB2.out.trans ((Ci.out _ hC1).mono HB2.out.size))
                      clear hC1 Ci Co i0 i1 i2 i3 z0 z1 z2 z3 q0 q1
                      go_wp2_with fail
                      go_ret2
                      exact ⟨by rw [show cvOut l d s t = 0 from if_neg (by rw [F.out]; decide), F.out]; rfl, HBY.out⟩
              · obtain rfl : j = d.length := by omega
                have d2 : decide ((d.length : Int) < (d.length : Int)) = false := decide_eq_false (by omega)
                have Hj2 := Hj
                clear Hj hjd hj
                go_wp2_with fail
                go_roundw
                case rel =>
                  exact ⟨k + 1, by omega, by go_num, Lib.hid fun i hi => by
                    by_cases e : i = k
                    · subst e; exact Hj2.out
                    · exact Hn.out i (by omega), HBX⟩
                case measure => simp [intOf]; omega
          · obtain rfl : k = l.length := by omega
            have d1 : decide ((l.length : Int) < (l.length : Int)) = false := decide_eq_false (by omega)
            have F := Lib.hid (cover_fine HE.out HN1.out HN2.out Hn.out)
            have G := Lib.hid (show cvOut l d s t = s.length + t.length from if_pos F.out)
            obtain ⟨q0, q1⟩ := BX.out.keep (Keep.below HB.out)
            have HW := Lib.hid (HWa.out.trans (HB.out.mono HWa.out.size))
            clear hlt hk
            go_wp2_with fail
            go_ret2
            exact ⟨by rw [G.out, F.out]; rfl, HW.out⟩
      · have F := Lib.hid (show coverErr l d s t = numsErr t d.length by unfold coverErr; rw [if_neg (fun hh => hh HE.out), if_neg (fun hh => hh HN1.out), if_pos he])
        have G := Lib.hid (show cvOut l d s t = 0 from if_neg (by rw [F.out]; exact he))
        have e1 : (numsErr t d.length == 0) = false := by simpa using he
        have e2 : (numsErr t d.length != 0) = true := by simpa using he
        clear he
        obtain ⟨q0, q1⟩ := BX.out
        go_wp2_with fail
        go_ret2
        exact ⟨by rw [G.out, F.out]; rfl, HW.out⟩
    · have F := Lib.hid (show coverErr l d s t = numsErr s l.length by unfold coverErr; rw [if_neg (fun hh => hh HE.out), if_pos he])
      have G := Lib.hid (show cvOut l d s t = 0 from if_neg (by rw [F.out]; exact he))
      have e1 : (numsErr s l.length == 0) = false := by simpa using he
      have e2 : (numsErr s l.length != 0) = true := by simpa using he
      clear he
      obtain ⟨q0, q1⟩ := BX.out
      go_wp2_with fail
      go_ret2
      exact ⟨by rw [G.out, F.out]; rfl, HW.out⟩
  · have F := Lib.hid (show coverErr l d s t = pairErr l d by unfold coverErr; exact if_pos he)
    have G := Lib.hid (show cvOut l d s t = 0 from if_neg (by rw [F.out]; exact he))
    have e1 : (pairErr l d == 0) = false := by simpa using he
    have e2 : (pairErr l d != 0) = true := by simpa using he
    clear he
    obtain ⟨q0, q1⟩ := BX.out
    go_wp2_with fail
    go_ret2
    exact ⟨by rw [G.out, F.out]; rfl, HW.out⟩
end Go.Proofs.YtfjdnbnalihjiaaGreatDoor
/- The law of proofs: which pairs and which covers are accepted. No condition. -/
namespace Go.Proofs.YtfjdnbnalihjiaaGreatDoor
open Go.RowKit Fs

structure PrfB (w : World) (g : Nat) (u v z : Value) : Prop where
  c0 : w.cell? ⟨g, 0, none⟩ = some u
  c1 : w.cell? ⟨g, 1, none⟩ = some v
  c2 : w.cell? ⟨g, 2, none⟩ = some z
theorem PrfB.keep {w w' : World} (k : Keep w w') {g : Nat} {u v z : Value} (m : PrfB w g u v z) : PrfB w' g u v z := ⟨k _ _ m.c0, k _ _ m.c1, k _ _ m.c2⟩
set_option linter.unusedSimpArgs false in
set_option maxHeartbeats 12800000 in
set_option maxRecDepth 100000 in
theorem lawProofs_any (l d : List Thg) (p : List (Int × Int)) (s t : List Int) (A B P S T : Option Addr) (c e pc sc tc : Nat) (a b : GA) (w : World) (h : ArrTh w A l c a) (h2 : ArrTh w B d e b) (h3 : ArrPr w P p pc) (h4 : ArrI w S s sc) (h5 : ArrI w T t tc) (tbs : TabSt w) :
    Calls Tryz.prog 6 #[.slice A l.length c, .slice B d.length e, .agg #[.slice P p.length pc, .slice S s.length sc, .slice T t.length tc]] w fun e w' => e = .returned (.bool true) ∧ Below w.heap.size w w' := by
  have b1 := h.le.1
  have b2 := h.le.2
  have b3 := h2.le.1
  have b4 := h2.le.2
  have HA := Lib.hid h
  have HA2 := Lib.hid h2
  have HP := Lib.hid h3
  have HS := Lib.hid h4
  have HT := Lib.hid h5
  have TBS := Lib.hid tbs
  have BX := Lib.hid (show PrfB (w.alloc (.cells #[.slice P p.length pc, .slice S s.length sc, .slice T t.length tc] 72)) w.heap.size (.slice P p.length pc) (.slice S s.length sc) (.slice T t.length tc) from ⟨cellNew _ _ _ 0, cellNew _ _ _ 1, cellNew _ _ _ 2⟩)
  clear h h2 h3 h4 h5 tbs
  go_enter Tryz.func6, Tryz.ntmps6
  go_upto_region 1 with fail
  generalize hwb : w.alloc _ = wb at *
  have HW : Hid (Below w.heap.size w wb) := by rw [← hwb]; exact Lib.hid ((Below.refl _ _).alloc (Nat.le_refl _) _)
  clear hwb
  obtain ⟨q0, q1, q2⟩ := BX.out
  go_wp2_with fail
  refine (lawAwake_any _ (TBS.out.keep (Keep.below HW.out))).mono ?_
  rintro e' w1 ⟨rfl, hb1⟩
  replace HW := Lib.hid (HW.out.trans (hb1.mono HW.out.size))
  replace BX := Lib.hid (BX.out.keep (Keep.below hb1))
  clear q0 q1 q2
  clear hb1
  obtain ⟨q0, q1, q2⟩ := BX.out
  go_wp2_with fail
  refine (lawFew_any l d A B c e a b _ (HA.out.keep (Keep.below HW.out)) (HA2.out.keep (Keep.below HW.out))).mono ?_
  rintro e' w2 ⟨⟨bb, rfl, hbb⟩, hb1⟩
  replace HW := Lib.hid (HW.out.trans (hb1.mono HW.out.size))
  replace BX := Lib.hid (BX.out.keep (Keep.below hb1))
  clear q0 q1 q2
  clear hb1
  cases bb with
  | false =>
    clear hbb
    go_wp2_with fail
    go_ret
    exact ⟨rfl, HW.out⟩
  | true =>
    obtain ⟨hl14, hd14, hml, hmd⟩ := hbb rfl
    have HML := Lib.hid (fun i hi => (show (lThg l i).marks.length ≤ 1000000 by have := hml i hi; omega))
    have HMD := Lib.hid (fun i hi => (show (lThg d i).marks.length ≤ 1000000 by have := hmd i hi; omega))
    clear hbb hml hmd
    obtain ⟨q0, q1, q2⟩ := BX.out
    go_wp2_with fail
    refine (lawGreat_any p s t P S T pc sc tc _).mono ?_
    rintro e' w3 ⟨⟨bb2, rfl, hbb2⟩, hb1⟩
    replace HW := Lib.hid (HW.out.trans (hb1.mono HW.out.size))
    replace BX := Lib.hid (BX.out.keep (Keep.below hb1))
    clear q0 q1 q2
    clear hb1
    cases bb2 with
    | true =>
      clear hbb2
      go_wp2_with fail
      go_ret
      exact ⟨rfl, HW.out⟩
    | false =>
      obtain ⟨hp15, hs15, ht15⟩ := hbb2 rfl
      clear hbb2
      obtain ⟨wA, hwA⟩ : ∃ wz, wz = w3 := ⟨_, rfl⟩
      subst hwA
      obtain ⟨q0, q1, q2⟩ := BX.out
      go_wp2_with fail
      have HBd : Hid (Below wA.heap.size wA wA.drew) := Lib.hid (Below.refl _ _).drew
      have MK : Hid (∀ w', Below wA.heap.size wA w' → w'.cell? ⟨w.heap.size, 0, none⟩ = some (.slice P p.length pc) ∧ w'.cell? ⟨w.heap.size, 1, none⟩ = some (.slice S s.length sc) ∧ w'.cell? ⟨w.heap.size, 2, none⟩ = some (.slice T t.length tc) ∧ Hid (Below wA.heap.size wA w')) :=
        Lib.hid fun w' hw => ⟨Keep.below hw _ _ q0, Keep.below hw _ _ q1, Keep.below hw _ _ q2, Lib.hid hw⟩
      have K1 : Hid (∀ w', Below wA.heap.size wA w' → ArrTh w' A l c a) := Lib.hid fun w' hw => (HA.out.keep (Keep.below (HW.out.trans (hw.mono HW.out.size))))
      have K2 : Hid (∀ w', Below wA.heap.size wA w' → ArrTh w' B d e b) := Lib.hid fun w' hw => (HA2.out.keep (Keep.below (HW.out.trans (hw.mono HW.out.size))))
      have K3 : Hid (∀ w', Below wA.heap.size wA w' → ArrPr w' P p pc) := Lib.hid fun w' hw => (HP.out.keep (Keep.below (HW.out.trans (hw.mono HW.out.size))))
      have K4 : Hid (∀ w', Below wA.heap.size wA w' → ArrI w' S s sc) := Lib.hid fun w' hw => (HS.out.keep (Keep.below (HW.out.trans (hw.mono HW.out.size))))
      have K5 : Hid (∀ w', Below wA.heap.size wA w' → ArrI w' T t tc) := Lib.hid fun w' hw => (HT.out.keep (Keep.below (HW.out.trans (hw.mono HW.out.size))))
      refine wp_region_held_drew (S := fun w' => w'.cell? ⟨w.heap.size, 0, none⟩ = some (.slice P p.length pc) ∧ w'.cell? ⟨w.heap.size, 1, none⟩ = some (.slice S s.length sc) ∧ w'.cell? ⟨w.heap.size, 2, none⟩ = some (.slice T t.length tc) ∧ Hid (Below wA.heap.size wA w')) (by kernel_rfl) (MK.out _ HBd.out) (fun hHeld => ?_)
      refine wpAnyH_take (i := 0) (v := ?val0x1) rfl (by kernel_rfl) (by kernel_rfl) (by kernel_rfl) (fun _ _ _ h => h) (Or.inl ⟨by rfl, fun w9 hS9 => ?yields0x1⟩) (by assumption) ?later0x1
      case yields0x1 =>
        dsimp only at hS9
        go_simp
        try with_reducible rfl
      try simp only [Act.put, List.getElem_toArray, List.getElem_cons_succ, List.getElem_cons_zero, List.setIfInBounds_toArray, List.set_cons_zero, List.set_cons_succ]
      refine wpAnyH_take (i := 2) (v := ?val2x2) rfl (by kernel_rfl) (by kernel_rfl) (by kernel_rfl) (fun _ _ _ h => h) (Or.inl ⟨by rfl, fun w9 hS9 => ?yields2x2⟩) (by assumption) ?later2x2
      case yields2x2 =>
        dsimp only at hS9
        go_simp
        try with_reducible rfl
      try simp only [Act.put, List.getElem_toArray, List.getElem_cons_succ, List.getElem_cons_zero, List.setIfInBounds_toArray, List.set_cons_zero, List.set_cons_succ]
      refine wpAnyH_take (i := 4) (v := ?val4x3) rfl (by kernel_rfl) (by kernel_rfl) (by kernel_rfl) (fun _ _ _ h => h) (Or.inl ⟨by rfl, fun w9 hS9 => ?yields4x3⟩) (by assumption) ?later4x3
      case yields4x3 =>
        dsimp only at hS9
        go_simp
        try with_reducible rfl
      try simp only [Act.put, List.getElem_toArray, List.getElem_cons_succ, List.getElem_cons_zero, List.setIfInBounds_toArray, List.set_cons_zero, List.set_cons_succ]
      refine wpAnyH_take (i := 5) (v := ?val5x4) rfl (by kernel_rfl) (by kernel_rfl) (by kernel_rfl) (fun _ _ _ h => h) (Or.inl ⟨by rfl, fun w9 hS9 => ?yields5x4⟩) (by assumption) ?later5x4
      case yields5x4 =>
        dsimp only at hS9
        go_simp
        try with_reducible rfl
      try simp only [Act.put, List.getElem_toArray, List.getElem_cons_succ, List.getElem_cons_zero, List.setIfInBounds_toArray, List.set_cons_zero, List.set_cons_succ]
      refine wpAnyH_ready (rs := [1]) (by kernel_rfl) (by simp) ?_
      refine AllReadyH.cons rfl (fun K hK => ?_) AllReadyH.nil
      go_simp
      go_at_call 32
      go_split_ands
      refine (rCopyItems_any l A c a _ (K1.out _ (Hid.out (by assumption))) (by omega) HML.out).mono ?_
      rintro e' wz5 ⟨⟨A5, c5, a5, rfl, h5⟩, hb1⟩
      have H5 := Lib.hid h5
      clear h5
      go_wp2_with fail
      refine hK.out _ _ ?_ (fun hHeld => ?_)
      · (try dsimp only)
        (go_split_ands; exact MK.out _ (Below.trans (Hid.out (by assumption)) (hb1.mono (Hid.out (by assumption) : Below wA.heap.size wA _).size)))
      clear hK K
      try simp only [Act.put, List.getElem_toArray, List.getElem_cons_succ, List.getElem_cons_zero, List.setIfInBounds_toArray, List.set_cons_zero, List.set_cons_succ]
      refine wpAnyH_ready (rs := [3]) (by kernel_rfl) (by simp) ?_
      refine AllReadyH.cons rfl (fun K hK => ?_) AllReadyH.nil
      go_simp
      go_at_call 41
      go_split_ands
      refine (rCopyClaims_any d B e b _ (K2.out _ (Hid.out (by assumption))) (by omega) HMD.out).mono ?_
      rintro e' wz6 ⟨⟨A6, c6, a6, rfl, h6⟩, hb1⟩
      have H6 := Lib.hid h6
      replace H5 := Lib.hid (H5.out.keep (Keep.below hb1))
      clear h6
      go_wp2_with fail
      refine hK.out _ _ ?_ (fun hHeld => ?_)
      · (try dsimp only)
        (go_split_ands; exact MK.out _ (Below.trans (Hid.out (by assumption)) (hb1.mono (Hid.out (by assumption) : Below wA.heap.size wA _).size)))
      clear hK K
      try simp only [Act.put, List.getElem_toArray, List.getElem_cons_succ, List.getElem_cons_zero, List.setIfInBounds_toArray, List.set_cons_zero, List.set_cons_succ]
      refine wpAnyH_ready (rs := [6]) (by kernel_rfl) (by simp) ?_
      refine AllReadyH.cons rfl (fun K hK => ?_) AllReadyH.nil
      go_simp
      go_at_call 46
      go_split_ands
      refine (rCopyPairs_any p P pc _ (K3.out _ (Hid.out (by assumption))) (by omega)).mono ?_
      rintro e' wz7 ⟨A7, c7, rfl, h7, -, hb1⟩
      have H7 := Lib.hid h7
      replace H5 := Lib.hid (H5.out.keep (Keep.below hb1))
      replace H6 := Lib.hid (H6.out.keep (Keep.below hb1))
      clear h7
      go_wp2_with fail
      refine hK.out _ _ ?_ (fun hHeld => ?_)
      · (try dsimp only)
        (go_split_ands; exact MK.out _ (Below.trans (Hid.out (by assumption)) (hb1.mono (Hid.out (by assumption) : Below wA.heap.size wA _).size)))
      clear hK K
      try simp only [Act.put, List.getElem_toArray, List.getElem_cons_succ, List.getElem_cons_zero, List.setIfInBounds_toArray, List.set_cons_zero, List.set_cons_succ]
      refine wpAnyH_ready (rs := [7]) (by kernel_rfl) (by simp) ?_
      refine AllReadyH.cons rfl (fun K hK => ?_) AllReadyH.nil
      go_simp
      go_at_call 45
      go_split_ands
      refine (xCheckPairs_any l d p _ _ _ _ _ _ _ _ _ H5.out H6.out H7.out).mono ?_
      rintro e' wz8 ⟨rfl, hb1⟩
      clear H5 H6 H7
      go_wp2_with fail
      refine hK.out _ _ ?_ (fun hHeld => ?_)
      · (try dsimp only)
        (go_split_ands; exact MK.out _ (Below.trans (Hid.out (by assumption)) (hb1.mono (Hid.out (by assumption) : Below wA.heap.size wA _).size)))
      clear hK K
      try simp only [Act.put, List.getElem_toArray, List.getElem_cons_succ, List.getElem_cons_zero, List.setIfInBounds_toArray, List.set_cons_zero, List.set_cons_succ]
      refine wpAnyH_take (i := 8) (v := ?val8x5) rfl (by kernel_rfl) (by kernel_rfl) (by kernel_rfl) (fun _ _ _ h => h) (Or.inl ⟨by rfl, fun w9 hS9 => ?yields8x5⟩) (by assumption) ?later8x5
      case yields8x5 =>
        dsimp only at hS9
        go_simp
        try with_reducible rfl
      try simp only [Act.put, List.getElem_toArray, List.getElem_cons_succ, List.getElem_cons_zero, List.setIfInBounds_toArray, List.set_cons_zero, List.set_cons_succ]
      refine wpAnyH_take (i := 9) (v := ?val9x6) rfl (by kernel_rfl) (by kernel_rfl) (by kernel_rfl) (fun _ _ _ h => h) (Or.inl ⟨by rfl, fun w9 hS9 => ?yields9x6⟩) (by assumption) ?later9x6
      case yields9x6 =>
        dsimp only at hS9
        go_simp
        try with_reducible rfl
      try simp only [Act.put, List.getElem_toArray, List.getElem_cons_succ, List.getElem_cons_zero, List.setIfInBounds_toArray, List.set_cons_zero, List.set_cons_succ]
      refine wpAnyH_take (i := 10) (v := ?val10x7) rfl (by kernel_rfl) (by kernel_rfl) (by kernel_rfl) (fun _ _ _ h => h) (Or.inl ⟨by rfl, fun w9 hS9 => ?yields10x7⟩) (by assumption) ?later10x7
      case yields10x7 =>
        dsimp only at hS9
        go_simp
        try with_reducible rfl
      try simp only [Act.put, List.getElem_toArray, List.getElem_cons_succ, List.getElem_cons_zero, List.setIfInBounds_toArray, List.set_cons_zero, List.set_cons_succ]
      refine wpAnyH_take (i := 11) (v := ?val11x8) rfl (by kernel_rfl) (by kernel_rfl) (by kernel_rfl) (fun _ _ _ h => h) (Or.inl ⟨by rfl, fun w9 hS9 => ?yields11x8⟩) (by assumption) ?later11x8
      case yields11x8 =>
        dsimp only at hS9
        go_simp
        try with_reducible rfl
      try simp only [Act.put, List.getElem_toArray, List.getElem_cons_succ, List.getElem_cons_zero, List.setIfInBounds_toArray, List.set_cons_zero, List.set_cons_succ]
      refine wpAnyH_take (i := 12) (v := ?val12x9) rfl (by kernel_rfl) (by kernel_rfl) (by kernel_rfl) (fun _ _ _ h => h) (Or.inl ⟨by rfl, fun w9 hS9 => ?yields12x9⟩) (by assumption) ?later12x9
      case yields12x9 =>
        dsimp only at hS9
        go_simp
        try with_reducible rfl
      try simp only [Act.put, List.getElem_toArray, List.getElem_cons_succ, List.getElem_cons_zero, List.setIfInBounds_toArray, List.set_cons_zero, List.set_cons_succ]
      refine wpAnyH_done (by kernel_rfl) ?_ _
      obtain ⟨-, -, -, HB⟩ := hHeld
      clear HBd MK
      clear K1 K2 K3 K4 K5
      replace HW := Lib.hid (HW.out.trans (HB.out.mono HW.out.size))
      replace BX := Lib.hid (BX.out.keep (Keep.below HB.out))
      clear HB
      clear q0 q1 q2
      obtain ⟨wB, hwB⟩ : ∃ wz, wz = wz8 := ⟨_, rfl⟩
      subst hwB
      obtain ⟨q0, q1, q2⟩ := BX.out
      go_wp2_with fail
      have HBd : Hid (Below wB.heap.size wB wB.drew) := Lib.hid (Below.refl _ _).drew
      have MK : Hid (∀ w', Below wB.heap.size wB w' → w'.cell? ⟨w.heap.size, 0, none⟩ = some (.slice P p.length pc) ∧ w'.cell? ⟨w.heap.size, 1, none⟩ = some (.slice S s.length sc) ∧ w'.cell? ⟨w.heap.size, 2, none⟩ = some (.slice T t.length tc) ∧ Hid (Below wB.heap.size wB w')) :=
        Lib.hid fun w' hw => ⟨Keep.below hw _ _ q0, Keep.below hw _ _ q1, Keep.below hw _ _ q2, Lib.hid hw⟩
      have K1 : Hid (∀ w', Below wB.heap.size wB w' → ArrTh w' A l c a) := Lib.hid fun w' hw => (HA.out.keep (Keep.below (HW.out.trans (hw.mono HW.out.size))))
      have K2 : Hid (∀ w', Below wB.heap.size wB w' → ArrTh w' B d e b) := Lib.hid fun w' hw => (HA2.out.keep (Keep.below (HW.out.trans (hw.mono HW.out.size))))
      have K3 : Hid (∀ w', Below wB.heap.size wB w' → ArrPr w' P p pc) := Lib.hid fun w' hw => (HP.out.keep (Keep.below (HW.out.trans (hw.mono HW.out.size))))
      have K4 : Hid (∀ w', Below wB.heap.size wB w' → ArrI w' S s sc) := Lib.hid fun w' hw => (HS.out.keep (Keep.below (HW.out.trans (hw.mono HW.out.size))))
      have K5 : Hid (∀ w', Below wB.heap.size wB w' → ArrI w' T t tc) := Lib.hid fun w' hw => (HT.out.keep (Keep.below (HW.out.trans (hw.mono HW.out.size))))
      refine wp_region_held_drew (S := fun w' => w'.cell? ⟨w.heap.size, 0, none⟩ = some (.slice P p.length pc) ∧ w'.cell? ⟨w.heap.size, 1, none⟩ = some (.slice S s.length sc) ∧ w'.cell? ⟨w.heap.size, 2, none⟩ = some (.slice T t.length tc) ∧ Hid (Below wB.heap.size wB w')) (by kernel_rfl) (MK.out _ HBd.out) (fun hHeld => ?_)
      refine wpAnyH_take (i := 0) (v := ?val0x10) rfl (by kernel_rfl) (by kernel_rfl) (by kernel_rfl) (fun _ _ _ h => h) (Or.inl ⟨by rfl, fun w9 hS9 => ?yields0x10⟩) (by assumption) ?later0x10
      case yields0x10 =>
        dsimp only at hS9
        go_simp
        try with_reducible rfl
      try simp only [Act.put, List.getElem_toArray, List.getElem_cons_succ, List.getElem_cons_zero, List.setIfInBounds_toArray, List.set_cons_zero, List.set_cons_succ]
      refine wpAnyH_take (i := 2) (v := ?val2x11) rfl (by kernel_rfl) (by kernel_rfl) (by kernel_rfl) (fun _ _ _ h => h) (Or.inl ⟨by rfl, fun w9 hS9 => ?yields2x11⟩) (by assumption) ?later2x11
      case yields2x11 =>
        dsimp only at hS9
        go_simp
        try with_reducible rfl
      try simp only [Act.put, List.getElem_toArray, List.getElem_cons_succ, List.getElem_cons_zero, List.setIfInBounds_toArray, List.set_cons_zero, List.set_cons_succ]
      refine wpAnyH_take (i := 4) (v := ?val4x12) rfl (by kernel_rfl) (by kernel_rfl) (by kernel_rfl) (fun _ _ _ h => h) (Or.inl ⟨by rfl, fun w9 hS9 => ?yields4x12⟩) (by assumption) ?later4x12
      case yields4x12 =>
        dsimp only at hS9
        go_simp
        try with_reducible rfl
      try simp only [Act.put, List.getElem_toArray, List.getElem_cons_succ, List.getElem_cons_zero, List.setIfInBounds_toArray, List.set_cons_zero, List.set_cons_succ]
      refine wpAnyH_take (i := 5) (v := ?val5x13) rfl (by kernel_rfl) (by kernel_rfl) (by kernel_rfl) (fun _ _ _ h => h) (Or.inl ⟨by rfl, fun w9 hS9 => ?yields5x13⟩) (by assumption) ?later5x13
      case yields5x13 =>
        dsimp only at hS9
        go_simp
        try with_reducible rfl
      try simp only [Act.put, List.getElem_toArray, List.getElem_cons_succ, List.getElem_cons_zero, List.setIfInBounds_toArray, List.set_cons_zero, List.set_cons_succ]
      refine wpAnyH_ready (rs := [1]) (by kernel_rfl) (by simp) ?_
      refine AllReadyH.cons rfl (fun K hK => ?_) AllReadyH.nil
      go_simp
      go_at_call 32
      go_split_ands
      refine (rCopyItems_any l A c a _ (K1.out _ (Hid.out (by assumption))) (by omega) HML.out).mono ?_
      rintro e' wz5 ⟨⟨A5, c5, a5, rfl, h5⟩, hb1⟩
      have H5 := Lib.hid h5
      clear h5
      go_wp2_with fail
      refine hK.out _ _ ?_ (fun hHeld => ?_)
      · (try dsimp only)
        (go_split_ands; exact MK.out _ (Below.trans (Hid.out (by assumption)) (hb1.mono (Hid.out (by assumption) : Below wB.heap.size wB _).size)))
      clear hK K
      try simp only [Act.put, List.getElem_toArray, List.getElem_cons_succ, List.getElem_cons_zero, List.setIfInBounds_toArray, List.set_cons_zero, List.set_cons_succ]
      refine wpAnyH_ready (rs := [3]) (by kernel_rfl) (by simp) ?_
      refine AllReadyH.cons rfl (fun K hK => ?_) AllReadyH.nil
      go_simp
      go_at_call 41
      go_split_ands
      refine (rCopyClaims_any d B e b _ (K2.out _ (Hid.out (by assumption))) (by omega) HMD.out).mono ?_
      rintro e' wz6 ⟨⟨A6, c6, a6, rfl, h6⟩, hb1⟩
      have H6 := Lib.hid h6
      replace H5 := Lib.hid (H5.out.keep (Keep.below hb1))
      clear h6
      go_wp2_with fail
      refine hK.out _ _ ?_ (fun hHeld => ?_)
      · (try dsimp only)
        (go_split_ands; exact MK.out _ (Below.trans (Hid.out (by assumption)) (hb1.mono (Hid.out (by assumption) : Below wB.heap.size wB _).size)))
      clear hK K
      try simp only [Act.put, List.getElem_toArray, List.getElem_cons_succ, List.getElem_cons_zero, List.setIfInBounds_toArray, List.set_cons_zero, List.set_cons_succ]
      refine wpAnyH_ready (rs := [6]) (by kernel_rfl) (by simp) ?_
      refine AllReadyH.cons rfl (fun K hK => ?_) AllReadyH.nil
      go_simp
      go_at_call 48
      go_split_ands
      refine (rCopyCover_any s t S T sc tc _ (K4.out _ (Hid.out (by assumption))) (K5.out _ (Hid.out (by assumption))) (by omega) (by omega)).mono ?_
      rintro e' wz7 ⟨⟨S7, T7, sc7, tc7, rfl, h7, h8⟩, hb1⟩
      have H7 := Lib.hid h7
      have H8 := Lib.hid h8
      replace H5 := Lib.hid (H5.out.keep (Keep.below hb1))
      replace H6 := Lib.hid (H6.out.keep (Keep.below hb1))
      clear h7 h8
      go_wp2_with fail
      refine hK.out _ _ ?_ (fun hHeld => ?_)
      · (try dsimp only)
        (go_split_ands; exact MK.out _ (Below.trans (Hid.out (by assumption)) (hb1.mono (Hid.out (by assumption) : Below wB.heap.size wB _).size)))
      clear hK K
      try simp only [Act.put, List.getElem_toArray, List.getElem_cons_succ, List.getElem_cons_zero, List.setIfInBounds_toArray, List.set_cons_zero, List.set_cons_succ]
      refine wpAnyH_ready (rs := [7]) (by kernel_rfl) (by simp) ?_
      refine AllReadyH.cons rfl (fun K hK => ?_) AllReadyH.nil
      go_simp
      go_at_call 47
      go_split_ands
      refine (xCheckCover_any l d s t _ _ _ _ _ _ _ _ _ _ _ H5.out H6.out H7.out H8.out).mono ?_
      rintro e' wz8 ⟨rfl, hb1⟩
      clear H5 H6 H7 H8
      go_wp2_with fail
      refine hK.out _ _ ?_ (fun hHeld => ?_)
      · (try dsimp only)
        (go_split_ands; exact MK.out _ (Below.trans (Hid.out (by assumption)) (hb1.mono (Hid.out (by assumption) : Below wB.heap.size wB _).size)))
      clear hK K
      try simp only [Act.put, List.getElem_toArray, List.getElem_cons_succ, List.getElem_cons_zero, List.setIfInBounds_toArray, List.set_cons_zero, List.set_cons_succ]
      refine wpAnyH_take (i := 8) (v := ?val8x14) rfl (by kernel_rfl) (by kernel_rfl) (by kernel_rfl) (fun _ _ _ h => h) (Or.inl ⟨by rfl, fun w9 hS9 => ?yields8x14⟩) (by assumption) ?later8x14
      case yields8x14 =>
        dsimp only at hS9
        go_simp
        try with_reducible rfl
      try simp only [Act.put, List.getElem_toArray, List.getElem_cons_succ, List.getElem_cons_zero, List.setIfInBounds_toArray, List.set_cons_zero, List.set_cons_succ]
      refine wpAnyH_take (i := 9) (v := ?val9x15) rfl (by kernel_rfl) (by kernel_rfl) (by kernel_rfl) (fun _ _ _ h => h) (Or.inl ⟨by rfl, fun w9 hS9 => ?yields9x15⟩) (by assumption) ?later9x15
      case yields9x15 =>
        dsimp only at hS9
        go_simp
        try with_reducible rfl
      try simp only [Act.put, List.getElem_toArray, List.getElem_cons_succ, List.getElem_cons_zero, List.setIfInBounds_toArray, List.set_cons_zero, List.set_cons_succ]
      refine wpAnyH_take (i := 10) (v := ?val10x16) rfl (by kernel_rfl) (by kernel_rfl) (by kernel_rfl) (fun _ _ _ h => h) (Or.inl ⟨by rfl, fun w9 hS9 => ?yields10x16⟩) (by assumption) ?later10x16
      case yields10x16 =>
        dsimp only at hS9
        go_simp
        try with_reducible rfl
      try simp only [Act.put, List.getElem_toArray, List.getElem_cons_succ, List.getElem_cons_zero, List.setIfInBounds_toArray, List.set_cons_zero, List.set_cons_succ]
      refine wpAnyH_take (i := 11) (v := ?val11x17) rfl (by kernel_rfl) (by kernel_rfl) (by kernel_rfl) (fun _ _ _ h => h) (Or.inl ⟨by rfl, fun w9 hS9 => ?yields11x17⟩) (by assumption) ?later11x17
      case yields11x17 =>
        dsimp only at hS9
        go_simp
        try with_reducible rfl
      try simp only [Act.put, List.getElem_toArray, List.getElem_cons_succ, List.getElem_cons_zero, List.setIfInBounds_toArray, List.set_cons_zero, List.set_cons_succ]
      refine wpAnyH_take (i := 12) (v := ?val12x18) rfl (by kernel_rfl) (by kernel_rfl) (by kernel_rfl) (fun _ _ _ h => h) (Or.inl ⟨by rfl, fun w9 hS9 => ?yields12x18⟩) (by assumption) ?later12x18
      case yields12x18 =>
        dsimp only at hS9
        go_simp
        try with_reducible rfl
      try simp only [Act.put, List.getElem_toArray, List.getElem_cons_succ, List.getElem_cons_zero, List.setIfInBounds_toArray, List.set_cons_zero, List.set_cons_succ]
      refine wpAnyH_done (by kernel_rfl) ?_ _
      obtain ⟨-, -, -, HB⟩ := hHeld
      clear HBd MK
      clear K1 K2 K3 K4 K5
      replace HW := Lib.hid (HW.out.trans (HB.out.mono HW.out.size))
      replace BX := Lib.hid (BX.out.keep (Keep.below HB.out))
      clear HB
      clear q0 q1 q2
      obtain ⟨wC, hwC⟩ : ∃ wz, wz = wz8 := ⟨_, rfl⟩
      subst hwC
      obtain ⟨q0, q1, q2⟩ := BX.out
      go_wp2_with fail
      refine (rCheckPairs_any l d p A B P c e pc a b _ (HA.out.keep (Keep.below HW.out)) (HA2.out.keep (Keep.below HW.out)) (HP.out.keep (Keep.below HW.out)) hl14 hd14).mono ?_
      rintro e' w5 ⟨rfl, hb1⟩
      replace HW := Lib.hid (HW.out.trans (hb1.mono HW.out.size))
      replace BX := Lib.hid (BX.out.keep (Keep.below hb1))
      clear q0 q1 q2
      clear hb1
      obtain ⟨q0, q1, q2⟩ := BX.out
      go_wp2_with fail
      refine (rCheckCover_any l d s t A B S T c e sc tc a b _ (HA.out.keep (Keep.below HW.out)) (HA2.out.keep (Keep.below HW.out)) (HS.out.keep (Keep.below HW.out)) (HT.out.keep (Keep.below HW.out)) hl14 hd14 hs15 ht15).mono ?_
      rintro e' w6 ⟨rfl, hb1⟩
      replace HW := Lib.hid (HW.out.trans (hb1.mono HW.out.size))
      replace BX := Lib.hid (BX.out.keep (Keep.below hb1))
      clear q0 q1 q2
      clear hb1
      have ee1 : ((pairsErr l d p) == (pairsErr l d p)) = true := by simp
      have ee1b : ((pairsErr l d p) != (pairsErr l d p)) = false := by simp
      have ee2 : ((prOut l d p) == (prOut l d p)) = true := by simp
      have ee2b : ((prOut l d p) != (prOut l d p)) = false := by simp
      have ee3 : ((coverErr l d s t) == (coverErr l d s t)) = true := by simp
      have ee3b : ((coverErr l d s t) != (coverErr l d s t)) = false := by simp
      have ee4 : ((cvOut l d s t) == (cvOut l d s t)) = true := by simp
      have ee4b : ((cvOut l d s t) != (cvOut l d s t)) = false := by simp
      go_wp2_with fail
      go_ret
      exact ⟨rfl, HW.out⟩
end Go.Proofs.YtfjdnbnalihjiaaGreatDoor

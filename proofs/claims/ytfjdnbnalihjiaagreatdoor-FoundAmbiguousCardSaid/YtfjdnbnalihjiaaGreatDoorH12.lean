/- The law of states: holder, state and right on a day. No condition. -/
import Derived.Test.YtfjdnbnalihjiaaGreatDoorH2
namespace Go.Proofs.YtfjdnbnalihjiaaGreatDoor
open Go.RowKit Fs

theorem Fs.on_ok {x : Thg} {l : List Evt} {d : Int} (h : onErr x l d = 0) : chainErr x l = 0 ∧ x.day ≤ d ∧ d ≤ 100000 := by
  unfold onErr at h
  by_cases e : chainErr x l = 0
  · rw [if_neg (fun hh => hh e)] at h
    by_cases e2 : within d x.day 100000 = true
    · exact ⟨e, (Fs.within_iff.1 e2).1, (Fs.within_iff.1 e2).2⟩
    · rw [if_neg e2] at h; exact absurd h (by decide)
  · rw [if_pos e] at h; exact absurd h e
theorem Fs.empty_text : ((⟨#[]⟩ : ByteArray).toList == []) = true := by decide +kernel
set_option linter.unusedSimpArgs false in
set_option maxHeartbeats 12800000 in
set_option maxRecDepth 100000 in
theorem lawStates_any (x : Thg) (v : Value) (l : List Evt) (A : Option Addr) (c : Nat) (d : Int) (w : World) (hv : RdThg w v x) (h : ArrEv w A l c) (tbs : TabSt w) :
    Calls Tryz.prog 11 #[v, .slice A l.length c, .int .i64 d] w fun e w' => e = .returned (.bool true) ∧ Below w.heap.size w w' := by
  obtain ⟨p, pc, rfl, m⟩ := hv
  have b1 := h.le.1
  have b2 := h.le.2
  have M := Lib.hid m
  have HA := Lib.hid h
  have TBS := Lib.hid tbs
  have BX := Lib.hid (ThgAt.new w x p pc 24)
  clear m h tbs
  go_enter Tryz.func11, Tryz.ntmps11
  go_upto_region 1 with fail
  generalize hwb : w.alloc _ = wb at *
  have HW : Hid (Below w.heap.size w wb) := by rw [← hwb]; exact Lib.hid ((Below.refl _ _).alloc (Nat.le_refl _) _)
  clear hwb
  obtain ⟨q0, q1, q2, q3⟩ := BX.out
  go_wp2_with fail
  refine (lawAwake_any _ (TBS.out.keep (Keep.below HW.out))).mono ?_
  rintro e' w1 ⟨rfl, hb1⟩
  replace HW := Lib.hid (HW.out.trans (hb1.mono HW.out.size))
  replace BX := Lib.hid (BX.out.keep (Keep.below hb1))
  clear q0 q1 q2 q3
  clear hb1
  obtain ⟨q0, q1, q2, q3⟩ := BX.out
  go_wp2_with fail
  refine (lawChain_any x _ l A c _ ⟨_, _, rfl, (M.out.keep (Keep.below HW.out))⟩ (HA.out.keep (Keep.below HW.out))).mono ?_
  rintro e' w2 ⟨⟨bb, rfl, hbb⟩, hb1⟩
  replace HW := Lib.hid (HW.out.trans (hb1.mono HW.out.size))
  replace BX := Lib.hid (BX.out.keep (Keep.below hb1))
  clear q0 q1 q2 q3
  clear hb1
  cases bb with
  | false =>
    clear hbb
    go_wp2_with fail
    go_ret
    exact ⟨rfl, HW.out⟩
  | true =>
    have HLM := Lib.hid (hbb rfl).1
    have hl32 := (hbb rfl).2
    have HM := Lib.hid (show x.marks.length ≤ 1000000 by have := HLM.out; omega)
    clear hbb
    obtain ⟨q0, q1, q2, q3⟩ := BX.out
    go_wp2_with fail
    refine (rCopyItem_any x _ _ ⟨_, _, rfl, (M.out.keep (Keep.below HW.out))⟩ HM.out).mono ?_
    rintro e' wz11 ⟨A11, c11, rfl, h11, -, hb1⟩
    replace HW := Lib.hid (HW.out.trans (hb1.mono HW.out.size))
    replace BX := Lib.hid (BX.out.keep (Keep.below hb1))
    have H11 := Lib.hid h11
    clear h11
    clear q0 q1 q2 q3
    clear hb1
    obtain ⟨q0, q1, q2, q3⟩ := BX.out
    go_wp2_with fail
    refine (rCopyEvents_any l A c _ (HA.out.keep (Keep.below HW.out)) (by omega)).mono ?_
    rintro e' wz12 ⟨A12, c12, rfl, h12, -, hb1⟩
    replace HW := Lib.hid (HW.out.trans (hb1.mono HW.out.size))
    replace BX := Lib.hid (BX.out.keep (Keep.below hb1))
    replace H11 := Lib.hid (H11.out.keep (Keep.below hb1))
    have H12 := Lib.hid h12
    clear h12
    clear q0 q1 q2 q3
    clear hb1
    obtain ⟨q0, q1, q2, q3⟩ := BX.out
    go_wp2_with fail
    refine (xHolderAt_any x _ l _ _ d _ ⟨_, _, rfl, H11.out⟩ H12.out (TBS.out.keep (Keep.below HW.out))).mono ?_
    rintro e' wy51 ⟨rfl, hb1⟩
    replace HW := Lib.hid (HW.out.trans (hb1.mono HW.out.size))
    replace BX := Lib.hid (BX.out.keep (Keep.below hb1))
    replace H11 := Lib.hid (H11.out.keep (Keep.below hb1))
    replace H12 := Lib.hid (H12.out.keep (Keep.below hb1))
    clear q0 q1 q2 q3
    clear hb1
    clear H11 H12
    obtain ⟨q0, q1, q2, q3⟩ := BX.out
    go_wp2_with fail
    refine (rCopyItem_any x _ _ ⟨_, _, rfl, (M.out.keep (Keep.below HW.out))⟩ HM.out).mono ?_
    rintro e' wz13 ⟨A13, c13, rfl, h13, -, hb1⟩
    replace HW := Lib.hid (HW.out.trans (hb1.mono HW.out.size))
    replace BX := Lib.hid (BX.out.keep (Keep.below hb1))
    have H13 := Lib.hid h13
    clear h13
    clear q0 q1 q2 q3
    clear hb1
    obtain ⟨q0, q1, q2, q3⟩ := BX.out
    go_wp2_with fail
    refine (rCopyEvents_any l A c _ (HA.out.keep (Keep.below HW.out)) (by omega)).mono ?_
    rintro e' wz14 ⟨A14, c14, rfl, h14, -, hb1⟩
    replace HW := Lib.hid (HW.out.trans (hb1.mono HW.out.size))
    replace BX := Lib.hid (BX.out.keep (Keep.below hb1))
    replace H13 := Lib.hid (H13.out.keep (Keep.below hb1))
    have H14 := Lib.hid h14
    clear h14
    clear q0 q1 q2 q3
    clear hb1
    obtain ⟨q0, q1, q2, q3⟩ := BX.out
    go_wp2_with fail
    refine (xStateAt_any x _ l _ _ d _ ⟨_, _, rfl, H13.out⟩ H14.out (TBS.out.keep (Keep.below HW.out))).mono ?_
    rintro e' wy52 ⟨rfl, hb1⟩
    replace HW := Lib.hid (HW.out.trans (hb1.mono HW.out.size))
    replace BX := Lib.hid (BX.out.keep (Keep.below hb1))
    replace H13 := Lib.hid (H13.out.keep (Keep.below hb1))
    replace H14 := Lib.hid (H14.out.keep (Keep.below hb1))
    clear q0 q1 q2 q3
    clear hb1
    clear H13 H14
    obtain ⟨q0, q1, q2, q3⟩ := BX.out
    go_wp2_with fail
    refine (rCopyItem_any x _ _ ⟨_, _, rfl, (M.out.keep (Keep.below HW.out))⟩ HM.out).mono ?_
    rintro e' wz15 ⟨A15, c15, rfl, h15, -, hb1⟩
    replace HW := Lib.hid (HW.out.trans (hb1.mono HW.out.size))
    replace BX := Lib.hid (BX.out.keep (Keep.below hb1))
    have H15 := Lib.hid h15
    clear h15
    clear q0 q1 q2 q3
    clear hb1
    obtain ⟨q0, q1, q2, q3⟩ := BX.out
    go_wp2_with fail
    refine (rCopyEvents_any l A c _ (HA.out.keep (Keep.below HW.out)) (by omega)).mono ?_
    rintro e' wz16 ⟨A16, c16, rfl, h16, -, hb1⟩
    replace HW := Lib.hid (HW.out.trans (hb1.mono HW.out.size))
    replace BX := Lib.hid (BX.out.keep (Keep.below hb1))
    replace H15 := Lib.hid (H15.out.keep (Keep.below hb1))
    have H16 := Lib.hid h16
    clear h16
    clear q0 q1 q2 q3
    clear hb1
    obtain ⟨q0, q1, q2, q3⟩ := BX.out
    go_wp2_with fail
    refine (xRightAt_any x _ l _ _ d _ ⟨_, _, rfl, H15.out⟩ H16.out (TBS.out.keep (Keep.below HW.out))).mono ?_
    rintro e' wy53 ⟨rfl, hb1⟩
    replace HW := Lib.hid (HW.out.trans (hb1.mono HW.out.size))
    replace BX := Lib.hid (BX.out.keep (Keep.below hb1))
    replace H15 := Lib.hid (H15.out.keep (Keep.below hb1))
    replace H16 := Lib.hid (H16.out.keep (Keep.below hb1))
    clear q0 q1 q2 q3
    clear hb1
    clear H15 H16
    obtain ⟨q0, q1, q2, q3⟩ := BX.out
    go_wp2_with fail
    refine (rChainErr_any x _ l A c d _ ⟨_, _, rfl, (M.out.keep (Keep.below HW.out))⟩ (HA.out.keep (Keep.below HW.out))).mono ?_
    rintro e' w4 ⟨rfl, hb1⟩
    replace HW := Lib.hid (HW.out.trans (hb1.mono HW.out.size))
    replace BX := Lib.hid (BX.out.keep (Keep.below hb1))
    clear q0 q1 q2 q3
    clear hb1
    by_cases he : onErr x l d = 0
    · have HO := Lib.hid (on_ok he)
      have HDY := Lib.hid (fun j (hj : j < l.length) => evt_day ((chain_ok HO.out.1).2.2 j hj))
      have HD0 := Lib.hid (show 0 ≤ d ∧ d ≤ 100000 by have := (thg_ok (chain_ok HO.out.1).1).1.day0; have := HO.out; omega)
      rw [show hoOut x l d = holderOf x l (untilN l d) from if_pos he, show stOut x l d = stateOf l (untilN l d) from if_pos he, show riOut x l d = rightOf l (untilN l d) d from if_pos he, he]
      clear he
      have ee1 : ((holderOf x l (untilN l d)).toList == (holderOf x l (untilN l d)).toList) = true := by simp
      have ee2 : ((stateOf l (untilN l d)) == (stateOf l (untilN l d))) = true := by simp
      have ee2b : ((stateOf l (untilN l d)) != (stateOf l (untilN l d))) = false := by simp
      have ee3 : ((rightOf l (untilN l d) d) == (rightOf l (untilN l d) d)) = true := by simp
      have ee3b : ((rightOf l (untilN l d) d) != (rightOf l (untilN l d) d)) = false := by simp
      obtain ⟨q0, q1, q2, q3⟩ := BX.out
      go_wp2_with fail
      refine (rHolderAt_any x _ l A c d _ ⟨_, _, rfl, (M.out.keep (Keep.below HW.out))⟩ (HA.out.keep (Keep.below HW.out))).mono ?_
      rintro e' w5 ⟨rfl, hb1⟩
      replace HW := Lib.hid (HW.out.trans (hb1.mono HW.out.size))
      replace BX := Lib.hid (BX.out.keep (Keep.below hb1))
      clear q0 q1 q2 q3
      clear hb1
      obtain ⟨q0, q1, q2, q3⟩ := BX.out
      go_wp2_with fail
      refine (rStateAt_any l A c d _ (HA.out.keep (Keep.below HW.out))).mono ?_
      rintro e' w6 ⟨rfl, rfl⟩
      clear q0 q1 q2 q3
      obtain ⟨q0, q1, q2, q3⟩ := BX.out
      go_wp2_with fail
      refine (rRightAt_any l A c d _ (HA.out.keep (Keep.below HW.out)) HD0.out HDY.out).mono ?_
      rintro e' w7 ⟨rfl, rfl⟩
      clear q0 q1 q2 q3
      go_wp2_with fail
      go_ret
      exact ⟨rfl, HW.out⟩
    · have e1 : (onErr x l d == 0) = false := by simpa using he
      have e2 : (onErr x l d != 0) = true := by simpa using he
      rw [show hoOut x l d = ⟨#[]⟩ from if_neg he, show stOut x l d = 0 from if_neg he, show riOut x l d = 0 from if_neg he]
      have e3 := empty_text
      have ee1 : ((onErr x l d) == (onErr x l d)) = true := by simp
      have ee1b : ((onErr x l d) != (onErr x l d)) = false := by simp
      clear he
      go_wp2_with fail
      go_ret
      exact ⟨rfl, HW.out⟩
end Go.Proofs.YtfjdnbnalihjiaaGreatDoor
/- The law of ambiguous claims. No condition. -/
namespace Go.Proofs.YtfjdnbnalihjiaaGreatDoor
open Go.RowKit Fs

set_option maxHeartbeats 800000 in
set_option maxRecDepth 100000 in
/-- Two rows that read as the same list are the same. -/
theorem gints_same (l : List Int) (A B : Option Addr) (c d : Nat) (w : World) (hA : ArrI w A l c) (hB : ArrI w B l d) :
    Calls Tryz.prog 38 #[.slice A l.length c, .slice B l.length d] w fun e w' => e = .returned (.bool true) ∧ Below w.heap.size w w' := by
  have b1 := hA.le.1
  have b2 := hA.le.2
  have b3 := hB.le.1
  have b4 := hB.le.2
  have HA := Lib.hid hA
  have HB := Lib.hid hB
  clear hA hB
  go_enter Tryz.func38, Tryz.ntmps38
  go_wp2_with fail
  go_loopw [5] (fun i wr => ∃ k : Nat, k ≤ l.length ∧ i = .int .i64 k ∧ Hid (Below w.heap.size w wr)) (fun i _ => l.length - (intOf i).toNat)
  case atStart => exact ⟨0, Nat.zero_le _, rfl, Lib.hid (Below.refl _ _)⟩
  case round =>
    obtain ⟨k, hk, rfl, HX⟩ := hrel
    by_cases hlt : k < l.length
    · have hkn : (k : Int) < (l.length : Int) := by omega
      obtain ⟨b1', o1, h1, c1⟩ := (HA.out.keep (Keep.below HX.out)).at_ hlt
      obtain ⟨b2', o2, h2, c2⟩ := (HB.out.keep (Keep.below HX.out)).at_ hlt
      subst h1; subst h2
      have e1 : (listI l k == listI l k) = true := by simp
      have e2 : (listI l k != listI l k) = false := by simp
      go_wp2_with fail
      go_quiet (fail)
      go_wp2_with fail
      go_roundw
      case rel => exact ⟨k + 1, by omega, by go_num, Lib.hid (bdrewN HX.out _)⟩
      case measure => simp [intOf]; omega
    · obtain rfl : k = l.length := by omega
      clear hlt hk
      go_wp2_with fail
      go_ret
      exact ⟨rfl, HX.out⟩

theorem Fs.pair_ok {l c : List Thg} (h : pairErr l c = 0) : thgsErr l = 0 ∧ thgsErr c = 0 := by
  unfold pairErr at h
  by_cases e : thgsErr l = 0
  · rw [if_neg (fun hh => hh e)] at h; exact ⟨e, h⟩
  · rw [if_pos e] at h; exact absurd h e
theorem Fs.all_ok {l : List Thg} (h : thgsErr l = 0) : ∀ i, i < l.length → ThgOk (lThg l i) := fun i hi => (thg_ok ((thgs_ok h).2 i hi).1).1
set_option linter.unusedSimpArgs false in
set_option maxHeartbeats 12800000 in
set_option maxRecDepth 100000 in
theorem lawAmbiguous_any (l d : List Thg) (A B : Option Addr) (c e : Nat) (a b : GA) (w : World) (h : ArrTh w A l c a) (h2 : ArrTh w B d e b) (tbs : TabSt w) :
    Calls Tryz.prog 5 #[.slice A l.length c, .slice B d.length e] w fun e w' => e = .returned (.bool true) ∧ Below w.heap.size w w' := by
  have b1 := h.le.1
  have b2 := h.le.2
  have b3 := h2.le.1
  have b4 := h2.le.2
  have HA := Lib.hid h
  have HA2 := Lib.hid h2
  have TBS := Lib.hid tbs
  have HW := Lib.hid (Below.refl w.heap.size w)
  clear h h2 tbs
  go_enter Tryz.func5, Tryz.ntmps5
  go_wp2_with fail
  refine (lawAwake_any _ (TBS.out.keep (Keep.below HW.out))).mono ?_
  rintro e' w1 ⟨rfl, hb1⟩
  replace HW := Lib.hid (HW.out.trans (hb1.mono HW.out.size))
  clear hb1
  go_wp2_with fail
  refine (lawFew_any l d A B c e a b _ (HA.out.keep (Keep.below HW.out)) (HA2.out.keep (Keep.below HW.out))).mono ?_
  rintro e' w2 ⟨⟨bb, rfl, hbb⟩, hb1⟩
  replace HW := Lib.hid (HW.out.trans (hb1.mono HW.out.size))
  clear hb1
  cases bb with
  | false =>
    clear hbb
    go_wp2_with fail
    go_ret
    exact ⟨rfl, HW.out⟩
  | true =>
    obtain ⟨hl14, hd14, hml, hmd⟩ := hbb rfl
    have HML := Lib.hid (fun i hi => (show (lThg l i).marks.length ≤ 1000000 by have := hml i hi; omega))
    have HMD := Lib.hid (fun i hi => (show (lThg d i).marks.length ≤ 1000000 by have := hmd i hi; omega))
    clear hbb hml hmd
    go_wp2_with fail
    refine (rCopyItems_any l A c a _ (HA.out.keep (Keep.below HW.out)) (by omega) HML.out).mono ?_
    rintro e' wz11 ⟨⟨A11, c11, a11, rfl, h11⟩, hb1⟩
    replace HW := Lib.hid (HW.out.trans (hb1.mono HW.out.size))
    have H11 := Lib.hid h11
    clear h11
    clear hb1
    go_wp2_with fail
    refine (rCopyClaims_any d B e b _ (HA2.out.keep (Keep.below HW.out)) (by omega) HMD.out).mono ?_
    rintro e' wz12 ⟨⟨A12, c12, a12, rfl, h12⟩, hb1⟩
    replace HW := Lib.hid (HW.out.trans (hb1.mono HW.out.size))
    replace H11 := Lib.hid (H11.out.keep (Keep.below hb1))
    have H12 := Lib.hid h12
    clear h12
    clear hb1
    go_wp2_with fail
    refine (xAmbiguous_any l d _ _ _ _ _ _ _ H11.out H12.out).mono ?_
    rintro e' w3 ⟨⟨A9, c9, rfl, h9⟩, hb1⟩
    replace HW := Lib.hid (HW.out.trans (hb1.mono HW.out.size))
    replace H11 := Lib.hid (H11.out.keep (Keep.below hb1))
    replace H12 := Lib.hid (H12.out.keep (Keep.below hb1))
    have H9 := Lib.hid h9
    clear h9
    clear hb1
    clear H11 H12
    go_wp2_with fail
    refine (rBothErr_any l d A B c e a b _ (HA.out.keep (Keep.below HW.out)) (HA2.out.keep (Keep.below HW.out))).mono ?_
    rintro e' w4 ⟨rfl, hb1⟩
    replace HW := Lib.hid (HW.out.trans (hb1.mono HW.out.size))
    replace H9 := Lib.hid (H9.out.keep (Keep.below hb1))
    clear hb1
    by_cases he : pairErr l d = 0
    · have HP := Lib.hid (pair_ok he)
      have HO := Lib.hid (show amOut l d = amb l d from if_pos he)
      rw [HO.out] at H9
      rw [HO.out, he]
      clear he
      go_wp2_with fail
      refine (rAmbiguous_any l d A B c e a b _ (HA.out.keep (Keep.below HW.out)) (HA2.out.keep (Keep.below HW.out)) (all_ok HP.out.1) (all_ok HP.out.2) (by omega) (by omega)).mono ?_
      rintro e' w5 ⟨⟨A8, c8, rfl, h8⟩, hb1⟩
      replace HW := Lib.hid (HW.out.trans (hb1.mono HW.out.size))
      replace H9 := Lib.hid (H9.out.keep (Keep.below hb1))
      have H8 := Lib.hid h8
      clear h8
      clear hb1
      go_wp2_with fail
      refine (gints_same (amb l d) A9 A8 c9 c8 _ H9.out H8.out).mono ?_
      rintro e' w6 ⟨rfl, hb1⟩
      replace HW := Lib.hid (HW.out.trans (hb1.mono HW.out.size))
      replace H9 := Lib.hid (H9.out.keep (Keep.below hb1))
      replace H8 := Lib.hid (H8.out.keep (Keep.below hb1))
      clear hb1
      go_wp2_with fail
      go_ret
      exact ⟨rfl, HW.out⟩
    · have e1 : (pairErr l d == 0) = false := by simpa using he
      have e2 : (pairErr l d != 0) = true := by simpa using he
      have HO := Lib.hid (show amOut l d = [] from if_neg he)
      rw [HO.out]
      have ee1 : ((pairErr l d) == (pairErr l d)) = true := by simp
      have ee1b : ((pairErr l d) != (pairErr l d)) = false := by simp
      clear he
      go_wp2_with fail
      go_ret
      exact ⟨rfl, HW.out⟩
end Go.Proofs.YtfjdnbnalihjiaaGreatDoor

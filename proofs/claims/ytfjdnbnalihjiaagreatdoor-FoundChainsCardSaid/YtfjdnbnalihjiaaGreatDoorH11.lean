/- The laws of rewards and of chains. No condition. -/
import Derived.Test.YtfjdnbnalihjiaaGreatDoorH2
namespace Go.Proofs.YtfjdnbnalihjiaaGreatDoor
open Go.RowKit Fs

set_option linter.unusedSimpArgs false in
set_option maxHeartbeats 12800000 in
set_option maxRecDepth 100000 in
theorem lawChains_any (x : Thg) (v : Value) (l : List Evt) (A : Option Addr) (c : Nat) (w : World) (hv : RdThg w v x) (h : ArrEv w A l c) (tbs : TabSt w) :
    Calls Tryz.prog 10 #[v, .slice A l.length c] w fun e w' => e = .returned (.bool true) ∧ Below w.heap.size w w' := by
  obtain ⟨p, pc, rfl, m⟩ := hv
  have b1 := h.le.1
  have b2 := h.le.2
  have M := Lib.hid m
  have HA := Lib.hid h
  have TBS := Lib.hid tbs
  have BX := Lib.hid (ThgAt.new w x p pc 24)
  clear m h tbs
  go_enter Tryz.func10, Tryz.ntmps10
  go_upto_region 1 with fail
  generalize hwb : w.alloc _ = wb at *
  have HW : Hid (Below w.heap.size w wb) := by rw [← hwb]; exact Lib.hid ((Below.refl _ _).alloc (Nat.le_refl _) _)
  clear hwb
  obtain ⟨q0, q1, q2, q3⟩ := BX.out
  go_wp2_with fail
  refine (lawAwake_any _ (TBS.out.keep (Keep.below HW.out))).mono ?_
  rintro e' w1 ⟨rfl, hb1⟩
  replace HW := Lib.hid (HW.out.trans (hb1.mono HW.out.size))
  replace BX := Lib.hid (BX.out.keep (Keep.below hb1))
  clear q0 q1 q2 q3
  clear hb1
  obtain ⟨q0, q1, q2, q3⟩ := BX.out
  go_wp2_with fail
  refine (lawChain_any x _ l A c _ ⟨_, _, rfl, (M.out.keep (Keep.below HW.out))⟩ (HA.out.keep (Keep.below HW.out))).mono ?_
  rintro e' w2 ⟨⟨bb, rfl, hbb⟩, hb1⟩
  replace HW := Lib.hid (HW.out.trans (hb1.mono HW.out.size))
  replace BX := Lib.hid (BX.out.keep (Keep.below hb1))
  clear q0 q1 q2 q3
  clear hb1
  cases bb with
  | false =>
    clear hbb
    go_wp2_with fail
    go_ret
    exact ⟨rfl, HW.out⟩
  | true =>
    have HLM := Lib.hid (hbb rfl).1
    have hl32 := (hbb rfl).2
    have HM := Lib.hid (show x.marks.length ≤ 1000000 by have := HLM.out; omega)
    clear hbb
    obtain ⟨q0, q1, q2, q3⟩ := BX.out
    go_wp2_with fail
    refine (rCopyItem_any x _ _ ⟨_, _, rfl, (M.out.keep (Keep.below HW.out))⟩ HM.out).mono ?_
    rintro e' wz11 ⟨A11, c11, rfl, h11, -, hb1⟩
    replace HW := Lib.hid (HW.out.trans (hb1.mono HW.out.size))
    replace BX := Lib.hid (BX.out.keep (Keep.below hb1))
    have H11 := Lib.hid h11
    clear h11
    clear q0 q1 q2 q3
    clear hb1
    obtain ⟨q0, q1, q2, q3⟩ := BX.out
    go_wp2_with fail
    refine (rCopyEvents_any l A c _ (HA.out.keep (Keep.below HW.out)) (by omega)).mono ?_
    rintro e' wz12 ⟨A12, c12, rfl, h12, -, hb1⟩
    replace HW := Lib.hid (HW.out.trans (hb1.mono HW.out.size))
    replace BX := Lib.hid (BX.out.keep (Keep.below hb1))
    replace H11 := Lib.hid (H11.out.keep (Keep.below hb1))
    have H12 := Lib.hid h12
    clear h12
    clear q0 q1 q2 q3
    clear hb1
    obtain ⟨q0, q1, q2, q3⟩ := BX.out
    go_wp2_with fail
    refine (xCheckChain_any x _ l _ _ _ ⟨_, _, rfl, H11.out⟩ H12.out (TBS.out.keep (Keep.below HW.out))).mono ?_
    rintro e' w3 ⟨rfl, hb1⟩
    replace HW := Lib.hid (HW.out.trans (hb1.mono HW.out.size))
    replace BX := Lib.hid (BX.out.keep (Keep.below hb1))
    replace H11 := Lib.hid (H11.out.keep (Keep.below hb1))
    replace H12 := Lib.hid (H12.out.keep (Keep.below hb1))
    clear q0 q1 q2 q3
    clear hb1
    clear H11 H12
    obtain ⟨q0, q1, q2, q3⟩ := BX.out
    go_wp2_with fail
    refine (rCheckChain_any x _ l A c _ ⟨_, _, rfl, (M.out.keep (Keep.below HW.out))⟩ (HA.out.keep (Keep.below HW.out))).mono ?_
    rintro e' w4 ⟨rfl, hb1⟩
    replace HW := Lib.hid (HW.out.trans (hb1.mono HW.out.size))
    replace BX := Lib.hid (BX.out.keep (Keep.below hb1))
    clear q0 q1 q2 q3
    clear hb1
    have ee1 : ((chainErr x l) == (chainErr x l)) = true := by simp
    have ee1b : ((chainErr x l) != (chainErr x l)) = false := by simp
    have ee2 : ((((chainAt x l : Nat) : Int)) == (((chainAt x l : Nat) : Int))) = true := by simp
    have ee2b : ((((chainAt x l : Nat) : Int)) != (((chainAt x l : Nat) : Int))) = false := by simp
    go_wp2_with fail
    go_ret
    exact ⟨rfl, HW.out⟩
theorem Fs.rew_ok {n : Int} (h : rewErr n = 0) : 0 ≤ n ∧ n ≤ 1000000000 := by
  unfold rewErr at h
  by_cases e : isMoney n = true
  · exact Fs.within_iff.1 e
  · rw [if_neg e] at h; exact absurd h (by decide)
theorem Fs.rew_zero {n : Int} (h0 : 0 ≤ n) (h1 : n ≤ 1000000000) : rewErr n = 0 := if_pos (Fs.within_iff.2 ⟨h0, h1⟩)
theorem Fs.rew_is {n : Int} (h0 : 0 ≤ n) (h1 : n ≤ 1000000000) : reward n = (5 * min n 50000 + 3 * max 0 (n - 50000)) / 100 := by
  unfold reward
  rw [if_pos (show isMoney n = true from Fs.within_iff.2 ⟨h0, h1⟩), Int.tdiv_eq_ediv_of_nonneg (by omega)]
theorem Fs.rew_pos {n : Int} (h0 : 0 ≤ n) (h1 : n ≤ 1000000000) : 0 ≤ reward n ∧ reward n ≤ 1000000000 := by
  rw [rew_is h0 h1]; omega
theorem Fs.rew_mono {n m : Int} (h0 : 0 ≤ n) (h1 : n ≤ 1000000000) (h2 : n ≤ m) (h3 : m ≤ 1000000000) : reward n ≤ reward m := by
  rw [rew_is h0 h1, rew_is (by omega) h3]; omega
theorem Fs.rew_most {n : Int} (h0 : 0 ≤ n) (h1 : n ≤ 1000000000) : 100 * reward n ≤ 5 * n := by
  rw [rew_is h0 h1]; omega
end Go.Proofs.YtfjdnbnalihjiaaGreatDoor

/- The law of records that are joined: as specified; the order does not matter, and with no records nothing changes. No condition. -/
import Derived.Test.YtolicafhbeiciaaXP
import Derived.Test.YtolicafhbeiciaaV1
namespace Go.Proofs.Ytolicafhbeiciaa
open Go.RowKit Fs

set_option linter.unusedSimpArgs false in
set_option maxHeartbeats 12800000 in
set_option maxRecDepth 100000 in
theorem lawJoins_any (a b : List WRec) (A B : Option Addr) (c d : Nat) (w : World) (h : ArrW w A a c) (h2 : ArrW w B b d) :
    Calls Try.prog 10 #[.slice A a.length c, .slice B b.length d] w fun e w' => e = .returned (.bool true) ∧ Below w.heap.size w w' := by
  have b1 := h.le.1
  have b2 := h.le.2
  have b3 := h2.le.1
  have b4 := h2.le.2
  have HA := Lib.hid h
  have HG := Lib.hid h2
  clear h h2
  have HW := Lib.hid (Below.refl w.heap.size w)
  go_enter Try.func10, Try.ntmps10
  go_wp2_with fail
  refine (lawAwake_any _).mono ?_
  rintro e' w1 ⟨rfl, hb1⟩
  replace HW := Lib.hid (HW.out.trans (hb1.mono HW.out.size))
  clear hb1
  go_wp2_with fail
  refine (lawFew_any a A c _ (HA.out.keep (Keep.below HW.out))).mono ?_
  rintro e' wA ⟨rfl, rfl⟩
  cases hf : fewR a with
  | false =>
    go_wp2_with fail
    go_ret
    exact ⟨rfl, HW.out⟩
  | true =>
    have hl := (fewR_is hf).1
    have hl : a.length ≤ 42 := by omega
    clear hf
    go_wp2_with fail
    refine (lawFew_any b B d _ (HG.out.keep (Keep.below HW.out))).mono ?_
    rintro e' wA ⟨rfl, rfl⟩
    cases hf : fewR b with
    | false =>
      go_wp2_with fail
      go_ret
      exact ⟨rfl, HW.out⟩
    | true =>
      have hl2 := (fewR_is hf).1
      have hl2 : b.length ≤ 42 := by omega
      clear hf
      go_wp2_with fail
      refine (copyRecs_any a A c _ (HA.out.keep (Keep.below HW.out)) (by omega)).mono ?_
      rintro e' w5 ⟨⟨AH5, cH5, rfl, h5⟩, hb1⟩
      replace HW := Lib.hid (HW.out.trans (hb1.mono HW.out.size))
      have H5 := Lib.hid h5
      clear h5
      clear hb1
      go_wp2_with fail
      refine (copyRecs_any b B d _ (HG.out.keep (Keep.below HW.out)) (by omega)).mono ?_
      rintro e' w5 ⟨⟨AH6, cH6, rfl, h5⟩, hb1⟩
      replace HW := Lib.hid (HW.out.trans (hb1.mono HW.out.size))
      replace H5 := Lib.hid (H5.out.keep (Keep.below hb1))
      have H6 := Lib.hid h5
      clear h5
      clear hb1
      go_wp2_with fail
      refine (xJoined_any a b AH5 AH6 cH5 cH6 _ H5.out H6.out).mono ?_
      rintro e' w7 ⟨⟨A7, c7, rfl, h7⟩, hb1⟩
      replace HW := Lib.hid (HW.out.trans (hb1.mono HW.out.size))
      have H7 := Lib.hid h7
      clear h7 H5 H6
      clear hb1
      go_wp2_with fail
      refine (rRecordsErr_any a A c _ (HA.out.keep (Keep.below HW.out))).mono ?_
      rintro e' w8 ⟨rfl, hb1⟩
      replace HW := Lib.hid (HW.out.trans (hb1.mono HW.out.size))
      replace H7 := Lib.hid (H7.out.keep (Keep.below hb1))
      clear hb1
      by_cases he : recsErr true a = 0
      · have HE := Lib.hid he
        rw [he]
        clear he
        go_wp2_with fail
        refine (rRecordsErr_any b B d _ (HG.out.keep (Keep.below HW.out))).mono ?_
        rintro e' w8 ⟨rfl, hb1⟩
        replace HW := Lib.hid (HW.out.trans (hb1.mono HW.out.size))
        replace H7 := Lib.hid (H7.out.keep (Keep.below hb1))
        clear hb1
        by_cases he : recsErr true b = 0
        · have HF := Lib.hid he
          rw [he]
          clear he
          go_wp2_with fail
          refine (rJoinedR_any a b A B c d _ (HA.out.keep (Keep.below HW.out)) (HG.out.keep (Keep.below HW.out)) HE.out HF.out).mono ?_
          rintro e' w9 ⟨⟨A9, c9, rfl, h9⟩, hb1⟩
          replace HW := Lib.hid (HW.out.trans (hb1.mono HW.out.size))
          replace H7 := Lib.hid (H7.out.keep (Keep.below hb1))
          have H9 := Lib.hid h9
          clear h9
          clear hb1
          have l7 := H7.out.le.1
          have l72 := H7.out.le.2
          go_wp2_with fail
          refine (rSame_any (joinedOut a b) (joinedOut a b) A7 A9 c7 c9 _ H7.out H9.out).mono ?_
          rintro e' wa ⟨rfl, hb1⟩
          replace HW := Lib.hid (HW.out.trans (hb1.mono HW.out.size))
          replace H7 := Lib.hid (H7.out.keep (Keep.below hb1))
          rw [sameR_yes rfl]
          clear H9
          clear hb1
          go_wp2_with fail
          refine (copyRecs_any b B d _ (HG.out.keep (Keep.below HW.out)) (by omega)).mono ?_
          rintro e' w5 ⟨⟨AH5, cH5, rfl, h5⟩, hb1⟩
          replace HW := Lib.hid (HW.out.trans (hb1.mono HW.out.size))
          replace H7 := Lib.hid (H7.out.keep (Keep.below hb1))
          have H5 := Lib.hid h5
          clear h5
          clear hb1
          go_wp2_with fail
          refine (copyRecs_any a A c _ (HA.out.keep (Keep.below HW.out)) (by omega)).mono ?_
          rintro e' w5 ⟨⟨AH6, cH6, rfl, h5⟩, hb1⟩
          replace HW := Lib.hid (HW.out.trans (hb1.mono HW.out.size))
          replace H7 := Lib.hid (H7.out.keep (Keep.below hb1))
          replace H5 := Lib.hid (H5.out.keep (Keep.below hb1))
          have H6 := Lib.hid h5
          clear h5
          clear hb1
          go_wp2_with fail
          refine (xJoined_any b a AH5 AH6 cH5 cH6 _ H5.out H6.out).mono ?_
          rintro e' wb ⟨⟨A8, c8, rfl, h8⟩, hb1⟩
          replace HW := Lib.hid (HW.out.trans (hb1.mono HW.out.size))
          replace H7 := Lib.hid (H7.out.keep (Keep.below hb1))
          rw [(joined_sym HE.out HF.out).2] at h8
          rw [(joined_sym HE.out HF.out).1, (joined_sym HE.out HF.out).2]
          have H8 := Lib.hid h8
          clear h8 H5 H6
          clear hb1
          go_wp2_with fail
          refine (copyRecs_any a A c _ (HA.out.keep (Keep.below HW.out)) (by omega)).mono ?_
          rintro e' w5 ⟨⟨AH5, cH5, rfl, h5⟩, hb1⟩
          replace HW := Lib.hid (HW.out.trans (hb1.mono HW.out.size))
          replace H7 := Lib.hid (H7.out.keep (Keep.below hb1))
          replace H8 := Lib.hid (H8.out.keep (Keep.below hb1))
          have H5 := Lib.hid h5
          clear h5
          clear hb1
          go_wp2_with fail
          refine (xJoined_any a [] AH5 none cH5 0 _ H5.out (rdNone _)).mono ?_
          rintro e' wd ⟨⟨AC, cC, rfl, hC⟩, hb1⟩
          replace HW := Lib.hid (HW.out.trans (hb1.mono HW.out.size))
          replace H7 := Lib.hid (H7.out.keep (Keep.below hb1))
          replace H8 := Lib.hid (H8.out.keep (Keep.below hb1))
          rw [(joined_nil HE.out).2] at hC
          rw [(joined_nil HE.out).1, (joined_nil HE.out).2]
          have HC := Lib.hid hC
          clear hC H5
          clear hb1
          go_wp2_with fail
          refine (rSame_any (joinedOut a b) (joinedOut a b) A7 A8 c7 c8 _ H7.out H8.out).mono ?_
          rintro e' we ⟨rfl, hb1⟩
          replace HW := Lib.hid (HW.out.trans (hb1.mono HW.out.size))
          replace H7 := Lib.hid (H7.out.keep (Keep.below hb1))
          replace H8 := Lib.hid (H8.out.keep (Keep.below hb1))
          replace HC := Lib.hid (HC.out.keep (Keep.below hb1))
          rw [sameR_yes rfl]
          clear hb1
          go_wp2_with fail
          refine (rSame_any a a AC A cC c _ HC.out (HA.out.keep (Keep.below HW.out))).mono ?_
          rintro e' wf ⟨rfl, hb1⟩
          replace HW := Lib.hid (HW.out.trans (hb1.mono HW.out.size))
          replace H7 := Lib.hid (H7.out.keep (Keep.below hb1))
          replace H8 := Lib.hid (H8.out.keep (Keep.below hb1))
          replace HC := Lib.hid (HC.out.keep (Keep.below hb1))
          rw [sameR_yes rfl]
          clear hb1
          go_wp2_with fail
          go_ret
          exact ⟨rfl, HW.out⟩
        · have e1 : (recsErr true b == 0) = false := by simpa using he
          have e2 : (recsErr true b != 0) = true := by simpa using he
          rw [(joined_two HE.out he).1, (joined_two HE.out he).2]
          clear he H7
          go_wp2_with fail
          go_ret
          exact ⟨rfl, HW.out⟩
      · have e1 : (recsErr true a == 0) = false := by simpa using he
        have e2 : (recsErr true a != 0) = true := by simpa using he
        rw [(joined_one he).1, (joined_one he).2]
        clear he H7
        go_wp2_with fail
        go_ret
        exact ⟨rfl, HW.out⟩
end Go.Proofs.Ytolicafhbeiciaa

/- The law of stints and shifts: as specified; the work of all stints is that in all time. No condition. -/
import Derived.Test.YtolicafhbeiciaaE12
import Derived.Test.YtolicafhbeiciaaE10
namespace Go.Proofs.Ytolicafhbeiciaa
open Go.RowKit Fs

set_option linter.unusedSimpArgs false in
set_option maxHeartbeats 12800000 in
set_option maxRecDepth 100000 in
theorem lawStints_any (R : DRules) (l : List WRec) (A : Option Addr) (c : Nat) (w : World) (h : ArrW w A l c) :
    Calls Try.prog 3 #[drulesV R, .slice A l.length c] w fun e w' => e = .returned (.bool true) ∧ Below w.heap.size w w' := by
  have b1 := h.le.1
  have b2 := h.le.2
  have HA := Lib.hid h
  clear h
  have BR := Lib.hid (RulesIn.new w R 23)
  go_enter Try.func3, Try.ntmps3
  go_upto_region 1 with fail
  generalize hwb : w.alloc _ = wb at *
  have HW : Hid (Below w.heap.size w wb) := by rw [← hwb]; exact Lib.hid ((Below.refl _ _).alloc (Nat.le_refl _) _)
  clear hwb
  obtain ⟨a0, a1, a2, a3, a4⟩ := BR.out
  go_wp2_with fail
  refine (lawAwake_any _).mono ?_
  rintro e' w1 ⟨rfl, hb1⟩
  replace HW := Lib.hid (HW.out.trans (hb1.mono HW.out.size))
  replace BR := Lib.hid (BR.out.keep (Keep.below hb1))
  clear a0 a1 a2 a3 a4
  clear hb1
  go_wp2_with fail
  refine (lawFew_any l A c _ (HA.out.keep (Keep.below HW.out))).mono ?_
  rintro e' wA ⟨rfl, rfl⟩
  cases hf : fewR l with
  | false =>
    go_wp2_with fail
    go_ret
    exact ⟨rfl, HW.out⟩
  | true =>
    have hl := (fewR_is hf).1
    have hl : l.length ≤ 42 := by omega
    clear hf
    obtain ⟨wA, hwA⟩ : ∃ wz, wz = w1 := ⟨_, rfl⟩
    subst hwA
    obtain ⟨a0, a1, a2, a3, a4⟩ := BR.out
    go_wp2_with fail
    have HBd : Hid (Below wA.heap.size wA wA.drew) := Lib.hid (Below.refl _ _).drew
    have MK : Hid (∀ w', Below wA.heap.size wA w' → w'.cell? ⟨w.heap.size, 0, none⟩ = some (.int .i64 R.brk) ∧ w'.cell? ⟨w.heap.size, 1, none⟩ = some (.int .i64 R.rest) ∧ w'.cell? ⟨w.heap.size, 2, none⟩ = some (.int .i64 R.stint) ∧ w'.cell? ⟨w.heap.size, 3, none⟩ = some (.int .i64 R.shift) ∧ w'.cell? ⟨w.heap.size, 4, none⟩ = some (.int .i64 R.week) ∧ Hid (Below wA.heap.size wA w')) :=
      Lib.hid fun w' hw => ⟨Keep.below hw _ _ a0, Keep.below hw _ _ a1, Keep.below hw _ _ a2, Keep.below hw _ _ a3, Keep.below hw _ _ a4, Lib.hid hw⟩
    have KA : Hid (∀ w', Below wA.heap.size wA w' → ArrW w' A l c) := Lib.hid fun w' hw => (HA.out.keep (Keep.below (HW.out.trans (hw.mono HW.out.size))))
    refine wp_region_held_drew (S := fun w' => w'.cell? ⟨w.heap.size, 0, none⟩ = some (.int .i64 R.brk) ∧ w'.cell? ⟨w.heap.size, 1, none⟩ = some (.int .i64 R.rest) ∧ w'.cell? ⟨w.heap.size, 2, none⟩ = some (.int .i64 R.stint) ∧ w'.cell? ⟨w.heap.size, 3, none⟩ = some (.int .i64 R.shift) ∧ w'.cell? ⟨w.heap.size, 4, none⟩ = some (.int .i64 R.week) ∧ Hid (Below wA.heap.size wA w')) (by kernel_rfl) (MK.out _ HBd.out) (fun hHeld => ?_)
    refine wpAnyH_take (i := 0) (v := ?val0x1) rfl (by kernel_rfl) (by kernel_rfl) (by kernel_rfl) (fun _ _ _ h => h) (Or.inl ⟨by rfl, fun w9 hS9 => ?yields0x1⟩) (by assumption) ?later0x1
    case yields0x1 =>
      dsimp only at hS9
      go_simp
      try with_reducible rfl
    try simp only [Act.put, List.getElem_toArray, List.getElem_cons_succ, List.getElem_cons_zero, List.setIfInBounds_toArray, List.set_cons_zero, List.set_cons_succ]
    refine wpAnyH_take (i := 1) (v := ?val1x2) rfl (by kernel_rfl) (by kernel_rfl) (by kernel_rfl) (fun _ _ _ h => h) (Or.inl ⟨by rfl, fun w9 hS9 => ?yields1x2⟩) (by assumption) ?later1x2
    case yields1x2 =>
      dsimp only at hS9
      go_simp
      try with_reducible rfl
    try simp only [Act.put, List.getElem_toArray, List.getElem_cons_succ, List.getElem_cons_zero, List.setIfInBounds_toArray, List.set_cons_zero, List.set_cons_succ]
    refine wpAnyH_ready (rs := [2]) (by kernel_rfl) (by simp) ?_
    refine AllReadyH.cons rfl (fun K hK => ?_) AllReadyH.nil
    go_simp
    go_at_call 20
    go_split_ands
    refine (rCopyRecords_any l A c _ (KA.out _ (Hid.out (by assumption))) (by omega)).mono ?_
    rintro e' wz5 ⟨v5, rfl, h5, hb1⟩
    obtain ⟨A5, c5, rfl, h6⟩ := own_recs h5
    have H5 := Lib.hid h6
    clear h5 h6
    go_wp2_with fail
    refine hK.out _ _ ?_ (fun hHeld => ?_)
    · (try dsimp only)
      (go_split_ands; exact MK.out _ (Below.trans (Hid.out (by assumption)) (hb1.mono (Hid.out (by assumption) : Below wA.heap.size wA _).size)))
    clear hK K
    try simp only [Act.put, List.getElem_toArray, List.getElem_cons_succ, List.getElem_cons_zero, List.setIfInBounds_toArray, List.set_cons_zero, List.set_cons_succ]
    refine wpAnyH_ready (rs := [3]) (by kernel_rfl) (by simp) ?_
    refine AllReadyH.cons rfl (fun K hK => ?_) AllReadyH.nil
    go_simp
    go_at_call 19
    go_split_ands
    refine (xStints_any R l A5 c5 _ H5.out).mono ?_
    rintro e' wz7 ⟨⟨A7, c7, rfl, h7⟩, hb1⟩
    have HJ := Lib.hid h7
    clear H5 h7
    go_wp2_with fail
    refine hK.out _ _ ?_ (fun hHeld => ?_)
    · (try dsimp only)
      (go_split_ands; exact MK.out _ (Below.trans (Hid.out (by assumption)) (hb1.mono (Hid.out (by assumption) : Below wA.heap.size wA _).size)))
    clear hK K
    try simp only [Act.put, List.getElem_toArray, List.getElem_cons_succ, List.getElem_cons_zero, List.setIfInBounds_toArray, List.set_cons_zero, List.set_cons_succ]
    refine wpAnyH_take (i := 4) (v := ?val4x3) rfl (by kernel_rfl) (by kernel_rfl) (by kernel_rfl) (fun _ _ _ h => h) (Or.inl ⟨by rfl, fun w9 hS9 => ?yields4x3⟩) (by assumption) ?later4x3
    case yields4x3 =>
      dsimp only at hS9
      go_simp
      try with_reducible rfl
    try simp only [Act.put, List.getElem_toArray, List.getElem_cons_succ, List.getElem_cons_zero, List.setIfInBounds_toArray, List.set_cons_zero, List.set_cons_succ]
    refine wpAnyH_take (i := 5) (v := ?val5x4) rfl (by kernel_rfl) (by kernel_rfl) (by kernel_rfl) (fun _ _ _ h => h) (Or.inl ⟨by rfl, fun w9 hS9 => ?yields5x4⟩) (by assumption) ?later5x4
    case yields5x4 =>
      dsimp only at hS9
      go_simp
      try with_reducible rfl
    try simp only [Act.put, List.getElem_toArray, List.getElem_cons_succ, List.getElem_cons_zero, List.setIfInBounds_toArray, List.set_cons_zero, List.set_cons_succ]
    refine wpAnyH_take (i := 6) (v := ?val6x5) rfl (by kernel_rfl) (by kernel_rfl) (by kernel_rfl) (fun _ _ _ h => h) (Or.inl ⟨by rfl, fun w9 hS9 => ?yields6x5⟩) (by assumption) ?later6x5
    case yields6x5 =>
      dsimp only at hS9
      go_simp
      try with_reducible rfl
    try simp only [Act.put, List.getElem_toArray, List.getElem_cons_succ, List.getElem_cons_zero, List.setIfInBounds_toArray, List.set_cons_zero, List.set_cons_succ]
    refine wpAnyH_take (i := 7) (v := ?val7x6) rfl (by kernel_rfl) (by kernel_rfl) (by kernel_rfl) (fun _ _ _ h => h) (Or.inl ⟨by rfl, fun w9 hS9 => ?yields7x6⟩) (by assumption) ?later7x6
    case yields7x6 =>
      dsimp only at hS9
      go_simp
      try with_reducible rfl
    try simp only [Act.put, List.getElem_toArray, List.getElem_cons_succ, List.getElem_cons_zero, List.setIfInBounds_toArray, List.set_cons_zero, List.set_cons_succ]
    refine wpAnyH_take (i := 8) (v := ?val8x7) rfl (by kernel_rfl) (by kernel_rfl) (by kernel_rfl) (fun _ _ _ h => h) (Or.inl ⟨by rfl, fun w9 hS9 => ?yields8x7⟩) (by assumption) ?later8x7
    case yields8x7 =>
      dsimp only at hS9
      go_simp
      try with_reducible rfl
    try simp only [Act.put, List.getElem_toArray, List.getElem_cons_succ, List.getElem_cons_zero, List.setIfInBounds_toArray, List.set_cons_zero, List.set_cons_succ]
    refine wpAnyH_done (by kernel_rfl) ?_ _
    obtain ⟨-, -, -, -, -, HB⟩ := hHeld
    clear HBd MK
    clear KA
    replace HW := Lib.hid (HW.out.trans (HB.out.mono HW.out.size))
    replace BR := Lib.hid (BR.out.keep (Keep.below HB.out))
    clear HB
    clear a0 a1 a2 a3 a4
    obtain ⟨wB, hwB⟩ : ∃ wz, wz = wz7 := ⟨_, rfl⟩
    subst hwB
    obtain ⟨a0, a1, a2, a3, a4⟩ := BR.out
    go_wp2_with fail
    have HBd : Hid (Below wB.heap.size wB wB.drew) := Lib.hid (Below.refl _ _).drew
    have MK : Hid (∀ w', Below wB.heap.size wB w' → w'.cell? ⟨w.heap.size, 0, none⟩ = some (.int .i64 R.brk) ∧ w'.cell? ⟨w.heap.size, 1, none⟩ = some (.int .i64 R.rest) ∧ w'.cell? ⟨w.heap.size, 2, none⟩ = some (.int .i64 R.stint) ∧ w'.cell? ⟨w.heap.size, 3, none⟩ = some (.int .i64 R.shift) ∧ w'.cell? ⟨w.heap.size, 4, none⟩ = some (.int .i64 R.week) ∧ Hid (Below wB.heap.size wB w')) :=
      Lib.hid fun w' hw => ⟨Keep.below hw _ _ a0, Keep.below hw _ _ a1, Keep.below hw _ _ a2, Keep.below hw _ _ a3, Keep.below hw _ _ a4, Lib.hid hw⟩
    have KA : Hid (∀ w', Below wB.heap.size wB w' → ArrW w' A l c) := Lib.hid fun w' hw => (HA.out.keep (Keep.below (HW.out.trans (hw.mono HW.out.size))))
    refine wp_region_held_drew (S := fun w' => w'.cell? ⟨w.heap.size, 0, none⟩ = some (.int .i64 R.brk) ∧ w'.cell? ⟨w.heap.size, 1, none⟩ = some (.int .i64 R.rest) ∧ w'.cell? ⟨w.heap.size, 2, none⟩ = some (.int .i64 R.stint) ∧ w'.cell? ⟨w.heap.size, 3, none⟩ = some (.int .i64 R.shift) ∧ w'.cell? ⟨w.heap.size, 4, none⟩ = some (.int .i64 R.week) ∧ Hid (Below wB.heap.size wB w')) (by kernel_rfl) (MK.out _ HBd.out) (fun hHeld => ?_)
    refine wpAnyH_take (i := 0) (v := ?val0x8) rfl (by kernel_rfl) (by kernel_rfl) (by kernel_rfl) (fun _ _ _ h => h) (Or.inl ⟨by rfl, fun w9 hS9 => ?yields0x8⟩) (by assumption) ?later0x8
    case yields0x8 =>
      dsimp only at hS9
      go_simp
      try with_reducible rfl
    try simp only [Act.put, List.getElem_toArray, List.getElem_cons_succ, List.getElem_cons_zero, List.setIfInBounds_toArray, List.set_cons_zero, List.set_cons_succ]
    refine wpAnyH_take (i := 1) (v := ?val1x9) rfl (by kernel_rfl) (by kernel_rfl) (by kernel_rfl) (fun _ _ _ h => h) (Or.inl ⟨by rfl, fun w9 hS9 => ?yields1x9⟩) (by assumption) ?later1x9
    case yields1x9 =>
      dsimp only at hS9
      go_simp
      try with_reducible rfl
    try simp only [Act.put, List.getElem_toArray, List.getElem_cons_succ, List.getElem_cons_zero, List.setIfInBounds_toArray, List.set_cons_zero, List.set_cons_succ]
    refine wpAnyH_ready (rs := [2]) (by kernel_rfl) (by simp) ?_
    refine AllReadyH.cons rfl (fun K hK => ?_) AllReadyH.nil
    go_simp
    go_at_call 20
    go_split_ands
    refine (rCopyRecords_any l A c _ (KA.out _ (Hid.out (by assumption))) (by omega)).mono ?_
    rintro e' wz5 ⟨v5, rfl, h5, hb1⟩
    obtain ⟨A5, c5, rfl, h6⟩ := own_recs h5
    have H5 := Lib.hid h6
    clear h5 h6
    go_wp2_with fail
    refine hK.out _ _ ?_ (fun hHeld => ?_)
    · (try dsimp only)
      (go_split_ands; exact MK.out _ (Below.trans (Hid.out (by assumption)) (hb1.mono (Hid.out (by assumption) : Below wB.heap.size wB _).size)))
    clear hK K
    try simp only [Act.put, List.getElem_toArray, List.getElem_cons_succ, List.getElem_cons_zero, List.setIfInBounds_toArray, List.set_cons_zero, List.set_cons_succ]
    refine wpAnyH_ready (rs := [3]) (by kernel_rfl) (by simp) ?_
    refine AllReadyH.cons rfl (fun K hK => ?_) AllReadyH.nil
    go_simp
    go_at_call 21
    go_split_ands
    refine (xShifts_any R l A5 c5 _ H5.out).mono ?_
    rintro e' wz7 ⟨⟨A8, c8, rfl, h7⟩, hb1⟩
    have HK := Lib.hid h7
    clear H5 h7
    go_wp2_with fail
    refine hK.out _ _ ?_ (fun hHeld => ?_)
    · (try dsimp only)
      (go_split_ands; exact MK.out _ (Below.trans (Hid.out (by assumption)) (hb1.mono (Hid.out (by assumption) : Below wB.heap.size wB _).size)))
    clear hK K
    try simp only [Act.put, List.getElem_toArray, List.getElem_cons_succ, List.getElem_cons_zero, List.setIfInBounds_toArray, List.set_cons_zero, List.set_cons_succ]
    refine wpAnyH_take (i := 4) (v := ?val4x10) rfl (by kernel_rfl) (by kernel_rfl) (by kernel_rfl) (fun _ _ _ h => h) (Or.inl ⟨by rfl, fun w9 hS9 => ?yields4x10⟩) (by assumption) ?later4x10
    case yields4x10 =>
      dsimp only at hS9
      go_simp
      try with_reducible rfl
    try simp only [Act.put, List.getElem_toArray, List.getElem_cons_succ, List.getElem_cons_zero, List.setIfInBounds_toArray, List.set_cons_zero, List.set_cons_succ]
    refine wpAnyH_take (i := 5) (v := ?val5x11) rfl (by kernel_rfl) (by kernel_rfl) (by kernel_rfl) (fun _ _ _ h => h) (Or.inl ⟨by rfl, fun w9 hS9 => ?yields5x11⟩) (by assumption) ?later5x11
    case yields5x11 =>
      dsimp only at hS9
      go_simp
      try with_reducible rfl
    try simp only [Act.put, List.getElem_toArray, List.getElem_cons_succ, List.getElem_cons_zero, List.setIfInBounds_toArray, List.set_cons_zero, List.set_cons_succ]
    refine wpAnyH_take (i := 6) (v := ?val6x12) rfl (by kernel_rfl) (by kernel_rfl) (by kernel_rfl) (fun _ _ _ h => h) (Or.inl ⟨by rfl, fun w9 hS9 => ?yields6x12⟩) (by assumption) ?later6x12
    case yields6x12 =>
      dsimp only at hS9
      go_simp
      try with_reducible rfl
    try simp only [Act.put, List.getElem_toArray, List.getElem_cons_succ, List.getElem_cons_zero, List.setIfInBounds_toArray, List.set_cons_zero, List.set_cons_succ]
    refine wpAnyH_take (i := 7) (v := ?val7x13) rfl (by kernel_rfl) (by kernel_rfl) (by kernel_rfl) (fun _ _ _ h => h) (Or.inl ⟨by rfl, fun w9 hS9 => ?yields7x13⟩) (by assumption) ?later7x13
    case yields7x13 =>
      dsimp only at hS9
      go_simp
      try with_reducible rfl
    try simp only [Act.put, List.getElem_toArray, List.getElem_cons_succ, List.getElem_cons_zero, List.setIfInBounds_toArray, List.set_cons_zero, List.set_cons_succ]
    refine wpAnyH_take (i := 8) (v := ?val8x14) rfl (by kernel_rfl) (by kernel_rfl) (by kernel_rfl) (fun _ _ _ h => h) (Or.inl ⟨by rfl, fun w9 hS9 => ?yields8x14⟩) (by assumption) ?later8x14
    case yields8x14 =>
      dsimp only at hS9
      go_simp
      try with_reducible rfl
    try simp only [Act.put, List.getElem_toArray, List.getElem_cons_succ, List.getElem_cons_zero, List.setIfInBounds_toArray, List.set_cons_zero, List.set_cons_succ]
    refine wpAnyH_done (by kernel_rfl) ?_ _
    obtain ⟨-, -, -, -, -, HB⟩ := hHeld
    clear HBd MK
    clear KA
    replace HW := Lib.hid (HW.out.trans (HB.out.mono HW.out.size))
    replace BR := Lib.hid (BR.out.keep (Keep.below HB.out))
    replace HJ := Lib.hid (HJ.out.keep (Keep.below HB.out))
    clear HB
    clear a0 a1 a2 a3 a4
    obtain ⟨wC, hwC⟩ : ∃ wz, wz = wz7 := ⟨_, rfl⟩
    subst hwC
    obtain ⟨a0, a1, a2, a3, a4⟩ := BR.out
    go_wp2_with fail
    refine (rBothErr_any R l A c _ (HA.out.keep (Keep.below HW.out))).mono ?_
    rintro e' w3 ⟨rfl, hb1⟩
    replace HW := Lib.hid (HW.out.trans (hb1.mono HW.out.size))
    replace BR := Lib.hid (BR.out.keep (Keep.below hb1))
    replace HJ := Lib.hid (HJ.out.keep (Keep.below hb1))
    replace HK := Lib.hid (HK.out.keep (Keep.below hb1))
    clear a0 a1 a2 a3 a4
    clear hb1
    by_cases he : bothErr R l = 0
    · have HE := Lib.hid he
      have HRE := Lib.hid (both_ok he).2
      have HR := Lib.hid (recs_right (both_ok he).2)
      have HF := Lib.hid HR.out.fit
      clear he
      unfold groupsOut at HJ HK
      rw [if_pos HE.out] at HJ HK
      unfold groupsOut
      rw [if_pos HE.out, if_pos HE.out, HE.out]
      have lj1 := HJ.out.le.1
      have lj2 := HJ.out.le.2
      obtain ⟨a0, a1, a2, a3, a4⟩ := BR.out
      go_wp2_with fail
      refine (rGroups_any l A c R.brk _ (HA.out.keep (Keep.below HW.out)) HF.out).mono ?_
      rintro e' w4 ⟨⟨v4, rfl, h4⟩, hb1⟩
      replace HW := Lib.hid (HW.out.trans (hb1.mono HW.out.size))
      replace BR := Lib.hid (BR.out.keep (Keep.below hb1))
      replace HJ := Lib.hid (HJ.out.keep (Keep.below hb1))
      replace HK := Lib.hid (HK.out.keep (Keep.below hb1))
      obtain ⟨A9, c9, rfl, h5⟩ := own_pairs h4
      have H9 := Lib.hid h5
      clear h4 h5
      clear a0 a1 a2 a3 a4
      clear hb1
      obtain ⟨a0, a1, a2, a3, a4⟩ := BR.out
      go_wp2_with fail
      refine (lawPairs_any (groups l R.brk) (groups l R.brk) A7 A9 c7 c9 _ HJ.out H9.out).mono ?_
      rintro e' w5 ⟨rfl, hb1⟩
      replace HW := Lib.hid (HW.out.trans (hb1.mono HW.out.size))
      replace BR := Lib.hid (BR.out.keep (Keep.below hb1))
      replace HJ := Lib.hid (HJ.out.keep (Keep.below hb1))
      replace HK := Lib.hid (HK.out.keep (Keep.below hb1))
      rw [sameJ_yes rfl]
      clear H9
      clear a0 a1 a2 a3 a4
      clear hb1
      obtain ⟨a0, a1, a2, a3, a4⟩ := BR.out
      go_wp2_with fail
      refine (rGroups_any l A c R.rest _ (HA.out.keep (Keep.below HW.out)) HF.out).mono ?_
      rintro e' w4 ⟨⟨v4, rfl, h4⟩, hb1⟩
      replace HW := Lib.hid (HW.out.trans (hb1.mono HW.out.size))
      replace BR := Lib.hid (BR.out.keep (Keep.below hb1))
      replace HJ := Lib.hid (HJ.out.keep (Keep.below hb1))
      replace HK := Lib.hid (HK.out.keep (Keep.below hb1))
      obtain ⟨A9, c9, rfl, h5⟩ := own_pairs h4
      have H9 := Lib.hid h5
      clear h4 h5
      clear a0 a1 a2 a3 a4
      clear hb1
      obtain ⟨a0, a1, a2, a3, a4⟩ := BR.out
      go_wp2_with fail
      refine (lawPairs_any (groups l R.rest) (groups l R.rest) A8 A9 c8 c9 _ HK.out H9.out).mono ?_
      rintro e' w5 ⟨rfl, hb1⟩
      replace HW := Lib.hid (HW.out.trans (hb1.mono HW.out.size))
      replace BR := Lib.hid (BR.out.keep (Keep.below hb1))
      replace HJ := Lib.hid (HJ.out.keep (Keep.below hb1))
      replace HK := Lib.hid (HK.out.keep (Keep.below hb1))
      rw [sameJ_yes rfl]
      clear H9
      clear a0 a1 a2 a3 a4
      clear hb1
      clear HK
      obtain ⟨a0, a1, a2, a3, a4⟩ := BR.out
      go_wp2_with fail
      refine (rCopyRecords_any l A c _ (HA.out.keep (Keep.below HW.out)) (by omega)).mono ?_
      rintro e' w6 ⟨v6, rfl, h6, hb1⟩
      replace HW := Lib.hid (HW.out.trans (hb1.mono HW.out.size))
      replace BR := Lib.hid (BR.out.keep (Keep.below hb1))
      replace HJ := Lib.hid (HJ.out.keep (Keep.below hb1))
      obtain ⟨A5, c5, rfl, h7⟩ := own_recs h6
      have H5 := Lib.hid h7
      clear h6 h7
      clear a0 a1 a2 a3 a4
      clear hb1
      obtain ⟨a0, a1, a2, a3, a4⟩ := BR.out
      go_wp2_with fail
      refine (xWork_any l A5 c5 0 8640000000 _ H5.out).mono ?_
      rintro e' w7 ⟨rfl, hb1⟩
      replace HW := Lib.hid (HW.out.trans (hb1.mono HW.out.size))
      replace BR := Lib.hid (BR.out.keep (Keep.below hb1))
      replace HJ := Lib.hid (HJ.out.keep (Keep.below hb1))
      rw [(work_good HRE.out (show isClock 0 = true from rfl) (show isClock 8640000000 = true from rfl) (by decide)).1, (work_good HRE.out (show isClock 0 = true from rfl) (show isClock 8640000000 = true from rfl) (by decide)).2, work_all HR.out l.length (Nat.le_refl _)]
      clear H5
      clear a0 a1 a2 a3 a4
      clear hb1
      obtain ⟨G, hG⟩ : ∃ G, G = groups l R.brk := ⟨_, rfl⟩
      have HC := Lib.hid (show Cover G l.length by rw [hG]; exact groups_cover l R.brk l.length)
      rw [← hG] at HJ lj1 ⊢
      clear hG
      go_wp2_with fail
      go_loopw [12, 13] (fun s i wr => ∃ n p : Nat, n ≤ G.length ∧ p ≤ l.length ∧ s = .int .i64 (lengthsTo l 0 p) ∧ i = .int .i64 n ∧ Hid (startJ G l.length n = p) ∧ Hid (Below w7.heap.size w7 wr)) (fun _ i _ => G.length - (intOf i).toNat)
      case atStart => exact ⟨0, 0, Nat.zero_le _, Nat.zero_le _, rfl, rfl, Lib.hid HC.out.first, Lib.hid (Below.refl _ _)⟩
      case round =>
        obtain ⟨n, p, hn, hp, rfl, rfl, HS, HX⟩ := hrel
        by_cases hlt : n < G.length
        · have hng : (n : Int) < (G.length : Int) := by omega
          have HO := HC.out.one n hlt
          have hst := HS.out
          rw [startJ, if_pos hlt] at hst
          obtain ⟨e, he⟩ : ∃ e : Nat, (listJ G n).2 = e := ⟨_, (Int.toNat_of_nonneg (by omega)).symm⟩
          have HE2 := Lib.hid he
          have HST := Lib.hid hst
          have hpe : p ≤ e := by omega
          have hel : e < l.length := by omega
          have HNX := Lib.hid (show startJ G l.length (n + 1) = ((e + 1 : Nat) : Int) by rw [HO.2.2.2, he]; omega)
          clear HO he hst
          obtain ⟨b, o, rfl, q0, q1⟩ := (HJ.out.keep (Keep.below HX.out)).at_ hlt
          rw [HST.out] at q0
          rw [HE2.out] at q1
          go_wp2_with fail
          go_loopw [12, 14] (fun s i wr => ∃ q : Nat, p ≤ q ∧ q ≤ e + 1 ∧ s = .int .i64 (lengthsTo l 0 q) ∧ i = .int .i64 q ∧ Hid (Below w7.heap.size w7 wr)) (fun _ i _ => e + 1 - (intOf i).toNat)
          case atStart => exact ⟨p, Nat.le_refl _, by omega, rfl, rfl, HX⟩
          case round =>
            obtain ⟨q, hpq, hq, rfl, rfl, HY⟩ := hrel
            clear q0 q1
            obtain ⟨b', o', he', q0, q1⟩ := (HJ.out.keep (Keep.below HY.out)).at_ hlt
            obtain ⟨rfl, rfl⟩ : b = b' ∧ o = o' := by simpa using he'
            rw [HE2.out] at q1
            clear he' q0
            by_cases hqe : q ≤ e
            · have hql : q < l.length := by omega
              have hkn : (q : Int) < (l.length : Int) := by omega
              have d1 : decide ((q : Int) ≤ (e : Int)) = true := decide_eq_true (by omega)
              obtain ⟨bb, oo, rfl, r⟩ := (HA.out.keep (Keep.below (HW.out.trans (HY.out.mono HW.out.size)))).at_ (k := q) hql
              obtain ⟨r0, r1, r2⟩ := r
              have x1 := HF.out.one q hql
              have x2 := lengthsTo_is HF.out 0 q (by omega)
              have F := Lib.hid (lengthsTo_next (l := l) (f := 0) (k := q) (Nat.zero_le q))
              go_wp2_with fail
              go_quiet (fail)
              go_wp2_with fail
              rw [← F.out]
              go_roundw
              case rel => exact ⟨q + 1, by omega, by omega, rfl, by go_num, Lib.hid (bdrewN HY.out _)⟩
              case measure => simp [intOf]; omega
            · have d1 : decide ((q : Int) ≤ (e : Int)) = false := decide_eq_false (by omega)
              obtain rfl : q = e + 1 := by omega
              go_wp2_with fail
              go_roundw
              case rel => exact ⟨n + 1, e + 1, by omega, by omega, rfl, by go_num, HNX, HY⟩
              case measure => simp [intOf]; omega
        · obtain rfl : n = G.length := by omega
          obtain rfl : p = l.length := by have := HS.out; rw [start_end] at this; omega
          go_wp2_with fail
          go_ret
          exact ⟨rfl, HW.out.trans (HX.out.mono HW.out.size)⟩
    · have e1 : (bothErr R l == 0) = false := by simpa using he
      have e2 : (bothErr R l != 0) = true := by simpa using he
      unfold groupsOut
      rw [if_neg he, if_neg he]
      clear he HJ HK
      go_wp2_with fail
      go_ret
      exact ⟨rfl, HW.out⟩
end Go.Proofs.Ytolicafhbeiciaa

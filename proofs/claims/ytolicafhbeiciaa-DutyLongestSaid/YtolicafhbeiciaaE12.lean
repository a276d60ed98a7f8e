/- The law of the greatest length: as specified; with it a trip is surely allowed, with a second more it is not. No condition. -/
import Derived.Test.YtolicafhbeiciaaV1
namespace Go.Proofs.Ytolicafhbeiciaa
open Go.RowKit Fs

set_option linter.unusedSimpArgs false in
set_option maxHeartbeats 12800000 in
set_option maxRecDepth 100000 in
theorem lawLongest_any (R : DRules) (l : List WRec) (s : Int) (A : Option Addr) (c : Nat) (w : World) (h : ArrW w A l c) :
    Calls Try.prog 8 #[drulesV R, .slice A l.length c, .int .i64 s] w fun e w' => e = .returned (.bool true) ∧ Below w.heap.size w w' := by
  have b1 := h.le.1
  have b2 := h.le.2
  have HA := Lib.hid h
  clear h
  have BR := Lib.hid (RulesIn.new w R 23)
  go_enter Try.func8, Try.ntmps8
  go_upto_region 1 with fail
  generalize hwb : w.alloc _ = wb at *
  have HW : Hid (Below w.heap.size w wb) := by rw [← hwb]; exact Lib.hid ((Below.refl _ _).alloc (Nat.le_refl _) _)
  clear hwb
  obtain ⟨a0, a1, a2, a3, a4⟩ := BR.out
  go_wp2_with fail
  refine (lawAwake_any _).mono ?_
  rintro e' w1 ⟨rfl, hb1⟩
  replace HW := Lib.hid (HW.out.trans (hb1.mono HW.out.size))
  replace BR := Lib.hid (BR.out.keep (Keep.below hb1))
  clear a0 a1 a2 a3 a4
  clear hb1
  go_wp2_with fail
  refine (lawFew_any l A c _ (HA.out.keep (Keep.below HW.out))).mono ?_
  rintro e' wA ⟨rfl, rfl⟩
  cases hf : fewR l with
  | false =>
    go_wp2_with fail
    go_ret
    exact ⟨rfl, HW.out⟩
  | true =>
    have hl := (fewR_is hf).1
    have hl : l.length ≤ 42 := by omega
    clear hf
    obtain ⟨wA, hwA⟩ : ∃ wz, wz = w1 := ⟨_, rfl⟩
    subst hwA
    obtain ⟨a0, a1, a2, a3, a4⟩ := BR.out
    go_wp2_with fail
    have HBd : Hid (Below wA.heap.size wA wA.drew) := Lib.hid (Below.refl _ _).drew
    have MK : Hid (∀ w', Below wA.heap.size wA w' → w'.cell? ⟨w.heap.size, 0, none⟩ = some (.int .i64 R.brk) ∧ w'.cell? ⟨w.heap.size, 1, none⟩ = some (.int .i64 R.rest) ∧ w'.cell? ⟨w.heap.size, 2, none⟩ = some (.int .i64 R.stint) ∧ w'.cell? ⟨w.heap.size, 3, none⟩ = some (.int .i64 R.shift) ∧ w'.cell? ⟨w.heap.size, 4, none⟩ = some (.int .i64 R.week) ∧ Hid (Below wA.heap.size wA w')) :=
      Lib.hid fun w' hw => ⟨Keep.below hw _ _ a0, Keep.below hw _ _ a1, Keep.below hw _ _ a2, Keep.below hw _ _ a3, Keep.below hw _ _ a4, Lib.hid hw⟩
    have KA : Hid (∀ w', Below wA.heap.size wA w' → ArrW w' A l c) := Lib.hid fun w' hw => (HA.out.keep (Keep.below (HW.out.trans (hw.mono HW.out.size))))
    refine wp_region_held_drew (S := fun w' => w'.cell? ⟨w.heap.size, 0, none⟩ = some (.int .i64 R.brk) ∧ w'.cell? ⟨w.heap.size, 1, none⟩ = some (.int .i64 R.rest) ∧ w'.cell? ⟨w.heap.size, 2, none⟩ = some (.int .i64 R.stint) ∧ w'.cell? ⟨w.heap.size, 3, none⟩ = some (.int .i64 R.shift) ∧ w'.cell? ⟨w.heap.size, 4, none⟩ = some (.int .i64 R.week) ∧ Hid (Below wA.heap.size wA w')) (by kernel_rfl) (MK.out _ HBd.out) (fun hHeld => ?_)
    refine wpAnyH_take (i := 0) (v := ?val0x1) rfl (by kernel_rfl) (by kernel_rfl) (by kernel_rfl) (fun _ _ _ h => h) (Or.inl ⟨by rfl, fun w9 hS9 => ?yields0x1⟩) (by assumption) ?later0x1
    case yields0x1 =>
      dsimp only at hS9
      go_simp
      try with_reducible rfl
    try simp only [Act.put, List.getElem_toArray, List.getElem_cons_succ, List.getElem_cons_zero, List.setIfInBounds_toArray, List.set_cons_zero, List.set_cons_succ]
    refine wpAnyH_take (i := 1) (v := ?val1x2) rfl (by kernel_rfl) (by kernel_rfl) (by kernel_rfl) (fun _ _ _ h => h) (Or.inl ⟨by rfl, fun w9 hS9 => ?yields1x2⟩) (by assumption) ?later1x2
    case yields1x2 =>
      dsimp only at hS9
      go_simp
      try with_reducible rfl
    try simp only [Act.put, List.getElem_toArray, List.getElem_cons_succ, List.getElem_cons_zero, List.setIfInBounds_toArray, List.set_cons_zero, List.set_cons_succ]
    refine wpAnyH_take (i := 3) (v := ?val3x3) rfl (by kernel_rfl) (by kernel_rfl) (by kernel_rfl) (fun _ _ _ h => h) (Or.inl ⟨by rfl, fun w9 hS9 => ?yields3x3⟩) (by assumption) ?later3x3
    case yields3x3 =>
      dsimp only at hS9
      go_simp
      try with_reducible rfl
    try simp only [Act.put, List.getElem_toArray, List.getElem_cons_succ, List.getElem_cons_zero, List.setIfInBounds_toArray, List.set_cons_zero, List.set_cons_succ]
    refine wpAnyH_ready (rs := [2]) (by kernel_rfl) (by simp) ?_
    refine AllReadyH.cons rfl (fun K hK => ?_) AllReadyH.nil
    go_simp
    go_at_call 20
    go_split_ands
    refine (rCopyRecords_any l A c _ (KA.out _ (Hid.out (by assumption))) (by omega)).mono ?_
    rintro e' wz5 ⟨v5, rfl, h5, hb1⟩
    obtain ⟨A5, c5, rfl, h6⟩ := own_recs h5
    have H5 := Lib.hid h6
    clear h5 h6
    go_wp2_with fail
    refine hK.out _ _ ?_ (fun hHeld => ?_)
    · (try dsimp only)
      (go_split_ands; exact MK.out _ (Below.trans (Hid.out (by assumption)) (hb1.mono (Hid.out (by assumption) : Below wA.heap.size wA _).size)))
    clear hK K
    try simp only [Act.put, List.getElem_toArray, List.getElem_cons_succ, List.getElem_cons_zero, List.setIfInBounds_toArray, List.set_cons_zero, List.set_cons_succ]
    refine wpAnyH_ready (rs := [4]) (by kernel_rfl) (by simp) ?_
    refine AllReadyH.cons rfl (fun K hK => ?_) AllReadyH.nil
    go_simp
    go_at_call 35
    go_split_ands
    refine (xLongest_any R l A5 c5 s _ H5.out).mono ?_
    rintro e' wz7 ⟨⟨n, rfl, hn⟩, hb1⟩
    have HN := Lib.hid hn
    clear H5 hn
    go_wp2_with fail
    refine hK.out _ _ ?_ (fun hHeld => ?_)
    · (try dsimp only)
      (go_split_ands; exact MK.out _ (Below.trans (Hid.out (by assumption)) (hb1.mono (Hid.out (by assumption) : Below wA.heap.size wA _).size)))
    clear hK K
    try simp only [Act.put, List.getElem_toArray, List.getElem_cons_succ, List.getElem_cons_zero, List.setIfInBounds_toArray, List.set_cons_zero, List.set_cons_succ]
    refine wpAnyH_take (i := 5) (v := ?val5x4) rfl (by kernel_rfl) (by kernel_rfl) (by kernel_rfl) (fun _ _ _ h => h) (Or.inl ⟨by rfl, fun w9 hS9 => ?yields5x4⟩) (by assumption) ?later5x4
    case yields5x4 =>
      dsimp only at hS9
      go_simp
      try with_reducible rfl
    try simp only [Act.put, List.getElem_toArray, List.getElem_cons_succ, List.getElem_cons_zero, List.setIfInBounds_toArray, List.set_cons_zero, List.set_cons_succ]
    refine wpAnyH_take (i := 6) (v := ?val6x5) rfl (by kernel_rfl) (by kernel_rfl) (by kernel_rfl) (fun _ _ _ h => h) (Or.inl ⟨by rfl, fun w9 hS9 => ?yields6x5⟩) (by assumption) ?later6x5
    case yields6x5 =>
      dsimp only at hS9
      go_simp
      try with_reducible rfl
    try simp only [Act.put, List.getElem_toArray, List.getElem_cons_succ, List.getElem_cons_zero, List.setIfInBounds_toArray, List.set_cons_zero, List.set_cons_succ]
    refine wpAnyH_take (i := 7) (v := ?val7x6) rfl (by kernel_rfl) (by kernel_rfl) (by kernel_rfl) (fun _ _ _ h => h) (Or.inl ⟨by rfl, fun w9 hS9 => ?yields7x6⟩) (by assumption) ?later7x6
    case yields7x6 =>
      dsimp only at hS9
      go_simp
      try with_reducible rfl
    try simp only [Act.put, List.getElem_toArray, List.getElem_cons_succ, List.getElem_cons_zero, List.setIfInBounds_toArray, List.set_cons_zero, List.set_cons_succ]
    refine wpAnyH_take (i := 8) (v := ?val8x7) rfl (by kernel_rfl) (by kernel_rfl) (by kernel_rfl) (fun _ _ _ h => h) (Or.inl ⟨by rfl, fun w9 hS9 => ?yields8x7⟩) (by assumption) ?later8x7
    case yields8x7 =>
      dsimp only at hS9
      go_simp
      try with_reducible rfl
    try simp only [Act.put, List.getElem_toArray, List.getElem_cons_succ, List.getElem_cons_zero, List.setIfInBounds_toArray, List.set_cons_zero, List.set_cons_succ]
    refine wpAnyH_take (i := 9) (v := ?val9x8) rfl (by kernel_rfl) (by kernel_rfl) (by kernel_rfl) (fun _ _ _ h => h) (Or.inl ⟨by rfl, fun w9 hS9 => ?yields9x8⟩) (by assumption) ?later9x8
    case yields9x8 =>
      dsimp only at hS9
      go_simp
      try with_reducible rfl
    try simp only [Act.put, List.getElem_toArray, List.getElem_cons_succ, List.getElem_cons_zero, List.setIfInBounds_toArray, List.set_cons_zero, List.set_cons_succ]
    refine wpAnyH_done (by kernel_rfl) ?_ _
    obtain ⟨-, -, -, -, -, HB⟩ := hHeld
    clear HBd MK
    clear KA
    replace HW := Lib.hid (HW.out.trans (HB.out.mono HW.out.size))
    replace BR := Lib.hid (BR.out.keep (Keep.below HB.out))
    clear HB
    clear a0 a1 a2 a3 a4
    obtain ⟨wB, hwB⟩ : ∃ wz, wz = wz7 := ⟨_, rfl⟩
    subst hwB
    obtain ⟨a0, a1, a2, a3, a4⟩ := BR.out
    go_wp2_with fail
    refine (lawTripErr_any R l (bare s) A c _ (HA.out.keep (Keep.below HW.out))).mono ?_
    rintro e' w3 ⟨rfl, hb1⟩
    replace HW := Lib.hid (HW.out.trans (hb1.mono HW.out.size))
    replace BR := Lib.hid (BR.out.keep (Keep.below hb1))
    clear a0 a1 a2 a3 a4
    clear hb1
    by_cases he : lawTripErr R l (bare s) = 0
    · have HE := Lib.hid he
      have HR := Lib.hid (recs_right (both_ok (lawTrip_ok he).1).2)
      have HT := Lib.hid (dtrip_ok (lawTrip_ok he).2).1
      have HL := Lib.hid (HN.out.good he)
      obtain ⟨n0, n1, -, -⟩ := HL.out
      rw [he]
      clear he HN
      obtain ⟨a0, a1, a2, a3, a4⟩ := BR.out
      go_wp2_with fail
      refine (rLongest_any R l s A c _ (HA.out.keep (Keep.below HW.out)) HR.out HT.out).mono ?_
      rintro e' w4 ⟨⟨m, rfl, hm⟩, hb1⟩
      replace HW := Lib.hid (HW.out.trans (hb1.mono HW.out.size))
      replace BR := Lib.hid (BR.out.keep (Keep.below hb1))
      obtain rfl := HL.out.same hm
      clear hm
      clear a0 a1 a2 a3 a4
      clear hb1
      obtain ⟨a0, a1, a2, a3, a4⟩ := BR.out
      obtain ⟨wC, hwC⟩ : ∃ wz, wz = w4 := ⟨_, rfl⟩
      subst hwC
      go_wp2_with fail
      have HBd : Hid (Below wC.heap.size wC wC.drew) := Lib.hid (Below.refl _ _).drew
      have MK : Hid (∀ w', Below wC.heap.size wC w' → w'.cell? ⟨w.heap.size, 0, none⟩ = some (.int .i64 R.brk) ∧ w'.cell? ⟨w.heap.size, 1, none⟩ = some (.int .i64 R.rest) ∧ w'.cell? ⟨w.heap.size, 2, none⟩ = some (.int .i64 R.stint) ∧ w'.cell? ⟨w.heap.size, 3, none⟩ = some (.int .i64 R.shift) ∧ w'.cell? ⟨w.heap.size, 4, none⟩ = some (.int .i64 R.week) ∧ Hid (Below wC.heap.size wC w')) :=
        Lib.hid fun w' hw => ⟨Keep.below hw _ _ a0, Keep.below hw _ _ a1, Keep.below hw _ _ a2, Keep.below hw _ _ a3, Keep.below hw _ _ a4, Lib.hid hw⟩
      have KA : Hid (∀ w', Below wC.heap.size wC w' → ArrW w' A l c) := Lib.hid fun w' hw => (HA.out.keep (Keep.below (HW.out.trans (hw.mono HW.out.size))))
      refine wp_region_held_drew (S := fun w' => w'.cell? ⟨w.heap.size, 0, none⟩ = some (.int .i64 R.brk) ∧ w'.cell? ⟨w.heap.size, 1, none⟩ = some (.int .i64 R.rest) ∧ w'.cell? ⟨w.heap.size, 2, none⟩ = some (.int .i64 R.stint) ∧ w'.cell? ⟨w.heap.size, 3, none⟩ = some (.int .i64 R.shift) ∧ w'.cell? ⟨w.heap.size, 4, none⟩ = some (.int .i64 R.week) ∧ Hid (Below wC.heap.size wC w')) (by kernel_rfl) (MK.out _ HBd.out) (fun hHeld => ?_)
      refine wpAnyH_take (i := 0) (v := ?val0x9) rfl (by kernel_rfl) (by kernel_rfl) (by kernel_rfl) (fun _ _ _ h => h) (Or.inl ⟨by rfl, fun w9 hS9 => ?yields0x9⟩) (by assumption) ?later0x9
      case yields0x9 =>
        dsimp only at hS9
        go_simp
        try with_reducible rfl
      try simp only [Act.put, List.getElem_toArray, List.getElem_cons_succ, List.getElem_cons_zero, List.setIfInBounds_toArray, List.set_cons_zero, List.set_cons_succ]
      refine wpAnyH_take (i := 1) (v := ?val1x10) rfl (by kernel_rfl) (by kernel_rfl) (by kernel_rfl) (fun _ _ _ h => h) (Or.inl ⟨by rfl, fun w9 hS9 => ?yields1x10⟩) (by assumption) ?later1x10
      case yields1x10 =>
        dsimp only at hS9
        go_simp
        try with_reducible rfl
      try simp only [Act.put, List.getElem_toArray, List.getElem_cons_succ, List.getElem_cons_zero, List.setIfInBounds_toArray, List.set_cons_zero, List.set_cons_succ]
      refine wpAnyH_take (i := 3) (v := ?val3x11) rfl (by kernel_rfl) (by kernel_rfl) (by kernel_rfl) (fun _ _ _ h => h) (Or.inl ⟨by rfl, fun w9 hS9 => ?yields3x11⟩) (by assumption) ?later3x11
      case yields3x11 =>
        dsimp only at hS9
        go_simp
        try with_reducible rfl
      try simp only [Act.put, List.getElem_toArray, List.getElem_cons_succ, List.getElem_cons_zero, List.setIfInBounds_toArray, List.set_cons_zero, List.set_cons_succ]
      refine wpAnyH_take (i := 4) (v := ?val4x12) rfl (by kernel_rfl) (by kernel_rfl) (by kernel_rfl) (fun _ _ _ h => h) (Or.inl ⟨by rfl, fun w9 hS9 => ?yields4x12⟩) (by assumption) ?later4x12
      case yields4x12 =>
        dsimp only at hS9
        go_simp
        try with_reducible rfl
      try simp only [Act.put, List.getElem_toArray, List.getElem_cons_succ, List.getElem_cons_zero, List.setIfInBounds_toArray, List.set_cons_zero, List.set_cons_succ]
      refine wpAnyH_take (i := 5) (v := ?val5x13) rfl (by kernel_rfl) (by kernel_rfl) (by kernel_rfl) (fun _ _ _ h => h) (Or.inl ⟨by rfl, fun w9 hS9 => ?yields5x13⟩) (by assumption) ?later5x13
      case yields5x13 =>
        dsimp only at hS9
        go_simp
        try with_reducible rfl
      try simp only [Act.put, List.getElem_toArray, List.getElem_cons_succ, List.getElem_cons_zero, List.setIfInBounds_toArray, List.set_cons_zero, List.set_cons_succ]
      refine wpAnyH_take (i := 6) (v := ?val6x14) rfl (by kernel_rfl) (by kernel_rfl) (by kernel_rfl) (fun _ _ _ h => h) (Or.inl ⟨by rfl, fun w9 hS9 => ?yields6x14⟩) (by assumption) ?later6x14
      case yields6x14 =>
        dsimp only at hS9
        go_simp
        try with_reducible rfl
      try simp only [Act.put, List.getElem_toArray, List.getElem_cons_succ, List.getElem_cons_zero, List.setIfInBounds_toArray, List.set_cons_zero, List.set_cons_succ]
      refine wpAnyH_take (i := 7) (v := ?val7x15) rfl (by kernel_rfl) (by kernel_rfl) (by kernel_rfl) (fun _ _ _ h => h) (Or.inl ⟨by rfl, fun w9 hS9 => ?yields7x15⟩) (by assumption) ?later7x15
      case yields7x15 =>
        dsimp only at hS9
        go_simp
        try with_reducible rfl
      try simp only [Act.put, List.getElem_toArray, List.getElem_cons_succ, List.getElem_cons_zero, List.setIfInBounds_toArray, List.set_cons_zero, List.set_cons_succ]
      refine wpAnyH_ready (rs := [2]) (by kernel_rfl) (by simp) ?_
      refine AllReadyH.cons rfl (fun K hK => ?_) AllReadyH.nil
      go_simp
      go_at_call 20
      go_split_ands
      refine (rCopyRecords_any l A c _ (KA.out _ (Hid.out (by assumption))) (by omega)).mono ?_
      rintro e' wz5 ⟨v5, rfl, h5, hb1⟩
      obtain ⟨A5, c5, rfl, h6⟩ := own_recs h5
      have H5 := Lib.hid h6
      clear h5 h6
      go_wp2_with fail
      refine hK.out _ _ ?_ (fun hHeld => ?_)
      · (try dsimp only)
        (go_split_ands; exact MK.out _ (Below.trans (Hid.out (by assumption)) (hb1.mono (Hid.out (by assumption) : Below wC.heap.size wC _).size)))
      clear hK K
      try simp only [Act.put, List.getElem_toArray, List.getElem_cons_succ, List.getElem_cons_zero, List.setIfInBounds_toArray, List.set_cons_zero, List.set_cons_succ]
      refine wpAnyH_ready (rs := [8]) (by kernel_rfl) (by simp) ?_
      refine AllReadyH.cons rfl (fun K hK => ?_) AllReadyH.nil
      go_simp
      go_at_call 31
      go_split_ands
      refine (xAllowed_any R l A5 c5 (just s n) _ H5.out).mono ?_
      rintro e' wz7 ⟨rfl, hb1⟩
      clear H5
      go_wp2_with fail
      refine hK.out _ _ ?_ (fun hHeld => ?_)
      · (try dsimp only)
        (go_split_ands; exact MK.out _ (Below.trans (Hid.out (by assumption)) (hb1.mono (Hid.out (by assumption) : Below wC.heap.size wC _).size)))
      clear hK K
      try simp only [Act.put, List.getElem_toArray, List.getElem_cons_succ, List.getElem_cons_zero, List.setIfInBounds_toArray, List.set_cons_zero, List.set_cons_succ]
      refine wpAnyH_take (i := 9) (v := ?val9x16) rfl (by kernel_rfl) (by kernel_rfl) (by kernel_rfl) (fun _ _ _ h => h) (Or.inl ⟨by rfl, fun w9 hS9 => ?yields9x16⟩) (by assumption) ?later9x16
      case yields9x16 =>
        dsimp only at hS9
        go_simp
        try with_reducible rfl
      try simp only [Act.put, List.getElem_toArray, List.getElem_cons_succ, List.getElem_cons_zero, List.setIfInBounds_toArray, List.set_cons_zero, List.set_cons_succ]
      refine wpAnyH_take (i := 10) (v := ?val10x17) rfl (by kernel_rfl) (by kernel_rfl) (by kernel_rfl) (fun _ _ _ h => h) (Or.inl ⟨by rfl, fun w9 hS9 => ?yields10x17⟩) (by assumption) ?later10x17
      case yields10x17 =>
        dsimp only at hS9
        go_simp
        try with_reducible rfl
      try simp only [Act.put, List.getElem_toArray, List.getElem_cons_succ, List.getElem_cons_zero, List.setIfInBounds_toArray, List.set_cons_zero, List.set_cons_succ]
      refine wpAnyH_take (i := 11) (v := ?val11x18) rfl (by kernel_rfl) (by kernel_rfl) (by kernel_rfl) (fun _ _ _ h => h) (Or.inl ⟨by rfl, fun w9 hS9 => ?yields11x18⟩) (by assumption) ?later11x18
      case yields11x18 =>
        dsimp only at hS9
        go_simp
        try with_reducible rfl
      try simp only [Act.put, List.getElem_toArray, List.getElem_cons_succ, List.getElem_cons_zero, List.setIfInBounds_toArray, List.set_cons_zero, List.set_cons_succ]
      refine wpAnyH_take (i := 12) (v := ?val12x19) rfl (by kernel_rfl) (by kernel_rfl) (by kernel_rfl) (fun _ _ _ h => h) (Or.inl ⟨by rfl, fun w9 hS9 => ?yields12x19⟩) (by assumption) ?later12x19
      case yields12x19 =>
        dsimp only at hS9
        go_simp
        try with_reducible rfl
      try simp only [Act.put, List.getElem_toArray, List.getElem_cons_succ, List.getElem_cons_zero, List.setIfInBounds_toArray, List.set_cons_zero, List.set_cons_succ]
      refine wpAnyH_take (i := 13) (v := ?val13x20) rfl (by kernel_rfl) (by kernel_rfl) (by kernel_rfl) (fun _ _ _ h => h) (Or.inl ⟨by rfl, fun w9 hS9 => ?yields13x20⟩) (by assumption) ?later13x20
      case yields13x20 =>
        dsimp only at hS9
        go_simp
        try with_reducible rfl
      try simp only [Act.put, List.getElem_toArray, List.getElem_cons_succ, List.getElem_cons_zero, List.setIfInBounds_toArray, List.set_cons_zero, List.set_cons_succ]
      refine wpAnyH_take (i := 14) (v := ?val14x21) rfl (by kernel_rfl) (by kernel_rfl) (by kernel_rfl) (fun _ _ _ h => h) (Or.inl ⟨by rfl, fun w9 hS9 => ?yields14x21⟩) (by assumption) ?later14x21
      case yields14x21 =>
        dsimp only at hS9
        go_simp
        try with_reducible rfl
      try simp only [Act.put, List.getElem_toArray, List.getElem_cons_succ, List.getElem_cons_zero, List.setIfInBounds_toArray, List.set_cons_zero, List.set_cons_succ]
      refine wpAnyH_take (i := 15) (v := ?val15x22) rfl (by kernel_rfl) (by kernel_rfl) (by kernel_rfl) (fun _ _ _ h => h) (Or.inl ⟨by rfl, fun w9 hS9 => ?yields15x22⟩) (by assumption) ?later15x22
      case yields15x22 =>
        dsimp only at hS9
        go_simp
        try with_reducible rfl
      try simp only [Act.put, List.getElem_toArray, List.getElem_cons_succ, List.getElem_cons_zero, List.setIfInBounds_toArray, List.set_cons_zero, List.set_cons_succ]
      refine wpAnyH_done (by kernel_rfl) ?_ _
      obtain ⟨-, -, -, -, -, HB⟩ := hHeld
      clear HBd MK
      clear KA
      replace HW := Lib.hid (HW.out.trans (HB.out.mono HW.out.size))
      replace BR := Lib.hid (BR.out.keep (Keep.below HB.out))
      clear HB
      clear a0 a1 a2 a3 a4
      obtain ⟨wD, hwD⟩ : ∃ wz, wz = wz7 := ⟨_, rfl⟩
      subst hwD
      rw [just_ok HE.out n0 n1, just_yes HE.out HL.out]
      by_cases hx : n = 200000
      · have d3 : (n == 200000) = true := by simpa using hx
        clear hx
        go_wp2_with fail
        go_ret
        exact ⟨rfl, HW.out⟩
      · have d3 : (n == 200000) = false := by simpa using hx
        have HX := Lib.hid hx
        have hw1 : IntKind.i64.wrap (n + 1) = n + 1 := by rw [IntKind.wrap_i64]; omega
        clear hx
        obtain ⟨a0, a1, a2, a3, a4⟩ := BR.out
        go_wp2_with fail
        have HBd : Hid (Below wD.heap.size wD wD.drew) := Lib.hid (Below.refl _ _).drew
        have MK : Hid (∀ w', Below wD.heap.size wD w' → w'.cell? ⟨w.heap.size, 0, none⟩ = some (.int .i64 R.brk) ∧ w'.cell? ⟨w.heap.size, 1, none⟩ = some (.int .i64 R.rest) ∧ w'.cell? ⟨w.heap.size, 2, none⟩ = some (.int .i64 R.stint) ∧ w'.cell? ⟨w.heap.size, 3, none⟩ = some (.int .i64 R.shift) ∧ w'.cell? ⟨w.heap.size, 4, none⟩ = some (.int .i64 R.week) ∧ Hid (Below wD.heap.size wD w')) :=
          Lib.hid fun w' hw => ⟨Keep.below hw _ _ a0, Keep.below hw _ _ a1, Keep.below hw _ _ a2, Keep.below hw _ _ a3, Keep.below hw _ _ a4, Lib.hid hw⟩
        have KA : Hid (∀ w', Below wD.heap.size wD w' → ArrW w' A l c) := Lib.hid fun w' hw => (HA.out.keep (Keep.below (HW.out.trans (hw.mono HW.out.size))))
        refine wp_region_held_drew (S := fun w' => w'.cell? ⟨w.heap.size, 0, none⟩ = some (.int .i64 R.brk) ∧ w'.cell? ⟨w.heap.size, 1, none⟩ = some (.int .i64 R.rest) ∧ w'.cell? ⟨w.heap.size, 2, none⟩ = some (.int .i64 R.stint) ∧ w'.cell? ⟨w.heap.size, 3, none⟩ = some (.int .i64 R.shift) ∧ w'.cell? ⟨w.heap.size, 4, none⟩ = some (.int .i64 R.week) ∧ Hid (Below wD.heap.size wD w')) (by kernel_rfl) (MK.out _ HBd.out) (fun hHeld => ?_)
        refine wpAnyH_take (i := 0) (v := ?val0x23) rfl (by kernel_rfl) (by kernel_rfl) (by kernel_rfl) (fun _ _ _ h => h) (Or.inl ⟨by rfl, fun w9 hS9 => ?yields0x23⟩) (by assumption) ?later0x23
        case yields0x23 =>
          dsimp only at hS9
          go_simp
          try with_reducible rfl
        try simp only [Act.put, List.getElem_toArray, List.getElem_cons_succ, List.getElem_cons_zero, List.setIfInBounds_toArray, List.set_cons_zero, List.set_cons_succ]
        refine wpAnyH_take (i := 1) (v := ?val1x24) rfl (by kernel_rfl) (by kernel_rfl) (by kernel_rfl) (fun _ _ _ h => h) (Or.inl ⟨by rfl, fun w9 hS9 => ?yields1x24⟩) (by assumption) ?later1x24
        case yields1x24 =>
          dsimp only at hS9
          go_simp
          try with_reducible rfl
        try simp only [Act.put, List.getElem_toArray, List.getElem_cons_succ, List.getElem_cons_zero, List.setIfInBounds_toArray, List.set_cons_zero, List.set_cons_succ]
        refine wpAnyH_take (i := 3) (v := ?val3x25) rfl (by kernel_rfl) (by kernel_rfl) (by kernel_rfl) (fun _ _ _ h => h) (Or.inl ⟨by rfl, fun w9 hS9 => ?yields3x25⟩) (by assumption) ?later3x25
        case yields3x25 =>
          dsimp only at hS9
          go_simp
          try with_reducible rfl
        try simp only [Act.put, List.getElem_toArray, List.getElem_cons_succ, List.getElem_cons_zero, List.setIfInBounds_toArray, List.set_cons_zero, List.set_cons_succ]
        refine wpAnyH_take (i := 4) (v := ?val4x26) rfl (by kernel_rfl) (by kernel_rfl) (by kernel_rfl) (fun _ _ _ h => h) (Or.inl ⟨by rfl, fun w9 hS9 => ?yields4x26⟩) (by assumption) ?later4x26
        case yields4x26 =>
          dsimp only at hS9
          go_simp
          try with_reducible rfl
        try simp only [Act.put, List.getElem_toArray, List.getElem_cons_succ, List.getElem_cons_zero, List.setIfInBounds_toArray, List.set_cons_zero, List.set_cons_succ]
        refine wpAnyH_take (i := 5) (v := ?val5x27) rfl (by kernel_rfl) (by kernel_rfl) (by kernel_rfl) (fun _ _ _ h => h) (Or.inl ⟨by rfl, fun w9 hS9 => ?yields5x27⟩) (by assumption) ?later5x27
        case yields5x27 =>
          dsimp only at hS9
          go_simp
          try with_reducible rfl
        try simp only [Act.put, List.getElem_toArray, List.getElem_cons_succ, List.getElem_cons_zero, List.setIfInBounds_toArray, List.set_cons_zero, List.set_cons_succ]
        refine wpAnyH_take (i := 6) (v := ?val6x28) rfl (by kernel_rfl) (by kernel_rfl) (by kernel_rfl) (fun _ _ _ h => h) (Or.inl ⟨by rfl, fun w9 hS9 => ?yields6x28⟩) (by assumption) ?later6x28
        case yields6x28 =>
          dsimp only at hS9
          go_simp
          try with_reducible rfl
        try simp only [Act.put, List.getElem_toArray, List.getElem_cons_succ, List.getElem_cons_zero, List.setIfInBounds_toArray, List.set_cons_zero, List.set_cons_succ]
        refine wpAnyH_take (i := 7) (v := ?val7x29) rfl (by kernel_rfl) (by kernel_rfl) (by kernel_rfl) (fun _ _ _ h => h) (Or.inl ⟨by rfl, fun w9 hS9 => ?yields7x29⟩) (by assumption) ?later7x29
        case yields7x29 =>
          dsimp only at hS9
          go_simp
          try with_reducible rfl
        try simp only [Act.put, List.getElem_toArray, List.getElem_cons_succ, List.getElem_cons_zero, List.setIfInBounds_toArray, List.set_cons_zero, List.set_cons_succ]
        refine wpAnyH_take (i := 8) (v := ?val8x30) rfl (by kernel_rfl) (by kernel_rfl) (by kernel_rfl) (fun _ _ _ h => h) (Or.inl ⟨by rfl, fun w9 hS9 => ?yields8x30⟩) (by assumption) ?later8x30
        case yields8x30 =>
          dsimp only at hS9
          go_simp
          try with_reducible rfl
        try simp only [Act.put, List.getElem_toArray, List.getElem_cons_succ, List.getElem_cons_zero, List.setIfInBounds_toArray, List.set_cons_zero, List.set_cons_succ]
        refine wpAnyH_take (i := 9) (v := ?val9x31) rfl (by kernel_rfl) (by kernel_rfl) (by kernel_rfl) (fun _ _ _ h => h) (Or.inl ⟨by rfl, fun w9 hS9 => ?yields9x31⟩) (by assumption) ?later9x31
        case yields9x31 =>
          dsimp only at hS9
          go_simp
          try with_reducible rfl
        try simp only [Act.put, List.getElem_toArray, List.getElem_cons_succ, List.getElem_cons_zero, List.setIfInBounds_toArray, List.set_cons_zero, List.set_cons_succ]
        refine wpAnyH_ready (rs := [2]) (by kernel_rfl) (by simp) ?_
        refine AllReadyH.cons rfl (fun K hK => ?_) AllReadyH.nil
        go_simp
        go_at_call 20
        go_split_ands
        refine (rCopyRecords_any l A c _ (KA.out _ (Hid.out (by assumption))) (by omega)).mono ?_
        rintro e' wz5 ⟨v5, rfl, h5, hb1⟩
        obtain ⟨A5, c5, rfl, h6⟩ := own_recs h5
        have H5 := Lib.hid h6
        clear h5 h6
        go_wp2_with fail
        refine hK.out _ _ ?_ (fun hHeld => ?_)
        · (try dsimp only)
          (go_split_ands; exact MK.out _ (Below.trans (Hid.out (by assumption)) (hb1.mono (Hid.out (by assumption) : Below wD.heap.size wD _).size)))
        clear hK K
        try simp only [Act.put, List.getElem_toArray, List.getElem_cons_succ, List.getElem_cons_zero, List.setIfInBounds_toArray, List.set_cons_zero, List.set_cons_succ]
        refine wpAnyH_ready (rs := [10]) (by kernel_rfl) (by simp) ?_
        refine AllReadyH.cons rfl (fun K hK => ?_) AllReadyH.nil
        go_simp
        go_at_call 31
        go_split_ands
        refine (xAllowed_any R l A5 c5 (just s (n + 1)) _ H5.out).mono ?_
        rintro e' wz7 ⟨rfl, hb1⟩
        clear H5
        go_wp2_with fail
        refine hK.out _ _ ?_ (fun hHeld => ?_)
        · (try dsimp only)
          (go_split_ands; exact MK.out _ (Below.trans (Hid.out (by assumption)) (hb1.mono (Hid.out (by assumption) : Below wD.heap.size wD _).size)))
        clear hK K
        try simp only [Act.put, List.getElem_toArray, List.getElem_cons_succ, List.getElem_cons_zero, List.setIfInBounds_toArray, List.set_cons_zero, List.set_cons_succ]
        refine wpAnyH_take (i := 11) (v := ?val11x32) rfl (by kernel_rfl) (by kernel_rfl) (by kernel_rfl) (fun _ _ _ h => h) (Or.inl ⟨by rfl, fun w9 hS9 => ?yields11x32⟩) (by assumption) ?later11x32
        case yields11x32 =>
          dsimp only at hS9
          go_simp
          try with_reducible rfl
        try simp only [Act.put, List.getElem_toArray, List.getElem_cons_succ, List.getElem_cons_zero, List.setIfInBounds_toArray, List.set_cons_zero, List.set_cons_succ]
        refine wpAnyH_take (i := 12) (v := ?val12x33) rfl (by kernel_rfl) (by kernel_rfl) (by kernel_rfl) (fun _ _ _ h => h) (Or.inl ⟨by rfl, fun w9 hS9 => ?yields12x33⟩) (by assumption) ?later12x33
        case yields12x33 =>
          dsimp only at hS9
          go_simp
          try with_reducible rfl
        try simp only [Act.put, List.getElem_toArray, List.getElem_cons_succ, List.getElem_cons_zero, List.setIfInBounds_toArray, List.set_cons_zero, List.set_cons_succ]
        refine wpAnyH_take (i := 13) (v := ?val13x34) rfl (by kernel_rfl) (by kernel_rfl) (by kernel_rfl) (fun _ _ _ h => h) (Or.inl ⟨by rfl, fun w9 hS9 => ?yields13x34⟩) (by assumption) ?later13x34
        case yields13x34 =>
          dsimp only at hS9
          go_simp
          try with_reducible rfl
        try simp only [Act.put, List.getElem_toArray, List.getElem_cons_succ, List.getElem_cons_zero, List.setIfInBounds_toArray, List.set_cons_zero, List.set_cons_succ]
        refine wpAnyH_take (i := 14) (v := ?val14x35) rfl (by kernel_rfl) (by kernel_rfl) (by kernel_rfl) (fun _ _ _ h => h) (Or.inl ⟨by rfl, fun w9 hS9 => ?yields14x35⟩) (by assumption) ?later14x35
        case yields14x35 =>
          dsimp only at hS9
          go_simp
          try with_reducible rfl
        try simp only [Act.put, List.getElem_toArray, List.getElem_cons_succ, List.getElem_cons_zero, List.setIfInBounds_toArray, List.set_cons_zero, List.set_cons_succ]
        refine wpAnyH_take (i := 15) (v := ?val15x36) rfl (by kernel_rfl) (by kernel_rfl) (by kernel_rfl) (fun _ _ _ h => h) (Or.inl ⟨by rfl, fun w9 hS9 => ?yields15x36⟩) (by assumption) ?later15x36
        case yields15x36 =>
          dsimp only at hS9
          go_simp
          try with_reducible rfl
        try simp only [Act.put, List.getElem_toArray, List.getElem_cons_succ, List.getElem_cons_zero, List.setIfInBounds_toArray, List.set_cons_zero, List.set_cons_succ]
        refine wpAnyH_take (i := 16) (v := ?val16x37) rfl (by kernel_rfl) (by kernel_rfl) (by kernel_rfl) (fun _ _ _ h => h) (Or.inl ⟨by rfl, fun w9 hS9 => ?yields16x37⟩) (by assumption) ?later16x37
        case yields16x37 =>
          dsimp only at hS9
          go_simp
          try with_reducible rfl
        try simp only [Act.put, List.getElem_toArray, List.getElem_cons_succ, List.getElem_cons_zero, List.setIfInBounds_toArray, List.set_cons_zero, List.set_cons_succ]
        refine wpAnyH_take (i := 17) (v := ?val17x38) rfl (by kernel_rfl) (by kernel_rfl) (by kernel_rfl) (fun _ _ _ h => h) (Or.inl ⟨by rfl, fun w9 hS9 => ?yields17x38⟩) (by assumption) ?later17x38
        case yields17x38 =>
          dsimp only at hS9
          go_simp
          try with_reducible rfl
        try simp only [Act.put, List.getElem_toArray, List.getElem_cons_succ, List.getElem_cons_zero, List.setIfInBounds_toArray, List.set_cons_zero, List.set_cons_succ]
        refine wpAnyH_done (by kernel_rfl) ?_ _
        obtain ⟨-, -, -, -, -, HB⟩ := hHeld
        clear HBd MK
        clear KA
        replace HW := Lib.hid (HW.out.trans (HB.out.mono HW.out.size))
        replace BR := Lib.hid (BR.out.keep (Keep.below HB.out))
        clear HB
        clear a0 a1 a2 a3 a4
        rw [just_ok HE.out (by omega) (by have := HX.out; omega), just_no HE.out HL.out HX.out]
        go_wp2_with fail
        go_ret
        exact ⟨rfl, HW.out⟩
    · have e1 : (lawTripErr R l (bare s) == 0) = false := by simpa using he
      have e2 : (lawTripErr R l (bare s) != 0) = true := by simpa using he
      obtain rfl := HN.out.bad he
      clear he HN
      go_wp2_with fail
      go_ret
      exact ⟨rfl, HW.out⟩
end Go.Proofs.Ytolicafhbeiciaa
/- Plain facts about groups of records: they cover all records, one behind the other. No condition. -/
namespace Go.Proofs.Ytolicafhbeiciaa.Fs

def startJ (L : List (Int × Int)) (n i : Nat) : Int := if i < L.length then (listJ L i).1 else (n : Int)
/-- Groups of the records below n. -/
structure Cover (L : List (Int × Int)) (n : Nat) : Prop where
  first : startJ L n 0 = 0
  one : ∀ i, i < L.length → 0 ≤ (listJ L i).1 ∧ (listJ L i).1 ≤ (listJ L i).2 ∧ (listJ L i).2 < n ∧ startJ L n (i + 1) = (listJ L i).2 + 1
theorem listJ_left {L M : List (Int × Int)} {i : Nat} (h : i < L.length) : listJ (L ++ M) i = listJ L i := by
  unfold listJ
  rw [List.getD_eq_getElem?_getD, List.getD_eq_getElem?_getD, List.getElem?_append_left h]
theorem listJ_last (L : List (Int × Int)) (x : Int × Int) : listJ (L ++ [x]) L.length = x := by
  unfold listJ
  rw [List.getD_eq_getElem?_getD, List.getElem?_append_right (Nat.le_refl _)]
  simp
theorem start_end (L : List (Int × Int)) (n : Nat) : startJ L n L.length = n := if_neg (Nat.lt_irrefl _)
theorem cover_new {L : List (Int × Int)} {k : Nat} (h : Cover L k) : Cover (L ++ [((k : Int), (k : Int))]) (k + 1) := by
  have hl : (L ++ [((k : Int), (k : Int))]).length = L.length + 1 := by simp
  have st : ∀ i, i ≤ L.length → startJ (L ++ [((k : Int), (k : Int))]) (k + 1) i = startJ L k i := fun i hi => by
    unfold startJ
    rw [if_pos (by omega)]
    by_cases e : i < L.length
    · rw [if_pos e, listJ_left e]
    · obtain rfl : i = L.length := by omega
      rw [if_neg e, listJ_last]
  refine ⟨(st 0 (Nat.zero_le _)).trans h.first, fun i hi => ?_⟩
  by_cases e : i < L.length
  · have a := h.one i e
    rw [listJ_left e, st (i + 1) (by omega)]
    exact ⟨a.1, a.2.1, by omega, a.2.2.2⟩
  · obtain rfl : i = L.length := by omega
    rw [listJ_last]
    refine ⟨by omega, Int.le_refl _, by show (k : Int) < ((k + 1 : Nat) : Int); omega, ?_⟩
    rw [show L.length + 1 = (L ++ [((k : Int), (k : Int))]).length from hl.symm, start_end]
    show ((k + 1 : Nat) : Int) = (k : Int) + 1
    omega
theorem cover_more {M : List (Int × Int)} {a b : Int} {k : Nat} (h : Cover (M ++ [(a, b)]) k) : Cover (M ++ [(a, (k : Int))]) (k + 1) := by
  have h1 : (M ++ [(a, b)]).length = M.length + 1 := by simp
  have h2 : (M ++ [(a, (k : Int))]).length = M.length + 1 := by simp
  have st : ∀ i, i ≤ M.length → startJ (M ++ [(a, (k : Int))]) (k + 1) i = startJ (M ++ [(a, b)]) k i := fun i hi => by
    unfold startJ
    rw [if_pos (by omega), if_pos (by omega)]
    by_cases e : i < M.length
    · rw [listJ_left e, listJ_left e]
    · obtain rfl : i = M.length := by omega
      rw [listJ_last, listJ_last]
  refine ⟨(st 0 (Nat.zero_le _)).trans h.first, fun i hi => ?_⟩
  by_cases e : i < M.length
  · have c := h.one i (by omega)
    rw [listJ_left e] at c
    rw [listJ_left e, st (i + 1) (by omega)]
    exact ⟨c.1, c.2.1, by omega, c.2.2.2⟩
  · obtain rfl : i = M.length := by omega
    have c := h.one M.length (by omega)
    rw [listJ_last] at c
    rw [listJ_last]
    refine ⟨c.1, by have := c.2.1; have := c.2.2.1; show a ≤ (k : Int); omega, by show (k : Int) < ((k + 1 : Nat) : Int); omega, ?_⟩
    rw [show M.length + 1 = (M ++ [(a, (k : Int))]).length from h2.symm, start_end]
    show ((k + 1 : Nat) : Int) = (k : Int) + 1
    omega
theorem groups_cover (l : List WRec) (gap : Int) : ∀ k, Cover (groupsTo l gap k) k
  | 0 => ⟨rfl, fun i hi => absurd hi (Nat.not_lt_zero _)⟩
  | k + 1 => by
    have ih := groups_cover l gap k
    rw [groupsTo]
    cases hg : goesOn l gap k with
    | false => rw [if_neg (by decide)]; exact cover_new ih
    | true =>
      rw [if_pos rfl]
      have h0 : 0 < k := by
        unfold goesOn at hg
        rw [Bool.and_eq_true] at hg
        exact of_decide_eq_true hg.1
      obtain ⟨k', rfl⟩ : ∃ k', k = k' + 1 := ⟨k - 1, by omega⟩
      have hne := groupsTo_pos l gap k'
      rcases List.eq_nil_or_concat (groupsTo l gap (k' + 1)) with e | ⟨M, ⟨a, b⟩, e⟩
      · exact absurd e hne
      · rw [List.concat_eq_append] at e
        rw [e] at ih ⊢
        have e1 : (M ++ [(a, b)]).dropLast = M := by simp
        have e2 : (M ++ [(a, b)]).getLastD (0, 0) = (a, b) := by simp
        rw [e1, e2]
        exact cover_more ih
theorem work_all {l : List WRec} (h : Right l) : ∀ k, k ≤ l.length → workTo l 0 8640000000 k = lengthsTo l 0 k
  | 0, _ => rfl
  | k + 1, hk => by
    have a := h.one k (by omega)
    rw [workTo_next, work_all h k (by omega), lengthsTo_next (Nat.zero_le k)]
    unfold overlapOf
    omega
end Go.Proofs.Ytolicafhbeiciaa.Fs

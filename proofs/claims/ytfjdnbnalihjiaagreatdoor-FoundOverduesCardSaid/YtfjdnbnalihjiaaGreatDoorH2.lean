/- The examples of chapter 9 are so. No condition. -/
import Derived.Test.YtfjdnbnalihjiaaGreatDoorK13
import Derived.Deep.RegionHeld3
import Derived.Deep.CutRange
import Derived.Deep.CutBlock
namespace Go.Proofs.YtfjdnbnalihjiaaGreatDoor
open Go.RowKit Fs

theorem ex_best : bfOut exItems (lThg exClaims 0) = 2 ∧ bfErr exItems (lThg exClaims 0) = 0 := by decide +kernel
theorem ex_hold : hoOut (lThg exItems 0) exChain 30 = ⟨#[100, 101, 112, 111, 116]⟩ ∧ onErr (lThg exItems 0) exChain 30 = 0 := by decide +kernel
theorem ex_right : riOut (lThg exItems 0) exChain 201 = 2 ∧ onErr (lThg exItems 0) exChain 201 = 0 := by decide +kernel
theorem ex_reward : reward 60000 = 2800 ∧ rewErr 60000 = 0 := by decide +kernel

theorem hat_text : (hatText.toList == [104, 97, 116, 32, 49, 48, 32, 97, 110, 110, 32, 99, 111, 108, 111, 114, 61, 114, 101, 100, 32, 107, 105, 110, 100, 61, 104, 97, 116, 32, 115, 105, 122, 101, 61, 98, 105, 103]) = true := by decide +kernel
set_option linter.unusedSimpArgs false in
set_option maxHeartbeats 12800000 in
set_option maxRecDepth 100000 in
theorem lawAwake_any (w : World) (tbs : TabSt w) :
    Calls Tryz.prog 15 #[] w fun e w' => e = .returned (.bool true) ∧ Below w.heap.size w w' := by
  have TBS := Lib.hid tbs
  clear tbs
  have XB := Lib.hid ex_best
  have XH := Lib.hid ex_hold
  have XR := Lib.hid ex_right
  have XW := Lib.hid ex_reward
  go_enter Tryz.func15, Tryz.ntmps15
  go_wp2_with fail
  refine (lawItems_any _).mono ?_
  rintro e' w1 ⟨⟨A1, c1, a1, rfl, h1⟩, hb1⟩
  have HW := Lib.hid hb1
  have H1 := Lib.hid h1
  clear h1 hb1
  go_wp2_with fail
  refine (lawClaims_any _).mono ?_
  rintro e' w2 ⟨⟨A2, c2, a2, rfl, h2⟩, hb1⟩
  replace HW := Lib.hid (HW.out.trans (hb1.mono HW.out.size))
  replace H1 := Lib.hid (H1.out.keep (Keep.below hb1))
  obtain ⟨b, o, rfl, ⟨q0, q1, q2, q3⟩, qm⟩ := h2.at_ (k := 0) (by decide)
  have QM := Lib.hid qm
  rw [Nat.zero_mul, Nat.add_zero] at q0 q1 q2 q3
  clear h2 hb1 qm
  go_wp2_with fail
  refine (xBestFor_any exItems (lThg exClaims 0) A1 c1 a1 _ _ H1.out ⟨_, _, rfl, QM.out⟩).mono ?_
  rintro e' w3 ⟨rfl, hb1⟩
  replace HW := Lib.hid (HW.out.trans (hb1.mono HW.out.size))
  rw [XB.out.1, XB.out.2]
  clear q0 q1 q2 q3 QM H1 hb1
  obtain ⟨wA, hwA⟩ : ∃ wz, wz = w3 := ⟨_, rfl⟩
  subst hwA
  go_wp2_with fail
  have HBd : Hid (Below wA.heap.size wA wA.drew) := Lib.hid (Below.refl _ _).drew
  have MK : Hid (∀ w', Below wA.heap.size wA w' → Hid (Below wA.heap.size wA w')) :=
    Lib.hid fun w' hw => Lib.hid hw
  have KTB : Hid (∀ w', Below wA.heap.size wA w' → TabSt w') := Lib.hid fun w' hw => (TBS.out.keep (Keep.below (HW.out.trans (hw.mono HW.out.size))))
  refine wp_region_held_drew (S := fun w' => Hid (Below wA.heap.size wA w')) (by kernel_rfl) (MK.out _ HBd.out) (fun hHeld => ?_)
  refine wpAnyH_ready (rs := [0]) (by kernel_rfl) (by simp) ?_
  refine AllReadyH.cons rfl (fun K hK => ?_) AllReadyH.nil
  go_simp
  go_at_call 70
  refine (lawItems_any _).mono ?_
  rintro e' w5 ⟨⟨A5, c5, a5, rfl, h5⟩, hb1⟩
  obtain ⟨b, o, rfl, ⟨q0, q1, q2, q3⟩, qm⟩ := h5.at_ (k := 0) (by decide)
  have QM := Lib.hid qm
  rw [Nat.zero_mul, Nat.add_zero] at q0 q1 q2 q3
  clear h5 qm
  go_wp2_with fail
  refine hK.out _ _ ?_ (fun hHeld => ?_)
  · (try dsimp only)
    exact Lib.hid (Below.trans (Hid.out (by assumption)) (hb1.mono (Hid.out (by assumption) : Below wA.heap.size wA _).size))
  clear hK K
  try simp only [Act.put, List.getElem_toArray, List.getElem_cons_succ, List.getElem_cons_zero, List.setIfInBounds_toArray, List.set_cons_zero, List.set_cons_succ]
  refine wpAnyH_take (i := 1) (v := ?valz1) rfl (by kernel_rfl) (by kernel_rfl) (by kernel_rfl) (fun _ _ _ h => h) (Or.inl ⟨by rfl, fun w9 hS9 => ?yieldsz1⟩) (by assumption) ?laterz1
  case yieldsz1 =>
    dsimp only at hS9
    go_simp
    try with_reducible rfl
  try simp only [Act.put, List.getElem_toArray, List.getElem_cons_succ, List.getElem_cons_zero, List.setIfInBounds_toArray, List.set_cons_zero, List.set_cons_succ]
  refine wpAnyH_ready (rs := [2, 3]) (by kernel_rfl) (by simp) ?_
  refine AllReadyH.cons rfl (fun K hK => ?_) (AllReadyH.cons rfl (fun K hK => ?_) AllReadyH.nil)
  · go_simp
    refine hK.out _ _ ?_ (fun hHeld => ?_)
    · (try dsimp only)
      exact hHeld
    clear hK K
    try simp only [Act.put, List.getElem_toArray, List.getElem_cons_succ, List.getElem_cons_zero, List.setIfInBounds_toArray, List.set_cons_zero, List.set_cons_succ]
    refine wpAnyH_ready (rs := [3]) (by kernel_rfl) (by simp) ?_
    refine AllReadyH.cons rfl (fun K hK => ?_) AllReadyH.nil
    go_simp
    go_at_call 72
    refine (lawEx_any _).mono ?_
    rintro e' w6 ⟨⟨A6, c6, rfl, h6⟩, hb1⟩
    have H6 := Lib.hid h6
    replace QM := Lib.hid (QM.out.keep (Keep.below hb1))
    clear h6 q0 q1 q2 q3
    go_wp2_with fail
    refine hK.out _ _ ?_ (fun hHeld => ?_)
    · (try dsimp only)
      exact Lib.hid (Below.trans (Hid.out (by assumption)) (hb1.mono (Hid.out (by assumption) : Below wA.heap.size wA _).size))
    clear hK K
    try simp only [Act.put, List.getElem_toArray, List.getElem_cons_succ, List.getElem_cons_zero, List.setIfInBounds_toArray, List.set_cons_zero, List.set_cons_succ]
    refine wpAnyH_ready (rs := [4]) (by kernel_rfl) (by simp) ?_
    refine AllReadyH.cons rfl (fun K hK => ?_) AllReadyH.nil
    go_simp
    go_at_call 58
    refine (xHolderAt_any (lThg exItems 0) _ exChain A6 c6 30 _ ⟨_, _, rfl, QM.out⟩ H6.out (KTB.out _ (Hid.out (by assumption)))).mono ?_
    rintro e' w7 ⟨rfl, hb1⟩
    rw [XH.out.1, XH.out.2]
    clear QM H6
    go_wp2_with fail
    refine hK.out _ _ ?_ (fun hHeld => ?_)
    · (try dsimp only)
      exact Lib.hid (Below.trans (Hid.out (by assumption)) (hb1.mono (Hid.out (by assumption) : Below wA.heap.size wA _).size))
    clear hK K
    try simp only [Act.put, List.getElem_toArray, List.getElem_cons_succ, List.getElem_cons_zero, List.setIfInBounds_toArray, List.set_cons_zero, List.set_cons_succ]
    refine wpAnyH_take (i := 5) (v := ?valz2) rfl (by kernel_rfl) (by kernel_rfl) (by kernel_rfl) (fun _ _ _ h => h) (Or.inl ⟨by rfl, fun w9 hS9 => ?yieldsz2⟩) (by assumption) ?laterz2
    case yieldsz2 =>
      dsimp only at hS9
      go_simp
      try with_reducible rfl
    try simp only [Act.put, List.getElem_toArray, List.getElem_cons_succ, List.getElem_cons_zero, List.setIfInBounds_toArray, List.set_cons_zero, List.set_cons_succ]
    refine wpAnyH_take (i := 6) (v := ?valz3) rfl (by kernel_rfl) (by kernel_rfl) (by kernel_rfl) (fun _ _ _ h => h) (Or.inl ⟨by rfl, fun w9 hS9 => ?yieldsz3⟩) (by assumption) ?laterz3
    case yieldsz3 =>
      dsimp only at hS9
      go_simp
      try with_reducible rfl
    try simp only [Act.put, List.getElem_toArray, List.getElem_cons_succ, List.getElem_cons_zero, List.setIfInBounds_toArray, List.set_cons_zero, List.set_cons_succ]
    refine wpAnyH_take (i := 7) (v := ?valz4) rfl (by kernel_rfl) (by kernel_rfl) (by kernel_rfl) (fun _ _ _ h => h) (Or.inl ⟨by rfl, fun w9 hS9 => ?yieldsz4⟩) (by assumption) ?laterz4
    case yieldsz4 =>
      dsimp only at hS9
      go_simp
      try with_reducible rfl
    try simp only [Act.put, List.getElem_toArray, List.getElem_cons_succ, List.getElem_cons_zero, List.setIfInBounds_toArray, List.set_cons_zero, List.set_cons_succ]
    refine wpAnyH_take (i := 8) (v := ?valz5) rfl (by kernel_rfl) (by kernel_rfl) (by kernel_rfl) (fun _ _ _ h => h) (Or.inl ⟨by rfl, fun w9 hS9 => ?yieldsz5⟩) (by assumption) ?laterz5
    case yieldsz5 =>
      dsimp only at hS9
      go_simp
      try with_reducible rfl
    try simp only [Act.put, List.getElem_toArray, List.getElem_cons_succ, List.getElem_cons_zero, List.setIfInBounds_toArray, List.set_cons_zero, List.set_cons_succ]
    refine wpAnyH_take (i := 9) (v := ?valz6) rfl (by kernel_rfl) (by kernel_rfl) (by kernel_rfl) (fun _ _ _ h => h) (Or.inl ⟨by rfl, fun w9 hS9 => ?yieldsz6⟩) (by assumption) ?laterz6
    case yieldsz6 =>
      dsimp only at hS9
      go_simp
      try with_reducible rfl
    try simp only [Act.put, List.getElem_toArray, List.getElem_cons_succ, List.getElem_cons_zero, List.setIfInBounds_toArray, List.set_cons_zero, List.set_cons_succ]
    refine wpAnyH_done (by kernel_rfl) ?_ _
    have HB := hHeld
    clear HBd MK KTB
    replace HW := Lib.hid (HW.out.trans (HB.out.mono HW.out.size))
    clear HB
    obtain ⟨wB, hwB⟩ : ∃ wz, wz = w7 := ⟨_, rfl⟩
    subst hwB
    go_wp2_with fail
    have HBd : Hid (Below wB.heap.size wB wB.drew) := Lib.hid (Below.refl _ _).drew
    have MK : Hid (∀ w', Below wB.heap.size wB w' → Hid (Below wB.heap.size wB w')) :=
      Lib.hid fun w' hw => Lib.hid hw
    have KTB : Hid (∀ w', Below wB.heap.size wB w' → TabSt w') := Lib.hid fun w' hw => (TBS.out.keep (Keep.below (HW.out.trans (hw.mono HW.out.size))))
    refine wp_region_held_drew (S := fun w' => Hid (Below wB.heap.size wB w')) (by kernel_rfl) (MK.out _ HBd.out) (fun hHeld => ?_)
    refine wpAnyH_ready (rs := [0]) (by kernel_rfl) (by simp) ?_
    refine AllReadyH.cons rfl (fun K hK => ?_) AllReadyH.nil
    go_simp
    go_at_call 70
    refine (lawItems_any _).mono ?_
    rintro e' w5 ⟨⟨A5, c5, a5, rfl, h5⟩, hb1⟩
    obtain ⟨b, o, rfl, ⟨q0, q1, q2, q3⟩, qm⟩ := h5.at_ (k := 0) (by decide)
    have QM := Lib.hid qm
    rw [Nat.zero_mul, Nat.add_zero] at q0 q1 q2 q3
    clear h5 qm
    go_wp2_with fail
    refine hK.out _ _ ?_ (fun hHeld => ?_)
    · (try dsimp only)
      exact Lib.hid (Below.trans (Hid.out (by assumption)) (hb1.mono (Hid.out (by assumption) : Below wB.heap.size wB _).size))
    clear hK K
    try simp only [Act.put, List.getElem_toArray, List.getElem_cons_succ, List.getElem_cons_zero, List.setIfInBounds_toArray, List.set_cons_zero, List.set_cons_succ]
    refine wpAnyH_take (i := 1) (v := ?valz7) rfl (by kernel_rfl) (by kernel_rfl) (by kernel_rfl) (fun _ _ _ h => h) (Or.inl ⟨by rfl, fun w9 hS9 => ?yieldsz7⟩) (by assumption) ?laterz7
    case yieldsz7 =>
      dsimp only at hS9
      go_simp
      try with_reducible rfl
    try simp only [Act.put, List.getElem_toArray, List.getElem_cons_succ, List.getElem_cons_zero, List.setIfInBounds_toArray, List.set_cons_zero, List.set_cons_succ]
    refine wpAnyH_ready (rs := [2, 3]) (by kernel_rfl) (by simp) ?_
    refine AllReadyH.cons rfl (fun K hK => ?_) (AllReadyH.cons rfl (fun K hK => ?_) AllReadyH.nil)
    · go_simp
      refine hK.out _ _ ?_ (fun hHeld => ?_)
      · (try dsimp only)
        exact hHeld
      clear hK K
      try simp only [Act.put, List.getElem_toArray, List.getElem_cons_succ, List.getElem_cons_zero, List.setIfInBounds_toArray, List.set_cons_zero, List.set_cons_succ]
      refine wpAnyH_ready (rs := [3]) (by kernel_rfl) (by simp) ?_
      refine AllReadyH.cons rfl (fun K hK => ?_) AllReadyH.nil
      go_simp
      go_at_call 72
      refine (lawEx_any _).mono ?_
      rintro e' w6 ⟨⟨A6, c6, rfl, h6⟩, hb1⟩
      have H6 := Lib.hid h6
      replace QM := Lib.hid (QM.out.keep (Keep.below hb1))
      clear h6 q0 q1 q2 q3
      go_wp2_with fail
      refine hK.out _ _ ?_ (fun hHeld => ?_)
      · (try dsimp only)
        exact Lib.hid (Below.trans (Hid.out (by assumption)) (hb1.mono (Hid.out (by assumption) : Below wB.heap.size wB _).size))
      clear hK K
      try simp only [Act.put, List.getElem_toArray, List.getElem_cons_succ, List.getElem_cons_zero, List.setIfInBounds_toArray, List.set_cons_zero, List.set_cons_succ]
      refine wpAnyH_ready (rs := [4]) (by kernel_rfl) (by simp) ?_
      refine AllReadyH.cons rfl (fun K hK => ?_) AllReadyH.nil
      go_simp
      go_at_call 60
      refine (xRightAt_any (lThg exItems 0) _ exChain A6 c6 201 _ ⟨_, _, rfl, QM.out⟩ H6.out (KTB.out _ (Hid.out (by assumption)))).mono ?_
      rintro e' w7 ⟨rfl, hb1⟩
      rw [XR.out.1, XR.out.2]
      clear QM H6
      go_wp2_with fail
      refine hK.out _ _ ?_ (fun hHeld => ?_)
      · (try dsimp only)
        exact Lib.hid (Below.trans (Hid.out (by assumption)) (hb1.mono (Hid.out (by assumption) : Below wB.heap.size wB _).size))
      clear hK K
      try simp only [Act.put, List.getElem_toArray, List.getElem_cons_succ, List.getElem_cons_zero, List.setIfInBounds_toArray, List.set_cons_zero, List.set_cons_succ]
      refine wpAnyH_take (i := 5) (v := ?valz8) rfl (by kernel_rfl) (by kernel_rfl) (by kernel_rfl) (fun _ _ _ h => h) (Or.inl ⟨by rfl, fun w9 hS9 => ?yieldsz8⟩) (by assumption) ?laterz8
      case yieldsz8 =>
        dsimp only at hS9
        go_simp
        try with_reducible rfl
      try simp only [Act.put, List.getElem_toArray, List.getElem_cons_succ, List.getElem_cons_zero, List.setIfInBounds_toArray, List.set_cons_zero, List.set_cons_succ]
      refine wpAnyH_take (i := 6) (v := ?valz9) rfl (by kernel_rfl) (by kernel_rfl) (by kernel_rfl) (fun _ _ _ h => h) (Or.inl ⟨by rfl, fun w9 hS9 => ?yieldsz9⟩) (by assumption) ?laterz9
      case yieldsz9 =>
        dsimp only at hS9
        go_simp
        try with_reducible rfl
      try simp only [Act.put, List.getElem_toArray, List.getElem_cons_succ, List.getElem_cons_zero, List.setIfInBounds_toArray, List.set_cons_zero, List.set_cons_succ]
      refine wpAnyH_take (i := 7) (v := ?valz10) rfl (by kernel_rfl) (by kernel_rfl) (by kernel_rfl) (fun _ _ _ h => h) (Or.inl ⟨by rfl, fun w9 hS9 => ?yieldsz10⟩) (by assumption) ?laterz10
      case yieldsz10 =>
        dsimp only at hS9
        go_simp
        try with_reducible rfl
      try simp only [Act.put, List.getElem_toArray, List.getElem_cons_succ, List.getElem_cons_zero, List.setIfInBounds_toArray, List.set_cons_zero, List.set_cons_succ]
      refine wpAnyH_take (i := 8) (v := ?valz11) rfl (by kernel_rfl) (by kernel_rfl) (by kernel_rfl) (fun _ _ _ h => h) (Or.inl ⟨by rfl, fun w9 hS9 => ?yieldsz11⟩) (by assumption) ?laterz11
      case yieldsz11 =>
        dsimp only at hS9
        go_simp
        try with_reducible rfl
      try simp only [Act.put, List.getElem_toArray, List.getElem_cons_succ, List.getElem_cons_zero, List.setIfInBounds_toArray, List.set_cons_zero, List.set_cons_succ]
      refine wpAnyH_take (i := 9) (v := ?valz12) rfl (by kernel_rfl) (by kernel_rfl) (by kernel_rfl) (fun _ _ _ h => h) (Or.inl ⟨by rfl, fun w9 hS9 => ?yieldsz12⟩) (by assumption) ?laterz12
      case yieldsz12 =>
        dsimp only at hS9
        go_simp
        try with_reducible rfl
      try simp only [Act.put, List.getElem_toArray, List.getElem_cons_succ, List.getElem_cons_zero, List.setIfInBounds_toArray, List.set_cons_zero, List.set_cons_succ]
      refine wpAnyH_done (by kernel_rfl) ?_ _
      have HB := hHeld
      clear HBd MK KTB
      replace HW := Lib.hid (HW.out.trans (HB.out.mono HW.out.size))
      clear HB
      go_wp2_with fail
      refine (xRewardOf_any 60000 _).mono ?_
      rintro e' w8 ⟨rfl, hb1⟩
      replace HW := Lib.hid (HW.out.trans (hb1.mono HW.out.size))
      rw [XW.out.1, XW.out.2]
      clear hb1
      go_wp2_with fail
      refine (lawItems_any _).mono ?_
      rintro e' w9 ⟨⟨A1, c1, a1, rfl, h1⟩, hb1⟩
      replace HW := Lib.hid (HW.out.trans (hb1.mono HW.out.size))
      obtain ⟨b, o, rfl, ⟨q0, q1, q2, q3⟩, qm⟩ := h1.at_ (k := 0) (by decide)
      have QM := Lib.hid qm
      rw [Nat.zero_mul, Nat.add_zero] at q0 q1 q2 q3
      clear h1 hb1 qm
      go_wp2_with fail
      refine (xFormatHat_any _ _ ⟨_, _, rfl, QM.out⟩).mono ?_
      rintro e' w10 ⟨rfl, hb1⟩
      replace HW := Lib.hid (HW.out.trans (hb1.mono HW.out.size))
      clear hb1 q0 q1 q2 q3 QM
      have ht := hat_text
      go_wp2_with fail
      go_ret
      exact ⟨rfl, HW.out⟩
    · go_simp
      go_at_call 72
      refine (lawEx_any _).mono ?_
      rintro e' w6 ⟨⟨A6, c6, rfl, h6⟩, hb1⟩
      have H6 := Lib.hid h6
      replace QM := Lib.hid (QM.out.keep (Keep.below hb1))
      replace q0 := Keep.below hb1 _ _ q0
      replace q1 := Keep.below hb1 _ _ q1
      replace q2 := Keep.below hb1 _ _ q2
      replace q3 := Keep.below hb1 _ _ q3
      clear h6
      go_wp2_with fail
      refine hK.out _ _ ?_ (fun hHeld => ?_)
      · (try dsimp only)
        exact Lib.hid (Below.trans (Hid.out (by assumption)) (hb1.mono (Hid.out (by assumption) : Below wB.heap.size wB _).size))
      clear hK K
      try simp only [Act.put, List.getElem_toArray, List.getElem_cons_succ, List.getElem_cons_zero, List.setIfInBounds_toArray, List.set_cons_zero, List.set_cons_succ]
      refine wpAnyH_ready (rs := [2]) (by kernel_rfl) (by simp) ?_
      refine AllReadyH.cons rfl (fun K hK => ?_) AllReadyH.nil
      go_simp
      refine hK.out _ _ ?_ (fun hHeld => ?_)
      · (try dsimp only)
        exact hHeld
      clear hK K
      try simp only [Act.put, List.getElem_toArray, List.getElem_cons_succ, List.getElem_cons_zero, List.setIfInBounds_toArray, List.set_cons_zero, List.set_cons_succ]
      clear q0 q1 q2 q3
      refine wpAnyH_ready (rs := [4]) (by kernel_rfl) (by simp) ?_
      refine AllReadyH.cons rfl (fun K hK => ?_) AllReadyH.nil
      go_simp
      go_at_call 60
      refine (xRightAt_any (lThg exItems 0) _ exChain A6 c6 201 _ ⟨_, _, rfl, QM.out⟩ H6.out (KTB.out _ (Hid.out (by assumption)))).mono ?_
      rintro e' w7 ⟨rfl, hb1⟩
      rw [XR.out.1, XR.out.2]
      clear QM H6
      go_wp2_with fail
      refine hK.out _ _ ?_ (fun hHeld => ?_)
      · (try dsimp only)
        exact Lib.hid (Below.trans (Hid.out (by assumption)) (hb1.mono (Hid.out (by assumption) : Below wB.heap.size wB _).size))
      clear hK K
      try simp only [Act.put, List.getElem_toArray, List.getElem_cons_succ, List.getElem_cons_zero, List.setIfInBounds_toArray, List.set_cons_zero, List.set_cons_succ]
      refine wpAnyH_take (i := 5) (v := ?valz13) rfl (by kernel_rfl) (by kernel_rfl) (by kernel_rfl) (fun _ _ _ h => h) (Or.inl ⟨by rfl, fun w9 hS9 => ?yieldsz13⟩) (by assumption) ?laterz13
      case yieldsz13 =>
        dsimp only at hS9
        go_simp
        try with_reducible rfl
      try simp only [Act.put, List.getElem_toArray, List.getElem_cons_succ, List.getElem_cons_zero, List.setIfInBounds_toArray, List.set_cons_zero, List.set_cons_succ]
      refine wpAnyH_take (i := 6) (v := ?valz14) rfl (by kernel_rfl) (by kernel_rfl) (by kernel_rfl) (fun _ _ _ h => h) (Or.inl ⟨by rfl, fun w9 hS9 => ?yieldsz14⟩) (by assumption) ?laterz14
      case yieldsz14 =>
        dsimp only at hS9
        go_simp
        try with_reducible rfl
      try simp only [Act.put, List.getElem_toArray, List.getElem_cons_succ, List.getElem_cons_zero, List.setIfInBounds_toArray, List.set_cons_zero, List.set_cons_succ]
      refine wpAnyH_take (i := 7) (v := ?valz15) rfl (by kernel_rfl) (by kernel_rfl) (by kernel_rfl) (fun _ _ _ h => h) (Or.inl ⟨by rfl, fun w9 hS9 => ?yieldsz15⟩) (by assumption) ?laterz15
      case yieldsz15 =>
        dsimp only at hS9
        go_simp
        try with_reducible rfl
      try simp only [Act.put, List.getElem_toArray, List.getElem_cons_succ, List.getElem_cons_zero, List.setIfInBounds_toArray, List.set_cons_zero, List.set_cons_succ]
      refine wpAnyH_take (i := 8) (v := ?valz16) rfl (by kernel_rfl) (by kernel_rfl) (by kernel_rfl) (fun _ _ _ h => h) (Or.inl ⟨by rfl, fun w9 hS9 => ?yieldsz16⟩) (by assumption) ?laterz16
      case yieldsz16 =>
        dsimp only at hS9
        go_simp
        try with_reducible rfl
      try simp only [Act.put, List.getElem_toArray, List.getElem_cons_succ, List.getElem_cons_zero, List.setIfInBounds_toArray, List.set_cons_zero, List.set_cons_succ]
      refine wpAnyH_take (i := 9) (v := ?valz17) rfl (by kernel_rfl) (by kernel_rfl) (by kernel_rfl) (fun _ _ _ h => h) (Or.inl ⟨by rfl, fun w9 hS9 => ?yieldsz17⟩) (by assumption) ?laterz17
      case yieldsz17 =>
        dsimp only at hS9
        go_simp
        try with_reducible rfl
      try simp only [Act.put, List.getElem_toArray, List.getElem_cons_succ, List.getElem_cons_zero, List.setIfInBounds_toArray, List.set_cons_zero, List.set_cons_succ]
      refine wpAnyH_done (by kernel_rfl) ?_ _
      have HB := hHeld
      clear HBd MK KTB
      replace HW := Lib.hid (HW.out.trans (HB.out.mono HW.out.size))
      clear HB
      go_wp2_with fail
      refine (xRewardOf_any 60000 _).mono ?_
      rintro e' w8 ⟨rfl, hb1⟩
      replace HW := Lib.hid (HW.out.trans (hb1.mono HW.out.size))
      rw [XW.out.1, XW.out.2]
      clear hb1
      go_wp2_with fail
      refine (lawItems_any _).mono ?_
      rintro e' w9 ⟨⟨A1, c1, a1, rfl, h1⟩, hb1⟩
      replace HW := Lib.hid (HW.out.trans (hb1.mono HW.out.size))
      obtain ⟨b, o, rfl, ⟨q0, q1, q2, q3⟩, qm⟩ := h1.at_ (k := 0) (by decide)
      have QM := Lib.hid qm
      rw [Nat.zero_mul, Nat.add_zero] at q0 q1 q2 q3
      clear h1 hb1 qm
      go_wp2_with fail
      refine (xFormatHat_any _ _ ⟨_, _, rfl, QM.out⟩).mono ?_
      rintro e' w10 ⟨rfl, hb1⟩
      replace HW := Lib.hid (HW.out.trans (hb1.mono HW.out.size))
      clear hb1 q0 q1 q2 q3 QM
      have ht := hat_text
      go_wp2_with fail
      go_ret
      exact ⟨rfl, HW.out⟩
  · go_simp
    go_at_call 72
    refine (lawEx_any _).mono ?_
    rintro e' w6 ⟨⟨A6, c6, rfl, h6⟩, hb1⟩
    have H6 := Lib.hid h6
    replace QM := Lib.hid (QM.out.keep (Keep.below hb1))
    replace q0 := Keep.below hb1 _ _ q0
    replace q1 := Keep.below hb1 _ _ q1
    replace q2 := Keep.below hb1 _ _ q2
    replace q3 := Keep.below hb1 _ _ q3
    clear h6
    go_wp2_with fail
    refine hK.out _ _ ?_ (fun hHeld => ?_)
    · (try dsimp only)
      exact Lib.hid (Below.trans (Hid.out (by assumption)) (hb1.mono (Hid.out (by assumption) : Below wA.heap.size wA _).size))
    clear hK K
    try simp only [Act.put, List.getElem_toArray, List.getElem_cons_succ, List.getElem_cons_zero, List.setIfInBounds_toArray, List.set_cons_zero, List.set_cons_succ]
    refine wpAnyH_ready (rs := [2]) (by kernel_rfl) (by simp) ?_
    refine AllReadyH.cons rfl (fun K hK => ?_) AllReadyH.nil
    go_simp
    refine hK.out _ _ ?_ (fun hHeld => ?_)
    · (try dsimp only)
      exact hHeld
    clear hK K
    try simp only [Act.put, List.getElem_toArray, List.getElem_cons_succ, List.getElem_cons_zero, List.setIfInBounds_toArray, List.set_cons_zero, List.set_cons_succ]
    clear q0 q1 q2 q3
    refine wpAnyH_ready (rs := [4]) (by kernel_rfl) (by simp) ?_
    refine AllReadyH.cons rfl (fun K hK => ?_) AllReadyH.nil
    go_simp
    go_at_call 58
    refine (xHolderAt_any (lThg exItems 0) _ exChain A6 c6 30 _ ⟨_, _, rfl, QM.out⟩ H6.out (KTB.out _ (Hid.out (by assumption)))).mono ?_
    rintro e' w7 ⟨rfl, hb1⟩
    rw [XH.out.1, XH.out.2]
    clear QM H6
    go_wp2_with fail
    refine hK.out _ _ ?_ (fun hHeld => ?_)
    · (try dsimp only)
      exact Lib.hid (Below.trans (Hid.out (by assumption)) (hb1.mono (Hid.out (by assumption) : Below wA.heap.size wA _).size))
    clear hK K
    try simp only [Act.put, List.getElem_toArray, List.getElem_cons_succ, List.getElem_cons_zero, List.setIfInBounds_toArray, List.set_cons_zero, List.set_cons_succ]
    refine wpAnyH_take (i := 5) (v := ?valz18) rfl (by kernel_rfl) (by kernel_rfl) (by kernel_rfl) (fun _ _ _ h => h) (Or.inl ⟨by rfl, fun w9 hS9 => ?yieldsz18⟩) (by assumption) ?laterz18
    case yieldsz18 =>
      dsimp only at hS9
      go_simp
      try with_reducible rfl
    try simp only [Act.put, List.getElem_toArray, List.getElem_cons_succ, List.getElem_cons_zero, List.setIfInBounds_toArray, List.set_cons_zero, List.set_cons_succ]
    refine wpAnyH_take (i := 6) (v := ?valz19) rfl (by kernel_rfl) (by kernel_rfl) (by kernel_rfl) (fun _ _ _ h => h) (Or.inl ⟨by rfl, fun w9 hS9 => ?yieldsz19⟩) (by assumption) ?laterz19
    case yieldsz19 =>
      dsimp only at hS9
      go_simp
      try with_reducible rfl
    try simp only [Act.put, List.getElem_toArray, List.getElem_cons_succ, List.getElem_cons_zero, List.setIfInBounds_toArray, List.set_cons_zero, List.set_cons_succ]
    refine wpAnyH_take (i := 7) (v := ?valz20) rfl (by kernel_rfl) (by kernel_rfl) (by kernel_rfl) (fun _ _ _ h => h) (Or.inl ⟨by rfl, fun w9 hS9 => ?yieldsz20⟩) (by assumption) ?laterz20
    case yieldsz20 =>
      dsimp only at hS9
      go_simp
      try with_reducible rfl
    try simp only [Act.put, List.getElem_toArray, List.getElem_cons_succ, List.getElem_cons_zero, List.setIfInBounds_toArray, List.set_cons_zero, List.set_cons_succ]
    refine wpAnyH_take (i := 8) (v := ?valz21) rfl (by kernel_rfl) (by kernel_rfl) (by kernel_rfl) (fun _ _ _ h => h) (Or.inl ⟨by rfl, fun w9 hS9 => ?yieldsz21⟩) (by assumption) ?laterz21
    case yieldsz21 =>
      dsimp only at hS9
      go_simp
      try with_reducible rfl
    try simp only [Act.put, List.getElem_toArray, List.getElem_cons_succ, List.getElem_cons_zero, List.setIfInBounds_toArray, List.set_cons_zero, List.set_cons_succ]
    refine wpAnyH_take (i := 9) (v := ?valz22) rfl (by kernel_rfl) (by kernel_rfl) (by kernel_rfl) (fun _ _ _ h => h) (Or.inl ⟨by rfl, fun w9 hS9 => ?yieldsz22⟩) (by assumption) ?laterz22
    case yieldsz22 =>
      dsimp only at hS9
      go_simp
      try with_reducible rfl
    try simp only [Act.put, List.getElem_toArray, List.getElem_cons_succ, List.getElem_cons_zero, List.setIfInBounds_toArray, List.set_cons_zero, List.set_cons_succ]
    refine wpAnyH_done (by kernel_rfl) ?_ _
    have HB := hHeld
    clear HBd MK KTB
    replace HW := Lib.hid (HW.out.trans (HB.out.mono HW.out.size))
    clear HB
    obtain ⟨wB, hwB⟩ : ∃ wz, wz = w7 := ⟨_, rfl⟩
    subst hwB
    go_wp2_with fail
    have HBd : Hid (Below wB.heap.size wB wB.drew) := Lib.hid (Below.refl _ _).drew
    have MK : Hid (∀ w', Below wB.heap.size wB w' → Hid (Below wB.heap.size wB w')) :=
      Lib.hid fun w' hw => Lib.hid hw
    have KTB : Hid (∀ w', Below wB.heap.size wB w' → TabSt w') := Lib.hid fun w' hw => (TBS.out.keep (Keep.below (HW.out.trans (hw.mono HW.out.size))))
    refine wp_region_held_drew (S := fun w' => Hid (Below wB.heap.size wB w')) (by kernel_rfl) (MK.out _ HBd.out) (fun hHeld => ?_)
    refine wpAnyH_ready (rs := [0]) (by kernel_rfl) (by simp) ?_
    refine AllReadyH.cons rfl (fun K hK => ?_) AllReadyH.nil
    go_simp
    go_at_call 70
    refine (lawItems_any _).mono ?_
    rintro e' w5 ⟨⟨A5, c5, a5, rfl, h5⟩, hb1⟩
    obtain ⟨b, o, rfl, ⟨q0, q1, q2, q3⟩, qm⟩ := h5.at_ (k := 0) (by decide)
    have QM := Lib.hid qm
    rw [Nat.zero_mul, Nat.add_zero] at q0 q1 q2 q3
    clear h5 qm
    go_wp2_with fail
    refine hK.out _ _ ?_ (fun hHeld => ?_)
    · (try dsimp only)
      exact Lib.hid (Below.trans (Hid.out (by assumption)) (hb1.mono (Hid.out (by assumption) : Below wB.heap.size wB _).size))
    clear hK K
    try simp only [Act.put, List.getElem_toArray, List.getElem_cons_succ, List.getElem_cons_zero, List.setIfInBounds_toArray, List.set_cons_zero, List.set_cons_succ]
    refine wpAnyH_take (i := 1) (v := ?valz23) rfl (by kernel_rfl) (by kernel_rfl) (by kernel_rfl) (fun _ _ _ h => h) (Or.inl ⟨by rfl, fun w9 hS9 => ?yieldsz23⟩) (by assumption) ?laterz23
    case yieldsz23 =>
      dsimp only at hS9
      go_simp
      try with_reducible rfl
    try simp only [Act.put, List.getElem_toArray, List.getElem_cons_succ, List.getElem_cons_zero, List.setIfInBounds_toArray, List.set_cons_zero, List.set_cons_succ]
    refine wpAnyH_ready (rs := [2, 3]) (by kernel_rfl) (by simp) ?_
    refine AllReadyH.cons rfl (fun K hK => ?_) (AllReadyH.cons rfl (fun K hK => ?_) AllReadyH.nil)
    · go_simp
      refine hK.out _ _ ?_ (fun hHeld => ?_)
      · (try dsimp only)
        exact hHeld
      clear hK K
      try simp only [Act.put, List.getElem_toArray, List.getElem_cons_succ, List.getElem_cons_zero, List.setIfInBounds_toArray, List.set_cons_zero, List.set_cons_succ]
      refine wpAnyH_ready (rs := [3]) (by kernel_rfl) (by simp) ?_
      refine AllReadyH.cons rfl (fun K hK => ?_) AllReadyH.nil
      go_simp
      go_at_call 72
      refine (lawEx_any _).mono ?_
      rintro e' w6 ⟨⟨A6, c6, rfl, h6⟩, hb1⟩
      have H6 := Lib.hid h6
      replace QM := Lib.hid (QM.out.keep (Keep.below hb1))
      clear h6 q0 q1 q2 q3
      go_wp2_with fail
      refine hK.out _ _ ?_ (fun hHeld => ?_)
      · (try dsimp only)
        exact Lib.hid (Below.trans (Hid.out (by assumption)) (hb1.mono (Hid.out (by assumption) : Below wB.heap.size wB _).size))
      clear hK K
      try simp only [Act.put, List.getElem_toArray, List.getElem_cons_succ, List.getElem_cons_zero, List.setIfInBounds_toArray, List.set_cons_zero, List.set_cons_succ]
      refine wpAnyH_ready (rs := [4]) (by kernel_rfl) (by simp) ?_
      refine AllReadyH.cons rfl (fun K hK => ?_) AllReadyH.nil
      go_simp
      go_at_call 60
      refine (xRightAt_any (lThg exItems 0) _ exChain A6 c6 201 _ ⟨_, _, rfl, QM.out⟩ H6.out (KTB.out _ (Hid.out (by assumption)))).mono ?_
      rintro e' w7 ⟨rfl, hb1⟩
      rw [XR.out.1, XR.out.2]
      clear QM H6
      go_wp2_with fail
      refine hK.out _ _ ?_ (fun hHeld => ?_)
      · (try dsimp only)
        exact Lib.hid (Below.trans (Hid.out (by assumption)) (hb1.mono (Hid.out (by assumption) : Below wB.heap.size wB _).size))
      clear hK K
      try simp only [Act.put, List.getElem_toArray, List.getElem_cons_succ, List.getElem_cons_zero, List.setIfInBounds_toArray, List.set_cons_zero, List.set_cons_succ]
      refine wpAnyH_take (i := 5) (v := ?valz24) rfl (by kernel_rfl) (by kernel_rfl) (by kernel_rfl) (fun _ _ _ h => h) (Or.inl ⟨by rfl, fun w9 hS9 => ?yieldsz24⟩) (by assumption) ?laterz24
      case yieldsz24 =>
        dsimp only at hS9
        go_simp
        try with_reducible rfl
      try simp only [Act.put, List.getElem_toArray, List.getElem_cons_succ, List.getElem_cons_zero, List.setIfInBounds_toArray, List.set_cons_zero, List.set_cons_succ]
      refine wpAnyH_take (i := 6) (v := ?valz25) rfl (by kernel_rfl) (by kernel_rfl) (by kernel_rfl) (fun _ _ _ h => h) (Or.inl ⟨by rfl, fun w9 hS9 => ?yieldsz25⟩) (by assumption) ?laterz25
      case yieldsz25 =>
        dsimp only at hS9
        go_simp
        try with_reducible rfl
      try simp only [Act.put, List.getElem_toArray, List.getElem_cons_succ, List.getElem_cons_zero, List.setIfInBounds_toArray, List.set_cons_zero, List.set_cons_succ]
      refine wpAnyH_take (i := 7) (v := ?valz26) rfl (by kernel_rfl) (by kernel_rfl) (by kernel_rfl) (fun _ _ _ h => h) (Or.inl ⟨by rfl, fun w9 hS9 => ?yieldsz26⟩) (by assumption) ?laterz26
      case yieldsz26 =>
        dsimp only at hS9
        go_simp
        try with_reducible rfl
      try simp only [Act.put, List.getElem_toArray, List.getElem_cons_succ, List.getElem_cons_zero, List.setIfInBounds_toArray, List.set_cons_zero, List.set_cons_succ]
      refine wpAnyH_take (i := 8) (v := ?valz27) rfl (by kernel_rfl) (by kernel_rfl) (by kernel_rfl) (fun _ _ _ h => h) (Or.inl ⟨by rfl, fun w9 hS9 => ?yieldsz27⟩) (by assumption) ?laterz27
      case yieldsz27 =>
        dsimp only at hS9
        go_simp
        try with_reducible rfl
      try simp only [Act.put, List.getElem_toArray, List.getElem_cons_succ, List.getElem_cons_zero, List.setIfInBounds_toArray, List.set_cons_zero, List.set_cons_succ]
      refine wpAnyH_take (i := 9) (v := ?valz28) rfl (by kernel_rfl) (by kernel_rfl) (by kernel_rfl) (fun _ _ _ h => h) (Or.inl ⟨by rfl, fun w9 hS9 => ?yieldsz28⟩) (by assumption) ?laterz28
      case yieldsz28 =>
        dsimp only at hS9
        go_simp
        try with_reducible rfl
      try simp only [Act.put, List.getElem_toArray, List.getElem_cons_succ, List.getElem_cons_zero, List.setIfInBounds_toArray, List.set_cons_zero, List.set_cons_succ]
      refine wpAnyH_done (by kernel_rfl) ?_ _
      have HB := hHeld
      clear HBd MK KTB
      replace HW := Lib.hid (HW.out.trans (HB.out.mono HW.out.size))
      clear HB
      go_wp2_with fail
      refine (xRewardOf_any 60000 _).mono ?_
      rintro e' w8 ⟨rfl, hb1⟩
      replace HW := Lib.hid (HW.out.trans (hb1.mono HW.out.size))
      rw [XW.out.1, XW.out.2]
      clear hb1
      go_wp2_with fail
      refine (lawItems_any _).mono ?_
      rintro e' w9 ⟨⟨A1, c1, a1, rfl, h1⟩, hb1⟩
      replace HW := Lib.hid (HW.out.trans (hb1.mono HW.out.size))
      obtain ⟨b, o, rfl, ⟨q0, q1, q2, q3⟩, qm⟩ := h1.at_ (k := 0) (by decide)
      have QM := Lib.hid qm
      rw [Nat.zero_mul, Nat.add_zero] at q0 q1 q2 q3
      clear h1 hb1 qm
      go_wp2_with fail
      refine (xFormatHat_any _ _ ⟨_, _, rfl, QM.out⟩).mono ?_
      rintro e' w10 ⟨rfl, hb1⟩
      replace HW := Lib.hid (HW.out.trans (hb1.mono HW.out.size))
      clear hb1 q0 q1 q2 q3 QM
      have ht := hat_text
      go_wp2_with fail
      go_ret
      exact ⟨rfl, HW.out⟩
    · go_simp
      go_at_call 72
      refine (lawEx_any _).mono ?_
      rintro e' w6 ⟨⟨A6, c6, rfl, h6⟩, hb1⟩
      have H6 := Lib.hid h6
      replace QM := Lib.hid (QM.out.keep (Keep.below hb1))
      replace q0 := Keep.below hb1 _ _ q0
      replace q1 := Keep.below hb1 _ _ q1
      replace q2 := Keep.below hb1 _ _ q2
      replace q3 := Keep.below hb1 _ _ q3
      clear h6
      go_wp2_with fail
      refine hK.out _ _ ?_ (fun hHeld => ?_)
      · (try dsimp only)
        exact Lib.hid (Below.trans (Hid.out (by assumption)) (hb1.mono (Hid.out (by assumption) : Below wB.heap.size wB _).size))
      clear hK K
      try simp only [Act.put, List.getElem_toArray, List.getElem_cons_succ, List.getElem_cons_zero, List.setIfInBounds_toArray, List.set_cons_zero, List.set_cons_succ]
      refine wpAnyH_ready (rs := [2]) (by kernel_rfl) (by simp) ?_
      refine AllReadyH.cons rfl (fun K hK => ?_) AllReadyH.nil
      go_simp
      refine hK.out _ _ ?_ (fun hHeld => ?_)
      · (try dsimp only)
        exact hHeld
      clear hK K
      try simp only [Act.put, List.getElem_toArray, List.getElem_cons_succ, List.getElem_cons_zero, List.setIfInBounds_toArray, List.set_cons_zero, List.set_cons_succ]
      clear q0 q1 q2 q3
      refine wpAnyH_ready (rs := [4]) (by kernel_rfl) (by simp) ?_
      refine AllReadyH.cons rfl (fun K hK => ?_) AllReadyH.nil
      go_simp
      go_at_call 60
      refine (xRightAt_any (lThg exItems 0) _ exChain A6 c6 201 _ ⟨_, _, rfl, QM.out⟩ H6.out (KTB.out _ (Hid.out (by assumption)))).mono ?_
      rintro e' w7 ⟨rfl, hb1⟩
      rw [XR.out.1, XR.out.2]
      clear QM H6
      go_wp2_with fail
      refine hK.out _ _ ?_ (fun hHeld => ?_)
      · (try dsimp only)
        exact Lib.hid (Below.trans (Hid.out (by assumption)) (hb1.mono (Hid.out (by assumption) : Below wB.heap.size wB _).size))
      clear hK K
      try simp only [Act.put, List.getElem_toArray, List.getElem_cons_succ, List.getElem_cons_zero, List.setIfInBounds_toArray, List.set_cons_zero, List.set_cons_succ]
      refine wpAnyH_take (i := 5) (v := ?valz29) rfl (by kernel_rfl) (by kernel_rfl) (by kernel_rfl) (fun _ _ _ h => h) (Or.inl ⟨by rfl, fun w9 hS9 => ?yieldsz29⟩) (by assumption) ?laterz29
      case yieldsz29 =>
        dsimp only at hS9
        go_simp
        try with_reducible rfl
      try simp only [Act.put, List.getElem_toArray, List.getElem_cons_succ, List.getElem_cons_zero, List.setIfInBounds_toArray, List.set_cons_zero, List.set_cons_succ]
      refine wpAnyH_take (i := 6) (v := ?valz30) rfl (by kernel_rfl) (by kernel_rfl) (by kernel_rfl) (fun _ _ _ h => h) (Or.inl ⟨by rfl, fun w9 hS9 => ?yieldsz30⟩) (by assumption) ?laterz30
      case yieldsz30 =>
        dsimp only at hS9
        go_simp
        try with_reducible rfl
      try simp only [Act.put, List.getElem_toArray, List.getElem_cons_succ, List.getElem_cons_zero, List.setIfInBounds_toArray, List.set_cons_zero, List.set_cons_succ]
      refine wpAnyH_take (i := 7) (v := ?valz31) rfl (by kernel_rfl) (by kernel_rfl) (by kernel_rfl) (fun _ _ _ h => h) (Or.inl ⟨by rfl, fun w9 hS9 => ?yieldsz31⟩) (by assumption) ?laterz31
      case yieldsz31 =>
        dsimp only at hS9
        go_simp
        try with_reducible rfl
      try simp only [Act.put, List.getElem_toArray, List.getElem_cons_succ, List.getElem_cons_zero, List.setIfInBounds_toArray, List.set_cons_zero, List.set_cons_succ]
      refine wpAnyH_take (i := 8) (v := ?valz32) rfl (by kernel_rfl) (by kernel_rfl) (by kernel_rfl) (fun _ _ _ h => h) (Or.inl ⟨by rfl, fun w9 hS9 => ?yieldsz32⟩) (by assumption) ?laterz32
      case yieldsz32 =>
        dsimp only at hS9
        go_simp
        try with_reducible rfl
      try simp only [Act.put, List.getElem_toArray, List.getElem_cons_succ, List.getElem_cons_zero, List.setIfInBounds_toArray, List.set_cons_zero, List.set_cons_succ]
      refine wpAnyH_take (i := 9) (v := ?valz33) rfl (by kernel_rfl) (by kernel_rfl) (by kernel_rfl) (fun _ _ _ h => h) (Or.inl ⟨by rfl, fun w9 hS9 => ?yieldsz33⟩) (by assumption) ?laterz33
      case yieldsz33 =>
        dsimp only at hS9
        go_simp
        try with_reducible rfl
      try simp only [Act.put, List.getElem_toArray, List.getElem_cons_succ, List.getElem_cons_zero, List.setIfInBounds_toArray, List.set_cons_zero, List.set_cons_succ]
      refine wpAnyH_done (by kernel_rfl) ?_ _
      have HB := hHeld
      clear HBd MK KTB
      replace HW := Lib.hid (HW.out.trans (HB.out.mono HW.out.size))
      clear HB
      go_wp2_with fail
      refine (xRewardOf_any 60000 _).mono ?_
      rintro e' w8 ⟨rfl, hb1⟩
      replace HW := Lib.hid (HW.out.trans (hb1.mono HW.out.size))
      rw [XW.out.1, XW.out.2]
      clear hb1
      go_wp2_with fail
      refine (lawItems_any _).mono ?_
      rintro e' w9 ⟨⟨A1, c1, a1, rfl, h1⟩, hb1⟩
      replace HW := Lib.hid (HW.out.trans (hb1.mono HW.out.size))
      obtain ⟨b, o, rfl, ⟨q0, q1, q2, q3⟩, qm⟩ := h1.at_ (k := 0) (by decide)
      have QM := Lib.hid qm
      rw [Nat.zero_mul, Nat.add_zero] at q0 q1 q2 q3
      clear h1 hb1 qm
      go_wp2_with fail
      refine (xFormatHat_any _ _ ⟨_, _, rfl, QM.out⟩).mono ?_
      rintro e' w10 ⟨rfl, hb1⟩
      replace HW := Lib.hid (HW.out.trans (hb1.mono HW.out.size))
      clear hb1 q0 q1 q2 q3 QM
      have ht := hat_text
      go_wp2_with fail
      go_ret
      exact ⟨rfl, HW.out⟩
end Go.Proofs.YtfjdnbnalihjiaaGreatDoor

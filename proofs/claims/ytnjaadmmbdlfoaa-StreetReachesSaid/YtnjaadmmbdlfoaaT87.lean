/- The law of what is reached: places, islands and needed roads are as specified. No condition. -/
import Derived.Test.YtnjaadmmbdlfoaaT35
import Derived.Test.YtnjaadmmbdlfoaaT84
import Derived.Test.YtnjaadmmbdlfoaaT51
import Derived.Test.YtnjaadmmbdlfoaaT38
namespace Go.Proofs.Ytnjaadmmbdlfoaa
open Go.RowKit Fs

theorem Fs.hf_is (N : Net) (f : Int) : hfErr N f = if netErr N = 0 then noPlace N f else netErr N := by
  unfold noPlace
  by_cases h : netErr N = 0
  · rw [if_pos h]
    cases hp : isPlace N f with
    | true => exact (hfErr_fine h hp).1
    | false => exact (hfErr_place h hp).1
  · rw [if_neg h]; exact (hfErr_net h).1
theorem Fs.nd_net {N : Net} {x y : Int} (h : netErr N ≠ 0) : ndErr N x y = netErr N := by
  have e : shErr N x y = netErr N := by rw [shErr_is, if_neg h]
  unfold ndErr
  rw [if_neg (by rw [e]; exact h), e]
theorem Fs.nd_place {N : Net} {x y : Int} (h : netErr N = 0) (hp : isPlace N x = false ∨ isPlace N y = false) : ndErr N x y = 6 := by
  have e : shErr N x y = 6 := by
    rw [shErr_is, if_pos h, if_neg]
    rintro ⟨h1, h2⟩
    rcases hp with hp | hp
    · rw [hp] at h1; cases h1
    · rw [hp] at h2; cases h2
  unfold ndErr
  rw [if_neg (by rw [e]; decide), e]
theorem Fs.nd_fine {N : Net} {x y : Int} (h : netErr N = 0) (h1 : isPlace N x = true) (h2 : isPlace N y = true) : ndErr N x y = if listI (heights N x) y.toNat = -1 then 12 else 0 := by
  unfold ndErr
  rw [if_pos]
  rw [shErr_is, if_pos h, if_pos ⟨h1, h2⟩]
theorem Fs.nd_nil {N : Net} {x y : Int} (h : ndErr N x y ≠ 0) : (ndList N x y).length = 0 := by
  unfold ndList
  rw [if_neg h]
  rfl
theorem Fs.rc_nil {N : Net} {x : Int} (h : hfErr N x ≠ 0) : (rcList N x).length = 0 := by
  unfold rcList
  rw [if_neg h]
  rfl

set_option linter.unusedSimpArgs false in
set_option maxHeartbeats 12800000 in
set_option maxRecDepth 100000 in
theorem law87_any (N : Net) (v : Value) (x y : Int) (w : World) (hN : RdNet w v N) :
    Calls Try.prog 3 #[v, pairV x y] w fun e w' => e = .returned (.bool true) ∧ Below w.heap.size w w' := by
  have hN0 := Lib.hid hN
  obtain ⟨P, R, pc, rc, ar, rfl, mm⟩ := hN
  clear mm
  have BN := Lib.hid ((BoxN.new w N P R pc rc 25).keep (Keep.alloc _ (.cells #[.int .i64 x, .int .i64 y] 26)))
  have BT := Lib.hid (PairAt.new1 w (.cells #[.slice P N.places.length pc, .slice R N.roads.length rc] 25) x y 26)
  go_enter Try.func3, Try.ntmps3
  go_upto_region 1 with fail
  generalize hwb : (w.alloc _).alloc _ = wb at *
  have HW : Hid (Below w.heap.size w wb) := by rw [← hwb]; exact Lib.hid (((Below.refl _ _).alloc (Nat.le_refl _) _).alloc (by simp) _)
  clear hwb
  obtain ⟨n0, n1⟩ := BN.out
  obtain ⟨c0, c1⟩ := BT.out
  go_wp2_with fail
  refine (awake_any _).mono ?_
  rintro e' w1 ⟨rfl, hb1⟩
  replace HW := Lib.hid (HW.out.trans (hb1.mono HW.out.size))
  replace BN := Lib.hid (BN.out.keep (Keep.below hb1))
  replace BT := Lib.hid (BT.out.keep (Keep.below hb1))
  clear n0 n1 c0 c1
  clear hb1
  obtain ⟨n0, n1⟩ := BN.out
  obtain ⟨c0, c1⟩ := BT.out
  go_wp2_with fail
  refine (few_any N _ _ (hN0.out.keep (Keep.below HW.out))).mono ?_
  rintro e' wA ⟨rfl, hb1⟩
  replace HW := Lib.hid (HW.out.trans (hb1.mono HW.out.size))
  replace BN := Lib.hid (BN.out.keep (Keep.below hb1))
  replace BT := Lib.hid (BT.out.keep (Keep.below hb1))
  clear n0 n1 c0 c1
  clear hb1
  cases hf : fewN N with
  | false =>
    go_wp2_with fail
    go_ret
    exact ⟨rfl, HW.out⟩
  | true =>
    have HL := Lib.hid (few_lens hf)
    clear hf
    obtain ⟨n0, n1⟩ := BN.out
    obtain ⟨c0, c1⟩ := BT.out
    have HBd : Hid (Below wA.heap.size wA wA.drew) := Lib.hid (Below.refl _ _).drew
    have MK : Hid (∀ w', Below wA.heap.size wA w' → w'.cell? ⟨w.heap.size, 0, none⟩ = some (.slice P N.places.length pc) ∧ w'.cell? ⟨w.heap.size, 1, none⟩ = some (.slice R N.roads.length rc) ∧ w'.cell? ⟨w.heap.size + 1, 0, none⟩ = some (.int .i64 x) ∧ w'.cell? ⟨w.heap.size + 1, 1, none⟩ = some (.int .i64 y) ∧ Hid (Below wA.heap.size wA w')) :=
      Lib.hid fun w' hw => ⟨Keep.below hw _ _ n0, Keep.below hw _ _ n1, Keep.below hw _ _ c0, Keep.below hw _ _ c1, Lib.hid hw⟩
    have KN : Hid (∀ w', Below wA.heap.size wA w' → RdNet w' (netV N P R pc rc) N) := Lib.hid fun w' hw => (hN0.out.keep (Keep.below (HW.out.trans (hw.mono HW.out.size))))
    go_wp2_with fail
    refine wp_region_held_drew (S := fun w' => w'.cell? ⟨w.heap.size, 0, none⟩ = some (.slice P N.places.length pc) ∧ w'.cell? ⟨w.heap.size, 1, none⟩ = some (.slice R N.roads.length rc) ∧ w'.cell? ⟨w.heap.size + 1, 0, none⟩ = some (.int .i64 x) ∧ w'.cell? ⟨w.heap.size + 1, 1, none⟩ = some (.int .i64 y) ∧ Hid (Below wA.heap.size wA w')) (by kernel_rfl) (MK.out _ HBd.out) (fun hHeld => ?_)
    refine wpAnyH_take (i := 0) (v := ?val0x1) rfl (by kernel_rfl) (by kernel_rfl) (by kernel_rfl) (fun _ _ _ h => h) (Or.inl ⟨by rfl, fun w9 hS9 => ?yields0x1⟩) (by assumption) ?later0x1
    case yields0x1 =>
      dsimp only at hS9
      go_simp
      try with_reducible rfl
    try simp only [Act.put, List.getElem_toArray, List.getElem_cons_succ, List.getElem_cons_zero, List.setIfInBounds_toArray, List.set_cons_zero, List.set_cons_succ]
    refine wpAnyH_take (i := 2) (v := ?val2x2) rfl (by kernel_rfl) (by kernel_rfl) (by kernel_rfl) (fun _ _ _ h => h) (Or.inl ⟨by rfl, fun w9 hS9 => ?yields2x2⟩) (by assumption) ?later2x2
    case yields2x2 =>
      dsimp only at hS9
      go_simp
      try with_reducible rfl
    try simp only [Act.put, List.getElem_toArray, List.getElem_cons_succ, List.getElem_cons_zero, List.setIfInBounds_toArray, List.set_cons_zero, List.set_cons_succ]
    refine wpAnyH_take (i := 3) (v := ?val3x3) rfl (by kernel_rfl) (by kernel_rfl) (by kernel_rfl) (fun _ _ _ h => h) (Or.inl ⟨by rfl, fun w9 hS9 => ?yields3x3⟩) (by assumption) ?later3x3
    case yields3x3 =>
      dsimp only at hS9
      go_simp
      try with_reducible rfl
    try simp only [Act.put, List.getElem_toArray, List.getElem_cons_succ, List.getElem_cons_zero, List.setIfInBounds_toArray, List.set_cons_zero, List.set_cons_succ]
    refine wpAnyH_ready (rs := [1]) (by kernel_rfl) (by simp) ?_
    refine AllReadyH.cons rfl (fun K hK => ?_) AllReadyH.nil
    go_simp
    go_split_ands
    refine (copyNet_any N _ _ (KN.out _ (Hid.out (by assumption))) HL.out.1 HL.out.2.1 HL.out.2.2).mono ?_
    rintro e' wz5 ⟨v5, rfl, h5, hb1⟩
    replace h5 := Lib.hid h5
    go_wp2_with fail
    refine hK.out _ _ ?_ (fun hHeld => ?_)
    · (try dsimp only)
      (go_split_ands; exact MK.out _ (Below.trans (Hid.out (by assumption)) (hb1.mono (Hid.out (by assumption) : Below wA.heap.size wA _).size)))
    clear hK K
    try simp only [Act.put, List.getElem_toArray, List.getElem_cons_succ, List.getElem_cons_zero, List.setIfInBounds_toArray, List.set_cons_zero, List.set_cons_succ]
    refine wpAnyH_ready (rs := [4]) (by kernel_rfl) (by simp) ?_
    refine AllReadyH.cons rfl (fun K hK => ?_) AllReadyH.nil
    go_simp
    go_split_ands
    refine (reaches_any N _ x _ h5.out).mono ?_
    rintro e' wB ⟨AR, kR, rfl, hR, hb1⟩
    replace hR := Lib.hid hR
    go_wp2_with fail
    refine hK.out _ _ ?_ (fun hHeld => ?_)
    · (try dsimp only)
      (go_split_ands; exact MK.out _ (Below.trans (Hid.out (by assumption)) (hb1.mono (Hid.out (by assumption) : Below wA.heap.size wA _).size)))
    clear hK K
    try simp only [Act.put, List.getElem_toArray, List.getElem_cons_succ, List.getElem_cons_zero, List.setIfInBounds_toArray, List.set_cons_zero, List.set_cons_succ]
    refine wpAnyH_take (i := 5) (v := ?val5x4) rfl (by kernel_rfl) (by kernel_rfl) (by kernel_rfl) (fun _ _ _ h => h) (Or.inl ⟨by rfl, fun w9 hS9 => ?yields5x4⟩) (by assumption) ?later5x4
    case yields5x4 =>
      dsimp only at hS9
      go_simp
      try with_reducible rfl
    try simp only [Act.put, List.getElem_toArray, List.getElem_cons_succ, List.getElem_cons_zero, List.setIfInBounds_toArray, List.set_cons_zero, List.set_cons_succ]
    refine wpAnyH_take (i := 6) (v := ?val6x5) rfl (by kernel_rfl) (by kernel_rfl) (by kernel_rfl) (fun _ _ _ h => h) (Or.inl ⟨by rfl, fun w9 hS9 => ?yields6x5⟩) (by assumption) ?later6x5
    case yields6x5 =>
      dsimp only at hS9
      go_simp
      try with_reducible rfl
    try simp only [Act.put, List.getElem_toArray, List.getElem_cons_succ, List.getElem_cons_zero, List.setIfInBounds_toArray, List.set_cons_zero, List.set_cons_succ]
    refine wpAnyH_take (i := 7) (v := ?val7x6) rfl (by kernel_rfl) (by kernel_rfl) (by kernel_rfl) (fun _ _ _ h => h) (Or.inl ⟨by rfl, fun w9 hS9 => ?yields7x6⟩) (by assumption) ?later7x6
    case yields7x6 =>
      dsimp only at hS9
      go_simp
      try with_reducible rfl
    try simp only [Act.put, List.getElem_toArray, List.getElem_cons_succ, List.getElem_cons_zero, List.setIfInBounds_toArray, List.set_cons_zero, List.set_cons_succ]
    refine wpAnyH_take (i := 8) (v := ?val8x7) rfl (by kernel_rfl) (by kernel_rfl) (by kernel_rfl) (fun _ _ _ h => h) (Or.inl ⟨by rfl, fun w9 hS9 => ?yields8x7⟩) (by assumption) ?later8x7
    case yields8x7 =>
      dsimp only at hS9
      go_simp
      try with_reducible rfl
    try simp only [Act.put, List.getElem_toArray, List.getElem_cons_succ, List.getElem_cons_zero, List.setIfInBounds_toArray, List.set_cons_zero, List.set_cons_succ]
    refine wpAnyH_take (i := 9) (v := ?val9x8) rfl (by kernel_rfl) (by kernel_rfl) (by kernel_rfl) (fun _ _ _ h => h) (Or.inl ⟨by rfl, fun w9 hS9 => ?yields9x8⟩) (by assumption) ?later9x8
    case yields9x8 =>
      dsimp only at hS9
      go_simp
      try with_reducible rfl
    try simp only [Act.put, List.getElem_toArray, List.getElem_cons_succ, List.getElem_cons_zero, List.setIfInBounds_toArray, List.set_cons_zero, List.set_cons_succ]
    refine wpAnyH_done (by kernel_rfl) ?_ _
    have hbb := hHeld.2.2.2.2.out
    clear hHeld n0 n1 c0 c1 MK HBd h5 KN
    replace HW := Lib.hid (HW.out.trans (hbb.mono HW.out.size))
    replace BN := Lib.hid (BN.out.keep (Keep.below hbb))
    replace BT := Lib.hid (BT.out.keep (Keep.below hbb))
    clear hbb
    obtain ⟨n0, n1⟩ := BN.out
    go_wp2_with fail
    refine (copyNet_any N _ _ (hN0.out.keep (Keep.below HW.out)) HL.out.1 HL.out.2.1 HL.out.2.2).mono ?_
    rintro e' wa1 ⟨va1, rfl, h3, hb1⟩
    replace HW := Lib.hid (HW.out.trans (hb1.mono HW.out.size))
    replace BN := Lib.hid (BN.out.keep (Keep.below hb1))
    replace BT := Lib.hid (BT.out.keep (Keep.below hb1))
    replace hR := Lib.hid (hR.out.keep (Keep.below hb1))
    have HC1 := Lib.hid h3
    clear h3
    clear n0 n1
    clear hb1
    obtain ⟨n0, n1⟩ := BN.out
    go_wp2_with fail
    refine (islands_any N _ _ HC1.out).mono ?_
    rintro e' wC ⟨AI, kI, aI, rfl, hI, hb1⟩
    replace HW := Lib.hid (HW.out.trans (hb1.mono HW.out.size))
    replace BN := Lib.hid (BN.out.keep (Keep.below hb1))
    replace BT := Lib.hid (BT.out.keep (Keep.below hb1))
    replace hR := Lib.hid (hR.out.keep (Keep.below hb1))
    replace hI := Lib.hid hI
    clear HC1
    clear n0 n1
    clear hb1
    obtain ⟨n0, n1⟩ := BN.out
    obtain ⟨c0, c1⟩ := BT.out
    have HBd : Hid (Below wC.heap.size wC wC.drew) := Lib.hid (Below.refl _ _).drew
    have MK : Hid (∀ w', Below wC.heap.size wC w' → w'.cell? ⟨w.heap.size, 0, none⟩ = some (.slice P N.places.length pc) ∧ w'.cell? ⟨w.heap.size, 1, none⟩ = some (.slice R N.roads.length rc) ∧ w'.cell? ⟨w.heap.size + 1, 0, none⟩ = some (.int .i64 x) ∧ w'.cell? ⟨w.heap.size + 1, 1, none⟩ = some (.int .i64 y) ∧ Hid (Below wC.heap.size wC w')) :=
      Lib.hid fun w' hw => ⟨Keep.below hw _ _ n0, Keep.below hw _ _ n1, Keep.below hw _ _ c0, Keep.below hw _ _ c1, Lib.hid hw⟩
    have KN : Hid (∀ w', Below wC.heap.size wC w' → RdNet w' (netV N P R pc rc) N) := Lib.hid fun w' hw => (hN0.out.keep (Keep.below (HW.out.trans (hw.mono HW.out.size))))
    go_wp2_with fail
    refine wp_region_held_drew (S := fun w' => w'.cell? ⟨w.heap.size, 0, none⟩ = some (.slice P N.places.length pc) ∧ w'.cell? ⟨w.heap.size, 1, none⟩ = some (.slice R N.roads.length rc) ∧ w'.cell? ⟨w.heap.size + 1, 0, none⟩ = some (.int .i64 x) ∧ w'.cell? ⟨w.heap.size + 1, 1, none⟩ = some (.int .i64 y) ∧ Hid (Below wC.heap.size wC w')) (by kernel_rfl) (MK.out _ HBd.out) (fun hHeld => ?_)
    refine wpAnyH_take (i := 0) (v := ?val0x9) rfl (by kernel_rfl) (by kernel_rfl) (by kernel_rfl) (fun _ _ _ h => h) (Or.inl ⟨by rfl, fun w9 hS9 => ?yields0x9⟩) (by assumption) ?later0x9
    case yields0x9 =>
      dsimp only at hS9
      go_simp
      try with_reducible rfl
    try simp only [Act.put, List.getElem_toArray, List.getElem_cons_succ, List.getElem_cons_zero, List.setIfInBounds_toArray, List.set_cons_zero, List.set_cons_succ]
    refine wpAnyH_take (i := 2) (v := ?val2x10) rfl (by kernel_rfl) (by kernel_rfl) (by kernel_rfl) (fun _ _ _ h => h) (Or.inl ⟨by rfl, fun w9 hS9 => ?yields2x10⟩) (by assumption) ?later2x10
    case yields2x10 =>
      dsimp only at hS9
      go_simp
      try with_reducible rfl
    try simp only [Act.put, List.getElem_toArray, List.getElem_cons_succ, List.getElem_cons_zero, List.setIfInBounds_toArray, List.set_cons_zero, List.set_cons_succ]
    refine wpAnyH_ready (rs := [1]) (by kernel_rfl) (by simp) ?_
    refine AllReadyH.cons rfl (fun K hK => ?_) AllReadyH.nil
    go_simp
    go_split_ands
    refine (copyNet_any N _ _ (KN.out _ (Hid.out (by assumption))) HL.out.1 HL.out.2.1 HL.out.2.2).mono ?_
    rintro e' wz5 ⟨v5, rfl, h5, hb1⟩
    replace h5 := Lib.hid h5
    go_wp2_with fail
    refine hK.out _ _ ?_ (fun hHeld => ?_)
    · (try dsimp only)
      (go_split_ands; exact MK.out _ (Below.trans (Hid.out (by assumption)) (hb1.mono (Hid.out (by assumption) : Below wC.heap.size wC _).size)))
    clear hK K
    try simp only [Act.put, List.getElem_toArray, List.getElem_cons_succ, List.getElem_cons_zero, List.setIfInBounds_toArray, List.set_cons_zero, List.set_cons_succ]
    refine wpAnyH_ready (rs := [3]) (by kernel_rfl) (by simp) ?_
    refine AllReadyH.cons rfl (fun K hK => ?_) AllReadyH.nil
    go_simp
    go_split_ands
    refine (needed_any N _ x y _ h5.out).mono ?_
    rintro e' wD ⟨AN, kN, rfl, hn, hb1⟩
    replace hn := Lib.hid hn
    go_wp2_with fail
    refine hK.out _ _ ?_ (fun hHeld => ?_)
    · (try dsimp only)
      (go_split_ands; exact MK.out _ (Below.trans (Hid.out (by assumption)) (hb1.mono (Hid.out (by assumption) : Below wC.heap.size wC _).size)))
    clear hK K
    try simp only [Act.put, List.getElem_toArray, List.getElem_cons_succ, List.getElem_cons_zero, List.setIfInBounds_toArray, List.set_cons_zero, List.set_cons_succ]
    refine wpAnyH_take (i := 4) (v := ?val4x11) rfl (by kernel_rfl) (by kernel_rfl) (by kernel_rfl) (fun _ _ _ h => h) (Or.inl ⟨by rfl, fun w9 hS9 => ?yields4x11⟩) (by assumption) ?later4x11
    case yields4x11 =>
      dsimp only at hS9
      go_simp
      try with_reducible rfl
    try simp only [Act.put, List.getElem_toArray, List.getElem_cons_succ, List.getElem_cons_zero, List.setIfInBounds_toArray, List.set_cons_zero, List.set_cons_succ]
    refine wpAnyH_take (i := 5) (v := ?val5x12) rfl (by kernel_rfl) (by kernel_rfl) (by kernel_rfl) (fun _ _ _ h => h) (Or.inl ⟨by rfl, fun w9 hS9 => ?yields5x12⟩) (by assumption) ?later5x12
    case yields5x12 =>
      dsimp only at hS9
      go_simp
      try with_reducible rfl
    try simp only [Act.put, List.getElem_toArray, List.getElem_cons_succ, List.getElem_cons_zero, List.setIfInBounds_toArray, List.set_cons_zero, List.set_cons_succ]
    refine wpAnyH_take (i := 6) (v := ?val6x13) rfl (by kernel_rfl) (by kernel_rfl) (by kernel_rfl) (fun _ _ _ h => h) (Or.inl ⟨by rfl, fun w9 hS9 => ?yields6x13⟩) (by assumption) ?later6x13
    case yields6x13 =>
      dsimp only at hS9
      go_simp
      try with_reducible rfl
    try simp only [Act.put, List.getElem_toArray, List.getElem_cons_succ, List.getElem_cons_zero, List.setIfInBounds_toArray, List.set_cons_zero, List.set_cons_succ]
    refine wpAnyH_take (i := 7) (v := ?val7x14) rfl (by kernel_rfl) (by kernel_rfl) (by kernel_rfl) (fun _ _ _ h => h) (Or.inl ⟨by rfl, fun w9 hS9 => ?yields7x14⟩) (by assumption) ?later7x14
    case yields7x14 =>
      dsimp only at hS9
      go_simp
      try with_reducible rfl
    try simp only [Act.put, List.getElem_toArray, List.getElem_cons_succ, List.getElem_cons_zero, List.setIfInBounds_toArray, List.set_cons_zero, List.set_cons_succ]
    refine wpAnyH_take (i := 8) (v := ?val8x15) rfl (by kernel_rfl) (by kernel_rfl) (by kernel_rfl) (fun _ _ _ h => h) (Or.inl ⟨by rfl, fun w9 hS9 => ?yields8x15⟩) (by assumption) ?later8x15
    case yields8x15 =>
      dsimp only at hS9
      go_simp
      try with_reducible rfl
    try simp only [Act.put, List.getElem_toArray, List.getElem_cons_succ, List.getElem_cons_zero, List.setIfInBounds_toArray, List.set_cons_zero, List.set_cons_succ]
    refine wpAnyH_done (by kernel_rfl) ?_ _
    have hbb := hHeld.2.2.2.2.out
    clear hHeld n0 n1 c0 c1 MK HBd h5 KN
    replace HW := Lib.hid (HW.out.trans (hbb.mono HW.out.size))
    replace BN := Lib.hid (BN.out.keep (Keep.below hbb))
    replace BT := Lib.hid (BT.out.keep (Keep.below hbb))
    replace hR := Lib.hid (hR.out.keep (Keep.below hbb))
    replace hI := Lib.hid (hI.out.keep (Keep.below hbb))
    clear hbb
    obtain ⟨n0, n1⟩ := BN.out
    go_wp2_with fail
    refine (rNetErr_any N _ _ (hN0.out.keep (Keep.below HW.out))).mono ?_
    rintro e' wE ⟨rfl, hb1⟩
    replace HW := Lib.hid (HW.out.trans (hb1.mono HW.out.size))
    replace BN := Lib.hid (BN.out.keep (Keep.below hb1))
    replace BT := Lib.hid (BT.out.keep (Keep.below hb1))
    replace hR := Lib.hid (hR.out.keep (Keep.below hb1))
    replace hI := Lib.hid (hI.out.keep (Keep.below hb1))
    replace hn := Lib.hid (hn.out.keep (Keep.below hb1))
    clear n0 n1
    clear hb1
    by_cases he : netErr N = 0
    · have HE := Lib.hid he
      have HF := Lib.hid (show islOf N = islTo N N.places.length from if_pos he)
      rw [he]
      rw [HF.out] at hI
      rw [HF.out]
      have hI1 := hI.out.1.1
      have hI2 := hI.out.1.2.1
      clear he
      obtain ⟨n0, n1⟩ := BN.out
      go_wp2_with fail
      refine (rIslands_any N _ _ (hN0.out.keep (Keep.below HW.out)) HE.out).mono ?_
      rintro e' wF ⟨A7, k7, a7, rfl, h7, hb1⟩
      replace HW := Lib.hid (HW.out.trans (hb1.mono HW.out.size))
      replace BN := Lib.hid (BN.out.keep (Keep.below hb1))
      replace BT := Lib.hid (BT.out.keep (Keep.below hb1))
      replace hR := Lib.hid (hR.out.keep (Keep.below hb1))
      replace hI := Lib.hid (hI.out.keep (Keep.below hb1))
      replace hn := Lib.hid (hn.out.keep (Keep.below hb1))
      replace h7 := Lib.hid h7
      clear n0 n1
      clear hb1
      go_wp2_with fail
      refine (lists_same (islTo N N.places.length) AI A7 kI k7 aI a7 _ hI.out h7.out).mono ?_
      rintro e' wG ⟨rfl, hb1⟩
      replace HW := Lib.hid (HW.out.trans (hb1.mono HW.out.size))
      replace BN := Lib.hid (BN.out.keep (Keep.below hb1))
      replace BT := Lib.hid (BT.out.keep (Keep.below hb1))
      replace hR := Lib.hid (hR.out.keep (Keep.below hb1))
      replace hI := Lib.hid (hI.out.keep (Keep.below hb1))
      replace hn := Lib.hid (hn.out.keep (Keep.below hb1))
      replace h7 := Lib.hid (h7.out.keep (Keep.below hb1))
      clear hb1
      clear hI1 hI2
      obtain ⟨n0, n1⟩ := BN.out
      obtain ⟨c0, c1⟩ := BT.out
      go_wp2_with fail
      refine (rPlaceErr_any N _ x _ (hN0.out.keep (Keep.below HW.out))).mono ?_
      rintro e' wH ⟨rfl, hb1⟩
      replace HW := Lib.hid (HW.out.trans (hb1.mono HW.out.size))
      replace BN := Lib.hid (BN.out.keep (Keep.below hb1))
      replace BT := Lib.hid (BT.out.keep (Keep.below hb1))
      replace hR := Lib.hid (hR.out.keep (Keep.below hb1))
      replace hI := Lib.hid (hI.out.keep (Keep.below hb1))
      replace hn := Lib.hid (hn.out.keep (Keep.below hb1))
      replace h7 := Lib.hid (h7.out.keep (Keep.below hb1))
      clear n0 n1 c0 c1
      clear hb1
      cases hp : isPlace N x with
      | true =>
        have e0 : noPlace N x = 0 := by unfold noPlace; rw [hp]; rfl
        have e1 : hfErr N x = 0 := by rw [hf_is, if_pos HE.out]; exact e0
        obtain ⟨X, hX⟩ : ∃ X : Nat, x = X := ⟨_, (Int.toNat_of_nonneg (isPlace_in hp).1).symm⟩
        subst hX
        have hXl : X < N.places.length := by have := (isPlace_in hp).2; omega
        have e2 : rcList N X = reachL N X := if_pos e1
        rw [e0, e1]
        rw [e2] at hR
        rw [e2]
        have hR1 := hR.out.le.1
        have hR2 := hR.out.le.2
        have HP := Lib.hid hp
        clear e0 e1 e2 hp
        obtain ⟨n0, n1⟩ := BN.out
        obtain ⟨c0, c1⟩ := BT.out
        go_wp2_with fail
        refine (rReaches_any N _ X _ (hN0.out.keep (Keep.below HW.out)) HE.out hXl).mono ?_
        rintro e' wI ⟨A8, k8, rfl, h8, hb1⟩
        replace HW := Lib.hid (HW.out.trans (hb1.mono HW.out.size))
        replace BN := Lib.hid (BN.out.keep (Keep.below hb1))
        replace BT := Lib.hid (BT.out.keep (Keep.below hb1))
        replace hR := Lib.hid (hR.out.keep (Keep.below hb1))
        replace hI := Lib.hid (hI.out.keep (Keep.below hb1))
        replace hn := Lib.hid (hn.out.keep (Keep.below hb1))
        replace h7 := Lib.hid (h7.out.keep (Keep.below hb1))
        replace h8 := Lib.hid h8
        clear n0 n1 c0 c1
        clear hb1
        obtain ⟨n0, n1⟩ := BN.out
        obtain ⟨c0, c1⟩ := BT.out
        go_wp2_with fail
        refine (ints_same (reachL N X) AR A8 kR k8 _ hR.out h8.out).mono ?_
        rintro e' wJ ⟨rfl, hb1⟩
        replace HW := Lib.hid (HW.out.trans (hb1.mono HW.out.size))
        replace BN := Lib.hid (BN.out.keep (Keep.below hb1))
        replace BT := Lib.hid (BT.out.keep (Keep.below hb1))
        replace hR := Lib.hid (hR.out.keep (Keep.below hb1))
        replace hI := Lib.hid (hI.out.keep (Keep.below hb1))
        replace hn := Lib.hid (hn.out.keep (Keep.below hb1))
        replace h7 := Lib.hid (h7.out.keep (Keep.below hb1))
        replace h8 := Lib.hid (h8.out.keep (Keep.below hb1))
        clear n0 n1 c0 c1
        clear hb1
        clear hR1 hR2
        obtain ⟨n0, n1⟩ := BN.out
        obtain ⟨c0, c1⟩ := BT.out
        go_wp2_with fail
        refine (rPlaceErr_any N _ y _ (hN0.out.keep (Keep.below HW.out))).mono ?_
        rintro e' wK ⟨rfl, hb1⟩
        replace HW := Lib.hid (HW.out.trans (hb1.mono HW.out.size))
        replace BN := Lib.hid (BN.out.keep (Keep.below hb1))
        replace BT := Lib.hid (BT.out.keep (Keep.below hb1))
        replace hR := Lib.hid (hR.out.keep (Keep.below hb1))
        replace hI := Lib.hid (hI.out.keep (Keep.below hb1))
        replace hn := Lib.hid (hn.out.keep (Keep.below hb1))
        replace h7 := Lib.hid (h7.out.keep (Keep.below hb1))
        replace h8 := Lib.hid (h8.out.keep (Keep.below hb1))
        clear n0 n1 c0 c1
        clear hb1
        cases hq : isPlace N y with
        | true =>
          have e0 : noPlace N y = 0 := by unfold noPlace; rw [hq]; rfl
          have e1 := nd_fine HE.out HP.out hq
          obtain ⟨Y, hY⟩ : ∃ Y : Nat, y = Y := ⟨_, (Int.toNat_of_nonneg (isPlace_in hq).1).symm⟩
          subst hY
          have hYl : Y < N.places.length := by have := (isPlace_in hq).2; omega
          rw [Int.toNat_natCast] at e1
          rw [e0]
          have HND := Lib.hid e1
          clear e0 e1 hq
          obtain ⟨n0, n1⟩ := BN.out
          obtain ⟨c0, c1⟩ := BT.out
          go_wp2_with fail
          refine (has_any (reachL N X) A8 k8 Y _ h8.out).mono ?_
          rintro e' wL ⟨rfl, hb1⟩
          replace HW := Lib.hid (HW.out.trans (hb1.mono HW.out.size))
          replace BN := Lib.hid (BN.out.keep (Keep.below hb1))
          replace BT := Lib.hid (BT.out.keep (Keep.below hb1))
          replace hR := Lib.hid (hR.out.keep (Keep.below hb1))
          replace hI := Lib.hid (hI.out.keep (Keep.below hb1))
          replace hn := Lib.hid (hn.out.keep (Keep.below hb1))
          replace h7 := Lib.hid (h7.out.keep (Keep.below hb1))
          replace h8 := Lib.hid (h8.out.keep (Keep.below hb1))
          clear n0 n1 c0 c1
          clear hb1
          rw [mem_reachL hYl]
          by_cases hz : listI (heights N X) Y = -1
          · have e1 : ndErr N X Y = 12 := by rw [HND.out, if_pos hz]
            have e2 := nd_nil (show ndErr N X Y ≠ 0 by rw [e1]; decide)
            rw [hz, e1, e2]
            clear hz e1 e2
            go_wp2_with fail
            go_ret
            exact ⟨rfl, HW.out⟩
          · have e1 : ndErr N X Y = 0 := by rw [HND.out, if_neg hz]
            have e2 : ndList N X Y = needed N X Y := if_pos e1
            rw [show (listI (heights N X) Y != -1) = true by simpa using hz]
            rw [e1]
            rw [e2] at hn
            rw [e2]
            have hn1 := hn.out.le.1
            have hn2 := hn.out.le.2
            clear hz e1 e2
            obtain ⟨n0, n1⟩ := BN.out
            obtain ⟨c0, c1⟩ := BT.out
            go_wp2_with fail
            refine (rNeeded_any N _ X Y _ (hN0.out.keep (Keep.below HW.out)) HE.out hXl hYl HL.out.2.2).mono ?_
            rintro e' wM ⟨A9, k9, rfl, h9, hb1⟩
            replace HW := Lib.hid (HW.out.trans (hb1.mono HW.out.size))
            replace BN := Lib.hid (BN.out.keep (Keep.below hb1))
            replace BT := Lib.hid (BT.out.keep (Keep.below hb1))
            replace hR := Lib.hid (hR.out.keep (Keep.below hb1))
            replace hI := Lib.hid (hI.out.keep (Keep.below hb1))
            replace hn := Lib.hid (hn.out.keep (Keep.below hb1))
            replace h7 := Lib.hid (h7.out.keep (Keep.below hb1))
            replace h8 := Lib.hid (h8.out.keep (Keep.below hb1))
            replace h9 := Lib.hid h9
            clear n0 n1 c0 c1
            clear hb1
            go_wp2_with fail
            refine (ints_same (needed N X Y) AN A9 kN k9 _ hn.out h9.out).mono ?_
            rintro e' wO ⟨rfl, hb1⟩
            replace HW := Lib.hid (HW.out.trans (hb1.mono HW.out.size))
            replace BN := Lib.hid (BN.out.keep (Keep.below hb1))
            replace BT := Lib.hid (BT.out.keep (Keep.below hb1))
            replace hR := Lib.hid (hR.out.keep (Keep.below hb1))
            replace hI := Lib.hid (hI.out.keep (Keep.below hb1))
            replace hn := Lib.hid (hn.out.keep (Keep.below hb1))
            replace h7 := Lib.hid (h7.out.keep (Keep.below hb1))
            replace h8 := Lib.hid (h8.out.keep (Keep.below hb1))
            replace h9 := Lib.hid (h9.out.keep (Keep.below hb1))
            clear hb1
            go_wp2_with fail
            go_ret
            exact ⟨rfl, HW.out⟩
        | false =>
          have e0 : noPlace N y = 6 := by unfold noPlace; rw [hq]; rfl
          have e1 := nd_place HE.out (.inr hq : isPlace N X = false ∨ isPlace N y = false)
          have e2 := nd_nil (show ndErr N X y ≠ 0 by rw [e1]; decide)
          rw [e0, e1, e2]
          clear e0 e1 e2 hq
          go_wp2_with fail
          go_ret
          exact ⟨rfl, HW.out⟩
      | false =>
        have e0 : noPlace N x = 6 := by unfold noPlace; rw [hp]; rfl
        have e1 : hfErr N x = 6 := by rw [hf_is, if_pos HE.out]; exact e0
        have e2 := nd_place HE.out (.inl hp : isPlace N x = false ∨ isPlace N y = false)
        have e3 := nd_nil (show ndErr N x y ≠ 0 by rw [e2]; decide)
        have e4 := rc_nil (show hfErr N x ≠ 0 by rw [e1]; decide)
        rw [e0, e1, e2, e3, e4]
        clear e0 e1 e2 e3 e4 hp
        go_wp2_with fail
        go_ret
        exact ⟨rfl, HW.out⟩
    · have d1 : (netErr N != 0) = true := by simpa using he
      have e1 : hfErr N x = netErr N := by rw [hf_is, if_neg he]
      have e2 := nd_net (x := x) (y := y) he
      have e3 := nd_nil (show ndErr N x y ≠ 0 by rw [e2]; exact he)
      have e4 := rc_nil (show hfErr N x ≠ 0 by rw [e1]; exact he)
      have e5 : (islOf N).length = 0 := by unfold islOf; rw [if_neg he]; rfl
      rw [e1, e2, e3, e4, e5]
      have d2 : (netErr N == netErr N) = true := by simp
      clear he e1 e2 e3 e4 e5
      go_wp2_with fail
      go_ret
      exact ⟨rfl, HW.out⟩
end Go.Proofs.Ytnjaadmmbdlfoaa

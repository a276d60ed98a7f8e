/- The law of marks: as specified; the other way round it is the same. No condition. -/
import Derived.Test.YtfjdnbnalihjiaaGreatDoorG12
import Derived.Test.YtfjdnbnalihjiaaGreatDoorH2
import Derived.Deep.RegionHeld3
import Derived.Deep.CutBlock
import Derived.Deep.CutRange
namespace Go.Proofs.YtfjdnbnalihjiaaGreatDoor
open Go.RowKit Fs

set_option linter.unusedSimpArgs false in
set_option maxHeartbeats 12800000 in
set_option maxRecDepth 100000 in
theorem lawMarks9_any (x d : Thg) (u v : Value) (w : World) (hu : RdThg w u x) (hv : RdThg w v d) (tbs : TabSt w) :
    Calls Tryz.prog 3 #[u, v] w fun e w' => e = .returned (.bool true) ∧ Below w.heap.size w w' := by
  obtain ⟨p, pc, rfl, m⟩ := hu
  obtain ⟨p', pc', rfl, m'⟩ := hv
  have M := Lib.hid m
  have M' := Lib.hid m'
  have TBS := Lib.hid tbs
  have BX := Lib.hid ((ThgAt.new w x p pc 24).keep (Keep.alloc _ (.cells #[.string d.name, .int .i64 d.day, .string d.who, .slice p' d.marks.length pc'] 26)))
  have BC := Lib.hid (show ThgAt ((w.alloc (.cells #[.string x.name, .int .i64 x.day, .string x.who, .slice p x.marks.length pc] 24)).alloc (.cells #[.string d.name, .int .i64 d.day, .string d.who, .slice p' d.marks.length pc'] 26)) (w.heap.size + 1) 0 d p' pc' from ⟨cellNew1 _ _ _ _ 0, cellNew1 _ _ _ _ 1, cellNew1 _ _ _ _ 2, cellNew1 _ _ _ _ 3⟩)
  clear m m' tbs
  go_enter Tryz.func3, Tryz.ntmps3
  go_upto_region 1 with fail
  generalize hwb : (w.alloc _).alloc _ = wb at *
  have HW : Hid (Below w.heap.size w wb) := by rw [← hwb]; exact Lib.hid (((Below.refl _ _).alloc (Nat.le_refl _) _).alloc (by simp) _)
  clear hwb
  obtain ⟨q0, q1, q2, q3⟩ := BX.out
  obtain ⟨r0, r1, r2, r3⟩ := BC.out
  go_wp2_with fail
  refine (lawAwake_any _ (TBS.out.keep (Keep.below HW.out))).mono ?_
  rintro e' w1 ⟨rfl, hb1⟩
  replace HW := Lib.hid (HW.out.trans (hb1.mono HW.out.size))
  replace BX := Lib.hid (BX.out.keep (Keep.below hb1))
  replace BC := Lib.hid (BC.out.keep (Keep.below hb1))
  clear q0 q1 q2 q3 r0 r1 r2 r3
  clear hb1
  obtain ⟨q0, q1, q2, q3⟩ := BX.out
  obtain ⟨r0, r1, r2, r3⟩ := BC.out
  go_wp2_with fail
  refine (lawItem_any x _ _ ⟨_, _, rfl, (M.out.keep (Keep.below HW.out))⟩).mono ?_
  rintro e' w2 ⟨⟨bb, rfl, hbb⟩, hb1⟩
  replace HW := Lib.hid (HW.out.trans (hb1.mono HW.out.size))
  replace BX := Lib.hid (BX.out.keep (Keep.below hb1))
  replace BC := Lib.hid (BC.out.keep (Keep.below hb1))
  clear q0 q1 q2 q3 r0 r1 r2 r3
  clear hb1
  cases bb with
  | false =>
    clear hbb
    go_wp2_with fail
    go_ret
    exact ⟨rfl, HW.out⟩
  | true =>
    have hlx := hbb rfl
    clear hbb
    obtain ⟨q0, q1, q2, q3⟩ := BX.out
    obtain ⟨r0, r1, r2, r3⟩ := BC.out
    go_wp2_with fail
    refine (lawClaim_any d _ _ ⟨_, _, rfl, (M'.out.keep (Keep.below HW.out))⟩).mono ?_
    rintro e' w3 ⟨⟨bb, rfl, hbb⟩, hb1⟩
    replace HW := Lib.hid (HW.out.trans (hb1.mono HW.out.size))
    replace BX := Lib.hid (BX.out.keep (Keep.below hb1))
    replace BC := Lib.hid (BC.out.keep (Keep.below hb1))
    clear q0 q1 q2 q3 r0 r1 r2 r3
    clear hb1
    cases bb with
    | false =>
      clear hbb
      go_wp2_with fail
      go_ret
      exact ⟨rfl, HW.out⟩
    | true =>
      have hld := hbb rfl
      clear hbb
      obtain ⟨q0, q1, q2, q3⟩ := BX.out
      obtain ⟨r0, r1, r2, r3⟩ := BC.out
      go_wp2_with fail
      refine (rCopyMarks_any x.marks p pc _ (M.out.keep (Keep.below HW.out)) (by omega)).mono ?_
      rintro e' w4 ⟨A4, c4, rfl, h4, -, hb1⟩
      replace HW := Lib.hid (HW.out.trans (hb1.mono HW.out.size))
      replace BX := Lib.hid (BX.out.keep (Keep.below hb1))
      replace BC := Lib.hid (BC.out.keep (Keep.below hb1))
      have H4 := Lib.hid h4
      clear h4
      clear q0 q1 q2 q3 r0 r1 r2 r3
      clear hb1
      obtain ⟨q0, q1, q2, q3⟩ := BX.out
      obtain ⟨r0, r1, r2, r3⟩ := BC.out
      go_wp2_with fail
      refine (xCheckMarks_any x.marks A4 c4 _ H4.out).mono ?_
      rintro e' w5 ⟨rfl, hb1⟩
      replace HW := Lib.hid (HW.out.trans (hb1.mono HW.out.size))
      replace BX := Lib.hid (BX.out.keep (Keep.below hb1))
      replace BC := Lib.hid (BC.out.keep (Keep.below hb1))
      replace H4 := Lib.hid (H4.out.keep (Keep.below hb1))
      clear q0 q1 q2 q3 r0 r1 r2 r3
      clear hb1
      clear H4
      obtain ⟨q0, q1, q2, q3⟩ := BX.out
      obtain ⟨r0, r1, r2, r3⟩ := BC.out
      go_wp2_with fail
      refine (rCheckMarks_any x.marks p pc _ (M.out.keep (Keep.below HW.out))).mono ?_
      rintro e' w6 ⟨rfl, hb1⟩
      replace HW := Lib.hid (HW.out.trans (hb1.mono HW.out.size))
      replace BX := Lib.hid (BX.out.keep (Keep.below hb1))
      replace BC := Lib.hid (BC.out.keep (Keep.below hb1))
      clear q0 q1 q2 q3 r0 r1 r2 r3
      clear hb1
      have heq := geqTwo
      obtain ⟨i0, hi, hz0, hz1, hz2⟩ := info_parts Tryz.infoPair
      have ee1 : ((marksErr x.marks) == (marksErr x.marks)) = true := by simp
      have ee1b : ((marksErr x.marks) != (marksErr x.marks)) = false := by simp
      have ee2 : (((marksAt x.marks : Int)) == ((marksAt x.marks : Int))) = true := by simp
      have ee2b : (((marksAt x.marks : Int)) != ((marksAt x.marks : Int))) = false := by simp
      have ee3 : ((thgErr x) == (thgErr x)) = true := by simp
      have ee3b : ((thgErr x) != (thgErr x)) = false := by simp
      have ee4 : ((thgErr d) == (thgErr d)) = true := by simp
      have ee4b : ((thgErr d) != (thgErr d)) = false := by simp
      obtain ⟨wA, hwA⟩ : ∃ wz, wz = w6 := ⟨_, rfl⟩
      subst hwA
      obtain ⟨q0, q1, q2, q3⟩ := BX.out
      obtain ⟨r0, r1, r2, r3⟩ := BC.out
      go_wp2_with fail
      have HBd : Hid (Below wA.heap.size wA wA.drew) := Lib.hid (Below.refl _ _).drew
      have MK : Hid (∀ w', Below wA.heap.size wA w' → w'.cell? ⟨w.heap.size, 0, none⟩ = some (.string x.name) ∧ w'.cell? ⟨w.heap.size, 0 + 1, none⟩ = some (.int .i64 x.day) ∧ w'.cell? ⟨w.heap.size, 0 + 2, none⟩ = some (.string x.who) ∧ w'.cell? ⟨w.heap.size, 0 + 3, none⟩ = some (.slice p x.marks.length pc) ∧ w'.cell? ⟨w.heap.size + 1, 0, none⟩ = some (.string d.name) ∧ w'.cell? ⟨w.heap.size + 1, 0 + 1, none⟩ = some (.int .i64 d.day) ∧ w'.cell? ⟨w.heap.size + 1, 0 + 2, none⟩ = some (.string d.who) ∧ w'.cell? ⟨w.heap.size + 1, 0 + 3, none⟩ = some (.slice p' d.marks.length pc') ∧ Hid (Below wA.heap.size wA w')) :=
        Lib.hid fun w' hw => ⟨Keep.below hw _ _ q0, Keep.below hw _ _ q1, Keep.below hw _ _ q2, Keep.below hw _ _ q3, Keep.below hw _ _ r0, Keep.below hw _ _ r1, Keep.below hw _ _ r2, Keep.below hw _ _ r3, Lib.hid hw⟩
      have KM : Hid (∀ w', Below wA.heap.size wA w' → ArrMk w' p x.marks pc) := Lib.hid fun w' hw => (M.out.keep (Keep.below (HW.out.trans (hw.mono HW.out.size))))
      have KC : Hid (∀ w', Below wA.heap.size wA w' → ArrMk w' p' d.marks pc') := Lib.hid fun w' hw => (M'.out.keep (Keep.below (HW.out.trans (hw.mono HW.out.size))))
      refine wp_region_held_drew (S := fun w' => w'.cell? ⟨w.heap.size, 0, none⟩ = some (.string x.name) ∧ w'.cell? ⟨w.heap.size, 0 + 1, none⟩ = some (.int .i64 x.day) ∧ w'.cell? ⟨w.heap.size, 0 + 2, none⟩ = some (.string x.who) ∧ w'.cell? ⟨w.heap.size, 0 + 3, none⟩ = some (.slice p x.marks.length pc) ∧ w'.cell? ⟨w.heap.size + 1, 0, none⟩ = some (.string d.name) ∧ w'.cell? ⟨w.heap.size + 1, 0 + 1, none⟩ = some (.int .i64 d.day) ∧ w'.cell? ⟨w.heap.size + 1, 0 + 2, none⟩ = some (.string d.who) ∧ w'.cell? ⟨w.heap.size + 1, 0 + 3, none⟩ = some (.slice p' d.marks.length pc') ∧ Hid (Below wA.heap.size wA w')) (by kernel_rfl) (MK.out _ HBd.out) (fun hHeld => ?_)
      refine wpAnyH_take (i := 0) (v := ?val0x1) rfl (by kernel_rfl) (by kernel_rfl) (by kernel_rfl) (fun _ _ _ h => h) (Or.inl ⟨by rfl, fun w9 hS9 => ?yields0x1⟩) (by assumption) ?later0x1
      case yields0x1 =>
        dsimp only at hS9
        go_simp
        try with_reducible rfl
      try simp only [Act.put, List.getElem_toArray, List.getElem_cons_succ, List.getElem_cons_zero, List.setIfInBounds_toArray, List.set_cons_zero, List.set_cons_succ]
      refine wpAnyH_take (i := 1) (v := ?val1x2) rfl (by kernel_rfl) (by kernel_rfl) (by kernel_rfl) (fun _ _ _ h => h) (Or.inl ⟨by rfl, fun w9 hS9 => ?yields1x2⟩) (by assumption) ?later1x2
      case yields1x2 =>
        dsimp only at hS9
        go_simp
        try with_reducible rfl
      try simp only [Act.put, List.getElem_toArray, List.getElem_cons_succ, List.getElem_cons_zero, List.setIfInBounds_toArray, List.set_cons_zero, List.set_cons_succ]
      refine wpAnyH_take (i := 2) (v := ?val2x3) rfl (by kernel_rfl) (by kernel_rfl) (by kernel_rfl) (fun _ _ _ h => h) (Or.inl ⟨by rfl, fun w9 hS9 => ?yields2x3⟩) (by assumption) ?later2x3
      case yields2x3 =>
        dsimp only at hS9
        go_simp
        try with_reducible rfl
      try simp only [Act.put, List.getElem_toArray, List.getElem_cons_succ, List.getElem_cons_zero, List.setIfInBounds_toArray, List.set_cons_zero, List.set_cons_succ]
      refine wpAnyH_take (i := 3) (v := ?val3x4) rfl (by kernel_rfl) (by kernel_rfl) (by kernel_rfl) (fun _ _ _ h => h) (Or.inl ⟨by rfl, fun w9 hS9 => ?yields3x4⟩) (by assumption) ?later3x4
      case yields3x4 =>
        dsimp only at hS9
        go_simp
        try with_reducible rfl
      try simp only [Act.put, List.getElem_toArray, List.getElem_cons_succ, List.getElem_cons_zero, List.setIfInBounds_toArray, List.set_cons_zero, List.set_cons_succ]
      refine wpAnyH_take (i := 4) (v := ?val4x5) rfl (by kernel_rfl) (by kernel_rfl) (by kernel_rfl) (fun _ _ _ h => h) (Or.inl ⟨by rfl, fun w9 hS9 => ?yields4x5⟩) (by assumption) ?later4x5
      case yields4x5 =>
        dsimp only at hS9
        go_simp
        try with_reducible rfl
      try simp only [Act.put, List.getElem_toArray, List.getElem_cons_succ, List.getElem_cons_zero, List.setIfInBounds_toArray, List.set_cons_zero, List.set_cons_succ]
      refine wpAnyH_take (i := 5) (v := ?val5x6) rfl (by kernel_rfl) (by kernel_rfl) (by kernel_rfl) (fun _ _ _ h => h) (Or.inl ⟨by rfl, fun w9 hS9 => ?yields5x6⟩) (by assumption) ?later5x6
      case yields5x6 =>
        dsimp only at hS9
        go_simp
        try with_reducible rfl
      try simp only [Act.put, List.getElem_toArray, List.getElem_cons_succ, List.getElem_cons_zero, List.setIfInBounds_toArray, List.set_cons_zero, List.set_cons_succ]
      refine wpAnyH_take (i := 6) (v := ?val6x7) rfl (by kernel_rfl) (by kernel_rfl) (by kernel_rfl) (fun _ _ _ h => h) (Or.inl ⟨by rfl, fun w9 hS9 => ?yields6x7⟩) (by assumption) ?later6x7
      case yields6x7 =>
        dsimp only at hS9
        go_simp
        try with_reducible rfl
      try simp only [Act.put, List.getElem_toArray, List.getElem_cons_succ, List.getElem_cons_zero, List.setIfInBounds_toArray, List.set_cons_zero, List.set_cons_succ]
      refine wpAnyH_take (i := 7) (v := ?val7x8) rfl (by kernel_rfl) (by kernel_rfl) (by kernel_rfl) (fun _ _ _ h => h) (Or.inl ⟨by rfl, fun w9 hS9 => ?yields7x8⟩) (by assumption) ?later7x8
      case yields7x8 =>
        dsimp only at hS9
        go_simp
        try with_reducible rfl
      try simp only [Act.put, List.getElem_toArray, List.getElem_cons_succ, List.getElem_cons_zero, List.setIfInBounds_toArray, List.set_cons_zero, List.set_cons_succ]
      refine wpAnyH_take (i := 8) (v := ?val8x9) rfl (by kernel_rfl) (by kernel_rfl) (by kernel_rfl) (fun _ _ _ h => h) (Or.inl ⟨by rfl, fun w9 hS9 => ?yields8x9⟩) (by assumption) ?later8x9
      case yields8x9 =>
        dsimp only at hS9
        go_simp
        try with_reducible rfl
      try simp only [Act.put, List.getElem_toArray, List.getElem_cons_succ, List.getElem_cons_zero, List.setIfInBounds_toArray, List.set_cons_zero, List.set_cons_succ]
      refine wpAnyH_take (i := 9) (v := ?val9x10) rfl (by kernel_rfl) (by kernel_rfl) (by kernel_rfl) (fun _ _ _ h => h) (Or.inl ⟨by rfl, fun w9 hS9 => ?yields9x10⟩) (by assumption) ?later9x10
      case yields9x10 =>
        dsimp only at hS9
        go_simp
        try with_reducible rfl
      try simp only [Act.put, List.getElem_toArray, List.getElem_cons_succ, List.getElem_cons_zero, List.setIfInBounds_toArray, List.set_cons_zero, List.set_cons_succ]
      refine wpAnyH_take (i := 12) (v := ?val12x11) rfl (by kernel_rfl) (by kernel_rfl) (by kernel_rfl) (fun _ _ _ h => h) (Or.inl ⟨by rfl, fun w9 hS9 => ?yields12x11⟩) (by assumption) ?later12x11
      case yields12x11 =>
        dsimp only at hS9
        go_simp
        try with_reducible rfl
      try simp only [Act.put, List.getElem_toArray, List.getElem_cons_succ, List.getElem_cons_zero, List.setIfInBounds_toArray, List.set_cons_zero, List.set_cons_succ]
      refine wpAnyH_ready (rs := [10]) (by kernel_rfl) (by simp) ?_
      refine AllReadyH.cons rfl (fun K hK => ?_) AllReadyH.nil
      go_simp
      go_at_call 22
      go_split_ands
      refine (rCopyItem_any x _ _ ⟨_, _, rfl, KM.out _ (Hid.out (by assumption))⟩ (by omega)).mono ?_
      rintro e' wz5 ⟨A5, c5, rfl, h5, -, hb1⟩
      have H5 := Lib.hid h5
      clear h5
      go_wp2_with fail
      refine hK.out _ _ ?_ (fun hHeld => ?_)
      · (try dsimp only)
        (go_split_ands; exact MK.out _ (Below.trans (Hid.out (by assumption)) (hb1.mono (Hid.out (by assumption) : Below wA.heap.size wA _).size)))
      clear hK K
      try simp only [Act.put, List.getElem_toArray, List.getElem_cons_succ, List.getElem_cons_zero, List.setIfInBounds_toArray, List.set_cons_zero, List.set_cons_succ]
      refine wpAnyH_ready (rs := [11]) (by kernel_rfl) (by simp) ?_
      refine AllReadyH.cons rfl (fun K hK => ?_) AllReadyH.nil
      go_simp
      go_at_call 21
      go_split_ands
      refine (xCheckItem_any x _ _ ⟨_, _, rfl, H5.out⟩).mono ?_
      rintro e' wz6 ⟨rfl, hb1⟩
      clear H5
      go_wp2_with fail
      refine hK.out _ _ ?_ (fun hHeld => ?_)
      · (try dsimp only)
        (go_split_ands; exact MK.out _ (Below.trans (Hid.out (by assumption)) (hb1.mono (Hid.out (by assumption) : Below wA.heap.size wA _).size)))
      clear hK K
      try simp only [Act.put, List.getElem_toArray, List.getElem_cons_succ, List.getElem_cons_zero, List.setIfInBounds_toArray, List.set_cons_zero, List.set_cons_succ]
      refine wpAnyH_ready (rs := [13]) (by kernel_rfl) (by simp) ?_
      refine AllReadyH.cons rfl (fun K hK => ?_) AllReadyH.nil
      go_simp
      go_at_call 23
      go_split_ands
      refine (rCheckItem_any x _ _ ⟨_, _, rfl, KM.out _ (Hid.out (by assumption))⟩).mono ?_
      rintro e' wz7 ⟨rfl, hb1⟩
      go_wp2_with fail
      refine hK.out _ _ ?_ (fun hHeld => ?_)
      · (try dsimp only)
        (go_split_ands; exact MK.out _ (Below.trans (Hid.out (by assumption)) (hb1.mono (Hid.out (by assumption) : Below wA.heap.size wA _).size)))
      clear hK K
      try simp only [Act.put, List.getElem_toArray, List.getElem_cons_succ, List.getElem_cons_zero, List.setIfInBounds_toArray, List.set_cons_zero, List.set_cons_succ]
      refine wpAnyH_take (i := 14) (v := ?val14x12) rfl (by kernel_rfl) (by kernel_rfl) (by kernel_rfl) (fun _ _ _ h => h) (Or.inl ⟨by rfl, fun w9 hS9 => ?yields14x12⟩) (by assumption) ?later14x12
      case yields14x12 =>
        dsimp only at hS9
        go_simp
        try with_reducible rfl
      try simp only [Act.put, List.getElem_toArray, List.getElem_cons_succ, List.getElem_cons_zero, List.setIfInBounds_toArray, List.set_cons_zero, List.set_cons_succ]
      refine wpAnyH_take (i := 15) (v := ?val15x13) rfl (by kernel_rfl) (by kernel_rfl) (by kernel_rfl) (fun _ _ _ h => h) (Or.inl ⟨by rfl, fun w9 hS9 => ?yields15x13⟩) (by assumption) ?later15x13
      case yields15x13 =>
        dsimp only at hS9
        go_simp
        try with_reducible rfl
      try simp only [Act.put, List.getElem_toArray, List.getElem_cons_succ, List.getElem_cons_zero, List.setIfInBounds_toArray, List.set_cons_zero, List.set_cons_succ]
      refine wpAnyH_take (i := 16) (v := ?val16x14) rfl (by kernel_rfl) (by kernel_rfl) (by kernel_rfl) (fun _ _ _ h => h) (Or.inl ⟨by rfl, fun w9 hS9 => ?yields16x14⟩) (by assumption) ?later16x14
      case yields16x14 =>
        dsimp only at hS9
        go_simp
        try with_reducible rfl
      try simp only [Act.put, List.getElem_toArray, List.getElem_cons_succ, List.getElem_cons_zero, List.setIfInBounds_toArray, List.set_cons_zero, List.set_cons_succ]
      refine wpAnyH_take (i := 17) (v := ?val17x15) rfl (by kernel_rfl) (by kernel_rfl) (by kernel_rfl) (fun _ _ _ h => h) (Or.inl ⟨by rfl, fun w9 hS9 => ?yields17x15⟩) (by assumption) ?later17x15
      case yields17x15 =>
        dsimp only at hS9
        go_simp
        try with_reducible rfl
      try simp only [Act.put, List.getElem_toArray, List.getElem_cons_succ, List.getElem_cons_zero, List.setIfInBounds_toArray, List.set_cons_zero, List.set_cons_succ]
      refine wpAnyH_take (i := 20) (v := ?val20x16) rfl (by kernel_rfl) (by kernel_rfl) (by kernel_rfl) (fun _ _ _ h => h) (Or.inl ⟨by rfl, fun w9 hS9 => ?yields20x16⟩) (by assumption) ?later20x16
      case yields20x16 =>
        dsimp only at hS9
        go_simp
        try with_reducible rfl
      try simp only [Act.put, List.getElem_toArray, List.getElem_cons_succ, List.getElem_cons_zero, List.setIfInBounds_toArray, List.set_cons_zero, List.set_cons_succ]
      refine wpAnyH_ready (rs := [18]) (by kernel_rfl) (by simp) ?_
      refine AllReadyH.cons rfl (fun K hK => ?_) AllReadyH.nil
      go_simp
      go_at_call 25
      go_split_ands
      refine (rCopyClaim_any d _ _ ⟨_, _, rfl, KC.out _ (Hid.out (by assumption))⟩ (by omega)).mono ?_
      rintro e' wz5 ⟨A5, c5, rfl, h5, -, hb1⟩
      have H5 := Lib.hid h5
      clear h5
      go_wp2_with fail
      refine hK.out _ _ ?_ (fun hHeld => ?_)
      · (try dsimp only)
        (go_split_ands; exact MK.out _ (Below.trans (Hid.out (by assumption)) (hb1.mono (Hid.out (by assumption) : Below wA.heap.size wA _).size)))
      clear hK K
      try simp only [Act.put, List.getElem_toArray, List.getElem_cons_succ, List.getElem_cons_zero, List.setIfInBounds_toArray, List.set_cons_zero, List.set_cons_succ]
      refine wpAnyH_ready (rs := [19]) (by kernel_rfl) (by simp) ?_
      refine AllReadyH.cons rfl (fun K hK => ?_) AllReadyH.nil
      go_simp
      go_at_call 24
      go_split_ands
      refine (xCheckClaim_any d _ _ ⟨_, _, rfl, H5.out⟩).mono ?_
      rintro e' wz6 ⟨rfl, hb1⟩
      clear H5
      go_wp2_with fail
      refine hK.out _ _ ?_ (fun hHeld => ?_)
      · (try dsimp only)
        (go_split_ands; exact MK.out _ (Below.trans (Hid.out (by assumption)) (hb1.mono (Hid.out (by assumption) : Below wA.heap.size wA _).size)))
      clear hK K
      try simp only [Act.put, List.getElem_toArray, List.getElem_cons_succ, List.getElem_cons_zero, List.setIfInBounds_toArray, List.set_cons_zero, List.set_cons_succ]
      refine wpAnyH_ready (rs := [21]) (by kernel_rfl) (by simp) ?_
      refine AllReadyH.cons rfl (fun K hK => ?_) AllReadyH.nil
      go_simp
      go_at_call 26
      go_split_ands
      refine (rCheckClaim_any d _ _ ⟨_, _, rfl, KC.out _ (Hid.out (by assumption))⟩).mono ?_
      rintro e' wz8 ⟨rfl, hb1⟩
      go_wp2_with fail
      refine hK.out _ _ ?_ (fun hHeld => ?_)
      · (try dsimp only)
        (go_split_ands; exact MK.out _ (Below.trans (Hid.out (by assumption)) (hb1.mono (Hid.out (by assumption) : Below wA.heap.size wA _).size)))
      clear hK K
      try simp only [Act.put, List.getElem_toArray, List.getElem_cons_succ, List.getElem_cons_zero, List.setIfInBounds_toArray, List.set_cons_zero, List.set_cons_succ]
      refine wpAnyH_take (i := 22) (v := ?val22x17) rfl (by kernel_rfl) (by kernel_rfl) (by kernel_rfl) (fun _ _ _ h => h) (Or.inl ⟨by rfl, fun w9 hS9 => ?yields22x17⟩) (by assumption) ?later22x17
      case yields22x17 =>
        dsimp only at hS9
        go_simp
        try with_reducible rfl
      try simp only [Act.put, List.getElem_toArray, List.getElem_cons_succ, List.getElem_cons_zero, List.setIfInBounds_toArray, List.set_cons_zero, List.set_cons_succ]
      refine wpAnyH_take (i := 23) (v := ?val23x18) rfl (by kernel_rfl) (by kernel_rfl) (by kernel_rfl) (fun _ _ _ h => h) (Or.inl ⟨by rfl, fun w9 hS9 => ?yields23x18⟩) (by assumption) ?later23x18
      case yields23x18 =>
        dsimp only at hS9
        go_simp
        try with_reducible rfl
      try simp only [Act.put, List.getElem_toArray, List.getElem_cons_succ, List.getElem_cons_zero, List.setIfInBounds_toArray, List.set_cons_zero, List.set_cons_succ]
      refine wpAnyH_done (by kernel_rfl) ?_ _
      obtain ⟨-, -, -, -, -, -, -, -, HB⟩ := hHeld
      clear HBd MK
      clear KM KC
      replace HW := Lib.hid (HW.out.trans (HB.out.mono HW.out.size))
      replace BX := Lib.hid (BX.out.keep (Keep.below HB.out))
      replace BC := Lib.hid (BC.out.keep (Keep.below HB.out))
      clear HB
      clear q0 q1 q2 q3 r0 r1 r2 r3
      obtain ⟨wB, hwB⟩ : ∃ wz, wz = wz8 := ⟨_, rfl⟩
      subst hwB
      obtain ⟨q0, q1, q2, q3⟩ := BX.out
      obtain ⟨r0, r1, r2, r3⟩ := BC.out
      go_wp2_with fail
      go_cut [9, 10] from 61 to 69 (fun s1 s2 wx => ∃ g : Nat, s1 = .pointer (some ⟨g, 0, none⟩) ∧ s2 = .int .i64 (agErr x.marks d.marks) ∧ wB.heap.size ≤ g ∧ Hid (TwoAt wx g (.int .i64 (agOut x.marks d.marks).1) (.int .i64 (agOut x.marks d.marks).2)) ∧ Hid (Below wB.heap.size wB wx))
      case first =>
        have HBd : Hid (Below wB.heap.size wB wB.drew) := Lib.hid (Below.refl _ _).drew
        have MK : Hid (∀ w', Below wB.heap.size wB w' → w'.cell? ⟨w.heap.size, 0, none⟩ = some (.string x.name) ∧ w'.cell? ⟨w.heap.size, 0 + 1, none⟩ = some (.int .i64 x.day) ∧ w'.cell? ⟨w.heap.size, 0 + 2, none⟩ = some (.string x.who) ∧ w'.cell? ⟨w.heap.size, 0 + 3, none⟩ = some (.slice p x.marks.length pc) ∧ w'.cell? ⟨w.heap.size + 1, 0, none⟩ = some (.string d.name) ∧ w'.cell? ⟨w.heap.size + 1, 0 + 1, none⟩ = some (.int .i64 d.day) ∧ w'.cell? ⟨w.heap.size + 1, 0 + 2, none⟩ = some (.string d.who) ∧ w'.cell? ⟨w.heap.size + 1, 0 + 3, none⟩ = some (.slice p' d.marks.length pc') ∧ Hid (Below wB.heap.size wB w')) :=
          Lib.hid fun w' hw => ⟨Keep.below hw _ _ q0, Keep.below hw _ _ q1, Keep.below hw _ _ q2, Keep.below hw _ _ q3, Keep.below hw _ _ r0, Keep.below hw _ _ r1, Keep.below hw _ _ r2, Keep.below hw _ _ r3, Lib.hid hw⟩
        have KM : Hid (∀ w', Below wB.heap.size wB w' → ArrMk w' p x.marks pc) := Lib.hid fun w' hw => (M.out.keep (Keep.below (HW.out.trans (hw.mono HW.out.size))))
        have KC : Hid (∀ w', Below wB.heap.size wB w' → ArrMk w' p' d.marks pc') := Lib.hid fun w' hw => (M'.out.keep (Keep.below (HW.out.trans (hw.mono HW.out.size))))
        go_region_held3 (fun w' => w'.cell? ⟨w.heap.size, 0, none⟩ = some (.string x.name) ∧ w'.cell? ⟨w.heap.size, 0 + 1, none⟩ = some (.int .i64 x.day) ∧ w'.cell? ⟨w.heap.size, 0 + 2, none⟩ = some (.string x.who) ∧ w'.cell? ⟨w.heap.size, 0 + 3, none⟩ = some (.slice p x.marks.length pc) ∧ w'.cell? ⟨w.heap.size + 1, 0, none⟩ = some (.string d.name) ∧ w'.cell? ⟨w.heap.size + 1, 0 + 1, none⟩ = some (.int .i64 d.day) ∧ w'.cell? ⟨w.heap.size + 1, 0 + 2, none⟩ = some (.string d.who) ∧ w'.cell? ⟨w.heap.size + 1, 0 + 3, none⟩ = some (.slice p' d.marks.length pc') ∧ Hid (Below wB.heap.size wB w'))
          (first
            | exact MK.out _ HBd.out
            | (go_split_ands; exact ⟨by assumption, by assumption, by assumption, by assumption, by assumption, by assumption, by assumption, by assumption, by assumption⟩)
            | (go_split_ands; exact MK.out _ (Below.trans (Hid.out (by assumption)) (hb1.mono (Hid.out (by assumption) : Below wB.heap.size wB _).size)))
            | (go_split_ands; exact MK.out _ (Below.alloc (Hid.out (by assumption)) (Hid.out (by assumption) : Below wB.heap.size wB _).size _))
            | (go_split_ands; exact MK.out _ (gbelow_realloc (Hid.out (by assumption)) hle _))
            | (go_split_ands; exact MK.out _ (Below.setCell (Below.setCell (Hid.out (by assumption)) (by show wB.heap.size ≤ _; first | exact Nat.le_refl _ | assumption | omega | (simp; done) | (simp; omega)) _) (by show wB.heap.size ≤ _; first | exact Nat.le_refl _ | assumption | omega | (simp; done) | (simp; omega)) _)))
          ((first
            | (go_at_call 19
               go_split_ands
               with_reducible refine (rCopyMarks_any x.marks p pc _ (KM.out _ (Hid.out (by assumption))) (by omega)).mono ?_
               rintro e' wz5 ⟨A5, c5, rfl, h5, -, hb1⟩
               have hle := Nat.le_trans (Hid.out (by assumption) : Below wB.heap.size wB _).size hb1.size
               have H5 := Lib.hid h5
               clear h5
               try (have H6 := Lib.hid (by first | exact H6.out.keep (Keep.below hb1) | exact (H6.out.keep (Keep.alloc _ _)).keep (Keep.below hb1) : ArrMk wz5 A6 d.marks c6))
               try (first
                 | (have HT0 := (HT.out.keep hb1 : TwoAt _ _ (.int .i64 0) (.int .i64 0)); (try simp only [gsize_drew] at HT0); (try simp only [World.size_alloc] at HT0); (try simp only [gsize_drew] at HT0); have HT := Lib.hid HT0; clear HT0; obtain ⟨q0, q1, qf0, qf1⟩ := HT.out)
                 | (have HT0 := ((TwoAt.new _ _ _ 42).keep hb1 : TwoAt _ _ (.int .i64 0) (.int .i64 0)); (try simp only [gsize_drew] at HT0); (try simp only [World.size_alloc] at HT0); (try simp only [gsize_drew] at HT0); have HT := Lib.hid HT0; clear HT0; obtain ⟨q0, q1, qf0, qf1⟩ := HT.out)
                 | (have HT0 := ((TwoAt.new _ _ _ 42).keepD hb1 : TwoAt _ _ (.int .i64 0) (.int .i64 0)); (try simp only [gsize_drew] at HT0); (try simp only [World.size_alloc] at HT0); (try simp only [gsize_drew] at HT0); have HT := Lib.hid HT0; clear HT0; obtain ⟨q0, q1, qf0, qf1⟩ := HT.out)))
            | (go_at_call 19
               go_split_ands
               with_reducible refine (rCopyMarks_any d.marks p' pc' _ (KC.out _ (Hid.out (by assumption))) (by omega)).mono ?_
               rintro e' wz6 ⟨A6, c6, rfl, h6, -, hb1⟩
               have hle := Nat.le_trans (Hid.out (by assumption) : Below wB.heap.size wB _).size hb1.size
               have H6 := Lib.hid h6
               clear h6
               try (have H5 := Lib.hid (by first | exact H5.out.keep (Keep.below hb1) | exact (H5.out.keep (Keep.alloc _ _)).keep (Keep.below hb1) : ArrMk wz6 A5 x.marks c5))
               try (first
                 | (have HT0 := (HT.out.keep hb1 : TwoAt _ _ (.int .i64 0) (.int .i64 0)); (try simp only [gsize_drew] at HT0); (try simp only [World.size_alloc] at HT0); (try simp only [gsize_drew] at HT0); have HT := Lib.hid HT0; clear HT0; obtain ⟨q0, q1, qf0, qf1⟩ := HT.out)
                 | (have HT0 := ((TwoAt.new _ _ _ 42).keep hb1 : TwoAt _ _ (.int .i64 0) (.int .i64 0)); (try simp only [gsize_drew] at HT0); (try simp only [World.size_alloc] at HT0); (try simp only [gsize_drew] at HT0); have HT := Lib.hid HT0; clear HT0; obtain ⟨q0, q1, qf0, qf1⟩ := HT.out)
                 | (have HT0 := ((TwoAt.new _ _ _ 42).keepD hb1 : TwoAt _ _ (.int .i64 0) (.int .i64 0)); (try simp only [gsize_drew] at HT0); (try simp only [World.size_alloc] at HT0); (try simp only [gsize_drew] at HT0); have HT := Lib.hid HT0; clear HT0; obtain ⟨q0, q1, qf0, qf1⟩ := HT.out)))
            | (go_at_call 27
               go_split_ands
               refine (xAgreement_any x.marks d.marks _ _ _ _ _ (by first | exact H5.out | exact H5.out.keep (Keep.alloc _ _)) (by first | exact H6.out | exact H6.out.keep (Keep.alloc _ _))).mono ?_
               rintro e' wz7 ⟨rfl, hb1⟩
               have hle := Nat.le_trans (Hid.out (by assumption) : Below wB.heap.size wB _).size hb1.size
               try (first
                 | (have HT0 := (HT.out.keep hb1 : TwoAt _ _ (.int .i64 0) (.int .i64 0)); (try simp only [gsize_drew] at HT0); (try simp only [World.size_alloc] at HT0); (try simp only [gsize_drew] at HT0); have HT := Lib.hid HT0; clear HT0; obtain ⟨q0, q1, qf0, qf1⟩ := HT.out)
                 | (have HT0 := ((TwoAt.new _ _ _ 42).keep hb1 : TwoAt _ _ (.int .i64 0) (.int .i64 0)); (try simp only [gsize_drew] at HT0); (try simp only [World.size_alloc] at HT0); (try simp only [gsize_drew] at HT0); have HT := Lib.hid HT0; clear HT0; obtain ⟨q0, q1, qf0, qf1⟩ := HT.out)
                 | (have HT0 := ((TwoAt.new _ _ _ 42).keepD hb1 : TwoAt _ _ (.int .i64 0) (.int .i64 0)); (try simp only [gsize_drew] at HT0); (try simp only [World.size_alloc] at HT0); (try simp only [gsize_drew] at HT0); have HT := Lib.hid HT0; clear HT0; obtain ⟨q0, q1, qf0, qf1⟩ := HT.out)))))
        all_goals
          rename_i hS
          obtain ⟨-, -, -, -, -, -, -, -, hbb⟩ := hS
          go_wp2_with fail
          go_meet
          first
            | exact ⟨_, rfl, rfl, by omega, Lib.hid (TwoAt.new _ _ _ _), hbb⟩
            | exact ⟨_, rfl, rfl, by omega, Lib.hid (HT.out.set _ _), hbb⟩
      case rest =>
        obtain ⟨gHO, rfl, rfl, hgHO, HO, HB⟩ := hcut
        obtain ⟨wC, hwC⟩ : ∃ wz, wz = wc := ⟨_, rfl⟩
        subst hwC
        replace HW := Lib.hid (HW.out.trans (HB.out.mono HW.out.size))
        replace BX := Lib.hid (BX.out.keep (Keep.below HB.out))
        replace BC := Lib.hid (BC.out.keep (Keep.below HB.out))
        clear HB
        clear q0 q1 q2 q3 r0 r1 r2 r3
        obtain ⟨q0, q1, q2, q3⟩ := BX.out
        obtain ⟨r0, r1, r2, r3⟩ := BC.out
        obtain ⟨o0, o1, -, -⟩ := HO.out
        go_wp2_with fail
        go_cut [11, 12] from 71 to 79 (fun s1 s2 wx => ∃ g : Nat, s1 = .pointer (some ⟨g, 0, none⟩) ∧ s2 = .int .i64 (agErr d.marks x.marks) ∧ wC.heap.size ≤ g ∧ Hid (TwoAt wx g (.int .i64 (agOut d.marks x.marks).1) (.int .i64 (agOut d.marks x.marks).2)) ∧ Hid (Below wC.heap.size wC wx))
        case first =>
          have HBd : Hid (Below wC.heap.size wC wC.drew) := Lib.hid (Below.refl _ _).drew
          have MK : Hid (∀ w', Below wC.heap.size wC w' → w'.cell? ⟨w.heap.size, 0, none⟩ = some (.string x.name) ∧ w'.cell? ⟨w.heap.size, 0 + 1, none⟩ = some (.int .i64 x.day) ∧ w'.cell? ⟨w.heap.size, 0 + 2, none⟩ = some (.string x.who) ∧ w'.cell? ⟨w.heap.size, 0 + 3, none⟩ = some (.slice p x.marks.length pc) ∧ w'.cell? ⟨w.heap.size + 1, 0, none⟩ = some (.string d.name) ∧ w'.cell? ⟨w.heap.size + 1, 0 + 1, none⟩ = some (.int .i64 d.day) ∧ w'.cell? ⟨w.heap.size + 1, 0 + 2, none⟩ = some (.string d.who) ∧ w'.cell? ⟨w.heap.size + 1, 0 + 3, none⟩ = some (.slice p' d.marks.length pc') ∧ Hid (Below wC.heap.size wC w')) :=
            Lib.hid fun w' hw => ⟨Keep.below hw _ _ q0, Keep.below hw _ _ q1, Keep.below hw _ _ q2, Keep.below hw _ _ q3, Keep.below hw _ _ r0, Keep.below hw _ _ r1, Keep.below hw _ _ r2, Keep.below hw _ _ r3, Lib.hid hw⟩
          have KM : Hid (∀ w', Below wC.heap.size wC w' → ArrMk w' p x.marks pc) := Lib.hid fun w' hw => (M.out.keep (Keep.below (HW.out.trans (hw.mono HW.out.size))))
          have KC : Hid (∀ w', Below wC.heap.size wC w' → ArrMk w' p' d.marks pc') := Lib.hid fun w' hw => (M'.out.keep (Keep.below (HW.out.trans (hw.mono HW.out.size))))
          go_region_held3 (fun w' => w'.cell? ⟨w.heap.size, 0, none⟩ = some (.string x.name) ∧ w'.cell? ⟨w.heap.size, 0 + 1, none⟩ = some (.int .i64 x.day) ∧ w'.cell? ⟨w.heap.size, 0 + 2, none⟩ = some (.string x.who) ∧ w'.cell? ⟨w.heap.size, 0 + 3, none⟩ = some (.slice p x.marks.length pc) ∧ w'.cell? ⟨w.heap.size + 1, 0, none⟩ = some (.string d.name) ∧ w'.cell? ⟨w.heap.size + 1, 0 + 1, none⟩ = some (.int .i64 d.day) ∧ w'.cell? ⟨w.heap.size + 1, 0 + 2, none⟩ = some (.string d.who) ∧ w'.cell? ⟨w.heap.size + 1, 0 + 3, none⟩ = some (.slice p' d.marks.length pc') ∧ Hid (Below wC.heap.size wC w'))
            (first
              | exact MK.out _ HBd.out
              | (go_split_ands; exact ⟨by assumption, by assumption, by assumption, by assumption, by assumption, by assumption, by assumption, by assumption, by assumption⟩)
              | (go_split_ands; exact MK.out _ (Below.trans (Hid.out (by assumption)) (hb1.mono (Hid.out (by assumption) : Below wC.heap.size wC _).size)))
              | (go_split_ands; exact MK.out _ (Below.alloc (Hid.out (by assumption)) (Hid.out (by assumption) : Below wC.heap.size wC _).size _))
              | (go_split_ands; exact MK.out _ (gbelow_realloc (Hid.out (by assumption)) hle _))
              | (go_split_ands; exact MK.out _ (Below.setCell (Below.setCell (Hid.out (by assumption)) (by show wC.heap.size ≤ _; first | exact Nat.le_refl _ | assumption | omega | (simp; done) | (simp; omega)) _) (by show wC.heap.size ≤ _; first | exact Nat.le_refl _ | assumption | omega | (simp; done) | (simp; omega)) _)))
            ((first
              | (go_at_call 19
                 go_split_ands
                 with_reducible refine (rCopyMarks_any x.marks p pc _ (KM.out _ (Hid.out (by assumption))) (by omega)).mono ?_
                 rintro e' wz5 ⟨A5, c5, rfl, h5, -, hb1⟩
                 have hle := Nat.le_trans (Hid.out (by assumption) : Below wC.heap.size wC _).size hb1.size
                 have H5 := Lib.hid h5
                 clear h5
                 try (have H6 := Lib.hid (by first | exact H6.out.keep (Keep.below hb1) | exact (H6.out.keep (Keep.alloc _ _)).keep (Keep.below hb1) : ArrMk wz5 A6 d.marks c6))
                 try (first
                   | (have HT0 := (HT.out.keep hb1 : TwoAt _ _ (.int .i64 0) (.int .i64 0)); (try simp only [gsize_drew] at HT0); (try simp only [World.size_alloc] at HT0); (try simp only [gsize_drew] at HT0); have HT := Lib.hid HT0; clear HT0; obtain ⟨q0, q1, qf0, qf1⟩ := HT.out)
                   | (have HT0 := ((TwoAt.new _ _ _ 42).keep hb1 : TwoAt _ _ (.int .i64 0) (.int .i64 0)); (try simp only [gsize_drew] at HT0); (try simp only [World.size_alloc] at HT0); (try simp only [gsize_drew] at HT0); have HT := Lib.hid HT0; clear HT0; obtain ⟨q0, q1, qf0, qf1⟩ := HT.out)
                   | (have HT0 := ((TwoAt.new _ _ _ 42).keepD hb1 : TwoAt _ _ (.int .i64 0) (.int .i64 0)); (try simp only [gsize_drew] at HT0); (try simp only [World.size_alloc] at HT0); (try simp only [gsize_drew] at HT0); have HT := Lib.hid HT0; clear HT0; obtain ⟨q0, q1, qf0, qf1⟩ := HT.out)))
              | (go_at_call 19
                 go_split_ands
                 with_reducible refine (rCopyMarks_any d.marks p' pc' _ (KC.out _ (Hid.out (by assumption))) (by omega)).mono ?_
                 rintro e' wz6 ⟨A6, c6, rfl, h6, -, hb1⟩
                 have hle := Nat.le_trans (Hid.out (by assumption) : Below wC.heap.size wC _).size hb1.size
                 have H6 := Lib.hid h6
                 clear h6
                 try (have H5 := Lib.hid (by first | exact H5.out.keep (Keep.below hb1) | exact (H5.out.keep (Keep.alloc _ _)).keep (Keep.below hb1) : ArrMk wz6 A5 x.marks c5))
                 try (first
                   | (have HT0 := (HT.out.keep hb1 : TwoAt _ _ (.int .i64 0) (.int .i64 0)); (try simp only [gsize_drew] at HT0); (try simp only [World.size_alloc] at HT0); (try simp only [gsize_drew] at HT0); have HT := Lib.hid HT0; clear HT0; obtain ⟨q0, q1, qf0, qf1⟩ := HT.out)
                   | (have HT0 := ((TwoAt.new _ _ _ 42).keep hb1 : TwoAt _ _ (.int .i64 0) (.int .i64 0)); (try simp only [gsize_drew] at HT0); (try simp only [World.size_alloc] at HT0); (try simp only [gsize_drew] at HT0); have HT := Lib.hid HT0; clear HT0; obtain ⟨q0, q1, qf0, qf1⟩ := HT.out)
                   | (have HT0 := ((TwoAt.new _ _ _ 42).keepD hb1 : TwoAt _ _ (.int .i64 0) (.int .i64 0)); (try simp only [gsize_drew] at HT0); (try simp only [World.size_alloc] at HT0); (try simp only [gsize_drew] at HT0); have HT := Lib.hid HT0; clear HT0; obtain ⟨q0, q1, qf0, qf1⟩ := HT.out)))
              | (go_at_call 27
                 go_split_ands
                 refine (xAgreement_any d.marks x.marks _ _ _ _ _ (by first | exact H6.out | exact H6.out.keep (Keep.alloc _ _)) (by first | exact H5.out | exact H5.out.keep (Keep.alloc _ _))).mono ?_
                 rintro e' wz7 ⟨rfl, hb1⟩
                 have hle := Nat.le_trans (Hid.out (by assumption) : Below wC.heap.size wC _).size hb1.size
                 try (first
                   | (have HT0 := (HT.out.keep hb1 : TwoAt _ _ (.int .i64 0) (.int .i64 0)); (try simp only [gsize_drew] at HT0); (try simp only [World.size_alloc] at HT0); (try simp only [gsize_drew] at HT0); have HT := Lib.hid HT0; clear HT0; obtain ⟨q0, q1, qf0, qf1⟩ := HT.out)
                   | (have HT0 := ((TwoAt.new _ _ _ 42).keep hb1 : TwoAt _ _ (.int .i64 0) (.int .i64 0)); (try simp only [gsize_drew] at HT0); (try simp only [World.size_alloc] at HT0); (try simp only [gsize_drew] at HT0); have HT := Lib.hid HT0; clear HT0; obtain ⟨q0, q1, qf0, qf1⟩ := HT.out)
                   | (have HT0 := ((TwoAt.new _ _ _ 42).keepD hb1 : TwoAt _ _ (.int .i64 0) (.int .i64 0)); (try simp only [gsize_drew] at HT0); (try simp only [World.size_alloc] at HT0); (try simp only [gsize_drew] at HT0); have HT := Lib.hid HT0; clear HT0; obtain ⟨q0, q1, qf0, qf1⟩ := HT.out)))))
          all_goals
            rename_i hS
            obtain ⟨-, -, -, -, -, -, -, -, hbb⟩ := hS
            go_wp2_with fail
            go_meet
            first
              | exact ⟨_, rfl, rfl, by omega, Lib.hid (TwoAt.new _ _ _ _), hbb⟩
              | exact ⟨_, rfl, rfl, by omega, Lib.hid (HT.out.set _ _), hbb⟩
        case rest =>
          obtain ⟨gHP, rfl, rfl, hgHP, HP, HB⟩ := hcut
          obtain ⟨wD, hwD⟩ : ∃ wz, wz = wc := ⟨_, rfl⟩
          subst hwD
          replace HW := Lib.hid (HW.out.trans (HB.out.mono HW.out.size))
          replace BX := Lib.hid (BX.out.keep (Keep.below HB.out))
          replace BC := Lib.hid (BC.out.keep (Keep.below HB.out))
          replace HO := Lib.hid (HO.out.keep HB.out)
          clear HB
          clear q0 q1 q2 q3 r0 r1 r2 r3 o0 o1
          by_cases he : marksErr x.marks = 0
          · have HX0 := Lib.hid he
            rw [he]
            clear he
            obtain ⟨q0, q1, q2, q3⟩ := BX.out
            obtain ⟨r0, r1, r2, r3⟩ := BC.out
            obtain ⟨o0, o1, -, -⟩ := HO.out
            obtain ⟨s0, s1, -, -⟩ := HP.out
            go_wp2_with fail
            refine (rMarksErr_any d.marks p' pc' _ (M'.out.keep (Keep.below HW.out))).mono ?_
            rintro e' w8 ⟨rfl, hb1⟩
            replace HW := Lib.hid (HW.out.trans (hb1.mono HW.out.size))
            replace BX := Lib.hid (BX.out.keep (Keep.below hb1))
            replace BC := Lib.hid (BC.out.keep (Keep.below hb1))
            replace HO := Lib.hid (HO.out.keep hb1)
            replace HP := Lib.hid (HP.out.keep hb1)
            clear q0 q1 q2 q3 r0 r1 r2 r3 o0 o1 s0 s1
            clear hb1
            by_cases he : marksErr d.marks = 0
            · have HD0 := Lib.hid he
              rw [he]
              clear he
              have F := Lib.hid (show agErr x.marks d.marks = 0 by unfold agErr; rw [if_neg (fun hh => hh HX0.out)]; exact HD0.out)
              have G := Lib.hid (agErr_comm.1 F.out)
              have O1 := Lib.hid (show agOut x.marks d.marks = (agrees x.marks d.marks, differs x.marks d.marks) from if_pos F.out)
              have O2 := Lib.hid (agOut_comm (a := d.marks) (b := x.marks) |>.trans O1.out)
              rw [O1.out] at HO
              rw [O2.out] at HP
              rw [F.out, G.out]
              have ee5 : ((agrees x.marks d.marks) == (agrees x.marks d.marks)) = true := by simp
              have ee5b : ((agrees x.marks d.marks) != (agrees x.marks d.marks)) = false := by simp
              have ee6 : ((differs x.marks d.marks) == (differs x.marks d.marks)) = true := by simp
              have ee6b : ((differs x.marks d.marks) != (differs x.marks d.marks)) = false := by simp
              obtain ⟨q0, q1, q2, q3⟩ := BX.out
              obtain ⟨r0, r1, r2, r3⟩ := BC.out
              obtain ⟨o0, o1, -, -⟩ := HO.out
              obtain ⟨s0, s1, -, -⟩ := HP.out
              go_wp2_with fail
              obtain ⟨C, Ci, Co⟩ := classOf w8
              refine quietC (C := C) (by kernel_rfl) (by kernel_rfl) (Co.out _ (Below.refl _ _).drew) ?_
              repeat (first
                | go_big_quiet_skip
                | (go_big_quiet_want; go_big_quiet_op; go_big_quiet_on)
                | (refine quiet_yes (by rfl) ?_
                   apply Exists.intro
                   refine ⟨fun w' hC => ?_, ?_⟩
                   · have hbb := Ci.out _ hC
                     have zz0 := Keep.below hbb _ _ q0
                     have zz1 := Keep.below hbb _ _ q1
                     have zz2 := Keep.below hbb _ _ q2
                     have zz3 := Keep.below hbb _ _ q3
                     have zz4 := Keep.below hbb _ _ r0
                     have zz5 := Keep.below hbb _ _ r1
                     have zz6 := Keep.below hbb _ _ r2
                     have zz7 := Keep.below hbb _ _ r3
                     have zz8 := Keep.below hbb _ _ o0
                     have zz9 := Keep.below hbb _ _ o1
                     have zz10 := Keep.below hbb _ _ s0
                     have zz11 := Keep.below hbb _ _ s1
                     go_simp
                     first
                       | done
                       | rfl
                       | (go_at_call 29
                          refine (rAgreement_any x.marks d.marks _ _ _ _ _ (M.out.keep (Keep.below (HW.out.trans (hbb.mono HW.out.size)))) (M'.out.keep (Keep.below (HW.out.trans (hbb.mono HW.out.size)))) (by omega) (by omega)).mono ?_
                          rintro e' w1 ⟨rfl, hb1⟩
                          exact ⟨rfl, Co.out _ (hbb.trans (hb1.mono hbb.size))⟩)
                   simp only [Act.put, List.setIfInBounds_toArray, List.set_cons_zero, List.set_cons_succ]))
              refine wpQuiet_nil ?_
              intro wz hC1
              have HBY := Lib.hid (HW.out.trans ((Ci.out _ hC1).mono HW.out.size))
              clear hC1 Ci Co
              go_wp2_with fail
              go_ret
              exact ⟨rfl, HBY.out⟩
            · have F := Lib.hid (show agErr x.marks d.marks = marksErr d.marks from by unfold agErr; rw [if_neg (fun hh => hh HX0.out)])
              have G := Lib.hid (show agErr d.marks x.marks ≠ 0 from fun hh => by have := agErr_comm.1 hh; rw [F.out] at this; exact he this)
              have O1 := Lib.hid (show agOut x.marks d.marks = (0, 0) from if_neg (by rw [F.out]; exact he))
              have O2 := Lib.hid (show agOut d.marks x.marks = (0, 0) from if_neg G.out)
              rw [O1.out] at HO
              rw [O2.out] at HP
              rw [F.out]
              have e1 : (marksErr d.marks == 0) = false := by simpa using he
              have e2 : (marksErr d.marks != 0) = true := by simpa using he
              clear he
              have ee9 : ((marksErr d.marks) == (marksErr d.marks)) = true := by simp
              have ee9b : ((marksErr d.marks) != (marksErr d.marks)) = false := by simp
              obtain ⟨q0, q1, q2, q3⟩ := BX.out
              obtain ⟨r0, r1, r2, r3⟩ := BC.out
              obtain ⟨o0, o1, -, -⟩ := HO.out
              obtain ⟨s0, s1, -, -⟩ := HP.out
              go_wp2_with fail
              go_ret
              exact ⟨rfl, HW.out⟩
          · have F := Lib.hid (show agErr x.marks d.marks = marksErr x.marks from if_pos he)
            have G := Lib.hid (show agErr d.marks x.marks ≠ 0 from fun hh => by have := agErr_comm.1 hh; rw [F.out] at this; exact he this)
            have O1 := Lib.hid (show agOut x.marks d.marks = (0, 0) from if_neg (by rw [F.out]; exact he))
            have O2 := Lib.hid (show agOut d.marks x.marks = (0, 0) from if_neg G.out)
            rw [O1.out] at HO
            rw [O2.out] at HP
            rw [F.out]
            have e1 : (marksErr x.marks == 0) = false := by simpa using he
            have e2 : (marksErr x.marks != 0) = true := by simpa using he
            clear he
            have ee9 : ((marksErr x.marks) == (marksErr x.marks)) = true := by simp
            have ee9b : ((marksErr x.marks) != (marksErr x.marks)) = false := by simp
            obtain ⟨q0, q1, q2, q3⟩ := BX.out
            obtain ⟨r0, r1, r2, r3⟩ := BC.out
            obtain ⟨o0, o1, -, -⟩ := HO.out
            obtain ⟨s0, s1, -, -⟩ := HP.out
            go_wp2_with fail
            go_ret
            exact ⟨rfl, HW.out⟩
end Go.Proofs.YtfjdnbnalihjiaaGreatDoor

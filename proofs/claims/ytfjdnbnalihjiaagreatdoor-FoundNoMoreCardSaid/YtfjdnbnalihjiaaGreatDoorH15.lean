/- The law of covers: no more pairs than a cover has. No condition. -/
import Derived.Test.YtfjdnbnalihjiaaGreatDoorG13
import Derived.Test.YtfjdnbnalihjiaaGreatDoorH2
import Derived.Test.YtfjdnbnalihjiaaGreatDoorK16
namespace Go.Proofs.YtfjdnbnalihjiaaGreatDoor
open Go.RowKit Fs

structure PrfIn (w : World) (g : Nat) (u v z : Value) : Prop where
  c0 : w.cell? ⟨g, 0, none⟩ = some u
  c1 : w.cell? ⟨g, 1, none⟩ = some v
  c2 : w.cell? ⟨g, 2, none⟩ = some z
theorem PrfIn.keep {w w' : World} (k : Keep w w') {g : Nat} {u v z : Value} (m : PrfIn w g u v z) : PrfIn w' g u v z := ⟨k _ _ m.c0, k _ _ m.c1, k _ _ m.c2⟩
set_option linter.unusedSimpArgs false in
set_option maxHeartbeats 12800000 in
set_option maxRecDepth 100000 in
theorem lawNoMore_any (l d : List Thg) (p : List (Int × Int)) (s t : List Int) (A B P S T : Option Addr) (c e pc sc tc : Nat) (a b : GA) (w : World) (h : ArrTh w A l c a) (h2 : ArrTh w B d e b) (h3 : ArrPr w P p pc) (h4 : ArrI w S s sc) (h5 : ArrI w T t tc) (tbs : TabSt w) :
    Calls Tryz.prog 7 #[.slice A l.length c, .slice B d.length e, .agg #[.slice P p.length pc, .slice S s.length sc, .slice T t.length tc]] w fun e w' => e = .returned (.bool true) ∧ Below w.heap.size w w' := by
  have b1 := h.le.1
  have b2 := h.le.2
  have b3 := h2.le.1
  have b4 := h2.le.2
  have HA := Lib.hid h
  have HA2 := Lib.hid h2
  have HP := Lib.hid h3
  have HS := Lib.hid h4
  have HT := Lib.hid h5
  have TBS := Lib.hid tbs
  have BX := Lib.hid (show PrfIn (w.alloc (.cells #[.slice P p.length pc, .slice S s.length sc, .slice T t.length tc] 72)) w.heap.size (.slice P p.length pc) (.slice S s.length sc) (.slice T t.length tc) from ⟨cellNew _ _ _ 0, cellNew _ _ _ 1, cellNew _ _ _ 2⟩)
  clear h h2 h3 h4 h5 tbs
  go_enter Tryz.func7, Tryz.ntmps7
  go_upto_region 1 with fail
  generalize hwb : w.alloc _ = wb at *
  have HW : Hid (Below w.heap.size w wb) := by rw [← hwb]; exact Lib.hid ((Below.refl _ _).alloc (Nat.le_refl _) _)
  clear hwb
  obtain ⟨q0, q1, q2⟩ := BX.out
  go_wp2_with fail
  refine (lawAwake_any _ (TBS.out.keep (Keep.below HW.out))).mono ?_
  rintro e' w1 ⟨rfl, hb1⟩
  replace HW := Lib.hid (HW.out.trans (hb1.mono HW.out.size))
  replace BX := Lib.hid (BX.out.keep (Keep.below hb1))
  clear q0 q1 q2
  clear hb1
  obtain ⟨q0, q1, q2⟩ := BX.out
  go_wp2_with fail
  refine (lawFew_any l d A B c e a b _ (HA.out.keep (Keep.below HW.out)) (HA2.out.keep (Keep.below HW.out))).mono ?_
  rintro e' w2 ⟨⟨bb, rfl, hbb⟩, hb1⟩
  replace HW := Lib.hid (HW.out.trans (hb1.mono HW.out.size))
  replace BX := Lib.hid (BX.out.keep (Keep.below hb1))
  clear q0 q1 q2
  clear hb1
  cases bb with
  | false =>
    clear hbb
    go_wp2_with fail
    go_ret
    exact ⟨rfl, HW.out⟩
  | true =>
    obtain ⟨hl14, hd14, hml, hmd⟩ := hbb rfl
    have HML := Lib.hid (fun i hi => (show (lThg l i).marks.length ≤ 1000000 by have := hml i hi; omega))
    have HMD := Lib.hid (fun i hi => (show (lThg d i).marks.length ≤ 1000000 by have := hmd i hi; omega))
    clear hbb hml hmd
    obtain ⟨q0, q1, q2⟩ := BX.out
    go_wp2_with fail
    refine (lawGreat_any p s t P S T pc sc tc _).mono ?_
    rintro e' w3 ⟨⟨bb2, rfl, hbb2⟩, hb1⟩
    replace HW := Lib.hid (HW.out.trans (hb1.mono HW.out.size))
    replace BX := Lib.hid (BX.out.keep (Keep.below hb1))
    clear q0 q1 q2
    clear hb1
    cases bb2 with
    | true =>
      clear hbb2
      go_wp2_with fail
      go_ret
      exact ⟨rfl, HW.out⟩
    | false =>
      obtain ⟨hp15, hs15, ht15⟩ := hbb2 rfl
      clear hbb2
      obtain ⟨wA, hwA⟩ : ∃ wz, wz = w3 := ⟨_, rfl⟩
      subst hwA
      obtain ⟨q0, q1, q2⟩ := BX.out
      go_wp2_with fail
      have HBd : Hid (Below wA.heap.size wA wA.drew) := Lib.hid (Below.refl _ _).drew
      have MK : Hid (∀ w', Below wA.heap.size wA w' → w'.cell? ⟨w.heap.size, 0, none⟩ = some (.slice P p.length pc) ∧ w'.cell? ⟨w.heap.size, 1, none⟩ = some (.slice S s.length sc) ∧ w'.cell? ⟨w.heap.size, 2, none⟩ = some (.slice T t.length tc) ∧ Hid (Below wA.heap.size wA w')) :=
        Lib.hid fun w' hw => ⟨Keep.below hw _ _ q0, Keep.below hw _ _ q1, Keep.below hw _ _ q2, Lib.hid hw⟩
      have K1 : Hid (∀ w', Below wA.heap.size wA w' → ArrTh w' A l c a) := Lib.hid fun w' hw => (HA.out.keep (Keep.below (HW.out.trans (hw.mono HW.out.size))))
      have K2 : Hid (∀ w', Below wA.heap.size wA w' → ArrTh w' B d e b) := Lib.hid fun w' hw => (HA2.out.keep (Keep.below (HW.out.trans (hw.mono HW.out.size))))
      have K3 : Hid (∀ w', Below wA.heap.size wA w' → ArrPr w' P p pc) := Lib.hid fun w' hw => (HP.out.keep (Keep.below (HW.out.trans (hw.mono HW.out.size))))
      have K4 : Hid (∀ w', Below wA.heap.size wA w' → ArrI w' S s sc) := Lib.hid fun w' hw => (HS.out.keep (Keep.below (HW.out.trans (hw.mono HW.out.size))))
      have K5 : Hid (∀ w', Below wA.heap.size wA w' → ArrI w' T t tc) := Lib.hid fun w' hw => (HT.out.keep (Keep.below (HW.out.trans (hw.mono HW.out.size))))
      refine wp_region_held_drew (S := fun w' => w'.cell? ⟨w.heap.size, 0, none⟩ = some (.slice P p.length pc) ∧ w'.cell? ⟨w.heap.size, 1, none⟩ = some (.slice S s.length sc) ∧ w'.cell? ⟨w.heap.size, 2, none⟩ = some (.slice T t.length tc) ∧ Hid (Below wA.heap.size wA w')) (by kernel_rfl) (MK.out _ HBd.out) (fun hHeld => ?_)
      refine wpAnyH_take (i := 0) (v := ?val0x1) rfl (by kernel_rfl) (by kernel_rfl) (by kernel_rfl) (fun _ _ _ h => h) (Or.inl ⟨by rfl, fun w9 hS9 => ?yields0x1⟩) (by assumption) ?later0x1
      case yields0x1 =>
        dsimp only at hS9
        go_simp
        try with_reducible rfl
      try simp only [Act.put, List.getElem_toArray, List.getElem_cons_succ, List.getElem_cons_zero, List.setIfInBounds_toArray, List.set_cons_zero, List.set_cons_succ]
      refine wpAnyH_take (i := 2) (v := ?val2x2) rfl (by kernel_rfl) (by kernel_rfl) (by kernel_rfl) (fun _ _ _ h => h) (Or.inl ⟨by rfl, fun w9 hS9 => ?yields2x2⟩) (by assumption) ?later2x2
      case yields2x2 =>
        dsimp only at hS9
        go_simp
        try with_reducible rfl
      try simp only [Act.put, List.getElem_toArray, List.getElem_cons_succ, List.getElem_cons_zero, List.setIfInBounds_toArray, List.set_cons_zero, List.set_cons_succ]
      refine wpAnyH_take (i := 4) (v := ?val4x3) rfl (by kernel_rfl) (by kernel_rfl) (by kernel_rfl) (fun _ _ _ h => h) (Or.inl ⟨by rfl, fun w9 hS9 => ?yields4x3⟩) (by assumption) ?later4x3
      case yields4x3 =>
        dsimp only at hS9
        go_simp
        try with_reducible rfl
      try simp only [Act.put, List.getElem_toArray, List.getElem_cons_succ, List.getElem_cons_zero, List.setIfInBounds_toArray, List.set_cons_zero, List.set_cons_succ]
      refine wpAnyH_take (i := 5) (v := ?val5x4) rfl (by kernel_rfl) (by kernel_rfl) (by kernel_rfl) (fun _ _ _ h => h) (Or.inl ⟨by rfl, fun w9 hS9 => ?yields5x4⟩) (by assumption) ?later5x4
      case yields5x4 =>
        dsimp only at hS9
        go_simp
        try with_reducible rfl
      try simp only [Act.put, List.getElem_toArray, List.getElem_cons_succ, List.getElem_cons_zero, List.setIfInBounds_toArray, List.set_cons_zero, List.set_cons_succ]
      refine wpAnyH_ready (rs := [1]) (by kernel_rfl) (by simp) ?_
      refine AllReadyH.cons rfl (fun K hK => ?_) AllReadyH.nil
      go_simp
      go_at_call 32
      go_split_ands
      refine (rCopyItems_any l A c a _ (K1.out _ (Hid.out (by assumption))) (by omega) HML.out).mono ?_
      rintro e' wz5 ⟨⟨A5, c5, a5, rfl, h5⟩, hb1⟩
      have H5 := Lib.hid h5
      clear h5
      go_wp2_with fail
      refine hK.out _ _ ?_ (fun hHeld => ?_)
      · (try dsimp only)
        (go_split_ands; exact MK.out _ (Below.trans (Hid.out (by assumption)) (hb1.mono (Hid.out (by assumption) : Below wA.heap.size wA _).size)))
      clear hK K
      try simp only [Act.put, List.getElem_toArray, List.getElem_cons_succ, List.getElem_cons_zero, List.setIfInBounds_toArray, List.set_cons_zero, List.set_cons_succ]
      refine wpAnyH_ready (rs := [3]) (by kernel_rfl) (by simp) ?_
      refine AllReadyH.cons rfl (fun K hK => ?_) AllReadyH.nil
      go_simp
      go_at_call 41
      go_split_ands
      refine (rCopyClaims_any d B e b _ (K2.out _ (Hid.out (by assumption))) (by omega) HMD.out).mono ?_
      rintro e' wz6 ⟨⟨A6, c6, a6, rfl, h6⟩, hb1⟩
      have H6 := Lib.hid h6
      replace H5 := Lib.hid (H5.out.keep (Keep.below hb1))
      clear h6
      go_wp2_with fail
      refine hK.out _ _ ?_ (fun hHeld => ?_)
      · (try dsimp only)
        (go_split_ands; exact MK.out _ (Below.trans (Hid.out (by assumption)) (hb1.mono (Hid.out (by assumption) : Below wA.heap.size wA _).size)))
      clear hK K
      try simp only [Act.put, List.getElem_toArray, List.getElem_cons_succ, List.getElem_cons_zero, List.setIfInBounds_toArray, List.set_cons_zero, List.set_cons_succ]
      refine wpAnyH_ready (rs := [6]) (by kernel_rfl) (by simp) ?_
      refine AllReadyH.cons rfl (fun K hK => ?_) AllReadyH.nil
      go_simp
      go_at_call 46
      go_split_ands
      refine (rCopyPairs_any p P pc _ (K3.out _ (Hid.out (by assumption))) (by omega)).mono ?_
      rintro e' wz7 ⟨A7, c7, rfl, h7, -, hb1⟩
      have H7 := Lib.hid h7
      replace H5 := Lib.hid (H5.out.keep (Keep.below hb1))
      replace H6 := Lib.hid (H6.out.keep (Keep.below hb1))
      clear h7
      go_wp2_with fail
      refine hK.out _ _ ?_ (fun hHeld => ?_)
      · (try dsimp only)
        (go_split_ands; exact MK.out _ (Below.trans (Hid.out (by assumption)) (hb1.mono (Hid.out (by assumption) : Below wA.heap.size wA _).size)))
      clear hK K
      try simp only [Act.put, List.getElem_toArray, List.getElem_cons_succ, List.getElem_cons_zero, List.setIfInBounds_toArray, List.set_cons_zero, List.set_cons_succ]
      refine wpAnyH_ready (rs := [7]) (by kernel_rfl) (by simp) ?_
      refine AllReadyH.cons rfl (fun K hK => ?_) AllReadyH.nil
      go_simp
      go_at_call 45
      go_split_ands
      refine (xCheckPairs_any l d p _ _ _ _ _ _ _ _ _ H5.out H6.out H7.out).mono ?_
      rintro e' wz8 ⟨rfl, hb1⟩
      clear H5 H6 H7
      go_wp2_with fail
      refine hK.out _ _ ?_ (fun hHeld => ?_)
      · (try dsimp only)
        (go_split_ands; exact MK.out _ (Below.trans (Hid.out (by assumption)) (hb1.mono (Hid.out (by assumption) : Below wA.heap.size wA _).size)))
      clear hK K
      try simp only [Act.put, List.getElem_toArray, List.getElem_cons_succ, List.getElem_cons_zero, List.setIfInBounds_toArray, List.set_cons_zero, List.set_cons_succ]
      refine wpAnyH_take (i := 8) (v := ?val8x5) rfl (by kernel_rfl) (by kernel_rfl) (by kernel_rfl) (fun _ _ _ h => h) (Or.inl ⟨by rfl, fun w9 hS9 => ?yields8x5⟩) (by assumption) ?later8x5
      case yields8x5 =>
        dsimp only at hS9
        go_simp
        try with_reducible rfl
      try simp only [Act.put, List.getElem_toArray, List.getElem_cons_succ, List.getElem_cons_zero, List.setIfInBounds_toArray, List.set_cons_zero, List.set_cons_succ]
      refine wpAnyH_take (i := 9) (v := ?val9x6) rfl (by kernel_rfl) (by kernel_rfl) (by kernel_rfl) (fun _ _ _ h => h) (Or.inl ⟨by rfl, fun w9 hS9 => ?yields9x6⟩) (by assumption) ?later9x6
      case yields9x6 =>
        dsimp only at hS9
        go_simp
        try with_reducible rfl
      try simp only [Act.put, List.getElem_toArray, List.getElem_cons_succ, List.getElem_cons_zero, List.setIfInBounds_toArray, List.set_cons_zero, List.set_cons_succ]
      refine wpAnyH_take (i := 10) (v := ?val10x7) rfl (by kernel_rfl) (by kernel_rfl) (by kernel_rfl) (fun _ _ _ h => h) (Or.inl ⟨by rfl, fun w9 hS9 => ?yields10x7⟩) (by assumption) ?later10x7
      case yields10x7 =>
        dsimp only at hS9
        go_simp
        try with_reducible rfl
      try simp only [Act.put, List.getElem_toArray, List.getElem_cons_succ, List.getElem_cons_zero, List.setIfInBounds_toArray, List.set_cons_zero, List.set_cons_succ]
      refine wpAnyH_take (i := 11) (v := ?val11x8) rfl (by kernel_rfl) (by kernel_rfl) (by kernel_rfl) (fun _ _ _ h => h) (Or.inl ⟨by rfl, fun w9 hS9 => ?yields11x8⟩) (by assumption) ?later11x8
      case yields11x8 =>
        dsimp only at hS9
        go_simp
        try with_reducible rfl
      try simp only [Act.put, List.getElem_toArray, List.getElem_cons_succ, List.getElem_cons_zero, List.setIfInBounds_toArray, List.set_cons_zero, List.set_cons_succ]
      refine wpAnyH_take (i := 12) (v := ?val12x9) rfl (by kernel_rfl) (by kernel_rfl) (by kernel_rfl) (fun _ _ _ h => h) (Or.inl ⟨by rfl, fun w9 hS9 => ?yields12x9⟩) (by assumption) ?later12x9
      case yields12x9 =>
        dsimp only at hS9
        go_simp
        try with_reducible rfl
      try simp only [Act.put, List.getElem_toArray, List.getElem_cons_succ, List.getElem_cons_zero, List.setIfInBounds_toArray, List.set_cons_zero, List.set_cons_succ]
      refine wpAnyH_done (by kernel_rfl) ?_ _
      obtain ⟨-, -, -, HB⟩ := hHeld
      clear HBd MK
      clear K1 K2 K3 K4 K5
      replace HW := Lib.hid (HW.out.trans (HB.out.mono HW.out.size))
      replace BX := Lib.hid (BX.out.keep (Keep.below HB.out))
      clear HB
      clear q0 q1 q2
      obtain ⟨wB, hwB⟩ : ∃ wz, wz = wz8 := ⟨_, rfl⟩
      subst hwB
      obtain ⟨q0, q1, q2⟩ := BX.out
      go_wp2_with fail
      have HBd : Hid (Below wB.heap.size wB wB.drew) := Lib.hid (Below.refl _ _).drew
      have MK : Hid (∀ w', Below wB.heap.size wB w' → w'.cell? ⟨w.heap.size, 0, none⟩ = some (.slice P p.length pc) ∧ w'.cell? ⟨w.heap.size, 1, none⟩ = some (.slice S s.length sc) ∧ w'.cell? ⟨w.heap.size, 2, none⟩ = some (.slice T t.length tc) ∧ Hid (Below wB.heap.size wB w')) :=
        Lib.hid fun w' hw => ⟨Keep.below hw _ _ q0, Keep.below hw _ _ q1, Keep.below hw _ _ q2, Lib.hid hw⟩
      have K1 : Hid (∀ w', Below wB.heap.size wB w' → ArrTh w' A l c a) := Lib.hid fun w' hw => (HA.out.keep (Keep.below (HW.out.trans (hw.mono HW.out.size))))
      have K2 : Hid (∀ w', Below wB.heap.size wB w' → ArrTh w' B d e b) := Lib.hid fun w' hw => (HA2.out.keep (Keep.below (HW.out.trans (hw.mono HW.out.size))))
      have K3 : Hid (∀ w', Below wB.heap.size wB w' → ArrPr w' P p pc) := Lib.hid fun w' hw => (HP.out.keep (Keep.below (HW.out.trans (hw.mono HW.out.size))))
      have K4 : Hid (∀ w', Below wB.heap.size wB w' → ArrI w' S s sc) := Lib.hid fun w' hw => (HS.out.keep (Keep.below (HW.out.trans (hw.mono HW.out.size))))
      have K5 : Hid (∀ w', Below wB.heap.size wB w' → ArrI w' T t tc) := Lib.hid fun w' hw => (HT.out.keep (Keep.below (HW.out.trans (hw.mono HW.out.size))))
      refine wp_region_held_drew (S := fun w' => w'.cell? ⟨w.heap.size, 0, none⟩ = some (.slice P p.length pc) ∧ w'.cell? ⟨w.heap.size, 1, none⟩ = some (.slice S s.length sc) ∧ w'.cell? ⟨w.heap.size, 2, none⟩ = some (.slice T t.length tc) ∧ Hid (Below wB.heap.size wB w')) (by kernel_rfl) (MK.out _ HBd.out) (fun hHeld => ?_)
      refine wpAnyH_take (i := 0) (v := ?val0x10) rfl (by kernel_rfl) (by kernel_rfl) (by kernel_rfl) (fun _ _ _ h => h) (Or.inl ⟨by rfl, fun w9 hS9 => ?yields0x10⟩) (by assumption) ?later0x10
      case yields0x10 =>
        dsimp only at hS9
        go_simp
        try with_reducible rfl
      try simp only [Act.put, List.getElem_toArray, List.getElem_cons_succ, List.getElem_cons_zero, List.setIfInBounds_toArray, List.set_cons_zero, List.set_cons_succ]
      refine wpAnyH_take (i := 2) (v := ?val2x11) rfl (by kernel_rfl) (by kernel_rfl) (by kernel_rfl) (fun _ _ _ h => h) (Or.inl ⟨by rfl, fun w9 hS9 => ?yields2x11⟩) (by assumption) ?later2x11
      case yields2x11 =>
        dsimp only at hS9
        go_simp
        try with_reducible rfl
      try simp only [Act.put, List.getElem_toArray, List.getElem_cons_succ, List.getElem_cons_zero, List.setIfInBounds_toArray, List.set_cons_zero, List.set_cons_succ]
      refine wpAnyH_take (i := 4) (v := ?val4x12) rfl (by kernel_rfl) (by kernel_rfl) (by kernel_rfl) (fun _ _ _ h => h) (Or.inl ⟨by rfl, fun w9 hS9 => ?yields4x12⟩) (by assumption) ?later4x12
      case yields4x12 =>
        dsimp only at hS9
        go_simp
        try with_reducible rfl
      try simp only [Act.put, List.getElem_toArray, List.getElem_cons_succ, List.getElem_cons_zero, List.setIfInBounds_toArray, List.set_cons_zero, List.set_cons_succ]
      refine wpAnyH_take (i := 5) (v := ?val5x13) rfl (by kernel_rfl) (by kernel_rfl) (by kernel_rfl) (fun _ _ _ h => h) (Or.inl ⟨by rfl, fun w9 hS9 => ?yields5x13⟩) (by assumption) ?later5x13
      case yields5x13 =>
        dsimp only at hS9
        go_simp
        try with_reducible rfl
      try simp only [Act.put, List.getElem_toArray, List.getElem_cons_succ, List.getElem_cons_zero, List.setIfInBounds_toArray, List.set_cons_zero, List.set_cons_succ]
      refine wpAnyH_ready (rs := [1]) (by kernel_rfl) (by simp) ?_
      refine AllReadyH.cons rfl (fun K hK => ?_) AllReadyH.nil
      go_simp
      go_at_call 32
      go_split_ands
      refine (rCopyItems_any l A c a _ (K1.out _ (Hid.out (by assumption))) (by omega) HML.out).mono ?_
      rintro e' wz5 ⟨⟨A5, c5, a5, rfl, h5⟩, hb1⟩
      have H5 := Lib.hid h5
      clear h5
      go_wp2_with fail
      refine hK.out _ _ ?_ (fun hHeld => ?_)
      · (try dsimp only)
        (go_split_ands; exact MK.out _ (Below.trans (Hid.out (by assumption)) (hb1.mono (Hid.out (by assumption) : Below wB.heap.size wB _).size)))
      clear hK K
      try simp only [Act.put, List.getElem_toArray, List.getElem_cons_succ, List.getElem_cons_zero, List.setIfInBounds_toArray, List.set_cons_zero, List.set_cons_succ]
      refine wpAnyH_ready (rs := [3]) (by kernel_rfl) (by simp) ?_
      refine AllReadyH.cons rfl (fun K hK => ?_) AllReadyH.nil
      go_simp
      go_at_call 41
      go_split_ands
      refine (rCopyClaims_any d B e b _ (K2.out _ (Hid.out (by assumption))) (by omega) HMD.out).mono ?_
      rintro e' wz6 ⟨⟨A6, c6, a6, rfl, h6⟩, hb1⟩
      have H6 := Lib.hid h6
      replace H5 := Lib.hid (H5.out.keep (Keep.below hb1))
      clear h6
      go_wp2_with fail
      refine hK.out _ _ ?_ (fun hHeld => ?_)
      · (try dsimp only)
        (go_split_ands; exact MK.out _ (Below.trans (Hid.out (by assumption)) (hb1.mono (Hid.out (by assumption) : Below wB.heap.size wB _).size)))
      clear hK K
      try simp only [Act.put, List.getElem_toArray, List.getElem_cons_succ, List.getElem_cons_zero, List.setIfInBounds_toArray, List.set_cons_zero, List.set_cons_succ]
      refine wpAnyH_ready (rs := [6]) (by kernel_rfl) (by simp) ?_
      refine AllReadyH.cons rfl (fun K hK => ?_) AllReadyH.nil
      go_simp
      go_at_call 48
      go_split_ands
      refine (rCopyCover_any s t S T sc tc _ (K4.out _ (Hid.out (by assumption))) (K5.out _ (Hid.out (by assumption))) (by omega) (by omega)).mono ?_
      rintro e' wz7 ⟨⟨S7, T7, sc7, tc7, rfl, h7, h8⟩, hb1⟩
      have H7 := Lib.hid h7
      have H8 := Lib.hid h8
      replace H5 := Lib.hid (H5.out.keep (Keep.below hb1))
      replace H6 := Lib.hid (H6.out.keep (Keep.below hb1))
      clear h7 h8
      go_wp2_with fail
      refine hK.out _ _ ?_ (fun hHeld => ?_)
      · (try dsimp only)
        (go_split_ands; exact MK.out _ (Below.trans (Hid.out (by assumption)) (hb1.mono (Hid.out (by assumption) : Below wB.heap.size wB _).size)))
      clear hK K
      try simp only [Act.put, List.getElem_toArray, List.getElem_cons_succ, List.getElem_cons_zero, List.setIfInBounds_toArray, List.set_cons_zero, List.set_cons_succ]
      refine wpAnyH_ready (rs := [7]) (by kernel_rfl) (by simp) ?_
      refine AllReadyH.cons rfl (fun K hK => ?_) AllReadyH.nil
      go_simp
      go_at_call 47
      go_split_ands
      refine (xCheckCover_any l d s t _ _ _ _ _ _ _ _ _ _ _ H5.out H6.out H7.out H8.out).mono ?_
      rintro e' wz8 ⟨rfl, hb1⟩
      clear H5 H6 H7 H8
      go_wp2_with fail
      refine hK.out _ _ ?_ (fun hHeld => ?_)
      · (try dsimp only)
        (go_split_ands; exact MK.out _ (Below.trans (Hid.out (by assumption)) (hb1.mono (Hid.out (by assumption) : Below wB.heap.size wB _).size)))
      clear hK K
      try simp only [Act.put, List.getElem_toArray, List.getElem_cons_succ, List.getElem_cons_zero, List.setIfInBounds_toArray, List.set_cons_zero, List.set_cons_succ]
      refine wpAnyH_take (i := 8) (v := ?val8x14) rfl (by kernel_rfl) (by kernel_rfl) (by kernel_rfl) (fun _ _ _ h => h) (Or.inl ⟨by rfl, fun w9 hS9 => ?yields8x14⟩) (by assumption) ?later8x14
      case yields8x14 =>
        dsimp only at hS9
        go_simp
        try with_reducible rfl
      try simp only [Act.put, List.getElem_toArray, List.getElem_cons_succ, List.getElem_cons_zero, List.setIfInBounds_toArray, List.set_cons_zero, List.set_cons_succ]
      refine wpAnyH_take (i := 9) (v := ?val9x15) rfl (by kernel_rfl) (by kernel_rfl) (by kernel_rfl) (fun _ _ _ h => h) (Or.inl ⟨by rfl, fun w9 hS9 => ?yields9x15⟩) (by assumption) ?later9x15
      case yields9x15 =>
        dsimp only at hS9
        go_simp
        try with_reducible rfl
      try simp only [Act.put, List.getElem_toArray, List.getElem_cons_succ, List.getElem_cons_zero, List.setIfInBounds_toArray, List.set_cons_zero, List.set_cons_succ]
      refine wpAnyH_take (i := 10) (v := ?val10x16) rfl (by kernel_rfl) (by kernel_rfl) (by kernel_rfl) (fun _ _ _ h => h) (Or.inl ⟨by rfl, fun w9 hS9 => ?yields10x16⟩) (by assumption) ?later10x16
      case yields10x16 =>
        dsimp only at hS9
        go_simp
        try with_reducible rfl
      try simp only [Act.put, List.getElem_toArray, List.getElem_cons_succ, List.getElem_cons_zero, List.setIfInBounds_toArray, List.set_cons_zero, List.set_cons_succ]
      refine wpAnyH_take (i := 11) (v := ?val11x17) rfl (by kernel_rfl) (by kernel_rfl) (by kernel_rfl) (fun _ _ _ h => h) (Or.inl ⟨by rfl, fun w9 hS9 => ?yields11x17⟩) (by assumption) ?later11x17
      case yields11x17 =>
        dsimp only at hS9
        go_simp
        try with_reducible rfl
      try simp only [Act.put, List.getElem_toArray, List.getElem_cons_succ, List.getElem_cons_zero, List.setIfInBounds_toArray, List.set_cons_zero, List.set_cons_succ]
      refine wpAnyH_take (i := 12) (v := ?val12x18) rfl (by kernel_rfl) (by kernel_rfl) (by kernel_rfl) (fun _ _ _ h => h) (Or.inl ⟨by rfl, fun w9 hS9 => ?yields12x18⟩) (by assumption) ?later12x18
      case yields12x18 =>
        dsimp only at hS9
        go_simp
        try with_reducible rfl
      try simp only [Act.put, List.getElem_toArray, List.getElem_cons_succ, List.getElem_cons_zero, List.setIfInBounds_toArray, List.set_cons_zero, List.set_cons_succ]
      refine wpAnyH_done (by kernel_rfl) ?_ _
      obtain ⟨-, -, -, HB⟩ := hHeld
      clear HBd MK
      clear K1 K2 K3 K4 K5
      replace HW := Lib.hid (HW.out.trans (HB.out.mono HW.out.size))
      replace BX := Lib.hid (BX.out.keep (Keep.below HB.out))
      clear HB
      clear q0 q1 q2
      obtain ⟨wC, hwC⟩ : ∃ wz, wz = wz8 := ⟨_, rfl⟩
      subst hwC
      by_cases h1 : pairsErr l d p = 0
      · by_cases h2 : coverErr l d s t = 0
        · have F := no_more h1 h2
          have d1 : decide ((p.length : Int) ≤ (s.length : Int) + (t.length : Int)) = true := decide_eq_true F
          rw [show prOut l d p = p.length from if_pos h1, show cvOut l d s t = s.length + t.length from if_pos h2, h1, h2]
          clear h1 h2
          go_wp2_with fail
          go_ret
          exact ⟨rfl, HW.out⟩
        · have e3 : (coverErr l d s t == 0) = false := by simpa using h2
          have e4 : (coverErr l d s t != 0) = true := by simpa using h2
          rw [h1]
          clear h1 h2
          go_wp2_with fail
          go_ret
          exact ⟨rfl, HW.out⟩
      · have e3 : (pairsErr l d p == 0) = false := by simpa using h1
        have e4 : (pairsErr l d p != 0) = true := by simpa using h1
        clear h1
        go_wp2_with fail
        go_ret
        exact ⟨rfl, HW.out⟩
end Go.Proofs.YtfjdnbnalihjiaaGreatDoor
/- Proofs: the reference's numbersErr, CheckPairs. Conditions: the lists are short. -/
namespace Go.Proofs.YtfjdnbnalihjiaaGreatDoor
open Go.RowKit Fs

theorem Fs.pair_ok {l c : List Thg} (h : pairErr l c = 0) : thgsErr l = 0 ∧ thgsErr c = 0 := by
  unfold pairErr at h
  by_cases e : thgsErr l = 0
  · rw [if_neg (fun hh => hh e)] at h; exact ⟨e, h⟩
  · rw [if_pos e] at h; exact absurd h e
theorem Fs.all_ok {l : List Thg} (h : thgsErr l = 0) : ∀ i, i < l.length → ThgOk (lThg l i) := fun i hi => (thg_ok ((thgs_ok h).2 i hi).1).1
theorem Fs.nums_hit {l : List Int} {n : Int} {k : Nat} {x : Int} (hk : k < l.length) (h1 : ∀ j, j < k → numAt l n j = 0) (h2 : numAt l n k = x) (h3 : x ≠ 0) : numsErr l n = x := by
  unfold numsErr
  rw [(fst_hit hk h1 (by rw [h2]; exact h3)).1, h2]
set_option linter.unusedSimpArgs false in
set_option maxHeartbeats 3200000 in
set_option maxRecDepth 100000 in
theorem rNums_any (l : List Int) (A : Option Addr) (c m : Nat) (w : World) (h : ArrI w A l c) (hm : m ≤ 1000) :
    Calls Tryz.prog 101 #[.slice A l.length c, .int .i64 m] w fun e w' => e = .returned (.int .i64 (numsErr l m)) ∧ Below w.heap.size w w' := by
  have b1 := h.le.1
  have b2 := h.le.2
  have HA := Lib.hid h
  have hw0 : IntKind.i64.wrap ((m : Int) - 1) = (m : Int) - 1 := by rw [IntKind.wrap_i64]; omega
  clear h
  go_enter Tryz.func101, Tryz.ntmps101
  go_wp2_with fail
  go_loopw [5] (fun i wr => ∃ k : Nat, k ≤ l.length ∧ i = .int .i64 k ∧ Hid (∀ j, j < k → numAt l m j = 0) ∧ Hid (Below w.heap.size w wr)) (fun i _ => l.length - (intOf i).toNat)
  case atStart => exact ⟨0, Nat.zero_le _, rfl, Lib.hid fun j hj => absurd hj (Nat.not_lt_zero _), Lib.hid (Below.refl _ _)⟩
  case round =>
    obtain ⟨k, hk, rfl, Hn, HB⟩ := hrel
    by_cases hlt : k < l.length
    · have hkn : (k : Int) < (l.length : Int) := by omega
      cases hw : within (listI l k) 0 ((m : Int) - 1) with
      | false =>
        obtain ⟨b, o, rfl, q⟩ := (HA.out.keep (Keep.below HB.out)).at_ hlt
        have F := Lib.hid (nums_hit (x := 6) hlt Hn.out (if_pos hw) (by decide))
        go_wp2_with fail
        refine (bwithin_any _ _ _ _).mono ?_
        rintro e w9 ⟨rfl, rfl⟩
        rw [hw]
        go_wp2_with fail
        go_ret
        exact ⟨ret_int F.out.symm, HB.out⟩
      | true =>
        have NW : Hid (¬ within (listI l k) 0 ((m : Int) - 1) = false) := Lib.hid (by rw [hw]; decide)
        by_cases hk0 : 0 < k
        · have d3 : decide ((k : Int) > 0) = true := decide_eq_true (by omega)
          have d4 : decide (0 < (k : Int)) = true := decide_eq_true (by omega)
          have d6 : decide (0 < k) = true := decide_eq_true hk0
          obtain ⟨j, hj⟩ : ∃ j, j = k - 1 := ⟨_, rfl⟩
          have hkp : (k : Int) - 1 = (j : Int) := by omega
          have hkw : IntKind.i64.wrap (j : Int) = (j : Int) := by rw [IntKind.wrap_i64]; omega
          have hk1 : (j : Int) < (l.length : Int) := by omega
          obtain ⟨b, o, rfl, q⟩ := (HA.out.keep (Keep.below HB.out)).at_ hlt
          obtain ⟨b', o', e', r⟩ := (HA.out.keep (Keep.below HB.out)).at_ (k := j) (by omega)
          obtain ⟨rfl, rfl⟩ : b = b' ∧ o = o' := by simpa using e'
          clear e'
          by_cases hl : listI l k ≤ listI l j
          · have d5 : decide (listI l k ≤ listI l j) = true := decide_eq_true hl
            have F := Lib.hid (nums_hit (x := 9) hlt Hn.out (by unfold numAt; rw [if_neg NW.out, if_pos ⟨hk0, by rw [← hj]; exact hl⟩]) (by decide))
            clear hl hk0 hj
            go_wp2_with fail
            refine (bwithin_any _ _ _ _).mono ?_
            rintro e w9 ⟨rfl, rfl⟩
            rw [hw]
            go_wp2_with fail
            go_quiet (fail)
            go_wp2_with fail
            go_ret
            exact ⟨ret_int F.out.symm, bdrewN HB.out _⟩
          · have d5 : decide (listI l k ≤ listI l j) = false := decide_eq_false hl
            have F := Lib.hid (show numAt l m k = 0 by unfold numAt; rw [if_neg NW.out, if_neg (fun hh => hl (by rw [hj]; exact hh.2))])
            clear hl hk0 hj
            go_wp2_with fail
            refine (bwithin_any _ _ _ _).mono ?_
            rintro e w9 ⟨rfl, rfl⟩
            rw [hw]
            go_wp2_with fail
            go_quiet (fail)
            go_wp2_with fail
            go_roundw
            case rel =>
              exact ⟨k + 1, by omega, by go_num, Lib.hid fun j hj => by
                by_cases e : j = k
                · subst e; exact F.out
                · exact Hn.out j (by omega), Lib.hid (bdrewN HB.out _)⟩
            case measure => simp [intOf]; omega
        · have d3 : decide ((k : Int) > 0) = false := decide_eq_false (by omega)
          have d4 : decide (0 < (k : Int)) = false := decide_eq_false (by omega)
          have d6 : decide (0 < k) = false := decide_eq_false hk0
          obtain ⟨b, o, rfl, q⟩ := (HA.out.keep (Keep.below HB.out)).at_ hlt
          have F := Lib.hid (show numAt l m k = 0 by unfold numAt; rw [if_neg NW.out, if_neg (fun hh => hk0 hh.1)])
          clear hk0
          go_wp2_with fail
          refine (bwithin_any _ _ _ _).mono ?_
          rintro e w9 ⟨rfl, rfl⟩
          rw [hw]
          go_wp2_with fail
          go_quiet (fail)
          go_wp2_with fail
          go_roundw
          case rel =>
            exact ⟨k + 1, by omega, by go_num, Lib.hid fun j hj => by
              by_cases e : j = k
              · subst e; exact F.out
              · exact Hn.out j (by omega), Lib.hid (bdrewN HB.out _)⟩
          case measure => simp [intOf]; omega
    · have F := Lib.hid (show numsErr l m = 0 from fst_none fun j hj => Hn.out j (by omega))
      go_wp2_with fail
      go_ret
      exact ⟨ret_int F.out.symm, HB.out⟩
theorem Fs.pairs_hit {l c : List Thg} {p : List (Int × Int)} {k : Nat} {x : Int} (h0 : pairErr l c = 0) (h : ¬ 12 < p.length) (hk : k < p.length) (h1 : ∀ j, j < k → pairAt l c p j = 0) (h2 : pairAt l c p k = x) (h3 : x ≠ 0) : pairsErr l c p = x := by
  unfold pairsErr
  rw [if_neg (fun hh => hh h0), if_neg h, (fst_hit hk h1 (by rw [h2]; exact h3)).1, h2]
structure PrAt (w : World) (b o : Nat) (x : Int × Int) : Prop where
  c0 : w.cell? ⟨b, o, none⟩ = some (.int .i64 x.1)
  c1 : w.cell? ⟨b, o + 1, none⟩ = some (.int .i64 x.2)
theorem ArrPr.le {w : World} {A : Option Addr} {p : List (Int × Int)} {c : Nat} (h : ArrPr w A p c) : p.length ≤ c ∧ c ≤ 9223372036854775807 := ⟨h.1, h.2.1⟩
theorem ArrPr.at_ {w : World} {A : Option Addr} {p : List (Int × Int)} {c : Nat} (h : ArrPr w A p c) {k : Nat} (hk : k < p.length) : ∃ b o, A = some ⟨b, o, none⟩ ∧ PrAt w b (o + k * 2) (pr p k) := by
  obtain ⟨b, o, e, hc⟩ := Arr.at_ h hk
  exact ⟨b, o, e, hc 0 (by omega), hc 1 (by omega)⟩
set_option linter.unusedSimpArgs false in
set_option maxHeartbeats 12800000 in
set_option maxRecDepth 100000 in
theorem rCheckPairs_any (l d : List Thg) (p : List (Int × Int)) (A B P : Option Addr) (c e pc : Nat) (a b : GA) (w : World) (h : ArrTh w A l c a) (h2 : ArrTh w B d e b) (h3 : ArrPr w P p pc) (hl14 : l.length ≤ 14) (hd14 : d.length ≤ 14) :
    Calls Tryz.prog 49 #[.slice A l.length c, .slice B d.length e, .slice P p.length pc] w fun x w' => x = .returned (.tuple #[.int .i64 (prOut l d p), .int .i64 (pairsErr l d p)]) ∧ Below w.heap.size w w' := by
  have b1 := h.le.1
  have b2 := h.le.2
  have b3 := h2.le.1
  have b4 := h2.le.2
  have b5 := h3.le.1
  have b6 := h3.le.2
  have HA := Lib.hid h
  have HA2 := Lib.hid h2
  have HP := Lib.hid h3
  have hwl : IntKind.i64.wrap ((l.length : Int) - 1) = (l.length : Int) - 1 := by rw [IntKind.wrap_i64]; omega
  have hwd : IntKind.i64.wrap ((d.length : Int) - 1) = (d.length : Int) - 1 := by rw [IntKind.wrap_i64]; omega
  clear h h2 h3
  go_enter Tryz.func49, Tryz.ntmps49
  go_wp2_with fail
  refine (rBothErr_any l d A B c e a b _ HA.out HA2.out).mono ?_
  rintro e' w1 ⟨rfl, hb1⟩
  have HB1 := Lib.hid hb1
  clear hb1
  by_cases he : pairErr l d = 0
  · have HE := Lib.hid he
    have HTS := Lib.hid (pair_ok he)
    have HK1 := Lib.hid (all_ok HTS.out.1)
    have HK2 := Lib.hid (all_ok HTS.out.2)
    rw [he]
    clear he
    by_cases h12 : 12 < p.length
    · have F := Lib.hid (show pairsErr l d p = 8 by unfold pairsErr; rw [if_neg (fun hh => hh HE.out), if_pos h12])
      have d1 : decide ((p.length : Int) > 12) = true := decide_eq_true (by omega)
      have d2 : decide ((12 : Int) < (p.length : Int)) = true := decide_eq_true (by omega)
      clear h12
      go_wp2_with fail
      go_ret2
      exact ⟨by rw [show prOut l d p = 0 from if_neg (by rw [F.out]; decide), F.out]; rfl, HB1.out⟩
    · have H12 := Lib.hid h12
      have d1 : decide ((p.length : Int) > 12) = false := decide_eq_false (by omega)
      have d2 : decide ((12 : Int) < (p.length : Int)) = false := decide_eq_false (by omega)
      clear h12
      go_wp2_with fail
      go_loopw [9] (fun i wr => ∃ k : Nat, k ≤ p.length ∧ i = .int .i64 k ∧ Hid (∀ j, j < k → pairAt l d p j = 0) ∧ Hid (Below w.heap.size w wr)) (fun i _ => p.length - (intOf i).toNat)
      case atStart => exact ⟨0, Nat.zero_le _, rfl, Lib.hid fun j hj => absurd hj (Nat.not_lt_zero _), HB1⟩
      case round =>
        clear HB1
        obtain ⟨k, hk, rfl, Hn, HB⟩ := hrel
        by_cases hlt : k < p.length
        · have hkn : (k : Int) < (p.length : Int) := by omega
          obtain ⟨g, o, e1, q0, q1⟩ := (HP.out.keep (Keep.below HB.out)).at_ hlt
          subst e1
          obtain ⟨x, hx⟩ : ∃ x, (pr p k).1 = x := ⟨_, rfl⟩
          obtain ⟨y, hy⟩ : ∃ y, (pr p k).2 = y := ⟨_, rfl⟩
          have HX := Lib.hid hx
          have HY := Lib.hid hy
          rw [hx] at q0
          rw [hy] at q1
          clear hx hy
          go_wp2_with fail
          go_quiet (fail)
          have HBn := Lib.hid (bdrewN HB.out nq)
          clear q0 q1 HB
          generalize World.drewN wr nq = wx at *
          clear nq
          have HB := HBn
          clear HBn
          cases h1 : within x 0 ((l.length : Int) - 1) with
          | false =>
            have F := Lib.hid (pairs_hit (x := 6) HE.out H12.out hlt Hn.out (if_pos (Or.inl (by rw [HX.out]; exact h1))) (by decide))
            go_wp2_with fail
            refine (bwithin_any _ _ _ _).mono ?_
            rintro e9 w9 ⟨rfl, rfl⟩
            rw [h1]
            go_wp2_with fail
            go_ret2
            exact ⟨by rw [show prOut l d p = 0 from if_neg (by rw [F.out]; decide), F.out]; rfl, HB.out⟩
          | true =>
            cases h2 : within y 0 ((d.length : Int) - 1) with
            | false =>
              have F := Lib.hid (pairs_hit (x := 6) HE.out H12.out hlt Hn.out (if_pos (Or.inr (by rw [HY.out]; exact h2))) (by decide))
              go_wp2_with fail
              refine (bwithin_any _ _ _ _).mono ?_
              rintro e9 w9 ⟨rfl, rfl⟩
              rw [h1]
              go_wp2_with fail
              refine (bwithin_any _ _ _ _).mono ?_
              rintro e9 w9 ⟨rfl, rfl⟩
              rw [h2]
              go_wp2_with fail
              go_ret2
              exact ⟨by rw [show prOut l d p = 0 from if_neg (by rw [F.out]; decide), F.out]; rfl, HB.out⟩
            | true =>
              have C1 : Hid (¬ (within (pr p k).1 0 (l.length - 1) = false ∨ within (pr p k).2 0 (d.length - 1) = false)) := Lib.hid (by rw [HX.out, HY.out, h1, h2]; decide)
              have HR1 := Lib.hid (Fs.within_iff.1 h1)
              have HR2 := Lib.hid (Fs.within_iff.1 h2)
              go_wp2_with fail
              refine (bwithin_any _ _ _ _).mono ?_
              rintro e9 w9 ⟨rfl, rfl⟩
              rw [h1]
              go_wp2_with fail
              refine (bwithin_any _ _ _ _).mono ?_
              rintro e9 w9 ⟨rfl, rfl⟩
              rw [h2]
              clear h1 h2
              by_cases hk0 : 0 < k
              · have d3 : decide ((k : Int) > 0) = true := decide_eq_true (by omega)
                have d4 : decide (0 < (k : Int)) = true := decide_eq_true (by omega)
                have d6 : decide (0 < k) = true := decide_eq_true hk0
                obtain ⟨m, hm⟩ : ∃ m, m = k - 1 := ⟨_, rfl⟩
                have hkp : (k : Int) - 1 = (m : Int) := by omega
                have hkw : IntKind.i64.wrap (m : Int) = (m : Int) := by rw [IntKind.wrap_i64]; omega
                have hk1 : (m : Int) < (p.length : Int) := by omega
                obtain ⟨g2, o2, e2, r0, r1⟩ := (HP.out.keep (Keep.below HB.out)).at_ (k := m) (by omega)
                obtain ⟨rfl, rfl⟩ : g = g2 ∧ o = o2 := by simpa using e2
                clear e2
                by_cases hl : x ≤ (pr p m).1
                · have d5 : decide (x ≤ (pr p m).1) = true := decide_eq_true hl
                  have F := Lib.hid (pairs_hit (x := 9) HE.out H12.out hlt Hn.out (by unfold pairAt; rw [if_neg C1.out, if_pos ⟨hk0, by rw [HX.out, ← hm]; exact hl⟩]) (by decide))
                  clear hm
                  go_wp2_with fail
                  go_ret2
                  exact ⟨by rw [show prOut l d p = 0 from if_neg (by rw [F.out]; decide), F.out]; rfl, HB.out⟩
                · have d5 : decide (x ≤ (pr p m).1) = false := decide_eq_false hl
                  have C2 : Hid (¬ (0 < k ∧ (pr p k).1 ≤ (pr p (k - 1)).1)) := Lib.hid (fun hh => hl (by rw [hm, ← HX.out]; exact hh.2))
                  clear hm
                  go_wp2_with fail
                  go_loopw [12] (fun i wr => ∃ j : Nat, j ≤ k ∧ i = .int .i64 j ∧ Hid (∀ q, q < j → (pr p q).2 ≠ y) ∧ Hid (Below wx.heap.size wx wr)) (fun i _ => k - (intOf i).toNat)
                  case atStart => exact ⟨0, Nat.zero_le _, rfl, Lib.hid fun j hj => absurd hj (Nat.not_lt_zero _), Lib.hid (Below.refl _ _)⟩
                  case round =>
                    obtain ⟨j, hj, rfl, Hj, HB2⟩ := hrel
                    have HBX := Lib.hid (HB.out.trans (HB2.out.mono HB.out.size))
                    by_cases hjk : j < k
                    · have d1' : decide ((j : Int) < (k : Int)) = true := decide_eq_true (by omega)
                      have hjn : (j : Int) < (p.length : Int) := by omega
                      obtain ⟨g3, o3, e3, z0, z1⟩ := (HP.out.keep (Keep.below HBX.out)).at_ (k := j) (by omega)
                      obtain ⟨rfl, rfl⟩ : g = g3 ∧ o = o3 := by injection e3 with e3; injection e3 with h1 h2; exact ⟨h1, h2⟩
                      clear e3
                      by_cases hz : (pr p j).2 = y
                      · have e5 : ((pr p j).2 == y) = true := by simpa using hz
                        have F := Lib.hid (pairs_hit (x := 26) HE.out H12.out hlt Hn.out (by unfold pairAt; rw [if_neg C1.out, if_neg C2.out, if_pos ⟨j, hjk, by rw [HY.out]; exact hz⟩]) (by decide))
                        clear hz
                        go_wp2_with fail
                        go_ret2
                        exact ⟨by rw [show prOut l d p = 0 from if_neg (by rw [F.out]; decide), F.out]; rfl, HBX.out⟩
                      · have e5 : ((pr p j).2 == y) = false := by simpa using hz
                        have G := Lib.hid hz
                        clear hz
                        go_wp2_with fail
                        go_roundw
                        case rel => exact ⟨j + 1, by omega, by go_num, Lib.hid fun q hq => by
                          by_cases e : q = j
                          · subst e; exact G.out
                          · exact Hj.out q (by omega), HB2⟩
                        case measure => simp [intOf]; omega
                    · have d1' : decide ((j : Int) < (k : Int)) = false := decide_eq_false (by omega)
                      have C3 : Hid (¬ ∃ q, q < k ∧ (pr p q).2 = (pr p k).2) := Lib.hid (fun ⟨q, h1, h2⟩ => Hj.out q (by omega) (by rw [h2, HY.out]))
                      have hxx := HR1.out
                      have hyy := HR2.out
                      obtain ⟨X, hX⟩ : ∃ X : Nat, x = X := ⟨_, (Int.toNat_of_nonneg hxx.1).symm⟩
                      obtain ⟨Y, hY⟩ : ∃ Y : Nat, y = Y := ⟨_, (Int.toNat_of_nonneg hyy.1).symm⟩
                      subst hX; subst hY
                      have hXl : X < l.length := by omega
                      have hYl : Y < d.length := by omega
                      have hXn : (X : Int) < (l.length : Int) := by omega
                      have hYn : (Y : Int) < (d.length : Int) := by omega
                      obtain ⟨g4, o4, e4, ⟨i0, i1, i2, i3⟩, im⟩ := (HA.out.keep (Keep.below HBX.out)).at_ hXl
                      obtain ⟨g5, o5, e5, ⟨s0, s1, s2, s3⟩, sm⟩ := (HA2.out.keep (Keep.below HBX.out)).at_ hYl
                      subst e4; subst e5
                      have IM := Lib.hid im
                      have SM := Lib.hid sm
                      clear im sm
                      cases hcb : canBe (lThg l X) (lThg d Y) with
                      | false =>
                        have CB := Lib.hid hcb
                        have F := Lib.hid (pairs_hit (x := 13) HE.out H12.out hlt Hn.out (by unfold pairAt; rw [if_neg C1.out, if_neg C2.out, if_neg C3.out, HX.out, HY.out, Int.toNat_natCast, Int.toNat_natCast, if_pos hcb]) (by decide))
                        clear hcb
                        go_wp2_with fail
                        obtain ⟨C, Ci, Co⟩ := classOf wr
                        refine quietC (C := C) (by kernel_rfl) (by kernel_rfl) (Co.out _ (Below.refl _ _).drew) ?_
                        repeat (first
                          | go_big_quiet_skip
                          | (go_big_quiet_want; go_big_quiet_op; go_big_quiet_on)
                          | (refine quiet_yes (by rfl) ?_
                             apply Exists.intro
                             refine ⟨fun w' hC => ?_, ?_⟩
                             · have hbb := Ci.out _ hC
                               have zz0 := Keep.below hbb _ _ i0
                               have zz1 := Keep.below hbb _ _ i1
                               have zz2 := Keep.below hbb _ _ i2
                               have zz3 := Keep.below hbb _ _ i3
                               have zz4 := Keep.below hbb _ _ s0
                               have zz5 := Keep.below hbb _ _ s1
                               have zz6 := Keep.below hbb _ _ s2
                               have zz7 := Keep.below hbb _ _ s3
                               go_simp
                               first
                                 | done
                                 | rfl
                                 | (go_at_call 35
                                    refine (rCanBe_any (lThg l X) (lThg d Y) _ _ _ ⟨_, _, rfl, IM.out.keep (Keep.below hbb)⟩ ⟨_, _, rfl, SM.out.keep (Keep.below hbb)⟩ (HK1.out X hXl) (HK2.out Y hYl)).mono ?_
                                    rintro e' w1 ⟨rfl, hb1⟩
                                    rw [CB.out]
                                    exact ⟨rfl, Co.out _ (hbb.trans (hb1.mono hbb.size))⟩)
                             simp only [Act.put, List.setIfInBounds_toArray, List.set_cons_zero, List.set_cons_succ]))
                        refine wpQuiet_nil ?_
                        intro wz hC1
                        have HBY := Lib.hid (HBX.out.trans ((Ci.out _ hC1).mono HBX.out.size))
                        clear hC1 Ci Co i0 i1 i2 i3 s0 s1 s2 s3
                        go_wp2_with fail
                        go_ret2
                        exact ⟨by rw [show prOut l d p = 0 from if_neg (by rw [F.out]; decide), F.out]; rfl, HBY.out⟩
                      | true =>
                        have CB := Lib.hid hcb
                        have F := Lib.hid (show pairAt l d p k = 0 by unfold pairAt; rw [if_neg C1.out, if_neg C2.out, if_neg C3.out, HX.out, HY.out, Int.toNat_natCast, Int.toNat_natCast, if_neg (by rw [hcb]; decide)])
                        clear hcb
                        go_wp2_with fail
                        obtain ⟨C, Ci, Co⟩ := classOf wr
                        refine quietC (C := C) (by kernel_rfl) (by kernel_rfl) (Co.out _ (Below.refl _ _).drew) ?_
                        repeat (first
                          | go_big_quiet_skip
                          | (go_big_quiet_want; go_big_quiet_op; go_big_quiet_on)
                          | (refine quiet_yes (by rfl) ?_
                             apply Exists.intro
                             refine ⟨fun w' hC => ?_, ?_⟩
                             · have hbb := Ci.out _ hC
                               have zz0 := Keep.below hbb _ _ i0
                               have zz1 := Keep.below hbb _ _ i1
                               have zz2 := Keep.below hbb _ _ i2
                               have zz3 := Keep.below hbb _ _ i3
                               have zz4 := Keep.below hbb _ _ s0
                               have zz5 := Keep.below hbb _ _ s1
                               have zz6 := Keep.below hbb _ _ s2
                               have zz7 := Keep.below hbb _ _ s3
                               go_simp
                               first
                                 | done
                                 | rfl
                                 | (go_at_call 35
                                    refine (rCanBe_any (lThg l X) (lThg d Y) _ _ _ ⟨_, _, rfl, IM.out.keep (Keep.below hbb)⟩ ⟨_, _, rfl, SM.out.keep (Keep.below hbb)⟩ (HK1.out X hXl) (HK2.out Y hYl)).mono ?_
                                    rintro e' w1 ⟨rfl, hb1⟩
                                    rw [CB.out]
                                    exact ⟨rfl, Co.out _ (hbb.trans (hb1.mono hbb.size))⟩)
                             simp only [Act.put, List.setIfInBounds_toArray, List.set_cons_zero, List.set_cons_succ]))
                        refine wpQuiet_nil ?_
                        intro wz hC1
                        have HBY := Lib.hid (HBX.out.trans ((Ci.out _ hC1).mono HBX.out.size))
                        clear hC1 Ci Co i0 i1 i2 i3 s0 s1 s2 s3
                        go_wp2_with fail
                        go_roundw
                        case rel =>
                          exact ⟨k + 1, by omega, by go_num, Lib.hid fun j hj => by
                            by_cases e : j = k
                            · subst e; exact F.out
                            · exact Hn.out j (by omega), HBY⟩
                        case measure => simp [intOf]; omega
              · have d3 : decide ((k : Int) > 0) = false := decide_eq_false (by omega)
                have d4 : decide (0 < (k : Int)) = false := decide_eq_false (by omega)
                have d6 : decide (0 < k) = false := decide_eq_false hk0
                have C2 : Hid (¬ (0 < k ∧ (pr p k).1 ≤ (pr p (k - 1)).1)) := Lib.hid (fun hh => hk0 hh.1)
                go_wp2_with fail
                go_loopw [12] (fun i wr => ∃ j : Nat, j ≤ k ∧ i = .int .i64 j ∧ Hid (∀ q, q < j → (pr p q).2 ≠ y) ∧ Hid (Below wx.heap.size wx wr)) (fun i _ => k - (intOf i).toNat)
                case atStart => exact ⟨0, Nat.zero_le _, rfl, Lib.hid fun j hj => absurd hj (Nat.not_lt_zero _), Lib.hid (Below.refl _ _)⟩
                case round =>
                  obtain ⟨j, hj, rfl, Hj, HB2⟩ := hrel
                  have HBX := Lib.hid (HB.out.trans (HB2.out.mono HB.out.size))
                  by_cases hjk : j < k
                  · have d1' : decide ((j : Int) < (k : Int)) = true := decide_eq_true (by omega)
                    have hjn : (j : Int) < (p.length : Int) := by omega
                    obtain ⟨g3, o3, e3, z0, z1⟩ := (HP.out.keep (Keep.below HBX.out)).at_ (k := j) (by omega)
                    obtain ⟨rfl, rfl⟩ : g = g3 ∧ o = o3 := by injection e3 with e3; injection e3 with h1 h2; exact ⟨h1, h2⟩
                    clear e3
                    by_cases hz : (pr p j).2 = y
                    · have e5 : ((pr p j).2 == y) = true := by simpa using hz
                      have F := Lib.hid (pairs_hit (x := 26) HE.out H12.out hlt Hn.out (by unfold pairAt; rw [if_neg C1.out, if_neg C2.out, if_pos ⟨j, hjk, by rw [HY.out]; exact hz⟩]) (by decide))
                      clear hz
                      go_wp2_with fail
                      go_ret2
                      exact ⟨by rw [show prOut l d p = 0 from if_neg (by rw [F.out]; decide), F.out]; rfl, HBX.out⟩
                    · have e5 : ((pr p j).2 == y) = false := by simpa using hz
                      have G := Lib.hid hz
                      clear hz
                      go_wp2_with fail
                      go_roundw
                      case rel => exact ⟨j + 1, by omega, by go_num, Lib.hid fun q hq => by
                        by_cases e : q = j
                        · subst e; exact G.out
                        · exact Hj.out q (by omega), HB2⟩
                      case measure => simp [intOf]; omega
                  · have d1' : decide ((j : Int) < (k : Int)) = false := decide_eq_false (by omega)
                    have C3 : Hid (¬ ∃ q, q < k ∧ (pr p q).2 = (pr p k).2) := Lib.hid (fun ⟨q, h1, h2⟩ => Hj.out q (by omega) (by rw [h2, HY.out]))
                    have hxx := HR1.out
                    have hyy := HR2.out
                    obtain ⟨X, hX⟩ : ∃ X : Nat, x = X := ⟨_, (Int.toNat_of_nonneg hxx.1).symm⟩
                    obtain ⟨Y, hY⟩ : ∃ Y : Nat, y = Y := ⟨_, (Int.toNat_of_nonneg hyy.1).symm⟩
                    subst hX; subst hY
                    have hXl : X < l.length := by omega
                    have hYl : Y < d.length := by omega
                    have hXn : (X : Int) < (l.length : Int) := by omega
                    have hYn : (Y : Int) < (d.length : Int) := by omega
                    obtain ⟨g4, o4, e4, ⟨i0, i1, i2, i3⟩, im⟩ := (HA.out.keep (Keep.below HBX.out)).at_ hXl
                    obtain ⟨g5, o5, e5, ⟨s0, s1, s2, s3⟩, sm⟩ := (HA2.out.keep (Keep.below HBX.out)).at_ hYl
                    subst e4; subst e5
                    have IM := Lib.hid im
                    have SM := Lib.hid sm
                    clear im sm
                    cases hcb : canBe (lThg l X) (lThg d Y) with
                    | false =>
                      have CB := Lib.hid hcb
                      have F := Lib.hid (pairs_hit (x := 13) HE.out H12.out hlt Hn.out (by unfold pairAt; rw [if_neg C1.out, if_neg C2.out, if_neg C3.out, HX.out, HY.out, Int.toNat_natCast, Int.toNat_natCast, if_pos hcb]) (by decide))
                      clear hcb
                      go_wp2_with fail
                      obtain ⟨C, Ci, Co⟩ := classOf wr
                      refine quietC (C := C) (by kernel_rfl) (by kernel_rfl) (Co.out _ (Below.refl _ _).drew) ?_
                      repeat (first
                        | go_big_quiet_skip
                        | (go_big_quiet_want; go_big_quiet_op; go_big_quiet_on)
                        | (refine quiet_yes (by rfl) ?_
                           apply Exists.intro
                           refine ⟨fun w' hC => ?_, ?_⟩
                           · have hbb := Ci.out _ hC
                             have zz0 := Keep.below hbb _ _ i0
                             have zz1 := Keep.below hbb _ _ i1
                             have zz2 := Keep.below hbb _ _ i2
                             have zz3 := Keep.below hbb _ _ i3
                             have zz4 := Keep.below hbb _ _ s0
                             have zz5 := Keep.below hbb _ _ s1
                             have zz6 := Keep.below hbb _ _ s2
                             have zz7 := Keep.below hbb _ _ s3
                             go_simp
                             first
                               | done
                               | rfl
                               | (go_at_call 35
                                  refine (rCanBe_any (lThg l X) (lThg d Y) _ _ _ ⟨_, _, rfl, IM.out.keep (Keep.below hbb)⟩ ⟨_, _, rfl, SM.out.keep (Keep.below hbb)⟩ (HK1.out X hXl) (HK2.out Y hYl)).mono ?_
                                  rintro e' w1 ⟨rfl, hb1⟩
                                  rw [CB.out]
                                  exact ⟨rfl, Co.out _ (hbb.trans (hb1.mono hbb.size))⟩)
                           simp only [Act.put, List.setIfInBounds_toArray, List.set_cons_zero, List.set_cons_succ]))
                      refine wpQuiet_nil ?_
                      intro wz hC1
                      have HBY := Lib.hid (HBX.out.trans ((Ci.out _ hC1).mono HBX.out.size))
                      clear hC1 Ci Co i0 i1 i2 i3 s0 s1 s2 s3
                      go_wp2_with fail
                      go_ret2
                      exact ⟨by rw [show prOut l d p = 0 from if_neg (by rw [F.out]; decide), F.out]; rfl, HBY.out⟩
                    | true =>
                      have CB := Lib.hid hcb
                      have F := Lib.hid (show pairAt l d p k = 0 by unfold pairAt; rw [if_neg C1.out, if_neg C2.out, if_neg C3.out, HX.out, HY.out, Int.toNat_natCast, Int.toNat_natCast, if_neg (by rw [hcb]; decide)])
                      clear hcb
                      go_wp2_with fail
                      obtain ⟨C, Ci, Co⟩ := classOf wr
                      refine quietC (C := C) (by kernel_rfl) (by kernel_rfl) (Co.out _ (Below.refl _ _).drew) ?_
                      repeat (first
                        | go_big_quiet_skip
                        | (go_big_quiet_want; go_big_quiet_op; go_big_quiet_on)
                        | (refine quiet_yes (by rfl) ?_
                           apply Exists.intro
                           refine ⟨fun w' hC => ?_, ?_⟩
                           · have hbb := Ci.out _ hC
                             have zz0 := Keep.below hbb _ _ i0
                             have zz1 := Keep.below hbb _ _ i1
                             have zz2 := Keep.below hbb _ _ i2
                             have zz3 := Keep.below hbb _ _ i3
                             have zz4 := Keep.below hbb _ _ s0
                             have zz5 := Keep.below hbb _ _ s1
                             have zz6 := Keep.below hbb _ _ s2
                             have zz7 := Keep.below hbb _ _ s3
                             go_simp
                             first
                               | done
                               | rfl
                               | (go_at_call 35
                                  refine (rCanBe_any (lThg l X) (lThg d Y) _ _ _ ⟨_, _, rfl, IM.out.keep (Keep.below hbb)⟩ ⟨_, _, rfl, SM.out.keep (Keep.below hbb)⟩ (HK1.out X hXl) (HK2.out Y hYl)).mono ?_
                                  rintro e' w1 ⟨rfl, hb1⟩
                                  rw [CB.out]
                                  exact ⟨rfl, Co.out _ (hbb.trans (hb1.mono hbb.size))⟩)
                           simp only [Act.put, List.setIfInBounds_toArray, List.set_cons_zero, List.set_cons_succ]))
                      refine wpQuiet_nil ?_
                      intro wz hC1
                      have HBY := Lib.hid (HBX.out.trans ((Ci.out _ hC1).mono HBX.out.size))
                      clear hC1 Ci Co i0 i1 i2 i3 s0 s1 s2 s3
                      go_wp2_with fail
                      go_roundw
                      case rel =>
                        exact ⟨k + 1, by omega, by go_num, Lib.hid fun j hj => by
                          by_cases e : j = k
                          · subst e; exact F.out
                          · exact Hn.out j (by omega), HBY⟩
                      case measure => simp [intOf]; omega
        · have F := Lib.hid (show pairsErr l d p = 0 by unfold pairsErr; rw [if_neg (fun hh => hh HE.out), if_neg H12.out]; exact fst_none fun j hj => Hn.out j (by omega))
          obtain rfl : k = p.length := by omega
          go_wp2_with fail
          go_ret2
          exact ⟨by rw [show prOut l d p = p.length from if_pos F.out, F.out]; rfl, HB.out⟩
  · have F := Lib.hid (show pairsErr l d p = pairErr l d from if_pos he)
    have G := Lib.hid (show prOut l d p = 0 from if_neg (by rw [F.out]; exact he))
    have e1 : (pairErr l d == 0) = false := by simpa using he
    have e2 : (pairErr l d != 0) = true := by simpa using he
    clear he
    go_wp2_with fail
    go_ret2
    exact ⟨by rw [G.out, F.out]; rfl, HB1.out⟩
end Go.Proofs.YtfjdnbnalihjiaaGreatDoor

/- The law of candidates: whether an item can be a claim, all candidates, the best one. No condition. -/
import Derived.Test.YtfjdnbnalihjiaaGreatDoorG18
import Derived.Test.YtfjdnbnalihjiaaGreatDoorH2
import Derived.Deep.RegionHeld3
namespace Go.Proofs.YtfjdnbnalihjiaaGreatDoor
open Go.RowKit Fs

set_option maxHeartbeats 800000 in
set_option maxRecDepth 100000 in
/-- Two rows that read as the same list are the same. -/
theorem gints_same (l : List Int) (A B : Option Addr) (c d : Nat) (w : World) (hA : ArrI w A l c) (hB : ArrI w B l d) :
    Calls Tryz.prog 38 #[.slice A l.length c, .slice B l.length d] w fun e w' => e = .returned (.bool true) ∧ Below w.heap.size w w' := by
  have b1 := hA.le.1
  have b2 := hA.le.2
  have b3 := hB.le.1
  have b4 := hB.le.2
  have HA := Lib.hid hA
  have HB := Lib.hid hB
  clear hA hB
  go_enter Tryz.func38, Tryz.ntmps38
  go_wp2_with fail
  go_loopw [5] (fun i wr => ∃ k : Nat, k ≤ l.length ∧ i = .int .i64 k ∧ Hid (Below w.heap.size w wr)) (fun i _ => l.length - (intOf i).toNat)
  case atStart => exact ⟨0, Nat.zero_le _, rfl, Lib.hid (Below.refl _ _)⟩
  case round =>
    obtain ⟨k, hk, rfl, HX⟩ := hrel
    by_cases hlt : k < l.length
    · have hkn : (k : Int) < (l.length : Int) := by omega
      obtain ⟨b1', o1, h1, c1⟩ := (HA.out.keep (Keep.below HX.out)).at_ hlt
      obtain ⟨b2', o2, h2, c2⟩ := (HB.out.keep (Keep.below HX.out)).at_ hlt
      subst h1; subst h2
      have e1 : (listI l k == listI l k) = true := by simp
      have e2 : (listI l k != listI l k) = false := by simp
      go_wp2_with fail
      go_quiet (fail)
      go_wp2_with fail
      go_roundw
      case rel => exact ⟨k + 1, by omega, by go_num, Lib.hid (bdrewN HX.out _)⟩
      case measure => simp [intOf]; omega
    · obtain rfl : k = l.length := by omega
      clear hlt hk
      go_wp2_with fail
      go_ret
      exact ⟨rfl, HX.out⟩

theorem ArrTh.one (w : World) (x : Thg) (p : Option Addr) (pc : Nat) (t : TypeId) (m : ArrMk w p x.marks pc) : ArrTh (w.alloc (.cells #[.string x.name, .int .i64 x.day, .string x.who, .slice p x.marks.length pc] t)) (some ⟨w.heap.size, 0, none⟩) [x] 1 ⟨fun _ => p, fun _ => pc⟩ := by
  refine ⟨⟨Nat.le_refl _, by show (1 : Nat) ≤ _; omega, fun _ => ⟨w.heap.size, 0, rfl, fun i j hi hj => ?_⟩⟩, fun i hi => ?_⟩
  · obtain rfl : i = 0 := by simpa using hi
    match j, hj with
    | 0, _ => exact cellNew _ _ _ 0
    | 1, _ => exact cellNew _ _ _ 1
    | 2, _ => exact cellNew _ _ _ 2
    | 3, _ => exact cellNew _ _ _ 3
  · obtain rfl : i = 0 := by simpa using hi
    exact m.keep (Keep.alloc _ _)
set_option linter.unusedSimpArgs false in
set_option maxHeartbeats 12800000 in
set_option maxRecDepth 100000 in
theorem lawCandidates_any (l : List Thg) (x : Thg) (A : Option Addr) (c : Nat) (a : GA) (v : Value) (w : World) (h : ArrTh w A l c a) (hv : RdThg w v x) (tbs : TabSt w) :
    Calls Tryz.prog 4 #[.slice A l.length c, v] w fun e w' => e = .returned (.bool true) ∧ Below w.heap.size w w' := by
  obtain ⟨p, pc, rfl, m⟩ := hv
  have b1 := h.le.1
  have b2 := h.le.2
  have HA := Lib.hid h
  have M := Lib.hid m
  have TBS := Lib.hid tbs
  have BX := Lib.hid (ThgAt.new w x p pc 26)
  clear h m tbs
  go_enter Tryz.func4, Tryz.ntmps4
  go_upto_region 1 with fail
  generalize hwb : w.alloc _ = wb at *
  have HW : Hid (Below w.heap.size w wb) := by rw [← hwb]; exact Lib.hid ((Below.refl _ _).alloc (Nat.le_refl _) _)
  clear hwb
  obtain ⟨q0, q1, q2, q3⟩ := BX.out
  go_wp2_with fail
  refine (lawAwake_any _ (TBS.out.keep (Keep.below HW.out))).mono ?_
  rintro e' w1 ⟨rfl, hb1⟩
  replace HW := Lib.hid (HW.out.trans (hb1.mono HW.out.size))
  replace BX := Lib.hid (BX.out.keep (Keep.below hb1))
  clear q0 q1 q2 q3
  clear hb1
  have HW1 := Lib.hid (HW.out.alloc HW.out.size (.cells #[.string x.name, .int .i64 x.day, .string x.who, .slice p x.marks.length pc] 26))
  have BX1 := Lib.hid (BX.out.keep (Keep.alloc _ (.cells #[.string x.name, .int .i64 x.day, .string x.who, .slice p x.marks.length pc] 26)))
  have ON := Lib.hid (ArrTh.one w1 x p pc 26 (M.out.keep (Keep.below HW.out)))
  obtain ⟨q0, q1, q2, q3⟩ := BX.out
  go_wp2_with fail
  refine (lawFew_any l [x] A (some ⟨w1.heap.size, 0, none⟩) c 1 a ⟨fun _ => p, fun _ => pc⟩ _ (HA.out.keep (Keep.below HW1.out)) ON.out).mono ?_
  rintro e' w2 ⟨⟨bb, rfl, hbb⟩, hb1⟩
  clear HW BX q0 q1 q2 q3 ON
  have HW := Lib.hid (HW1.out.trans (hb1.mono HW1.out.size))
  have BX := Lib.hid (BX1.out.keep (Keep.below hb1))
  clear hb1 HW1 BX1
  cases bb with
  | false =>
    clear hbb
    go_wp2_with fail
    go_ret
    exact ⟨rfl, HW.out⟩
  | true =>
    obtain ⟨hl14, -, hml, hmd⟩ := hbb rfl
    have HML := Lib.hid (fun i hi => (show (lThg l i).marks.length ≤ 1000000 by have := hml i hi; omega))
    have HMI := Lib.hid hml
    have hmx : x.marks.length ≤ 10 := hmd 0 (by show 0 < 1; decide)
    clear hbb hml hmd
    obtain ⟨wA, hwA⟩ : ∃ wz, wz = w2 := ⟨_, rfl⟩
    subst hwA
    obtain ⟨q0, q1, q2, q3⟩ := BX.out
    go_wp2_with fail
    have HBd : Hid (Below wA.heap.size wA wA.drew) := Lib.hid (Below.refl _ _).drew
    have MK : Hid (∀ w', Below wA.heap.size wA w' → w'.cell? ⟨w.heap.size, 0, none⟩ = some (.string x.name) ∧ w'.cell? ⟨w.heap.size, 0 + 1, none⟩ = some (.int .i64 x.day) ∧ w'.cell? ⟨w.heap.size, 0 + 2, none⟩ = some (.string x.who) ∧ w'.cell? ⟨w.heap.size, 0 + 3, none⟩ = some (.slice p x.marks.length pc) ∧ Hid (Below wA.heap.size wA w')) :=
      Lib.hid fun w' hw => ⟨Keep.below hw _ _ q0, Keep.below hw _ _ q1, Keep.below hw _ _ q2, Keep.below hw _ _ q3, Lib.hid hw⟩
    have KA : Hid (∀ w', Below wA.heap.size wA w' → ArrTh w' A l c a) := Lib.hid fun w' hw => (HA.out.keep (Keep.below (HW.out.trans (hw.mono HW.out.size))))
    have KM : Hid (∀ w', Below wA.heap.size wA w' → ArrMk w' p x.marks pc) := Lib.hid fun w' hw => (M.out.keep (Keep.below (HW.out.trans (hw.mono HW.out.size))))
    refine wp_region_held_drew (S := fun w' => w'.cell? ⟨w.heap.size, 0, none⟩ = some (.string x.name) ∧ w'.cell? ⟨w.heap.size, 0 + 1, none⟩ = some (.int .i64 x.day) ∧ w'.cell? ⟨w.heap.size, 0 + 2, none⟩ = some (.string x.who) ∧ w'.cell? ⟨w.heap.size, 0 + 3, none⟩ = some (.slice p x.marks.length pc) ∧ Hid (Below wA.heap.size wA w')) (by kernel_rfl) (MK.out _ HBd.out) (fun hHeld => ?_)
    refine wpAnyH_take (i := 0) (v := ?val0x1) rfl (by kernel_rfl) (by kernel_rfl) (by kernel_rfl) (fun _ _ _ h => h) (Or.inl ⟨by rfl, fun w9 hS9 => ?yields0x1⟩) (by assumption) ?later0x1
    case yields0x1 =>
      dsimp only at hS9
      go_simp
      try with_reducible rfl
    try simp only [Act.put, List.getElem_toArray, List.getElem_cons_succ, List.getElem_cons_zero, List.setIfInBounds_toArray, List.set_cons_zero, List.set_cons_succ]
    refine wpAnyH_take (i := 2) (v := ?val2x2) rfl (by kernel_rfl) (by kernel_rfl) (by kernel_rfl) (fun _ _ _ h => h) (Or.inl ⟨by rfl, fun w9 hS9 => ?yields2x2⟩) (by assumption) ?later2x2
    case yields2x2 =>
      dsimp only at hS9
      go_simp
      try with_reducible rfl
    try simp only [Act.put, List.getElem_toArray, List.getElem_cons_succ, List.getElem_cons_zero, List.setIfInBounds_toArray, List.set_cons_zero, List.set_cons_succ]
    refine wpAnyH_ready (rs := [1]) (by kernel_rfl) (by simp) ?_
    refine AllReadyH.cons rfl (fun K hK => ?_) AllReadyH.nil
    go_simp
    go_at_call 32
    go_split_ands
    refine (rCopyItems_any l A c a _ (KA.out _ (Hid.out (by assumption))) (by omega) HML.out).mono ?_
    rintro e' wz5 ⟨⟨A5, c5, a5, rfl, h5⟩, hb1⟩
    have H5 := Lib.hid h5
    clear h5
    go_wp2_with fail
    refine hK.out _ _ ?_ (fun hHeld => ?_)
    · (try dsimp only)
      (go_split_ands; exact MK.out _ (Below.trans (Hid.out (by assumption)) (hb1.mono (Hid.out (by assumption) : Below wA.heap.size wA _).size)))
    clear hK K
    try simp only [Act.put, List.getElem_toArray, List.getElem_cons_succ, List.getElem_cons_zero, List.setIfInBounds_toArray, List.set_cons_zero, List.set_cons_succ]
    refine wpAnyH_ready (rs := [3]) (by kernel_rfl) (by simp) ?_
    refine AllReadyH.cons rfl (fun K hK => ?_) AllReadyH.nil
    go_simp
    go_at_call 25
    go_split_ands
    refine (rCopyClaim_any x _ _ ⟨_, _, rfl, KM.out _ (Hid.out (by assumption))⟩ (by omega)).mono ?_
    rintro e' wz6 ⟨A6, c6, rfl, h6, -, hb1⟩
    have H6 := Lib.hid h6
    replace H5 := Lib.hid (H5.out.keep (Keep.below hb1))
    clear h6
    go_wp2_with fail
    refine hK.out _ _ ?_ (fun hHeld => ?_)
    · (try dsimp only)
      (go_split_ands; exact MK.out _ (Below.trans (Hid.out (by assumption)) (hb1.mono (Hid.out (by assumption) : Below wA.heap.size wA _).size)))
    clear hK K
    try simp only [Act.put, List.getElem_toArray, List.getElem_cons_succ, List.getElem_cons_zero, List.setIfInBounds_toArray, List.set_cons_zero, List.set_cons_succ]
    refine wpAnyH_ready (rs := [4]) (by kernel_rfl) (by simp) ?_
    refine AllReadyH.cons rfl (fun K hK => ?_) AllReadyH.nil
    go_simp
    go_at_call 31
    go_split_ands
    refine (xCandidates_any l x _ _ _ _ _ H5.out ⟨_, _, rfl, H6.out⟩).mono ?_
    rintro e' wz7 ⟨⟨A9, c9, rfl, h9⟩, hb1⟩
    have H9 := Lib.hid h9
    clear H5 H6 h9
    go_wp2_with fail
    refine hK.out _ _ ?_ (fun hHeld => ?_)
    · (try dsimp only)
      (go_split_ands; exact MK.out _ (Below.trans (Hid.out (by assumption)) (hb1.mono (Hid.out (by assumption) : Below wA.heap.size wA _).size)))
    clear hK K
    try simp only [Act.put, List.getElem_toArray, List.getElem_cons_succ, List.getElem_cons_zero, List.setIfInBounds_toArray, List.set_cons_zero, List.set_cons_succ]
    refine wpAnyH_take (i := 5) (v := ?val5x3) rfl (by kernel_rfl) (by kernel_rfl) (by kernel_rfl) (fun _ _ _ h => h) (Or.inl ⟨by rfl, fun w9 hS9 => ?yields5x3⟩) (by assumption) ?later5x3
    case yields5x3 =>
      dsimp only at hS9
      go_simp
      try with_reducible rfl
    try simp only [Act.put, List.getElem_toArray, List.getElem_cons_succ, List.getElem_cons_zero, List.setIfInBounds_toArray, List.set_cons_zero, List.set_cons_succ]
    refine wpAnyH_take (i := 6) (v := ?val6x4) rfl (by kernel_rfl) (by kernel_rfl) (by kernel_rfl) (fun _ _ _ h => h) (Or.inl ⟨by rfl, fun w9 hS9 => ?yields6x4⟩) (by assumption) ?later6x4
    case yields6x4 =>
      dsimp only at hS9
      go_simp
      try with_reducible rfl
    try simp only [Act.put, List.getElem_toArray, List.getElem_cons_succ, List.getElem_cons_zero, List.setIfInBounds_toArray, List.set_cons_zero, List.set_cons_succ]
    refine wpAnyH_take (i := 7) (v := ?val7x5) rfl (by kernel_rfl) (by kernel_rfl) (by kernel_rfl) (fun _ _ _ h => h) (Or.inl ⟨by rfl, fun w9 hS9 => ?yields7x5⟩) (by assumption) ?later7x5
    case yields7x5 =>
      dsimp only at hS9
      go_simp
      try with_reducible rfl
    try simp only [Act.put, List.getElem_toArray, List.getElem_cons_succ, List.getElem_cons_zero, List.setIfInBounds_toArray, List.set_cons_zero, List.set_cons_succ]
    refine wpAnyH_take (i := 8) (v := ?val8x6) rfl (by kernel_rfl) (by kernel_rfl) (by kernel_rfl) (fun _ _ _ h => h) (Or.inl ⟨by rfl, fun w9 hS9 => ?yields8x6⟩) (by assumption) ?later8x6
    case yields8x6 =>
      dsimp only at hS9
      go_simp
      try with_reducible rfl
    try simp only [Act.put, List.getElem_toArray, List.getElem_cons_succ, List.getElem_cons_zero, List.setIfInBounds_toArray, List.set_cons_zero, List.set_cons_succ]
    refine wpAnyH_take (i := 9) (v := ?val9x7) rfl (by kernel_rfl) (by kernel_rfl) (by kernel_rfl) (fun _ _ _ h => h) (Or.inl ⟨by rfl, fun w9 hS9 => ?yields9x7⟩) (by assumption) ?later9x7
    case yields9x7 =>
      dsimp only at hS9
      go_simp
      try with_reducible rfl
    try simp only [Act.put, List.getElem_toArray, List.getElem_cons_succ, List.getElem_cons_zero, List.setIfInBounds_toArray, List.set_cons_zero, List.set_cons_succ]
    refine wpAnyH_done (by kernel_rfl) ?_ _
    obtain ⟨-, -, -, -, HB⟩ := hHeld
    clear HBd MK
    clear KA KM
    replace HW := Lib.hid (HW.out.trans (HB.out.mono HW.out.size))
    replace BX := Lib.hid (BX.out.keep (Keep.below HB.out))
    clear HB
    clear q0 q1 q2 q3
    obtain ⟨wB, hwB⟩ : ∃ wz, wz = wz7 := ⟨_, rfl⟩
    subst hwB
    obtain ⟨q0, q1, q2, q3⟩ := BX.out
    go_wp2_with fail
    have HBd : Hid (Below wB.heap.size wB wB.drew) := Lib.hid (Below.refl _ _).drew
    have MK : Hid (∀ w', Below wB.heap.size wB w' → w'.cell? ⟨w.heap.size, 0, none⟩ = some (.string x.name) ∧ w'.cell? ⟨w.heap.size, 0 + 1, none⟩ = some (.int .i64 x.day) ∧ w'.cell? ⟨w.heap.size, 0 + 2, none⟩ = some (.string x.who) ∧ w'.cell? ⟨w.heap.size, 0 + 3, none⟩ = some (.slice p x.marks.length pc) ∧ Hid (Below wB.heap.size wB w')) :=
      Lib.hid fun w' hw => ⟨Keep.below hw _ _ q0, Keep.below hw _ _ q1, Keep.below hw _ _ q2, Keep.below hw _ _ q3, Lib.hid hw⟩
    have KA : Hid (∀ w', Below wB.heap.size wB w' → ArrTh w' A l c a) := Lib.hid fun w' hw => (HA.out.keep (Keep.below (HW.out.trans (hw.mono HW.out.size))))
    have KM : Hid (∀ w', Below wB.heap.size wB w' → ArrMk w' p x.marks pc) := Lib.hid fun w' hw => (M.out.keep (Keep.below (HW.out.trans (hw.mono HW.out.size))))
    refine wp_region_held_drew (S := fun w' => w'.cell? ⟨w.heap.size, 0, none⟩ = some (.string x.name) ∧ w'.cell? ⟨w.heap.size, 0 + 1, none⟩ = some (.int .i64 x.day) ∧ w'.cell? ⟨w.heap.size, 0 + 2, none⟩ = some (.string x.who) ∧ w'.cell? ⟨w.heap.size, 0 + 3, none⟩ = some (.slice p x.marks.length pc) ∧ Hid (Below wB.heap.size wB w')) (by kernel_rfl) (MK.out _ HBd.out) (fun hHeld => ?_)
    refine wpAnyH_take (i := 0) (v := ?val0x8) rfl (by kernel_rfl) (by kernel_rfl) (by kernel_rfl) (fun _ _ _ h => h) (Or.inl ⟨by rfl, fun w9 hS9 => ?yields0x8⟩) (by assumption) ?later0x8
    case yields0x8 =>
      dsimp only at hS9
      go_simp
      try with_reducible rfl
    try simp only [Act.put, List.getElem_toArray, List.getElem_cons_succ, List.getElem_cons_zero, List.setIfInBounds_toArray, List.set_cons_zero, List.set_cons_succ]
    refine wpAnyH_take (i := 2) (v := ?val2x9) rfl (by kernel_rfl) (by kernel_rfl) (by kernel_rfl) (fun _ _ _ h => h) (Or.inl ⟨by rfl, fun w9 hS9 => ?yields2x9⟩) (by assumption) ?later2x9
    case yields2x9 =>
      dsimp only at hS9
      go_simp
      try with_reducible rfl
    try simp only [Act.put, List.getElem_toArray, List.getElem_cons_succ, List.getElem_cons_zero, List.setIfInBounds_toArray, List.set_cons_zero, List.set_cons_succ]
    refine wpAnyH_ready (rs := [1]) (by kernel_rfl) (by simp) ?_
    refine AllReadyH.cons rfl (fun K hK => ?_) AllReadyH.nil
    go_simp
    go_at_call 32
    go_split_ands
    refine (rCopyItems_any l A c a _ (KA.out _ (Hid.out (by assumption))) (by omega) HML.out).mono ?_
    rintro e' wz5 ⟨⟨A5, c5, a5, rfl, h5⟩, hb1⟩
    have H5 := Lib.hid h5
    clear h5
    go_wp2_with fail
    refine hK.out _ _ ?_ (fun hHeld => ?_)
    · (try dsimp only)
      (go_split_ands; exact MK.out _ (Below.trans (Hid.out (by assumption)) (hb1.mono (Hid.out (by assumption) : Below wB.heap.size wB _).size)))
    clear hK K
    try simp only [Act.put, List.getElem_toArray, List.getElem_cons_succ, List.getElem_cons_zero, List.setIfInBounds_toArray, List.set_cons_zero, List.set_cons_succ]
    refine wpAnyH_ready (rs := [3]) (by kernel_rfl) (by simp) ?_
    refine AllReadyH.cons rfl (fun K hK => ?_) AllReadyH.nil
    go_simp
    go_at_call 25
    go_split_ands
    refine (rCopyClaim_any x _ _ ⟨_, _, rfl, KM.out _ (Hid.out (by assumption))⟩ (by omega)).mono ?_
    rintro e' wz6 ⟨A6, c6, rfl, h6, -, hb1⟩
    have H6 := Lib.hid h6
    replace H5 := Lib.hid (H5.out.keep (Keep.below hb1))
    clear h6
    go_wp2_with fail
    refine hK.out _ _ ?_ (fun hHeld => ?_)
    · (try dsimp only)
      (go_split_ands; exact MK.out _ (Below.trans (Hid.out (by assumption)) (hb1.mono (Hid.out (by assumption) : Below wB.heap.size wB _).size)))
    clear hK K
    try simp only [Act.put, List.getElem_toArray, List.getElem_cons_succ, List.getElem_cons_zero, List.setIfInBounds_toArray, List.set_cons_zero, List.set_cons_succ]
    refine wpAnyH_ready (rs := [4]) (by kernel_rfl) (by simp) ?_
    refine AllReadyH.cons rfl (fun K hK => ?_) AllReadyH.nil
    go_simp
    go_at_call 33
    go_split_ands
    refine (xBestFor_any l x _ _ _ _ _ H5.out ⟨_, _, rfl, H6.out⟩).mono ?_
    rintro e' wz7 ⟨rfl, hb1⟩
    clear H5 H6
    go_wp2_with fail
    refine hK.out _ _ ?_ (fun hHeld => ?_)
    · (try dsimp only)
      (go_split_ands; exact MK.out _ (Below.trans (Hid.out (by assumption)) (hb1.mono (Hid.out (by assumption) : Below wB.heap.size wB _).size)))
    clear hK K
    try simp only [Act.put, List.getElem_toArray, List.getElem_cons_succ, List.getElem_cons_zero, List.setIfInBounds_toArray, List.set_cons_zero, List.set_cons_succ]
    refine wpAnyH_take (i := 5) (v := ?val5x10) rfl (by kernel_rfl) (by kernel_rfl) (by kernel_rfl) (fun _ _ _ h => h) (Or.inl ⟨by rfl, fun w9 hS9 => ?yields5x10⟩) (by assumption) ?later5x10
    case yields5x10 =>
      dsimp only at hS9
      go_simp
      try with_reducible rfl
    try simp only [Act.put, List.getElem_toArray, List.getElem_cons_succ, List.getElem_cons_zero, List.setIfInBounds_toArray, List.set_cons_zero, List.set_cons_succ]
    refine wpAnyH_take (i := 6) (v := ?val6x11) rfl (by kernel_rfl) (by kernel_rfl) (by kernel_rfl) (fun _ _ _ h => h) (Or.inl ⟨by rfl, fun w9 hS9 => ?yields6x11⟩) (by assumption) ?later6x11
    case yields6x11 =>
      dsimp only at hS9
      go_simp
      try with_reducible rfl
    try simp only [Act.put, List.getElem_toArray, List.getElem_cons_succ, List.getElem_cons_zero, List.setIfInBounds_toArray, List.set_cons_zero, List.set_cons_succ]
    refine wpAnyH_take (i := 7) (v := ?val7x12) rfl (by kernel_rfl) (by kernel_rfl) (by kernel_rfl) (fun _ _ _ h => h) (Or.inl ⟨by rfl, fun w9 hS9 => ?yields7x12⟩) (by assumption) ?later7x12
    case yields7x12 =>
      dsimp only at hS9
      go_simp
      try with_reducible rfl
    try simp only [Act.put, List.getElem_toArray, List.getElem_cons_succ, List.getElem_cons_zero, List.setIfInBounds_toArray, List.set_cons_zero, List.set_cons_succ]
    refine wpAnyH_take (i := 8) (v := ?val8x13) rfl (by kernel_rfl) (by kernel_rfl) (by kernel_rfl) (fun _ _ _ h => h) (Or.inl ⟨by rfl, fun w9 hS9 => ?yields8x13⟩) (by assumption) ?later8x13
    case yields8x13 =>
      dsimp only at hS9
      go_simp
      try with_reducible rfl
    try simp only [Act.put, List.getElem_toArray, List.getElem_cons_succ, List.getElem_cons_zero, List.setIfInBounds_toArray, List.set_cons_zero, List.set_cons_succ]
    refine wpAnyH_take (i := 9) (v := ?val9x14) rfl (by kernel_rfl) (by kernel_rfl) (by kernel_rfl) (fun _ _ _ h => h) (Or.inl ⟨by rfl, fun w9 hS9 => ?yields9x14⟩) (by assumption) ?later9x14
    case yields9x14 =>
      dsimp only at hS9
      go_simp
      try with_reducible rfl
    try simp only [Act.put, List.getElem_toArray, List.getElem_cons_succ, List.getElem_cons_zero, List.setIfInBounds_toArray, List.set_cons_zero, List.set_cons_succ]
    refine wpAnyH_done (by kernel_rfl) ?_ _
    obtain ⟨-, -, -, -, HB⟩ := hHeld
    clear HBd MK
    clear KA KM
    replace HW := Lib.hid (HW.out.trans (HB.out.mono HW.out.size))
    replace BX := Lib.hid (BX.out.keep (Keep.below HB.out))
    replace H9 := Lib.hid (H9.out.keep (Keep.below HB.out))
    clear HB
    clear q0 q1 q2 q3
    obtain ⟨wC, hwC⟩ : ∃ wz, wz = wz7 := ⟨_, rfl⟩
    subst hwC
    go_wp2_with fail
    go_loopw [9] (fun i wr => ∃ n : Nat, n ≤ l.length ∧ i = .int .i64 n ∧ Hid (Below wC.heap.size wC wr)) (fun i _ => l.length - (intOf i).toNat)
    case atStart => exact ⟨0, Nat.zero_le _, rfl, Lib.hid (Below.refl _ _)⟩
    case round =>
      obtain ⟨n, hn, rfl, HX⟩ := hrel
      have HWr := Lib.hid (HW.out.trans (HX.out.mono HW.out.size))
      have BXr := Lib.hid (BX.out.keep (Keep.below HX.out))
      have H9r := Lib.hid (H9.out.keep (Keep.below HX.out))
      by_cases hlt : n < l.length
      · have hnn : (n : Int) < (l.length : Int) := by omega
        have d1' : decide ((n : Int) < (l.length : Int)) = true := decide_eq_true hnn
        have hmi := HMI.out n hlt
        clear HW BX H9
        have HW := HWr
        have BX := BXr
        clear HWr BXr H9r
        obtain ⟨wD, hwD⟩ : ∃ wz, wz = wr := ⟨_, rfl⟩
        subst hwD
        obtain ⟨gb, go, rfl, ⟨z0, z1, z2, z3⟩, -⟩ := (HA.out.keep (Keep.below HW.out)).at_ hlt
        obtain ⟨q0, q1, q2, q3⟩ := BX.out
        go_wp2_with fail
        have HBd : Hid (Below wD.heap.size wD wD.drew) := Lib.hid (Below.refl _ _).drew
        have MK : Hid (∀ w', Below wD.heap.size wD w' → w'.cell? ⟨w.heap.size, 0, none⟩ = some (.string x.name) ∧ w'.cell? ⟨w.heap.size, 0 + 1, none⟩ = some (.int .i64 x.day) ∧ w'.cell? ⟨w.heap.size, 0 + 2, none⟩ = some (.string x.who) ∧ w'.cell? ⟨w.heap.size, 0 + 3, none⟩ = some (.slice p x.marks.length pc) ∧ w'.cell? ⟨gb, go + n * 4, none⟩ = some (.string (lThg l n).name) ∧ w'.cell? ⟨gb, go + n * 4 + 1, none⟩ = some (.int .i64 (lThg l n).day) ∧ w'.cell? ⟨gb, go + n * 4 + 2, none⟩ = some (.string (lThg l n).who) ∧ w'.cell? ⟨gb, go + n * 4 + 3, none⟩ = some (.slice (a.p n) (lThg l n).marks.length (a.pc n)) ∧ Hid (Below wD.heap.size wD w')) :=
          Lib.hid fun w' hw => ⟨Keep.below hw _ _ q0, Keep.below hw _ _ q1, Keep.below hw _ _ q2, Keep.below hw _ _ q3, Keep.below hw _ _ z0, Keep.below hw _ _ z1, Keep.below hw _ _ z2, Keep.below hw _ _ z3, Lib.hid hw⟩
        have KI : Hid (∀ w', Below wD.heap.size wD w' → ArrMk w' (a.p n) (lThg l n).marks (a.pc n)) := Lib.hid fun w' hw => ((HA.out.keep (Keep.below (HW.out.trans (hw.mono HW.out.size)))).2 n hlt)
        have KM : Hid (∀ w', Below wD.heap.size wD w' → ArrMk w' p x.marks pc) := Lib.hid fun w' hw => (M.out.keep (Keep.below (HW.out.trans (hw.mono HW.out.size))))
        refine wp_region_held_drew (S := fun w' => w'.cell? ⟨w.heap.size, 0, none⟩ = some (.string x.name) ∧ w'.cell? ⟨w.heap.size, 0 + 1, none⟩ = some (.int .i64 x.day) ∧ w'.cell? ⟨w.heap.size, 0 + 2, none⟩ = some (.string x.who) ∧ w'.cell? ⟨w.heap.size, 0 + 3, none⟩ = some (.slice p x.marks.length pc) ∧ w'.cell? ⟨gb, go + n * 4, none⟩ = some (.string (lThg l n).name) ∧ w'.cell? ⟨gb, go + n * 4 + 1, none⟩ = some (.int .i64 (lThg l n).day) ∧ w'.cell? ⟨gb, go + n * 4 + 2, none⟩ = some (.string (lThg l n).who) ∧ w'.cell? ⟨gb, go + n * 4 + 3, none⟩ = some (.slice (a.p n) (lThg l n).marks.length (a.pc n)) ∧ Hid (Below wD.heap.size wD w')) (by kernel_rfl) (MK.out _ HBd.out) (fun hHeld => ?_)
        refine wpAnyH_take (i := 0) (v := ?val0x15) rfl (by kernel_rfl) (by kernel_rfl) (by kernel_rfl) (fun _ _ _ h => h) (Or.inl ⟨by rfl, fun w9 hS9 => ?yields0x15⟩) (by assumption) ?later0x15
        case yields0x15 =>
          dsimp only at hS9
          go_simp
          try with_reducible rfl
        try simp only [Act.put, List.getElem_toArray, List.getElem_cons_succ, List.getElem_cons_zero, List.setIfInBounds_toArray, List.set_cons_zero, List.set_cons_succ]
        refine wpAnyH_take (i := 1) (v := ?val1x16) rfl (by kernel_rfl) (by kernel_rfl) (by kernel_rfl) (fun _ _ _ h => h) (Or.inl ⟨by rfl, fun w9 hS9 => ?yields1x16⟩) (by assumption) ?later1x16
        case yields1x16 =>
          dsimp only at hS9
          go_simp
          try with_reducible rfl
        try simp only [Act.put, List.getElem_toArray, List.getElem_cons_succ, List.getElem_cons_zero, List.setIfInBounds_toArray, List.set_cons_zero, List.set_cons_succ]
        refine wpAnyH_take (i := 2) (v := ?val2x17) rfl (by kernel_rfl) (by kernel_rfl) (by kernel_rfl) (fun _ _ _ h => h) (Or.inl ⟨by rfl, fun w9 hS9 => ?yields2x17⟩) (by assumption) ?later2x17
        case yields2x17 =>
          dsimp only at hS9
          go_simp
          try with_reducible rfl
        try simp only [Act.put, List.getElem_toArray, List.getElem_cons_succ, List.getElem_cons_zero, List.setIfInBounds_toArray, List.set_cons_zero, List.set_cons_succ]
        refine wpAnyH_take (i := 3) (v := ?val3x18) rfl (by kernel_rfl) (by kernel_rfl) (by kernel_rfl) (fun _ _ _ h => h) (Or.inl ⟨by rfl, fun w9 hS9 => ?yields3x18⟩) (by assumption) ?later3x18
        case yields3x18 =>
          dsimp only at hS9
          go_simp
          try with_reducible rfl
        try simp only [Act.put, List.getElem_toArray, List.getElem_cons_succ, List.getElem_cons_zero, List.setIfInBounds_toArray, List.set_cons_zero, List.set_cons_succ]
        refine wpAnyH_take (i := 5) (v := ?val5x19) rfl (by kernel_rfl) (by kernel_rfl) (by kernel_rfl) (fun _ _ _ h => h) (Or.inl ⟨by rfl, fun w9 hS9 => ?yields5x19⟩) (by assumption) ?later5x19
        case yields5x19 =>
          dsimp only at hS9
          go_simp
          try with_reducible rfl
        try simp only [Act.put, List.getElem_toArray, List.getElem_cons_succ, List.getElem_cons_zero, List.setIfInBounds_toArray, List.set_cons_zero, List.set_cons_succ]
        refine wpAnyH_ready (rs := [4]) (by kernel_rfl) (by simp) ?_
        refine AllReadyH.cons rfl (fun K hK => ?_) AllReadyH.nil
        go_simp
        go_at_call 22
        go_split_ands
        refine (rCopyItem_any (lThg l n) _ _ ⟨_, _, rfl, KI.out _ (Hid.out (by assumption))⟩ (by omega)).mono ?_
        rintro e' wz5 ⟨A5, c5, rfl, h5, -, hb1⟩
        have H5 := Lib.hid h5
        clear h5
        go_wp2_with fail
        refine hK.out _ _ ?_ (fun hHeld => ?_)
        · (try dsimp only)
          (go_split_ands; exact MK.out _ (Below.trans (Hid.out (by assumption)) (hb1.mono (Hid.out (by assumption) : Below wD.heap.size wD _).size)))
        clear hK K
        try simp only [Act.put, List.getElem_toArray, List.getElem_cons_succ, List.getElem_cons_zero, List.setIfInBounds_toArray, List.set_cons_zero, List.set_cons_succ]
        refine wpAnyH_ready (rs := [6]) (by kernel_rfl) (by simp) ?_
        refine AllReadyH.cons rfl (fun K hK => ?_) AllReadyH.nil
        go_simp
        go_at_call 25
        go_split_ands
        refine (rCopyClaim_any x _ _ ⟨_, _, rfl, KM.out _ (Hid.out (by assumption))⟩ (by omega)).mono ?_
        rintro e' wz6 ⟨A6, c6, rfl, h6, -, hb1⟩
        have H6 := Lib.hid h6
        replace H5 := Lib.hid (H5.out.keep (Keep.below hb1))
        clear h6
        go_wp2_with fail
        refine hK.out _ _ ?_ (fun hHeld => ?_)
        · (try dsimp only)
          (go_split_ands; exact MK.out _ (Below.trans (Hid.out (by assumption)) (hb1.mono (Hid.out (by assumption) : Below wD.heap.size wD _).size)))
        clear hK K
        try simp only [Act.put, List.getElem_toArray, List.getElem_cons_succ, List.getElem_cons_zero, List.setIfInBounds_toArray, List.set_cons_zero, List.set_cons_succ]
        refine wpAnyH_ready (rs := [7]) (by kernel_rfl) (by simp) ?_
        refine AllReadyH.cons rfl (fun K hK => ?_) AllReadyH.nil
        go_simp
        go_at_call 34
        go_split_ands
        refine (xCanBe_any (lThg l n) x _ _ _ ⟨_, _, rfl, H5.out⟩ ⟨_, _, rfl, H6.out⟩).mono ?_
        rintro e' wz7 ⟨rfl, hb1⟩
        clear H5 H6
        go_wp2_with fail
        refine hK.out _ _ ?_ (fun hHeld => ?_)
        · (try dsimp only)
          (go_split_ands; exact MK.out _ (Below.trans (Hid.out (by assumption)) (hb1.mono (Hid.out (by assumption) : Below wD.heap.size wD _).size)))
        clear hK K
        try simp only [Act.put, List.getElem_toArray, List.getElem_cons_succ, List.getElem_cons_zero, List.setIfInBounds_toArray, List.set_cons_zero, List.set_cons_succ]
        refine wpAnyH_take (i := 8) (v := ?val8x20) rfl (by kernel_rfl) (by kernel_rfl) (by kernel_rfl) (fun _ _ _ h => h) (Or.inl ⟨by rfl, fun w9 hS9 => ?yields8x20⟩) (by assumption) ?later8x20
        case yields8x20 =>
          dsimp only at hS9
          go_simp
          try with_reducible rfl
        try simp only [Act.put, List.getElem_toArray, List.getElem_cons_succ, List.getElem_cons_zero, List.setIfInBounds_toArray, List.set_cons_zero, List.set_cons_succ]
        refine wpAnyH_take (i := 9) (v := ?val9x21) rfl (by kernel_rfl) (by kernel_rfl) (by kernel_rfl) (fun _ _ _ h => h) (Or.inl ⟨by rfl, fun w9 hS9 => ?yields9x21⟩) (by assumption) ?later9x21
        case yields9x21 =>
          dsimp only at hS9
          go_simp
          try with_reducible rfl
        try simp only [Act.put, List.getElem_toArray, List.getElem_cons_succ, List.getElem_cons_zero, List.setIfInBounds_toArray, List.set_cons_zero, List.set_cons_succ]
        refine wpAnyH_take (i := 10) (v := ?val10x22) rfl (by kernel_rfl) (by kernel_rfl) (by kernel_rfl) (fun _ _ _ h => h) (Or.inl ⟨by rfl, fun w9 hS9 => ?yields10x22⟩) (by assumption) ?later10x22
        case yields10x22 =>
          dsimp only at hS9
          go_simp
          try with_reducible rfl
        try simp only [Act.put, List.getElem_toArray, List.getElem_cons_succ, List.getElem_cons_zero, List.setIfInBounds_toArray, List.set_cons_zero, List.set_cons_succ]
        refine wpAnyH_take (i := 11) (v := ?val11x23) rfl (by kernel_rfl) (by kernel_rfl) (by kernel_rfl) (fun _ _ _ h => h) (Or.inl ⟨by rfl, fun w9 hS9 => ?yields11x23⟩) (by assumption) ?later11x23
        case yields11x23 =>
          dsimp only at hS9
          go_simp
          try with_reducible rfl
        try simp only [Act.put, List.getElem_toArray, List.getElem_cons_succ, List.getElem_cons_zero, List.setIfInBounds_toArray, List.set_cons_zero, List.set_cons_succ]
        refine wpAnyH_take (i := 12) (v := ?val12x24) rfl (by kernel_rfl) (by kernel_rfl) (by kernel_rfl) (fun _ _ _ h => h) (Or.inl ⟨by rfl, fun w9 hS9 => ?yields12x24⟩) (by assumption) ?later12x24
        case yields12x24 =>
          dsimp only at hS9
          go_simp
          try with_reducible rfl
        try simp only [Act.put, List.getElem_toArray, List.getElem_cons_succ, List.getElem_cons_zero, List.setIfInBounds_toArray, List.set_cons_zero, List.set_cons_succ]
        refine wpAnyH_done (by kernel_rfl) ?_ _
        obtain ⟨-, -, -, -, -, -, -, -, HB⟩ := hHeld
        clear HBd MK
        clear KI KM
        replace HW := Lib.hid (HW.out.trans (HB.out.mono HW.out.size))
        replace BX := Lib.hid (BX.out.keep (Keep.below HB.out))
        replace HX := Lib.hid (HX.out.trans (HB.out.mono HX.out.size))
        clear HB z0 z1 z2 z3
        clear q0 q1 q2 q3
        obtain ⟨wE, hwE⟩ : ∃ wz, wz = wz7 := ⟨_, rfl⟩
        subst hwE
        obtain ⟨gb', go', e9, ⟨z0, z1, z2, z3⟩, -⟩ := (HA.out.keep (Keep.below HW.out)).at_ hlt
        obtain ⟨rfl, rfl⟩ : gb = gb' ∧ go = go' := by simpa using e9
        clear e9
        obtain ⟨q0, q1, q2, q3⟩ := BX.out
        go_wp2_with fail
        refine (rCheckItem_any (lThg l n) _ _ ⟨_, _, rfl, (HA.out.keep (Keep.below HW.out)).2 n hlt⟩).mono ?_
        rintro e' w5 ⟨rfl, hb1⟩
        replace HW := Lib.hid (HW.out.trans (hb1.mono HW.out.size))
        replace BX := Lib.hid (BX.out.keep (Keep.below hb1))
        replace HX := Lib.hid (HX.out.trans (hb1.mono HX.out.size))
        clear z0 z1 z2 z3
        clear q0 q1 q2 q3
        clear hb1
        by_cases he : thgErr (lThg l n) = 0
        · have HE1 := Lib.hid he
          have HI0 := Lib.hid (thg_ok he).1
          rw [he]
          clear he
          obtain ⟨q0, q1, q2, q3⟩ := BX.out
          go_wp2_with fail
          refine (rCheckClaim_any x _ _ ⟨_, _, rfl, M.out.keep (Keep.below HW.out)⟩).mono ?_
          rintro e' w6 ⟨rfl, hb1⟩
          replace HW := Lib.hid (HW.out.trans (hb1.mono HW.out.size))
          replace BX := Lib.hid (BX.out.keep (Keep.below hb1))
          replace HX := Lib.hid (HX.out.trans (hb1.mono HX.out.size))
          clear q0 q1 q2 q3
          clear hb1
          by_cases he : thgErr x = 0
          · have HX0 := Lib.hid (thg_ok he).1
            have F := Lib.hid (show cbErr (lThg l n) x = 0 by unfold cbErr; rw [if_neg (fun hh => hh HE1.out)]; exact he)
            have G := Lib.hid (show cbOut (lThg l n) x = canBe (lThg l n) x from if_pos F.out)
            rw [F.out, G.out, he]
            clear he
            have ee1 : ((canBe (lThg l n) x) == (canBe (lThg l n) x)) = true := by simp
            have ee1b : ((canBe (lThg l n) x) != (canBe (lThg l n) x)) = false := by simp
            obtain ⟨gb', go', e9, ⟨z0, z1, z2, z3⟩, -⟩ := (HA.out.keep (Keep.below HW.out)).at_ hlt
            obtain ⟨rfl, rfl⟩ : gb = gb' ∧ go = go' := by simpa using e9
            clear e9
            obtain ⟨q0, q1, q2, q3⟩ := BX.out
            go_wp2_with fail
            obtain ⟨C, Ci, Co⟩ := classOf w6
            refine quietC (C := C) (by kernel_rfl) (by kernel_rfl) (Co.out _ (Below.refl _ _).drew) ?_
            repeat (first
              | go_big_quiet_skip
              | (go_big_quiet_want; go_big_quiet_op; go_big_quiet_on)
              | (refine quiet_yes (by rfl) ?_
                 apply Exists.intro
                 refine ⟨fun w' hC => ?_, ?_⟩
                 · have hbb := Ci.out _ hC
                   have zz0 := Keep.below hbb _ _ q0
                   have zz1 := Keep.below hbb _ _ q1
                   have zz2 := Keep.below hbb _ _ q2
                   have zz3 := Keep.below hbb _ _ q3
                   have zz4 := Keep.below hbb _ _ z0
                   have zz5 := Keep.below hbb _ _ z1
                   have zz6 := Keep.below hbb _ _ z2
                   have zz7 := Keep.below hbb _ _ z3
                   go_simp
                   first
                     | done
                     | rfl
                     | (go_at_call 35
                        refine (rCanBe_any (lThg l n) x _ _ _ ⟨_, _, rfl, (HA.out.keep (Keep.below (HW.out.trans (hbb.mono HW.out.size)))).2 n hlt⟩ ⟨_, _, rfl, M.out.keep (Keep.below (HW.out.trans (hbb.mono HW.out.size)))⟩ HI0.out HX0.out).mono ?_
                        rintro e' w1 ⟨rfl, hb1⟩
                        exact ⟨rfl, Co.out _ (hbb.trans (hb1.mono hbb.size))⟩)
                 simp only [Act.put, List.setIfInBounds_toArray, List.set_cons_zero, List.set_cons_succ]))
            refine wpQuiet_nil ?_
            intro wz hC1
            have HZ := Lib.hid (HX.out.trans ((Ci.out _ hC1).mono HX.out.size))
            clear hC1 Ci Co
            go_wp2_with fail
            go_roundw
            case rel => exact ⟨n + 1, by omega, by go_num, HZ⟩
            case measure => simp [intOf]; omega
          · have F := Lib.hid (show cbErr (lThg l n) x = thgErr x from by unfold cbErr; rw [if_neg (fun hh => hh HE1.out)])
            have G := Lib.hid (show cbOut (lThg l n) x = false from if_neg (by rw [F.out]; exact he))
            rw [F.out, G.out]
            have e1 : (thgErr x == 0) = false := by simpa using he
            have e2 : (thgErr x != 0) = true := by simpa using he
            clear he
            have ee1 : ((thgErr x) == (thgErr x)) = true := by simp
            have ee1b : ((thgErr x) != (thgErr x)) = false := by simp
            obtain ⟨gb', go', e9, ⟨z0, z1, z2, z3⟩, -⟩ := (HA.out.keep (Keep.below HW.out)).at_ hlt
            obtain ⟨rfl, rfl⟩ : gb = gb' ∧ go = go' := by simpa using e9
            clear e9
            obtain ⟨q0, q1, q2, q3⟩ := BX.out
            go_wp2_with fail
            obtain ⟨C, Ci, Co⟩ := classOf w6
            refine quietC (C := C) (by kernel_rfl) (by kernel_rfl) (Co.out _ (Below.refl _ _).drew) ?_
            repeat (first
              | go_big_quiet_skip
              | (go_big_quiet_want; go_big_quiet_op; go_big_quiet_on)
              | (refine quiet_yes (by rfl) ?_
                 apply Exists.intro
                 refine ⟨fun w' hC => ?_, ?_⟩
                 · have hbb := Ci.out _ hC
                   have zz0 := Keep.below hbb _ _ q0
                   have zz1 := Keep.below hbb _ _ q1
                   have zz2 := Keep.below hbb _ _ q2
                   have zz3 := Keep.below hbb _ _ q3
                   have zz4 := Keep.below hbb _ _ z0
                   have zz5 := Keep.below hbb _ _ z1
                   have zz6 := Keep.below hbb _ _ z2
                   have zz7 := Keep.below hbb _ _ z3
                   go_simp
                   first
                     | done
                     | rfl
                 simp only [Act.put, List.setIfInBounds_toArray, List.set_cons_zero, List.set_cons_succ]))
            refine wpQuiet_nil ?_
            intro wz hC1
            have HZ := Lib.hid (HX.out.trans ((Ci.out _ hC1).mono HX.out.size))
            clear hC1 Ci Co
            go_wp2_with fail
            go_roundw
            case rel => exact ⟨n + 1, by omega, by go_num, HZ⟩
            case measure => simp [intOf]; omega
        · have F := Lib.hid (show cbErr (lThg l n) x = thgErr (lThg l n) from if_pos he)
          have G := Lib.hid (show cbOut (lThg l n) x = false from if_neg (by rw [F.out]; exact he))
          rw [F.out, G.out]
          have e1 : (thgErr (lThg l n) == 0) = false := by simpa using he
          have e2 : (thgErr (lThg l n) != 0) = true := by simpa using he
          clear he
          have ee1 : ((thgErr (lThg l n)) == (thgErr (lThg l n))) = true := by simp
          have ee1b : ((thgErr (lThg l n)) != (thgErr (lThg l n))) = false := by simp
          obtain ⟨gb', go', e9, ⟨z0, z1, z2, z3⟩, -⟩ := (HA.out.keep (Keep.below HW.out)).at_ hlt
          obtain ⟨rfl, rfl⟩ : gb = gb' ∧ go = go' := by simpa using e9
          clear e9
          obtain ⟨q0, q1, q2, q3⟩ := BX.out
          go_wp2_with fail
          obtain ⟨C, Ci, Co⟩ := classOf w5
          refine quietC (C := C) (by kernel_rfl) (by kernel_rfl) (Co.out _ (Below.refl _ _).drew) ?_
          repeat (first
            | go_big_quiet_skip
            | (go_big_quiet_want; go_big_quiet_op; go_big_quiet_on)
            | (refine quiet_yes (by rfl) ?_
               apply Exists.intro
               refine ⟨fun w' hC => ?_, ?_⟩
               · have hbb := Ci.out _ hC
                 have zz0 := Keep.below hbb _ _ q0
                 have zz1 := Keep.below hbb _ _ q1
                 have zz2 := Keep.below hbb _ _ q2
                 have zz3 := Keep.below hbb _ _ q3
                 have zz4 := Keep.below hbb _ _ z0
                 have zz5 := Keep.below hbb _ _ z1
                 have zz6 := Keep.below hbb _ _ z2
                 have zz7 := Keep.below hbb _ _ z3
                 go_simp
                 first
                   | done
                   | rfl
               simp only [Act.put, List.setIfInBounds_toArray, List.set_cons_zero, List.set_cons_succ]))
          refine wpQuiet_nil ?_
          intro wz hC1
          have HZ := Lib.hid (HX.out.trans ((Ci.out _ hC1).mono HX.out.size))
          clear hC1 Ci Co
          go_wp2_with fail
          go_roundw
          case rel => exact ⟨n + 1, by omega, by go_num, HZ⟩
          case measure => simp [intOf]; omega
      · obtain rfl : n = l.length := by omega
        have d1' : decide ((l.length : Int) < (l.length : Int)) = false := decide_eq_false (by omega)
        clear HW BX H9
        have HW := HWr
        have BX := BXr
        have H9 := H9r
        clear HWr BXr H9r hlt hn
        obtain ⟨q0, q1, q2, q3⟩ := BX.out
        go_wp2_with fail
        refine (rItemsErr_any l A c a _ (HA.out.keep (Keep.below HW.out))).mono ?_
        rintro e' w7 ⟨rfl, hb1⟩
        replace HW := Lib.hid (HW.out.trans (hb1.mono HW.out.size))
        replace BX := Lib.hid (BX.out.keep (Keep.below hb1))
        replace H9 := Lib.hid (H9.out.keep (Keep.below hb1))
        clear q0 q1 q2 q3
        clear hb1
        by_cases he : thgsErr l = 0
        · have HE1 := Lib.hid he
          have HK := Lib.hid (fun i hi => (thg_ok ((thgs_ok he).2 i hi).1).1)
          rw [he]
          clear he
          obtain ⟨q0, q1, q2, q3⟩ := BX.out
          go_wp2_with fail
          refine (rCheckClaim_any x _ _ ⟨_, _, rfl, M.out.keep (Keep.below HW.out)⟩).mono ?_
          rintro e' w8 ⟨rfl, hb1⟩
          replace HW := Lib.hid (HW.out.trans (hb1.mono HW.out.size))
          replace BX := Lib.hid (BX.out.keep (Keep.below hb1))
          replace H9 := Lib.hid (H9.out.keep (Keep.below hb1))
          clear q0 q1 q2 q3
          clear hb1
          by_cases he : thgErr x = 0
          · have HX0 := Lib.hid (thg_ok he).1
            have F := Lib.hid (show cdErr l x = 0 by unfold cdErr; rw [if_neg (fun hh => hh HE1.out)]; exact he)
            have G := Lib.hid (show cdOut l x = cands l x from if_pos F.out)
            have G2 := Lib.hid (show bfOut l x = best l x from if_pos F.out)
            have F2 := Lib.hid (show bfErr l x = if (cands l x).length = 0 then 12 else 0 by unfold bfErr; rw [if_neg (fun hh => hh F.out)])
            rw [G.out] at H9
            rw [he, F.out, G.out, G2.out]
            clear he
            obtain ⟨q0, q1, q2, q3⟩ := BX.out
            go_wp2_with fail
            refine (rBestFor_any l x A c a _ _ (HA.out.keep (Keep.below HW.out)) ⟨_, _, rfl, M.out.keep (Keep.below HW.out)⟩ HK.out HX0.out (by omega)).mono ?_
            rintro e' w9 ⟨rfl, hb1⟩
            replace HW := Lib.hid (HW.out.trans (hb1.mono HW.out.size))
            replace BX := Lib.hid (BX.out.keep (Keep.below hb1))
            replace H9 := Lib.hid (H9.out.keep (Keep.below hb1))
            clear q0 q1 q2 q3
            clear hb1
            by_cases h0 : (cands l x).length = 0
            · have d8 : decide ((cands l x).length ≠ 0) = false := decide_eq_false (fun hh => hh h0)
              rw [F2.out, if_pos h0, d8, show best l x = 0 from if_pos h0]
              clear h0 d8
              obtain ⟨q0, q1, q2, q3⟩ := BX.out
              go_wp2_with fail
              refine (rCandidates_any l x A c a _ _ (HA.out.keep (Keep.below HW.out)) ⟨_, _, rfl, M.out.keep (Keep.below HW.out)⟩ HK.out HX0.out (by omega)).mono ?_
              rintro e' wx ⟨⟨A8, c8, rfl, h8⟩, hb1⟩
              replace HW := Lib.hid (HW.out.trans (hb1.mono HW.out.size))
              replace BX := Lib.hid (BX.out.keep (Keep.below hb1))
              replace H9 := Lib.hid (H9.out.keep (Keep.below hb1))
              have H8 := Lib.hid h8
              clear h8
              clear q0 q1 q2 q3
              clear hb1
              obtain ⟨q0, q1, q2, q3⟩ := BX.out
              go_wp2_with fail
              refine (gints_same (cands l x) A9 A8 c9 c8 _ H9.out H8.out).mono ?_
              rintro e' wy ⟨rfl, hb1⟩
              replace HW := Lib.hid (HW.out.trans (hb1.mono HW.out.size))
              replace BX := Lib.hid (BX.out.keep (Keep.below hb1))
              replace H9 := Lib.hid (H9.out.keep (Keep.below hb1))
              replace H8 := Lib.hid (H8.out.keep (Keep.below hb1))
              clear q0 q1 q2 q3
              clear hb1
              go_wp2_with fail
              go_ret
              exact ⟨rfl, HW.out⟩
            · have d8 : decide ((cands l x).length ≠ 0) = true := decide_eq_true h0
              rw [F2.out, if_neg h0, d8]
              clear h0 d8
              have ee1 : ((best l x) == (best l x)) = true := by simp
              have ee1b : ((best l x) != (best l x)) = false := by simp
              obtain ⟨q0, q1, q2, q3⟩ := BX.out
              go_wp2_with fail
              refine (rCandidates_any l x A c a _ _ (HA.out.keep (Keep.below HW.out)) ⟨_, _, rfl, M.out.keep (Keep.below HW.out)⟩ HK.out HX0.out (by omega)).mono ?_
              rintro e' wx ⟨⟨A8, c8, rfl, h8⟩, hb1⟩
              replace HW := Lib.hid (HW.out.trans (hb1.mono HW.out.size))
              replace BX := Lib.hid (BX.out.keep (Keep.below hb1))
              replace H9 := Lib.hid (H9.out.keep (Keep.below hb1))
              have H8 := Lib.hid h8
              clear h8
              clear q0 q1 q2 q3
              clear hb1
              obtain ⟨q0, q1, q2, q3⟩ := BX.out
              go_wp2_with fail
              refine (gints_same (cands l x) A9 A8 c9 c8 _ H9.out H8.out).mono ?_
              rintro e' wy ⟨rfl, hb1⟩
              replace HW := Lib.hid (HW.out.trans (hb1.mono HW.out.size))
              replace BX := Lib.hid (BX.out.keep (Keep.below hb1))
              replace H9 := Lib.hid (H9.out.keep (Keep.below hb1))
              replace H8 := Lib.hid (H8.out.keep (Keep.below hb1))
              clear q0 q1 q2 q3
              clear hb1
              go_wp2_with fail
              go_ret
              exact ⟨rfl, HW.out⟩
          · have F := Lib.hid (show cdErr l x = thgErr x from by unfold cdErr; rw [if_neg (fun hh => hh HE1.out)])
            have F2 := Lib.hid (show bfErr l x = thgErr x by unfold bfErr; rw [F.out, if_pos he])
            have G := Lib.hid (show cdOut l x = [] from if_neg (by rw [F.out]; exact he))
            have G2 := Lib.hid (show bfOut l x = 0 from if_neg (by rw [F.out]; exact he))
            rw [F.out, F2.out, G.out, G2.out]
            have e1 : (thgErr x == 0) = false := by simpa using he
            have e2 : (thgErr x != 0) = true := by simpa using he
            clear he
            have ee1 : ((thgErr x) == (thgErr x)) = true := by simp
            have ee1b : ((thgErr x) != (thgErr x)) = false := by simp
            obtain ⟨q0, q1, q2, q3⟩ := BX.out
            go_wp2_with fail
            go_ret
            exact ⟨rfl, HW.out⟩
        · have F := Lib.hid (show cdErr l x = thgsErr l from if_pos he)
          have F2 := Lib.hid (show bfErr l x = thgsErr l by unfold bfErr; rw [F.out, if_pos he])
          have G := Lib.hid (show cdOut l x = [] from if_neg (by rw [F.out]; exact he))
          have G2 := Lib.hid (show bfOut l x = 0 from if_neg (by rw [F.out]; exact he))
          rw [F.out, F2.out, G.out, G2.out]
          have e1 : (thgsErr l == 0) = false := by simpa using he
          have e2 : (thgsErr l != 0) = true := by simpa using he
          clear he
          have ee1 : ((thgsErr l) == (thgsErr l)) = true := by simp
          have ee1b : ((thgsErr l) != (thgsErr l)) = false := by simp
          obtain ⟨q0, q1, q2, q3⟩ := BX.out
          go_wp2_with fail
          go_ret
          exact ⟨rfl, HW.out⟩
end Go.Proofs.YtfjdnbnalihjiaaGreatDoor

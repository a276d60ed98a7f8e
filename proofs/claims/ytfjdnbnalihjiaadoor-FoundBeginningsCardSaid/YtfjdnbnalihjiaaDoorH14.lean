/- The law of beginnings: what comes later changes nothing. No condition. -/
import Derived.Test.YtfjdnbnalihjiaaDoorG11
import Derived.Test.YtfjdnbnalihjiaaDoorH2
import Derived.Deep.RegionHeld3
namespace Go.Proofs.YtfjdnbnalihjiaaDoor
open Go.RowKit Fs

/-- The order of rights, in memory. -/
structure OrdIn (w : World) (g : Nat) : Prop where
  c0 : w.cell? ⟨g, 0, none⟩ = some (.int .i64 3)
  c1 : w.cell? ⟨g, 1, none⟩ = some (.int .i64 0)
  c2 : w.cell? ⟨g, 2, none⟩ = some (.int .i64 1)
  c3 : w.cell? ⟨g, 3, none⟩ = some (.int .i64 2)
theorem OrdIn.at_ {w : World} {g : Nat} (m : OrdIn w g) {r : Int} (h : 0 ≤ r ∧ r ≤ 3) : w.cell? ⟨g, r.toNat, none⟩ = some (.int .i64 (ordR r)) := by
  have : r = 0 ∨ r = 1 ∨ r = 2 ∨ r = 3 := by omega
  rcases this with e | e | e | e
  · subst e; exact m.c0
  · subst e; exact m.c1
  · subst e; exact m.c2
  · subst e; exact m.c3
def Past (w0 w : World) : Prop := Below w0.heap.size w0 w
theorem Past.keep {w0 w w' : World} (h : Past w0 w) (hb : Below w.heap.size w w') : Past w0 w' := Below.trans h (hb.mono (Below.size h))
set_option linter.unusedSimpArgs false in
set_option maxHeartbeats 12800000 in
set_option maxRecDepth 100000 in
theorem lawBegin_any (x : Thg) (v : Value) (l : List Evt) (A : Option Addr) (c : Nat) (d0 d1 : Int) (w : World) (hv : RdThg w v x) (h : ArrEv w A l c) (tbs : TabSt w) :
    Calls Tryd.prog 3 #[v, .slice A l.length c, .agg #[.int .i64 d0, .int .i64 d1]] w fun e w' => e = .returned (.bool true) ∧ Below w.heap.size w w' := by
  obtain ⟨p, pc, rfl, m⟩ := hv
  have b1 := h.le.1
  have b2 := h.le.2
  have M := Lib.hid m
  have HA := Lib.hid h
  have TBS := Lib.hid tbs
  have BX := Lib.hid ((ThgAt.new w x p pc 24).keep (Keep.alloc _ (.cells #[.int .i64 d0, .int .i64 d1] 26)))
  have BD := Lib.hid (PairAt.new1 w (.cells #[.string x.name, .int .i64 x.day, .string x.who, .slice p x.marks.length pc] 24) d0 d1 26)
  clear m h tbs
  go_enter Tryd.func3, Tryd.ntmps3
  go_upto_region 1 with fail
  generalize hwb : (w.alloc _).alloc _ = wb at *
  have HW : Hid (Below w.heap.size w wb) := by rw [← hwb]; exact Lib.hid (((Below.refl _ _).alloc (Nat.le_refl _) _).alloc (by simp) _)
  clear hwb
  obtain ⟨q0, q1, q2, q3⟩ := BX.out
  obtain ⟨e0, e1, -, -⟩ := BD.out
  go_wp2_with fail
  refine (lawAwake_any _ (TBS.out.keep (Keep.below HW.out))).mono ?_
  rintro e' w1 ⟨rfl, hb1⟩
  replace HW := Lib.hid (HW.out.trans (hb1.mono HW.out.size))
  replace BX := Lib.hid (BX.out.keep (Keep.below hb1))
  replace BD := Lib.hid (BD.out.keep hb1)
  clear q0 q1 q2 q3 e0 e1
  clear hb1
  obtain ⟨q0, q1, q2, q3⟩ := BX.out
  obtain ⟨e0, e1, -, -⟩ := BD.out
  go_wp2_with fail
  refine (lawChain_any x _ l A c _ ⟨_, _, rfl, (M.out.keep (Keep.below HW.out))⟩ (HA.out.keep (Keep.below HW.out))).mono ?_
  rintro e' w2 ⟨⟨bb, rfl, hbb⟩, hb1⟩
  replace HW := Lib.hid (HW.out.trans (hb1.mono HW.out.size))
  replace BX := Lib.hid (BX.out.keep (Keep.below hb1))
  replace BD := Lib.hid (BD.out.keep hb1)
  clear q0 q1 q2 q3 e0 e1
  clear hb1
  cases bb with
  | false =>
    clear hbb
    go_wp2_with fail
    go_ret
    exact ⟨rfl, HW.out⟩
  | true =>
    have HLM := Lib.hid (hbb rfl).1
    have hl32 := (hbb rfl).2
    have HM := Lib.hid (show x.marks.length ≤ 1000000 by have := HLM.out; omega)
    clear hbb
    obtain ⟨q0, q1, q2, q3⟩ := BX.out
    obtain ⟨e0, e1, -, -⟩ := BD.out
    go_wp2_with fail
    refine (bwithin_any _ _ _ _).mono ?_
    rintro e' w3 ⟨rfl, rfl⟩
    clear q0 q1 q2 q3 e0 e1
    cases hin : within d0 0 d1 with
    | false =>
      go_wp2_with fail
      go_ret
      exact ⟨rfl, HW.out⟩
    | true =>
      have HIN := Lib.hid (Fs.within_iff.1 hin)
      clear hin
      obtain ⟨q0, q1, q2, q3⟩ := BX.out
      obtain ⟨e0, e1, -, -⟩ := BD.out
      go_wp2_with fail
      refine (rCopyItem_any x _ _ ⟨_, _, rfl, (M.out.keep (Keep.below HW.out))⟩ HM.out).mono ?_
      rintro e' wz11 ⟨A11, c11, rfl, h11, -, hb1⟩
      replace HW := Lib.hid (HW.out.trans (hb1.mono HW.out.size))
      replace BX := Lib.hid (BX.out.keep (Keep.below hb1))
      replace BD := Lib.hid (BD.out.keep hb1)
      have H11 := Lib.hid h11
      clear h11
      clear q0 q1 q2 q3 e0 e1
      clear hb1
      obtain ⟨q0, q1, q2, q3⟩ := BX.out
      obtain ⟨e0, e1, -, -⟩ := BD.out
      go_wp2_with fail
      refine (rCopyEvents_any l A c _ (HA.out.keep (Keep.below HW.out)) (by omega)).mono ?_
      rintro e' wz12 ⟨A12, c12, rfl, h12, -, hb1⟩
      replace HW := Lib.hid (HW.out.trans (hb1.mono HW.out.size))
      replace BX := Lib.hid (BX.out.keep (Keep.below hb1))
      replace BD := Lib.hid (BD.out.keep hb1)
      replace H11 := Lib.hid (H11.out.keep (Keep.below hb1))
      have H12 := Lib.hid h12
      clear h12
      clear q0 q1 q2 q3 e0 e1
      clear hb1
      obtain ⟨q0, q1, q2, q3⟩ := BX.out
      obtain ⟨e0, e1, -, -⟩ := BD.out
      go_wp2_with fail
      refine (xCheckChain_any x _ l _ _ _ ⟨_, _, rfl, H11.out⟩ H12.out (TBS.out.keep (Keep.below HW.out))).mono ?_
      rintro e' w4 ⟨rfl, hb1⟩
      replace HW := Lib.hid (HW.out.trans (hb1.mono HW.out.size))
      replace BX := Lib.hid (BX.out.keep (Keep.below hb1))
      replace BD := Lib.hid (BD.out.keep hb1)
      replace H11 := Lib.hid (H11.out.keep (Keep.below hb1))
      replace H12 := Lib.hid (H12.out.keep (Keep.below hb1))
      clear q0 q1 q2 q3 e0 e1
      clear hb1
      clear H11 H12
      by_cases he : chainErr x l = 0
      · have HC := Lib.hid he
        rw [he]
        clear he
        obtain ⟨wS, hwS⟩ : ∃ wz, wz = w4 := ⟨_, rfl⟩
        subst hwS
        go_wp2_with fail
        go_loopw [9] (fun i wr => ∃ n : Nat, n ≤ l.length + 1 ∧ i = .int .i64 n ∧ Hid (Below wS.heap.size wS wr)) (fun i _ => l.length + 1 - (intOf i).toNat)
        case atStart => exact ⟨0, Nat.zero_le _, rfl, Lib.hid (Below.refl _ _)⟩
        case round =>
          obtain ⟨n, hn, rfl, HX⟩ := hrel
          have HW2 := Lib.hid (HW.out.trans (HX.out.mono HW.out.size))
          have BX2 := Lib.hid (BX.out.keep (Keep.below HX.out))
          have BD2 := Lib.hid (BD.out.keep HX.out)
          by_cases hlt : n ≤ l.length
          · have hnn : (n : Int) ≤ (l.length : Int) := by omega
            have d1' : decide ((n : Int) ≤ (l.length : Int)) = true := decide_eq_true hnn
            have hnc : (n : Int) ≤ (c : Int) := by omega
            have hnc2 : n ≤ c := by omega
            have hn00 : (0 : Int) ≤ (n : Int) := by omega
            obtain ⟨T, hT⟩ : ∃ T, T = l.take n := ⟨_, rfl⟩
            have hTl : T.length = n := by rw [hT, List.length_take]; omega
            have HWR := HW2
            have HXW := Lib.hid (show Past wS wr from HX.out)
            clear BX BD
            have BX := BX2
            have BD := BD2
            clear BX2 BD2 HW2 HX
            obtain ⟨wA, hwA⟩ : ∃ wz, wz = wr := ⟨_, rfl⟩
            subst hwA
            have hx1 := fun w9 (hh : ArrEv w9 A T c) => rCopyEvents_any T A c w9 hh (by omega)
            rw [hTl] at hx1
            have HCT := Lib.hid hx1
            have hx2 := fun v9 A9 c9 w9 hv hh ht => xCheckChain_any x v9 T A9 c9 w9 hv hh ht
            rw [hTl, hT, chain_take HC.out n] at hx2
            rw [← hT] at hx2
            have HXC := Lib.hid hx2
            have hx3 := fun v9 A9 c9 w9 hv hh ht => xHolderAt_any x v9 T A9 c9 d0 w9 hv hh ht
            have hx4 := fun v9 A9 c9 w9 hv hh ht => xStateAt_any x v9 T A9 c9 d0 w9 hv hh ht
            have hx5 := fun v9 A9 c9 w9 hv hh ht => xRightAt_any x v9 T A9 c9 d0 w9 hv hh ht
            rw [hTl] at hx3 hx4 hx5
            have HXH := Lib.hid hx3
            have HXS := Lib.hid hx4
            have HXR := Lib.hid hx5
            have HT := Lib.hid hT
            clear hx1 hx2 hx3 hx4 hx5 hT hTl
            obtain ⟨q0, q1, q2, q3⟩ := BX.out
            obtain ⟨e0, e1, -, -⟩ := BD.out
            go_wp2_with fail
            have HBd : Hid (Below wA.heap.size wA wA.drew) := Lib.hid (Below.refl _ _).drew
            have MK : Hid (∀ w', Below wA.heap.size wA w' → w'.cell? ⟨w.heap.size, 0, none⟩ = some (.string x.name) ∧ w'.cell? ⟨w.heap.size, 0 + 1, none⟩ = some (.int .i64 x.day) ∧ w'.cell? ⟨w.heap.size, 0 + 2, none⟩ = some (.string x.who) ∧ w'.cell? ⟨w.heap.size, 0 + 3, none⟩ = some (.slice p x.marks.length pc) ∧ w'.cell? ⟨w.heap.size + 1, 0, none⟩ = some (.int .i64 d0) ∧ w'.cell? ⟨w.heap.size + 1, 1, none⟩ = some (.int .i64 d1) ∧ Hid (Below wA.heap.size wA w')) :=
              Lib.hid fun w' hw => ⟨Keep.below hw _ _ q0, Keep.below hw _ _ q1, Keep.below hw _ _ q2, Keep.below hw _ _ q3, Keep.below hw _ _ e0, Keep.below hw _ _ e1, Lib.hid hw⟩
            have KM : Hid (∀ w', Below wA.heap.size wA w' → ArrMk w' p x.marks pc) := Lib.hid fun w' hw => (M.out.keep (Keep.below (HWR.out.trans (hw.mono HWR.out.size))))
            have KE : Hid (∀ w', Below wA.heap.size wA w' → ArrEv w' A l c) := Lib.hid fun w' hw => (HA.out.keep (Keep.below (HWR.out.trans (hw.mono HWR.out.size))))
            have KTB : Hid (∀ w', Below wA.heap.size wA w' → TabSt w') := Lib.hid fun w' hw => (TBS.out.keep (Keep.below (HWR.out.trans (hw.mono HWR.out.size))))
            have KT : Hid (∀ w', Below wA.heap.size wA w' → ArrEv w' A T c) := Lib.hid fun w' hw => (by rw [HT.out]; exact (HA.out.take n).keep (Keep.below (HWR.out.trans (hw.mono HWR.out.size))))
            refine wp_region_held_drew (S := fun w' => w'.cell? ⟨w.heap.size, 0, none⟩ = some (.string x.name) ∧ w'.cell? ⟨w.heap.size, 0 + 1, none⟩ = some (.int .i64 x.day) ∧ w'.cell? ⟨w.heap.size, 0 + 2, none⟩ = some (.string x.who) ∧ w'.cell? ⟨w.heap.size, 0 + 3, none⟩ = some (.slice p x.marks.length pc) ∧ w'.cell? ⟨w.heap.size + 1, 0, none⟩ = some (.int .i64 d0) ∧ w'.cell? ⟨w.heap.size + 1, 1, none⟩ = some (.int .i64 d1) ∧ Hid (Below wA.heap.size wA w')) (by kernel_rfl) (MK.out _ HBd.out) (fun hHeld => ?_)
            refine wpAnyH_take (i := 0) (v := ?val0x1) rfl (by kernel_rfl) (by kernel_rfl) (by kernel_rfl) (fun _ _ _ h => h) (Or.inl ⟨by rfl, fun w9 hS9 => ?yields0x1⟩) (by assumption) ?later0x1
            case yields0x1 =>
              dsimp only at hS9
              go_simp
              try with_reducible rfl
            try simp only [Act.put, List.getElem_toArray, List.getElem_cons_succ, List.getElem_cons_zero, List.setIfInBounds_toArray, List.set_cons_zero, List.set_cons_succ]
            refine wpAnyH_take (i := 2) (v := ?val2x2) rfl (by kernel_rfl) (by kernel_rfl) (by kernel_rfl) (fun _ _ _ h => h) (Or.inl ⟨by rfl, fun w9 hS9 => ?yields2x2⟩) (by assumption) ?later2x2
            case yields2x2 =>
              dsimp only at hS9
              go_simp
              try with_reducible rfl
            try simp only [Act.put, List.getElem_toArray, List.getElem_cons_succ, List.getElem_cons_zero, List.setIfInBounds_toArray, List.set_cons_zero, List.set_cons_succ]
            refine wpAnyH_take (i := 3) (v := ?val3x3) rfl (by kernel_rfl) (by kernel_rfl) (by kernel_rfl) (fun _ _ _ h => h) (Or.inl ⟨by rfl, fun w9 hS9 => ?yields3x3⟩) (by assumption) ?later3x3
            case yields3x3 =>
              dsimp only at hS9
              go_simp
              try with_reducible rfl
            try simp only [Act.put, List.getElem_toArray, List.getElem_cons_succ, List.getElem_cons_zero, List.setIfInBounds_toArray, List.set_cons_zero, List.set_cons_succ]
            refine wpAnyH_take (i := 4) (v := ?val4x4) rfl (by kernel_rfl) (by kernel_rfl) (by kernel_rfl) (fun _ _ _ h => h) (Or.inl ⟨by rfl, fun w9 hS9 => ?yields4x4⟩) (by assumption) ?later4x4
            case yields4x4 =>
              dsimp only at hS9
              go_simp
              try with_reducible rfl
            try simp only [Act.put, List.getElem_toArray, List.getElem_cons_succ, List.getElem_cons_zero, List.setIfInBounds_toArray, List.set_cons_zero, List.set_cons_succ]
            refine wpAnyH_ready (rs := [1]) (by kernel_rfl) (by simp) ?_
            refine AllReadyH.cons rfl (fun K hK => ?_) AllReadyH.nil
            go_simp
            go_at_call 9
            go_split_ands
            refine (rCopyItem_any x _ _ ⟨_, _, rfl, KM.out _ (Hid.out (by assumption))⟩ HM.out).mono ?_
            rintro e' wz5 ⟨A5, c5, rfl, h5, -, hb1⟩
            have H5 := Lib.hid h5
            clear h5
            go_wp2_with fail
            refine hK.out _ _ ?_ (fun hHeld => ?_)
            · (try dsimp only)
              (go_split_ands; exact MK.out _ (Below.trans (Hid.out (by assumption)) (hb1.mono (Hid.out (by assumption) : Below wA.heap.size wA _).size)))
            clear hK K
            try simp only [Act.put, List.getElem_toArray, List.getElem_cons_succ, List.getElem_cons_zero, List.setIfInBounds_toArray, List.set_cons_zero, List.set_cons_succ]
            refine wpAnyH_ready (rs := [5]) (by kernel_rfl) (by simp) ?_
            refine AllReadyH.cons rfl (fun K hK => ?_) AllReadyH.nil
            go_simp
            go_at_call 10
            go_split_ands
            refine (HCT.out _ (KT.out _ (Hid.out (by assumption)))).mono ?_
            rintro e' wz6 ⟨A6, c6, rfl, h6, -, hb1⟩
            have H6 := Lib.hid h6
            replace H5 := Lib.hid (H5.out.keep (Keep.below hb1))
            clear h6
            go_wp2_with fail
            refine hK.out _ _ ?_ (fun hHeld => ?_)
            · (try dsimp only)
              (go_split_ands; exact MK.out _ (Below.trans (Hid.out (by assumption)) (hb1.mono (Hid.out (by assumption) : Below wA.heap.size wA _).size)))
            clear hK K
            try simp only [Act.put, List.getElem_toArray, List.getElem_cons_succ, List.getElem_cons_zero, List.setIfInBounds_toArray, List.set_cons_zero, List.set_cons_succ]
            refine wpAnyH_ready (rs := [6]) (by kernel_rfl) (by simp) ?_
            refine AllReadyH.cons rfl (fun K hK => ?_) AllReadyH.nil
            go_simp
            go_at_call 8
            go_split_ands
            refine (HXC.out _ _ _ _ ⟨_, _, rfl, H5.out⟩ H6.out (KTB.out _ (Hid.out (by assumption)))).mono ?_
            rintro e' wz7 ⟨rfl, hb1⟩
            clear H5 H6
            go_wp2_with fail
            refine hK.out _ _ ?_ (fun hHeld => ?_)
            · (try dsimp only)
              (go_split_ands; exact MK.out _ (Below.trans (Hid.out (by assumption)) (hb1.mono (Hid.out (by assumption) : Below wA.heap.size wA _).size)))
            clear hK K
            try simp only [Act.put, List.getElem_toArray, List.getElem_cons_succ, List.getElem_cons_zero, List.setIfInBounds_toArray, List.set_cons_zero, List.set_cons_succ]
            refine wpAnyH_take (i := 7) (v := ?val7x5) rfl (by kernel_rfl) (by kernel_rfl) (by kernel_rfl) (fun _ _ _ h => h) (Or.inl ⟨by rfl, fun w9 hS9 => ?yields7x5⟩) (by assumption) ?later7x5
            case yields7x5 =>
              dsimp only at hS9
              go_simp
              try with_reducible rfl
            try simp only [Act.put, List.getElem_toArray, List.getElem_cons_succ, List.getElem_cons_zero, List.setIfInBounds_toArray, List.set_cons_zero, List.set_cons_succ]
            refine wpAnyH_take (i := 8) (v := ?val8x6) rfl (by kernel_rfl) (by kernel_rfl) (by kernel_rfl) (fun _ _ _ h => h) (Or.inl ⟨by rfl, fun w9 hS9 => ?yields8x6⟩) (by assumption) ?later8x6
            case yields8x6 =>
              dsimp only at hS9
              go_simp
              try with_reducible rfl
            try simp only [Act.put, List.getElem_toArray, List.getElem_cons_succ, List.getElem_cons_zero, List.setIfInBounds_toArray, List.set_cons_zero, List.set_cons_succ]
            refine wpAnyH_take (i := 9) (v := ?val9x7) rfl (by kernel_rfl) (by kernel_rfl) (by kernel_rfl) (fun _ _ _ h => h) (Or.inl ⟨by rfl, fun w9 hS9 => ?yields9x7⟩) (by assumption) ?later9x7
            case yields9x7 =>
              dsimp only at hS9
              go_simp
              try with_reducible rfl
            try simp only [Act.put, List.getElem_toArray, List.getElem_cons_succ, List.getElem_cons_zero, List.setIfInBounds_toArray, List.set_cons_zero, List.set_cons_succ]
            refine wpAnyH_take (i := 10) (v := ?val10x8) rfl (by kernel_rfl) (by kernel_rfl) (by kernel_rfl) (fun _ _ _ h => h) (Or.inl ⟨by rfl, fun w9 hS9 => ?yields10x8⟩) (by assumption) ?later10x8
            case yields10x8 =>
              dsimp only at hS9
              go_simp
              try with_reducible rfl
            try simp only [Act.put, List.getElem_toArray, List.getElem_cons_succ, List.getElem_cons_zero, List.setIfInBounds_toArray, List.set_cons_zero, List.set_cons_succ]
            refine wpAnyH_take (i := 11) (v := ?val11x9) rfl (by kernel_rfl) (by kernel_rfl) (by kernel_rfl) (fun _ _ _ h => h) (Or.inl ⟨by rfl, fun w9 hS9 => ?yields11x9⟩) (by assumption) ?later11x9
            case yields11x9 =>
              dsimp only at hS9
              go_simp
              try with_reducible rfl
            try simp only [Act.put, List.getElem_toArray, List.getElem_cons_succ, List.getElem_cons_zero, List.setIfInBounds_toArray, List.set_cons_zero, List.set_cons_succ]
            refine wpAnyH_done (by kernel_rfl) ?_ _
            obtain ⟨-, -, -, -, -, -, HB⟩ := hHeld
            clear HBd MK
            clear KM KE KT KTB
            replace HWR := Lib.hid (HWR.out.trans (HB.out.mono HWR.out.size))
            replace BX := Lib.hid (BX.out.keep (Keep.below HB.out))
            replace BD := Lib.hid (BD.out.keep HB.out)
            replace HXW := Lib.hid (HXW.out.keep HB.out)
            clear HB
            clear q0 q1 q2 q3 e0 e1
            obtain ⟨wB, hwB⟩ : ∃ wz, wz = wz7 := ⟨_, rfl⟩
            subst hwB
            by_cases hlt2 : n < l.length
            · have hnl : (n : Int) < (l.length : Int) := by omega
              have d2' : decide ((n : Int) < (l.length : Int)) = true := decide_eq_true hnl
              have d3' : decide (n < l.length) = true := decide_eq_true hlt2
              obtain ⟨gb, go, rfl, z0, z1, z2, z3, z4⟩ := (HA.out.keep (Keep.below HWR.out)).at_ hlt2
              by_cases hday : (lEvt l n).day ≤ d0
              · have d4' : decide ((lEvt l n).day ≤ d0) = true := decide_eq_true hday
                obtain ⟨q0, q1, q2, q3⟩ := BX.out
                obtain ⟨e0, e1, -, -⟩ := BD.out
                go_wp2_with fail
                go_quiet (fail)
                go_wp2_with fail
                go_roundw
                case rel => exact ⟨n + 1, by omega, by go_num, Lib.hid (bdrewN HXW.out _)⟩
                case measure => simp [intOf]; omega
              · have d4' : decide ((lEvt l n).day ≤ d0) = false := decide_eq_false hday
                have HS := Lib.hid (same_take HC.out (show n ≤ l.length by omega) (d := d0) (fun _ => by omega))
                obtain ⟨q0, q1, q2, q3⟩ := BX.out
                obtain ⟨e0, e1, -, -⟩ := BD.out
                go_wp2_with fail
                go_quiet (fail)
                have BXn := Lib.hid (BX.out.keep (Keep.below (bdrewN (Below.refl _ _) nq)))
                have BDn := Lib.hid (BD.out.keep (bdrewN (Below.refl _ _) nq))
                have HWn := Lib.hid (bdrewN HWR.out nq)
                have HXn : Hid (Past wS (wB.drewN nq)) := Lib.hid (bdrewN HXW.out nq)
                clear q0 q1 q2 q3 e0 e1 BX BD HWR HXW z0 z1 z2 z3 z4
                generalize World.drewN wB nq = wC at *
                clear nq
                have BX := BXn
                have BD := BDn
                have HWR := HWn
                have HXW := HXn
                clear BXn BDn HWn HXn
                obtain ⟨q0, q1, q2, q3⟩ := BX.out
                obtain ⟨e0, e1, -, -⟩ := BD.out
                go_wp2_with fail
                have HBd : Hid (Below wC.heap.size wC wC.drew) := Lib.hid (Below.refl _ _).drew
                have MK : Hid (∀ w', Below wC.heap.size wC w' → w'.cell? ⟨w.heap.size, 0, none⟩ = some (.string x.name) ∧ w'.cell? ⟨w.heap.size, 0 + 1, none⟩ = some (.int .i64 x.day) ∧ w'.cell? ⟨w.heap.size, 0 + 2, none⟩ = some (.string x.who) ∧ w'.cell? ⟨w.heap.size, 0 + 3, none⟩ = some (.slice p x.marks.length pc) ∧ w'.cell? ⟨w.heap.size + 1, 0, none⟩ = some (.int .i64 d0) ∧ w'.cell? ⟨w.heap.size + 1, 1, none⟩ = some (.int .i64 d1) ∧ Hid (Below wC.heap.size wC w')) :=
                  Lib.hid fun w' hw => ⟨Keep.below hw _ _ q0, Keep.below hw _ _ q1, Keep.below hw _ _ q2, Keep.below hw _ _ q3, Keep.below hw _ _ e0, Keep.below hw _ _ e1, Lib.hid hw⟩
                have KM : Hid (∀ w', Below wC.heap.size wC w' → ArrMk w' p x.marks pc) := Lib.hid fun w' hw => (M.out.keep (Keep.below (HWR.out.trans (hw.mono HWR.out.size))))
                have KE : Hid (∀ w', Below wC.heap.size wC w' → ArrEv w' (some ⟨gb, go, none⟩) l c) := Lib.hid fun w' hw => (HA.out.keep (Keep.below (HWR.out.trans (hw.mono HWR.out.size))))
                have KTB : Hid (∀ w', Below wC.heap.size wC w' → TabSt w') := Lib.hid fun w' hw => (TBS.out.keep (Keep.below (HWR.out.trans (hw.mono HWR.out.size))))
                have KT : Hid (∀ w', Below wC.heap.size wC w' → ArrEv w' (some ⟨gb, go, none⟩) T c) := Lib.hid fun w' hw => (by rw [HT.out]; exact (HA.out.take n).keep (Keep.below (HWR.out.trans (hw.mono HWR.out.size))))
                refine wp_region_held_drew (S := fun w' => w'.cell? ⟨w.heap.size, 0, none⟩ = some (.string x.name) ∧ w'.cell? ⟨w.heap.size, 0 + 1, none⟩ = some (.int .i64 x.day) ∧ w'.cell? ⟨w.heap.size, 0 + 2, none⟩ = some (.string x.who) ∧ w'.cell? ⟨w.heap.size, 0 + 3, none⟩ = some (.slice p x.marks.length pc) ∧ w'.cell? ⟨w.heap.size + 1, 0, none⟩ = some (.int .i64 d0) ∧ w'.cell? ⟨w.heap.size + 1, 1, none⟩ = some (.int .i64 d1) ∧ Hid (Below wC.heap.size wC w')) (by kernel_rfl) (MK.out _ HBd.out) (fun hHeld => ?_)
                refine wpAnyH_take (i := 0) (v := ?val0x10) rfl (by kernel_rfl) (by kernel_rfl) (by kernel_rfl) (fun _ _ _ h => h) (Or.inl ⟨by rfl, fun w9 hS9 => ?yields0x10⟩) (by assumption) ?later0x10
                case yields0x10 =>
                  dsimp only at hS9
                  go_simp
                  try with_reducible rfl
                try simp only [Act.put, List.getElem_toArray, List.getElem_cons_succ, List.getElem_cons_zero, List.setIfInBounds_toArray, List.set_cons_zero, List.set_cons_succ]
                refine wpAnyH_take (i := 2) (v := ?val2x11) rfl (by kernel_rfl) (by kernel_rfl) (by kernel_rfl) (fun _ _ _ h => h) (Or.inl ⟨by rfl, fun w9 hS9 => ?yields2x11⟩) (by assumption) ?later2x11
                case yields2x11 =>
                  dsimp only at hS9
                  go_simp
                  try with_reducible rfl
                try simp only [Act.put, List.getElem_toArray, List.getElem_cons_succ, List.getElem_cons_zero, List.setIfInBounds_toArray, List.set_cons_zero, List.set_cons_succ]
                refine wpAnyH_take (i := 4) (v := ?val4x12) rfl (by kernel_rfl) (by kernel_rfl) (by kernel_rfl) (fun _ _ _ h => h) (Or.inl ⟨by rfl, fun w9 hS9 => ?yields4x12⟩) (by assumption) ?later4x12
                case yields4x12 =>
                  dsimp only at hS9
                  go_simp
                  try with_reducible rfl
                try simp only [Act.put, List.getElem_toArray, List.getElem_cons_succ, List.getElem_cons_zero, List.setIfInBounds_toArray, List.set_cons_zero, List.set_cons_succ]
                refine wpAnyH_take (i := 5) (v := ?val5x13) rfl (by kernel_rfl) (by kernel_rfl) (by kernel_rfl) (fun _ _ _ h => h) (Or.inl ⟨by rfl, fun w9 hS9 => ?yields5x13⟩) (by assumption) ?later5x13
                case yields5x13 =>
                  dsimp only at hS9
                  go_simp
                  try with_reducible rfl
                try simp only [Act.put, List.getElem_toArray, List.getElem_cons_succ, List.getElem_cons_zero, List.setIfInBounds_toArray, List.set_cons_zero, List.set_cons_succ]
                refine wpAnyH_ready (rs := [1]) (by kernel_rfl) (by simp) ?_
                refine AllReadyH.cons rfl (fun K hK => ?_) AllReadyH.nil
                go_simp
                go_at_call 9
                go_split_ands
                refine (rCopyItem_any x _ _ ⟨_, _, rfl, KM.out _ (Hid.out (by assumption))⟩ HM.out).mono ?_
                rintro e' wz5 ⟨A5, c5, rfl, h5, -, hb1⟩
                have H5 := Lib.hid h5
                clear h5
                go_wp2_with fail
                refine hK.out _ _ ?_ (fun hHeld => ?_)
                · (try dsimp only)
                  (go_split_ands; exact MK.out _ (Below.trans (Hid.out (by assumption)) (hb1.mono (Hid.out (by assumption) : Below wC.heap.size wC _).size)))
                clear hK K
                try simp only [Act.put, List.getElem_toArray, List.getElem_cons_succ, List.getElem_cons_zero, List.setIfInBounds_toArray, List.set_cons_zero, List.set_cons_succ]
                refine wpAnyH_ready (rs := [3]) (by kernel_rfl) (by simp) ?_
                refine AllReadyH.cons rfl (fun K hK => ?_) AllReadyH.nil
                go_simp
                go_at_call 10
                go_split_ands
                refine (rCopyEvents_any l _ c _ (KE.out _ (Hid.out (by assumption))) (by omega)).mono ?_
                rintro e' wz6 ⟨A6, c6, rfl, h6, -, hb1⟩
                have H6 := Lib.hid h6
                replace H5 := Lib.hid (H5.out.keep (Keep.below hb1))
                clear h6
                go_wp2_with fail
                refine hK.out _ _ ?_ (fun hHeld => ?_)
                · (try dsimp only)
                  (go_split_ands; exact MK.out _ (Below.trans (Hid.out (by assumption)) (hb1.mono (Hid.out (by assumption) : Below wC.heap.size wC _).size)))
                clear hK K
                try simp only [Act.put, List.getElem_toArray, List.getElem_cons_succ, List.getElem_cons_zero, List.setIfInBounds_toArray, List.set_cons_zero, List.set_cons_succ]
                refine wpAnyH_ready (rs := [6]) (by kernel_rfl) (by simp) ?_
                refine AllReadyH.cons rfl (fun K hK => ?_) AllReadyH.nil
                go_simp
                go_at_call 11
                go_split_ands
                refine (xHolderAt_any x _ l _ _ d0 _ ⟨_, _, rfl, H5.out⟩ H6.out (KTB.out _ (Hid.out (by assumption)))).mono ?_
                rintro e' wz7 ⟨rfl, hb1⟩
                clear H5 H6
                go_wp2_with fail
                refine hK.out _ _ ?_ (fun hHeld => ?_)
                · (try dsimp only)
                  (go_split_ands; exact MK.out _ (Below.trans (Hid.out (by assumption)) (hb1.mono (Hid.out (by assumption) : Below wC.heap.size wC _).size)))
                clear hK K
                try simp only [Act.put, List.getElem_toArray, List.getElem_cons_succ, List.getElem_cons_zero, List.setIfInBounds_toArray, List.set_cons_zero, List.set_cons_succ]
                refine wpAnyH_take (i := 7) (v := ?val7x14) rfl (by kernel_rfl) (by kernel_rfl) (by kernel_rfl) (fun _ _ _ h => h) (Or.inl ⟨by rfl, fun w9 hS9 => ?yields7x14⟩) (by assumption) ?later7x14
                case yields7x14 =>
                  dsimp only at hS9
                  go_simp
                  try with_reducible rfl
                try simp only [Act.put, List.getElem_toArray, List.getElem_cons_succ, List.getElem_cons_zero, List.setIfInBounds_toArray, List.set_cons_zero, List.set_cons_succ]
                refine wpAnyH_take (i := 8) (v := ?val8x15) rfl (by kernel_rfl) (by kernel_rfl) (by kernel_rfl) (fun _ _ _ h => h) (Or.inl ⟨by rfl, fun w9 hS9 => ?yields8x15⟩) (by assumption) ?later8x15
                case yields8x15 =>
                  dsimp only at hS9
                  go_simp
                  try with_reducible rfl
                try simp only [Act.put, List.getElem_toArray, List.getElem_cons_succ, List.getElem_cons_zero, List.setIfInBounds_toArray, List.set_cons_zero, List.set_cons_succ]
                refine wpAnyH_take (i := 9) (v := ?val9x16) rfl (by kernel_rfl) (by kernel_rfl) (by kernel_rfl) (fun _ _ _ h => h) (Or.inl ⟨by rfl, fun w9 hS9 => ?yields9x16⟩) (by assumption) ?later9x16
                case yields9x16 =>
                  dsimp only at hS9
                  go_simp
                  try with_reducible rfl
                try simp only [Act.put, List.getElem_toArray, List.getElem_cons_succ, List.getElem_cons_zero, List.setIfInBounds_toArray, List.set_cons_zero, List.set_cons_succ]
                refine wpAnyH_take (i := 10) (v := ?val10x17) rfl (by kernel_rfl) (by kernel_rfl) (by kernel_rfl) (fun _ _ _ h => h) (Or.inl ⟨by rfl, fun w9 hS9 => ?yields10x17⟩) (by assumption) ?later10x17
                case yields10x17 =>
                  dsimp only at hS9
                  go_simp
                  try with_reducible rfl
                try simp only [Act.put, List.getElem_toArray, List.getElem_cons_succ, List.getElem_cons_zero, List.setIfInBounds_toArray, List.set_cons_zero, List.set_cons_succ]
                refine wpAnyH_take (i := 11) (v := ?val11x18) rfl (by kernel_rfl) (by kernel_rfl) (by kernel_rfl) (fun _ _ _ h => h) (Or.inl ⟨by rfl, fun w9 hS9 => ?yields11x18⟩) (by assumption) ?later11x18
                case yields11x18 =>
                  dsimp only at hS9
                  go_simp
                  try with_reducible rfl
                try simp only [Act.put, List.getElem_toArray, List.getElem_cons_succ, List.getElem_cons_zero, List.setIfInBounds_toArray, List.set_cons_zero, List.set_cons_succ]
                refine wpAnyH_done (by kernel_rfl) ?_ _
                obtain ⟨-, -, -, -, -, -, HB⟩ := hHeld
                clear HBd MK
                clear KM KE KT KTB
                replace HWR := Lib.hid (HWR.out.trans (HB.out.mono HWR.out.size))
                replace BX := Lib.hid (BX.out.keep (Keep.below HB.out))
                replace BD := Lib.hid (BD.out.keep HB.out)
                replace HXW := Lib.hid (HXW.out.keep HB.out)
                clear HB
                clear q0 q1 q2 q3 e0 e1
                obtain ⟨wD, hwD⟩ : ∃ wz, wz = wz7 := ⟨_, rfl⟩
                subst hwD
                obtain ⟨q0, q1, q2, q3⟩ := BX.out
                obtain ⟨e0, e1, -, -⟩ := BD.out
                go_wp2_with fail
                have HBd : Hid (Below wD.heap.size wD wD.drew) := Lib.hid (Below.refl _ _).drew
                have MK : Hid (∀ w', Below wD.heap.size wD w' → w'.cell? ⟨w.heap.size, 0, none⟩ = some (.string x.name) ∧ w'.cell? ⟨w.heap.size, 0 + 1, none⟩ = some (.int .i64 x.day) ∧ w'.cell? ⟨w.heap.size, 0 + 2, none⟩ = some (.string x.who) ∧ w'.cell? ⟨w.heap.size, 0 + 3, none⟩ = some (.slice p x.marks.length pc) ∧ w'.cell? ⟨w.heap.size + 1, 0, none⟩ = some (.int .i64 d0) ∧ w'.cell? ⟨w.heap.size + 1, 1, none⟩ = some (.int .i64 d1) ∧ Hid (Below wD.heap.size wD w')) :=
                  Lib.hid fun w' hw => ⟨Keep.below hw _ _ q0, Keep.below hw _ _ q1, Keep.below hw _ _ q2, Keep.below hw _ _ q3, Keep.below hw _ _ e0, Keep.below hw _ _ e1, Lib.hid hw⟩
                have KM : Hid (∀ w', Below wD.heap.size wD w' → ArrMk w' p x.marks pc) := Lib.hid fun w' hw => (M.out.keep (Keep.below (HWR.out.trans (hw.mono HWR.out.size))))
                have KE : Hid (∀ w', Below wD.heap.size wD w' → ArrEv w' (some ⟨gb, go, none⟩) l c) := Lib.hid fun w' hw => (HA.out.keep (Keep.below (HWR.out.trans (hw.mono HWR.out.size))))
                have KTB : Hid (∀ w', Below wD.heap.size wD w' → TabSt w') := Lib.hid fun w' hw => (TBS.out.keep (Keep.below (HWR.out.trans (hw.mono HWR.out.size))))
                have KT : Hid (∀ w', Below wD.heap.size wD w' → ArrEv w' (some ⟨gb, go, none⟩) T c) := Lib.hid fun w' hw => (by rw [HT.out]; exact (HA.out.take n).keep (Keep.below (HWR.out.trans (hw.mono HWR.out.size))))
                refine wp_region_held_drew (S := fun w' => w'.cell? ⟨w.heap.size, 0, none⟩ = some (.string x.name) ∧ w'.cell? ⟨w.heap.size, 0 + 1, none⟩ = some (.int .i64 x.day) ∧ w'.cell? ⟨w.heap.size, 0 + 2, none⟩ = some (.string x.who) ∧ w'.cell? ⟨w.heap.size, 0 + 3, none⟩ = some (.slice p x.marks.length pc) ∧ w'.cell? ⟨w.heap.size + 1, 0, none⟩ = some (.int .i64 d0) ∧ w'.cell? ⟨w.heap.size + 1, 1, none⟩ = some (.int .i64 d1) ∧ Hid (Below wD.heap.size wD w')) (by kernel_rfl) (MK.out _ HBd.out) (fun hHeld => ?_)
                refine wpAnyH_take (i := 0) (v := ?val0x19) rfl (by kernel_rfl) (by kernel_rfl) (by kernel_rfl) (fun _ _ _ h => h) (Or.inl ⟨by rfl, fun w9 hS9 => ?yields0x19⟩) (by assumption) ?later0x19
                case yields0x19 =>
                  dsimp only at hS9
                  go_simp
                  try with_reducible rfl
                try simp only [Act.put, List.getElem_toArray, List.getElem_cons_succ, List.getElem_cons_zero, List.setIfInBounds_toArray, List.set_cons_zero, List.set_cons_succ]
                refine wpAnyH_take (i := 2) (v := ?val2x20) rfl (by kernel_rfl) (by kernel_rfl) (by kernel_rfl) (fun _ _ _ h => h) (Or.inl ⟨by rfl, fun w9 hS9 => ?yields2x20⟩) (by assumption) ?later2x20
                case yields2x20 =>
                  dsimp only at hS9
                  go_simp
                  try with_reducible rfl
                try simp only [Act.put, List.getElem_toArray, List.getElem_cons_succ, List.getElem_cons_zero, List.setIfInBounds_toArray, List.set_cons_zero, List.set_cons_succ]
                refine wpAnyH_take (i := 3) (v := ?val3x21) rfl (by kernel_rfl) (by kernel_rfl) (by kernel_rfl) (fun _ _ _ h => h) (Or.inl ⟨by rfl, fun w9 hS9 => ?yields3x21⟩) (by assumption) ?later3x21
                case yields3x21 =>
                  dsimp only at hS9
                  go_simp
                  try with_reducible rfl
                try simp only [Act.put, List.getElem_toArray, List.getElem_cons_succ, List.getElem_cons_zero, List.setIfInBounds_toArray, List.set_cons_zero, List.set_cons_succ]
                refine wpAnyH_take (i := 4) (v := ?val4x22) rfl (by kernel_rfl) (by kernel_rfl) (by kernel_rfl) (fun _ _ _ h => h) (Or.inl ⟨by rfl, fun w9 hS9 => ?yields4x22⟩) (by assumption) ?later4x22
                case yields4x22 =>
                  dsimp only at hS9
                  go_simp
                  try with_reducible rfl
                try simp only [Act.put, List.getElem_toArray, List.getElem_cons_succ, List.getElem_cons_zero, List.setIfInBounds_toArray, List.set_cons_zero, List.set_cons_succ]
                refine wpAnyH_take (i := 6) (v := ?val6x23) rfl (by kernel_rfl) (by kernel_rfl) (by kernel_rfl) (fun _ _ _ h => h) (Or.inl ⟨by rfl, fun w9 hS9 => ?yields6x23⟩) (by assumption) ?later6x23
                case yields6x23 =>
                  dsimp only at hS9
                  go_simp
                  try with_reducible rfl
                try simp only [Act.put, List.getElem_toArray, List.getElem_cons_succ, List.getElem_cons_zero, List.setIfInBounds_toArray, List.set_cons_zero, List.set_cons_succ]
                refine wpAnyH_take (i := 7) (v := ?val7x24) rfl (by kernel_rfl) (by kernel_rfl) (by kernel_rfl) (fun _ _ _ h => h) (Or.inl ⟨by rfl, fun w9 hS9 => ?yields7x24⟩) (by assumption) ?later7x24
                case yields7x24 =>
                  dsimp only at hS9
                  go_simp
                  try with_reducible rfl
                try simp only [Act.put, List.getElem_toArray, List.getElem_cons_succ, List.getElem_cons_zero, List.setIfInBounds_toArray, List.set_cons_zero, List.set_cons_succ]
                refine wpAnyH_ready (rs := [1]) (by kernel_rfl) (by simp) ?_
                refine AllReadyH.cons rfl (fun K hK => ?_) AllReadyH.nil
                go_simp
                go_at_call 9
                go_split_ands
                refine (rCopyItem_any x _ _ ⟨_, _, rfl, KM.out _ (Hid.out (by assumption))⟩ HM.out).mono ?_
                rintro e' wz5 ⟨A5, c5, rfl, h5, -, hb1⟩
                have H5 := Lib.hid h5
                clear h5
                go_wp2_with fail
                refine hK.out _ _ ?_ (fun hHeld => ?_)
                · (try dsimp only)
                  (go_split_ands; exact MK.out _ (Below.trans (Hid.out (by assumption)) (hb1.mono (Hid.out (by assumption) : Below wD.heap.size wD _).size)))
                clear hK K
                try simp only [Act.put, List.getElem_toArray, List.getElem_cons_succ, List.getElem_cons_zero, List.setIfInBounds_toArray, List.set_cons_zero, List.set_cons_succ]
                refine wpAnyH_ready (rs := [5]) (by kernel_rfl) (by simp) ?_
                refine AllReadyH.cons rfl (fun K hK => ?_) AllReadyH.nil
                go_simp
                go_at_call 10
                go_split_ands
                refine (HCT.out _ (KT.out _ (Hid.out (by assumption)))).mono ?_
                rintro e' wz6 ⟨A6, c6, rfl, h6, -, hb1⟩
                have H6 := Lib.hid h6
                replace H5 := Lib.hid (H5.out.keep (Keep.below hb1))
                clear h6
                go_wp2_with fail
                refine hK.out _ _ ?_ (fun hHeld => ?_)
                · (try dsimp only)
                  (go_split_ands; exact MK.out _ (Below.trans (Hid.out (by assumption)) (hb1.mono (Hid.out (by assumption) : Below wD.heap.size wD _).size)))
                clear hK K
                try simp only [Act.put, List.getElem_toArray, List.getElem_cons_succ, List.getElem_cons_zero, List.setIfInBounds_toArray, List.set_cons_zero, List.set_cons_succ]
                refine wpAnyH_ready (rs := [8]) (by kernel_rfl) (by simp) ?_
                refine AllReadyH.cons rfl (fun K hK => ?_) AllReadyH.nil
                go_simp
                go_at_call 11
                go_split_ands
                refine (HXH.out _ _ _ _ ⟨_, _, rfl, H5.out⟩ H6.out (KTB.out _ (Hid.out (by assumption)))).mono ?_
                rintro e' wz7 ⟨rfl, hb1⟩
                clear H5 H6
                go_wp2_with fail
                refine hK.out _ _ ?_ (fun hHeld => ?_)
                · (try dsimp only)
                  (go_split_ands; exact MK.out _ (Below.trans (Hid.out (by assumption)) (hb1.mono (Hid.out (by assumption) : Below wD.heap.size wD _).size)))
                clear hK K
                try simp only [Act.put, List.getElem_toArray, List.getElem_cons_succ, List.getElem_cons_zero, List.setIfInBounds_toArray, List.set_cons_zero, List.set_cons_succ]
                refine wpAnyH_take (i := 9) (v := ?val9x25) rfl (by kernel_rfl) (by kernel_rfl) (by kernel_rfl) (fun _ _ _ h => h) (Or.inl ⟨by rfl, fun w9 hS9 => ?yields9x25⟩) (by assumption) ?later9x25
                case yields9x25 =>
                  dsimp only at hS9
                  go_simp
                  try with_reducible rfl
                try simp only [Act.put, List.getElem_toArray, List.getElem_cons_succ, List.getElem_cons_zero, List.setIfInBounds_toArray, List.set_cons_zero, List.set_cons_succ]
                refine wpAnyH_take (i := 10) (v := ?val10x26) rfl (by kernel_rfl) (by kernel_rfl) (by kernel_rfl) (fun _ _ _ h => h) (Or.inl ⟨by rfl, fun w9 hS9 => ?yields10x26⟩) (by assumption) ?later10x26
                case yields10x26 =>
                  dsimp only at hS9
                  go_simp
                  try with_reducible rfl
                try simp only [Act.put, List.getElem_toArray, List.getElem_cons_succ, List.getElem_cons_zero, List.setIfInBounds_toArray, List.set_cons_zero, List.set_cons_succ]
                refine wpAnyH_take (i := 11) (v := ?val11x27) rfl (by kernel_rfl) (by kernel_rfl) (by kernel_rfl) (fun _ _ _ h => h) (Or.inl ⟨by rfl, fun w9 hS9 => ?yields11x27⟩) (by assumption) ?later11x27
                case yields11x27 =>
                  dsimp only at hS9
                  go_simp
                  try with_reducible rfl
                try simp only [Act.put, List.getElem_toArray, List.getElem_cons_succ, List.getElem_cons_zero, List.setIfInBounds_toArray, List.set_cons_zero, List.set_cons_succ]
                refine wpAnyH_take (i := 12) (v := ?val12x28) rfl (by kernel_rfl) (by kernel_rfl) (by kernel_rfl) (fun _ _ _ h => h) (Or.inl ⟨by rfl, fun w9 hS9 => ?yields12x28⟩) (by assumption) ?later12x28
                case yields12x28 =>
                  dsimp only at hS9
                  go_simp
                  try with_reducible rfl
                try simp only [Act.put, List.getElem_toArray, List.getElem_cons_succ, List.getElem_cons_zero, List.setIfInBounds_toArray, List.set_cons_zero, List.set_cons_succ]
                refine wpAnyH_take (i := 13) (v := ?val13x29) rfl (by kernel_rfl) (by kernel_rfl) (by kernel_rfl) (fun _ _ _ h => h) (Or.inl ⟨by rfl, fun w9 hS9 => ?yields13x29⟩) (by assumption) ?later13x29
                case yields13x29 =>
                  dsimp only at hS9
                  go_simp
                  try with_reducible rfl
                try simp only [Act.put, List.getElem_toArray, List.getElem_cons_succ, List.getElem_cons_zero, List.setIfInBounds_toArray, List.set_cons_zero, List.set_cons_succ]
                refine wpAnyH_done (by kernel_rfl) ?_ _
                obtain ⟨-, -, -, -, -, -, HB⟩ := hHeld
                clear HBd MK
                clear KM KE KT KTB
                replace HWR := Lib.hid (HWR.out.trans (HB.out.mono HWR.out.size))
                replace BX := Lib.hid (BX.out.keep (Keep.below HB.out))
                replace BD := Lib.hid (BD.out.keep HB.out)
                replace HXW := Lib.hid (HXW.out.keep HB.out)
                clear HB
                clear q0 q1 q2 q3 e0 e1
                obtain ⟨wE, hwE⟩ : ∃ wz, wz = wz7 := ⟨_, rfl⟩
                subst hwE
                obtain ⟨q0, q1, q2, q3⟩ := BX.out
                obtain ⟨e0, e1, -, -⟩ := BD.out
                go_wp2_with fail
                have HBd : Hid (Below wE.heap.size wE wE.drew) := Lib.hid (Below.refl _ _).drew
                have MK : Hid (∀ w', Below wE.heap.size wE w' → w'.cell? ⟨w.heap.size, 0, none⟩ = some (.string x.name) ∧ w'.cell? ⟨w.heap.size, 0 + 1, none⟩ = some (.int .i64 x.day) ∧ w'.cell? ⟨w.heap.size, 0 + 2, none⟩ = some (.string x.who) ∧ w'.cell? ⟨w.heap.size, 0 + 3, none⟩ = some (.slice p x.marks.length pc) ∧ w'.cell? ⟨w.heap.size + 1, 0, none⟩ = some (.int .i64 d0) ∧ w'.cell? ⟨w.heap.size + 1, 1, none⟩ = some (.int .i64 d1) ∧ Hid (Below wE.heap.size wE w')) :=
                  Lib.hid fun w' hw => ⟨Keep.below hw _ _ q0, Keep.below hw _ _ q1, Keep.below hw _ _ q2, Keep.below hw _ _ q3, Keep.below hw _ _ e0, Keep.below hw _ _ e1, Lib.hid hw⟩
                have KM : Hid (∀ w', Below wE.heap.size wE w' → ArrMk w' p x.marks pc) := Lib.hid fun w' hw => (M.out.keep (Keep.below (HWR.out.trans (hw.mono HWR.out.size))))
                have KE : Hid (∀ w', Below wE.heap.size wE w' → ArrEv w' (some ⟨gb, go, none⟩) l c) := Lib.hid fun w' hw => (HA.out.keep (Keep.below (HWR.out.trans (hw.mono HWR.out.size))))
                have KTB : Hid (∀ w', Below wE.heap.size wE w' → TabSt w') := Lib.hid fun w' hw => (TBS.out.keep (Keep.below (HWR.out.trans (hw.mono HWR.out.size))))
                have KT : Hid (∀ w', Below wE.heap.size wE w' → ArrEv w' (some ⟨gb, go, none⟩) T c) := Lib.hid fun w' hw => (by rw [HT.out]; exact (HA.out.take n).keep (Keep.below (HWR.out.trans (hw.mono HWR.out.size))))
                refine wp_region_held_drew (S := fun w' => w'.cell? ⟨w.heap.size, 0, none⟩ = some (.string x.name) ∧ w'.cell? ⟨w.heap.size, 0 + 1, none⟩ = some (.int .i64 x.day) ∧ w'.cell? ⟨w.heap.size, 0 + 2, none⟩ = some (.string x.who) ∧ w'.cell? ⟨w.heap.size, 0 + 3, none⟩ = some (.slice p x.marks.length pc) ∧ w'.cell? ⟨w.heap.size + 1, 0, none⟩ = some (.int .i64 d0) ∧ w'.cell? ⟨w.heap.size + 1, 1, none⟩ = some (.int .i64 d1) ∧ Hid (Below wE.heap.size wE w')) (by kernel_rfl) (MK.out _ HBd.out) (fun hHeld => ?_)
                refine wpAnyH_take (i := 0) (v := ?val0x30) rfl (by kernel_rfl) (by kernel_rfl) (by kernel_rfl) (fun _ _ _ h => h) (Or.inl ⟨by rfl, fun w9 hS9 => ?yields0x30⟩) (by assumption) ?later0x30
                case yields0x30 =>
                  dsimp only at hS9
                  go_simp
                  try with_reducible rfl
                try simp only [Act.put, List.getElem_toArray, List.getElem_cons_succ, List.getElem_cons_zero, List.setIfInBounds_toArray, List.set_cons_zero, List.set_cons_succ]
                refine wpAnyH_take (i := 2) (v := ?val2x31) rfl (by kernel_rfl) (by kernel_rfl) (by kernel_rfl) (fun _ _ _ h => h) (Or.inl ⟨by rfl, fun w9 hS9 => ?yields2x31⟩) (by assumption) ?later2x31
                case yields2x31 =>
                  dsimp only at hS9
                  go_simp
                  try with_reducible rfl
                try simp only [Act.put, List.getElem_toArray, List.getElem_cons_succ, List.getElem_cons_zero, List.setIfInBounds_toArray, List.set_cons_zero, List.set_cons_succ]
                refine wpAnyH_take (i := 4) (v := ?val4x32) rfl (by kernel_rfl) (by kernel_rfl) (by kernel_rfl) (fun _ _ _ h => h) (Or.inl ⟨by rfl, fun w9 hS9 => ?yields4x32⟩) (by assumption) ?later4x32
                case yields4x32 =>
                  dsimp only at hS9
                  go_simp
                  try with_reducible rfl
                try simp only [Act.put, List.getElem_toArray, List.getElem_cons_succ, List.getElem_cons_zero, List.setIfInBounds_toArray, List.set_cons_zero, List.set_cons_succ]
                refine wpAnyH_take (i := 5) (v := ?val5x33) rfl (by kernel_rfl) (by kernel_rfl) (by kernel_rfl) (fun _ _ _ h => h) (Or.inl ⟨by rfl, fun w9 hS9 => ?yields5x33⟩) (by assumption) ?later5x33
                case yields5x33 =>
                  dsimp only at hS9
                  go_simp
                  try with_reducible rfl
                try simp only [Act.put, List.getElem_toArray, List.getElem_cons_succ, List.getElem_cons_zero, List.setIfInBounds_toArray, List.set_cons_zero, List.set_cons_succ]
                refine wpAnyH_ready (rs := [1]) (by kernel_rfl) (by simp) ?_
                refine AllReadyH.cons rfl (fun K hK => ?_) AllReadyH.nil
                go_simp
                go_at_call 9
                go_split_ands
                refine (rCopyItem_any x _ _ ⟨_, _, rfl, KM.out _ (Hid.out (by assumption))⟩ HM.out).mono ?_
                rintro e' wz5 ⟨A5, c5, rfl, h5, -, hb1⟩
                have H5 := Lib.hid h5
                clear h5
                go_wp2_with fail
                refine hK.out _ _ ?_ (fun hHeld => ?_)
                · (try dsimp only)
                  (go_split_ands; exact MK.out _ (Below.trans (Hid.out (by assumption)) (hb1.mono (Hid.out (by assumption) : Below wE.heap.size wE _).size)))
                clear hK K
                try simp only [Act.put, List.getElem_toArray, List.getElem_cons_succ, List.getElem_cons_zero, List.setIfInBounds_toArray, List.set_cons_zero, List.set_cons_succ]
                refine wpAnyH_ready (rs := [3]) (by kernel_rfl) (by simp) ?_
                refine AllReadyH.cons rfl (fun K hK => ?_) AllReadyH.nil
                go_simp
                go_at_call 10
                go_split_ands
                refine (rCopyEvents_any l _ c _ (KE.out _ (Hid.out (by assumption))) (by omega)).mono ?_
                rintro e' wz6 ⟨A6, c6, rfl, h6, -, hb1⟩
                have H6 := Lib.hid h6
                replace H5 := Lib.hid (H5.out.keep (Keep.below hb1))
                clear h6
                go_wp2_with fail
                refine hK.out _ _ ?_ (fun hHeld => ?_)
                · (try dsimp only)
                  (go_split_ands; exact MK.out _ (Below.trans (Hid.out (by assumption)) (hb1.mono (Hid.out (by assumption) : Below wE.heap.size wE _).size)))
                clear hK K
                try simp only [Act.put, List.getElem_toArray, List.getElem_cons_succ, List.getElem_cons_zero, List.setIfInBounds_toArray, List.set_cons_zero, List.set_cons_succ]
                refine wpAnyH_ready (rs := [6]) (by kernel_rfl) (by simp) ?_
                refine AllReadyH.cons rfl (fun K hK => ?_) AllReadyH.nil
                go_simp
                go_at_call 12
                go_split_ands
                refine (xStateAt_any x _ l _ _ d0 _ ⟨_, _, rfl, H5.out⟩ H6.out (KTB.out _ (Hid.out (by assumption)))).mono ?_
                rintro e' wz7 ⟨rfl, hb1⟩
                clear H5 H6
                go_wp2_with fail
                refine hK.out _ _ ?_ (fun hHeld => ?_)
                · (try dsimp only)
                  (go_split_ands; exact MK.out _ (Below.trans (Hid.out (by assumption)) (hb1.mono (Hid.out (by assumption) : Below wE.heap.size wE _).size)))
                clear hK K
                try simp only [Act.put, List.getElem_toArray, List.getElem_cons_succ, List.getElem_cons_zero, List.setIfInBounds_toArray, List.set_cons_zero, List.set_cons_succ]
                refine wpAnyH_take (i := 7) (v := ?val7x34) rfl (by kernel_rfl) (by kernel_rfl) (by kernel_rfl) (fun _ _ _ h => h) (Or.inl ⟨by rfl, fun w9 hS9 => ?yields7x34⟩) (by assumption) ?later7x34
                case yields7x34 =>
                  dsimp only at hS9
                  go_simp
                  try with_reducible rfl
                try simp only [Act.put, List.getElem_toArray, List.getElem_cons_succ, List.getElem_cons_zero, List.setIfInBounds_toArray, List.set_cons_zero, List.set_cons_succ]
                refine wpAnyH_take (i := 8) (v := ?val8x35) rfl (by kernel_rfl) (by kernel_rfl) (by kernel_rfl) (fun _ _ _ h => h) (Or.inl ⟨by rfl, fun w9 hS9 => ?yields8x35⟩) (by assumption) ?later8x35
                case yields8x35 =>
                  dsimp only at hS9
                  go_simp
                  try with_reducible rfl
                try simp only [Act.put, List.getElem_toArray, List.getElem_cons_succ, List.getElem_cons_zero, List.setIfInBounds_toArray, List.set_cons_zero, List.set_cons_succ]
                refine wpAnyH_take (i := 9) (v := ?val9x36) rfl (by kernel_rfl) (by kernel_rfl) (by kernel_rfl) (fun _ _ _ h => h) (Or.inl ⟨by rfl, fun w9 hS9 => ?yields9x36⟩) (by assumption) ?later9x36
                case yields9x36 =>
                  dsimp only at hS9
                  go_simp
                  try with_reducible rfl
                try simp only [Act.put, List.getElem_toArray, List.getElem_cons_succ, List.getElem_cons_zero, List.setIfInBounds_toArray, List.set_cons_zero, List.set_cons_succ]
                refine wpAnyH_take (i := 10) (v := ?val10x37) rfl (by kernel_rfl) (by kernel_rfl) (by kernel_rfl) (fun _ _ _ h => h) (Or.inl ⟨by rfl, fun w9 hS9 => ?yields10x37⟩) (by assumption) ?later10x37
                case yields10x37 =>
                  dsimp only at hS9
                  go_simp
                  try with_reducible rfl
                try simp only [Act.put, List.getElem_toArray, List.getElem_cons_succ, List.getElem_cons_zero, List.setIfInBounds_toArray, List.set_cons_zero, List.set_cons_succ]
                refine wpAnyH_take (i := 11) (v := ?val11x38) rfl (by kernel_rfl) (by kernel_rfl) (by kernel_rfl) (fun _ _ _ h => h) (Or.inl ⟨by rfl, fun w9 hS9 => ?yields11x38⟩) (by assumption) ?later11x38
                case yields11x38 =>
                  dsimp only at hS9
                  go_simp
                  try with_reducible rfl
                try simp only [Act.put, List.getElem_toArray, List.getElem_cons_succ, List.getElem_cons_zero, List.setIfInBounds_toArray, List.set_cons_zero, List.set_cons_succ]
                refine wpAnyH_done (by kernel_rfl) ?_ _
                obtain ⟨-, -, -, -, -, -, HB⟩ := hHeld
                clear HBd MK
                clear KM KE KT KTB
                replace HWR := Lib.hid (HWR.out.trans (HB.out.mono HWR.out.size))
                replace BX := Lib.hid (BX.out.keep (Keep.below HB.out))
                replace BD := Lib.hid (BD.out.keep HB.out)
                replace HXW := Lib.hid (HXW.out.keep HB.out)
                clear HB
                clear q0 q1 q2 q3 e0 e1
                obtain ⟨wF, hwF⟩ : ∃ wz, wz = wz7 := ⟨_, rfl⟩
                subst hwF
                obtain ⟨q0, q1, q2, q3⟩ := BX.out
                obtain ⟨e0, e1, -, -⟩ := BD.out
                go_wp2_with fail
                have HBd : Hid (Below wF.heap.size wF wF.drew) := Lib.hid (Below.refl _ _).drew
                have MK : Hid (∀ w', Below wF.heap.size wF w' → w'.cell? ⟨w.heap.size, 0, none⟩ = some (.string x.name) ∧ w'.cell? ⟨w.heap.size, 0 + 1, none⟩ = some (.int .i64 x.day) ∧ w'.cell? ⟨w.heap.size, 0 + 2, none⟩ = some (.string x.who) ∧ w'.cell? ⟨w.heap.size, 0 + 3, none⟩ = some (.slice p x.marks.length pc) ∧ w'.cell? ⟨w.heap.size + 1, 0, none⟩ = some (.int .i64 d0) ∧ w'.cell? ⟨w.heap.size + 1, 1, none⟩ = some (.int .i64 d1) ∧ Hid (Below wF.heap.size wF w')) :=
                  Lib.hid fun w' hw => ⟨Keep.below hw _ _ q0, Keep.below hw _ _ q1, Keep.below hw _ _ q2, Keep.below hw _ _ q3, Keep.below hw _ _ e0, Keep.below hw _ _ e1, Lib.hid hw⟩
                have KM : Hid (∀ w', Below wF.heap.size wF w' → ArrMk w' p x.marks pc) := Lib.hid fun w' hw => (M.out.keep (Keep.below (HWR.out.trans (hw.mono HWR.out.size))))
                have KE : Hid (∀ w', Below wF.heap.size wF w' → ArrEv w' (some ⟨gb, go, none⟩) l c) := Lib.hid fun w' hw => (HA.out.keep (Keep.below (HWR.out.trans (hw.mono HWR.out.size))))
                have KTB : Hid (∀ w', Below wF.heap.size wF w' → TabSt w') := Lib.hid fun w' hw => (TBS.out.keep (Keep.below (HWR.out.trans (hw.mono HWR.out.size))))
                have KT : Hid (∀ w', Below wF.heap.size wF w' → ArrEv w' (some ⟨gb, go, none⟩) T c) := Lib.hid fun w' hw => (by rw [HT.out]; exact (HA.out.take n).keep (Keep.below (HWR.out.trans (hw.mono HWR.out.size))))
                refine wp_region_held_drew (S := fun w' => w'.cell? ⟨w.heap.size, 0, none⟩ = some (.string x.name) ∧ w'.cell? ⟨w.heap.size, 0 + 1, none⟩ = some (.int .i64 x.day) ∧ w'.cell? ⟨w.heap.size, 0 + 2, none⟩ = some (.string x.who) ∧ w'.cell? ⟨w.heap.size, 0 + 3, none⟩ = some (.slice p x.marks.length pc) ∧ w'.cell? ⟨w.heap.size + 1, 0, none⟩ = some (.int .i64 d0) ∧ w'.cell? ⟨w.heap.size + 1, 1, none⟩ = some (.int .i64 d1) ∧ Hid (Below wF.heap.size wF w')) (by kernel_rfl) (MK.out _ HBd.out) (fun hHeld => ?_)
                refine wpAnyH_take (i := 0) (v := ?val0x39) rfl (by kernel_rfl) (by kernel_rfl) (by kernel_rfl) (fun _ _ _ h => h) (Or.inl ⟨by rfl, fun w9 hS9 => ?yields0x39⟩) (by assumption) ?later0x39
                case yields0x39 =>
                  dsimp only at hS9
                  go_simp
                  try with_reducible rfl
                try simp only [Act.put, List.getElem_toArray, List.getElem_cons_succ, List.getElem_cons_zero, List.setIfInBounds_toArray, List.set_cons_zero, List.set_cons_succ]
                refine wpAnyH_take (i := 2) (v := ?val2x40) rfl (by kernel_rfl) (by kernel_rfl) (by kernel_rfl) (fun _ _ _ h => h) (Or.inl ⟨by rfl, fun w9 hS9 => ?yields2x40⟩) (by assumption) ?later2x40
                case yields2x40 =>
                  dsimp only at hS9
                  go_simp
                  try with_reducible rfl
                try simp only [Act.put, List.getElem_toArray, List.getElem_cons_succ, List.getElem_cons_zero, List.setIfInBounds_toArray, List.set_cons_zero, List.set_cons_succ]
                refine wpAnyH_take (i := 3) (v := ?val3x41) rfl (by kernel_rfl) (by kernel_rfl) (by kernel_rfl) (fun _ _ _ h => h) (Or.inl ⟨by rfl, fun w9 hS9 => ?yields3x41⟩) (by assumption) ?later3x41
                case yields3x41 =>
                  dsimp only at hS9
                  go_simp
                  try with_reducible rfl
                try simp only [Act.put, List.getElem_toArray, List.getElem_cons_succ, List.getElem_cons_zero, List.setIfInBounds_toArray, List.set_cons_zero, List.set_cons_succ]
                refine wpAnyH_take (i := 4) (v := ?val4x42) rfl (by kernel_rfl) (by kernel_rfl) (by kernel_rfl) (fun _ _ _ h => h) (Or.inl ⟨by rfl, fun w9 hS9 => ?yields4x42⟩) (by assumption) ?later4x42
                case yields4x42 =>
                  dsimp only at hS9
                  go_simp
                  try with_reducible rfl
                try simp only [Act.put, List.getElem_toArray, List.getElem_cons_succ, List.getElem_cons_zero, List.setIfInBounds_toArray, List.set_cons_zero, List.set_cons_succ]
                refine wpAnyH_take (i := 6) (v := ?val6x43) rfl (by kernel_rfl) (by kernel_rfl) (by kernel_rfl) (fun _ _ _ h => h) (Or.inl ⟨by rfl, fun w9 hS9 => ?yields6x43⟩) (by assumption) ?later6x43
                case yields6x43 =>
                  dsimp only at hS9
                  go_simp
                  try with_reducible rfl
                try simp only [Act.put, List.getElem_toArray, List.getElem_cons_succ, List.getElem_cons_zero, List.setIfInBounds_toArray, List.set_cons_zero, List.set_cons_succ]
                refine wpAnyH_take (i := 7) (v := ?val7x44) rfl (by kernel_rfl) (by kernel_rfl) (by kernel_rfl) (fun _ _ _ h => h) (Or.inl ⟨by rfl, fun w9 hS9 => ?yields7x44⟩) (by assumption) ?later7x44
                case yields7x44 =>
                  dsimp only at hS9
                  go_simp
                  try with_reducible rfl
                try simp only [Act.put, List.getElem_toArray, List.getElem_cons_succ, List.getElem_cons_zero, List.setIfInBounds_toArray, List.set_cons_zero, List.set_cons_succ]
                refine wpAnyH_ready (rs := [1]) (by kernel_rfl) (by simp) ?_
                refine AllReadyH.cons rfl (fun K hK => ?_) AllReadyH.nil
                go_simp
                go_at_call 9
                go_split_ands
                refine (rCopyItem_any x _ _ ⟨_, _, rfl, KM.out _ (Hid.out (by assumption))⟩ HM.out).mono ?_
                rintro e' wz5 ⟨A5, c5, rfl, h5, -, hb1⟩
                have H5 := Lib.hid h5
                clear h5
                go_wp2_with fail
                refine hK.out _ _ ?_ (fun hHeld => ?_)
                · (try dsimp only)
                  (go_split_ands; exact MK.out _ (Below.trans (Hid.out (by assumption)) (hb1.mono (Hid.out (by assumption) : Below wF.heap.size wF _).size)))
                clear hK K
                try simp only [Act.put, List.getElem_toArray, List.getElem_cons_succ, List.getElem_cons_zero, List.setIfInBounds_toArray, List.set_cons_zero, List.set_cons_succ]
                refine wpAnyH_ready (rs := [5]) (by kernel_rfl) (by simp) ?_
                refine AllReadyH.cons rfl (fun K hK => ?_) AllReadyH.nil
                go_simp
                go_at_call 10
                go_split_ands
                refine (HCT.out _ (KT.out _ (Hid.out (by assumption)))).mono ?_
                rintro e' wz6 ⟨A6, c6, rfl, h6, -, hb1⟩
                have H6 := Lib.hid h6
                replace H5 := Lib.hid (H5.out.keep (Keep.below hb1))
                clear h6
                go_wp2_with fail
                refine hK.out _ _ ?_ (fun hHeld => ?_)
                · (try dsimp only)
                  (go_split_ands; exact MK.out _ (Below.trans (Hid.out (by assumption)) (hb1.mono (Hid.out (by assumption) : Below wF.heap.size wF _).size)))
                clear hK K
                try simp only [Act.put, List.getElem_toArray, List.getElem_cons_succ, List.getElem_cons_zero, List.setIfInBounds_toArray, List.set_cons_zero, List.set_cons_succ]
                refine wpAnyH_ready (rs := [8]) (by kernel_rfl) (by simp) ?_
                refine AllReadyH.cons rfl (fun K hK => ?_) AllReadyH.nil
                go_simp
                go_at_call 12
                go_split_ands
                refine (HXS.out _ _ _ _ ⟨_, _, rfl, H5.out⟩ H6.out (KTB.out _ (Hid.out (by assumption)))).mono ?_
                rintro e' wz7 ⟨rfl, hb1⟩
                clear H5 H6
                go_wp2_with fail
                refine hK.out _ _ ?_ (fun hHeld => ?_)
                · (try dsimp only)
                  (go_split_ands; exact MK.out _ (Below.trans (Hid.out (by assumption)) (hb1.mono (Hid.out (by assumption) : Below wF.heap.size wF _).size)))
                clear hK K
                try simp only [Act.put, List.getElem_toArray, List.getElem_cons_succ, List.getElem_cons_zero, List.setIfInBounds_toArray, List.set_cons_zero, List.set_cons_succ]
                refine wpAnyH_take (i := 9) (v := ?val9x45) rfl (by kernel_rfl) (by kernel_rfl) (by kernel_rfl) (fun _ _ _ h => h) (Or.inl ⟨by rfl, fun w9 hS9 => ?yields9x45⟩) (by assumption) ?later9x45
                case yields9x45 =>
                  dsimp only at hS9
                  go_simp
                  try with_reducible rfl
                try simp only [Act.put, List.getElem_toArray, List.getElem_cons_succ, List.getElem_cons_zero, List.setIfInBounds_toArray, List.set_cons_zero, List.set_cons_succ]
                refine wpAnyH_take (i := 10) (v := ?val10x46) rfl (by kernel_rfl) (by kernel_rfl) (by kernel_rfl) (fun _ _ _ h => h) (Or.inl ⟨by rfl, fun w9 hS9 => ?yields10x46⟩) (by assumption) ?later10x46
                case yields10x46 =>
                  dsimp only at hS9
                  go_simp
                  try with_reducible rfl
                try simp only [Act.put, List.getElem_toArray, List.getElem_cons_succ, List.getElem_cons_zero, List.setIfInBounds_toArray, List.set_cons_zero, List.set_cons_succ]
                refine wpAnyH_take (i := 11) (v := ?val11x47) rfl (by kernel_rfl) (by kernel_rfl) (by kernel_rfl) (fun _ _ _ h => h) (Or.inl ⟨by rfl, fun w9 hS9 => ?yields11x47⟩) (by assumption) ?later11x47
                case yields11x47 =>
                  dsimp only at hS9
                  go_simp
                  try with_reducible rfl
                try simp only [Act.put, List.getElem_toArray, List.getElem_cons_succ, List.getElem_cons_zero, List.setIfInBounds_toArray, List.set_cons_zero, List.set_cons_succ]
                refine wpAnyH_take (i := 12) (v := ?val12x48) rfl (by kernel_rfl) (by kernel_rfl) (by kernel_rfl) (fun _ _ _ h => h) (Or.inl ⟨by rfl, fun w9 hS9 => ?yields12x48⟩) (by assumption) ?later12x48
                case yields12x48 =>
                  dsimp only at hS9
                  go_simp
                  try with_reducible rfl
                try simp only [Act.put, List.getElem_toArray, List.getElem_cons_succ, List.getElem_cons_zero, List.setIfInBounds_toArray, List.set_cons_zero, List.set_cons_succ]
                refine wpAnyH_take (i := 13) (v := ?val13x49) rfl (by kernel_rfl) (by kernel_rfl) (by kernel_rfl) (fun _ _ _ h => h) (Or.inl ⟨by rfl, fun w9 hS9 => ?yields13x49⟩) (by assumption) ?later13x49
                case yields13x49 =>
                  dsimp only at hS9
                  go_simp
                  try with_reducible rfl
                try simp only [Act.put, List.getElem_toArray, List.getElem_cons_succ, List.getElem_cons_zero, List.setIfInBounds_toArray, List.set_cons_zero, List.set_cons_succ]
                refine wpAnyH_done (by kernel_rfl) ?_ _
                obtain ⟨-, -, -, -, -, -, HB⟩ := hHeld
                clear HBd MK
                clear KM KE KT KTB
                replace HWR := Lib.hid (HWR.out.trans (HB.out.mono HWR.out.size))
                replace BX := Lib.hid (BX.out.keep (Keep.below HB.out))
                replace BD := Lib.hid (BD.out.keep HB.out)
                replace HXW := Lib.hid (HXW.out.keep HB.out)
                clear HB
                clear q0 q1 q2 q3 e0 e1
                obtain ⟨wG, hwG⟩ : ∃ wz, wz = wz7 := ⟨_, rfl⟩
                subst hwG
                obtain ⟨q0, q1, q2, q3⟩ := BX.out
                obtain ⟨e0, e1, -, -⟩ := BD.out
                go_wp2_with fail
                have HBd : Hid (Below wG.heap.size wG wG.drew) := Lib.hid (Below.refl _ _).drew
                have MK : Hid (∀ w', Below wG.heap.size wG w' → w'.cell? ⟨w.heap.size, 0, none⟩ = some (.string x.name) ∧ w'.cell? ⟨w.heap.size, 0 + 1, none⟩ = some (.int .i64 x.day) ∧ w'.cell? ⟨w.heap.size, 0 + 2, none⟩ = some (.string x.who) ∧ w'.cell? ⟨w.heap.size, 0 + 3, none⟩ = some (.slice p x.marks.length pc) ∧ w'.cell? ⟨w.heap.size + 1, 0, none⟩ = some (.int .i64 d0) ∧ w'.cell? ⟨w.heap.size + 1, 1, none⟩ = some (.int .i64 d1) ∧ Hid (Below wG.heap.size wG w')) :=
                  Lib.hid fun w' hw => ⟨Keep.below hw _ _ q0, Keep.below hw _ _ q1, Keep.below hw _ _ q2, Keep.below hw _ _ q3, Keep.below hw _ _ e0, Keep.below hw _ _ e1, Lib.hid hw⟩
                have KM : Hid (∀ w', Below wG.heap.size wG w' → ArrMk w' p x.marks pc) := Lib.hid fun w' hw => (M.out.keep (Keep.below (HWR.out.trans (hw.mono HWR.out.size))))
                have KE : Hid (∀ w', Below wG.heap.size wG w' → ArrEv w' (some ⟨gb, go, none⟩) l c) := Lib.hid fun w' hw => (HA.out.keep (Keep.below (HWR.out.trans (hw.mono HWR.out.size))))
                have KTB : Hid (∀ w', Below wG.heap.size wG w' → TabSt w') := Lib.hid fun w' hw => (TBS.out.keep (Keep.below (HWR.out.trans (hw.mono HWR.out.size))))
                have KT : Hid (∀ w', Below wG.heap.size wG w' → ArrEv w' (some ⟨gb, go, none⟩) T c) := Lib.hid fun w' hw => (by rw [HT.out]; exact (HA.out.take n).keep (Keep.below (HWR.out.trans (hw.mono HWR.out.size))))
                refine wp_region_held_drew (S := fun w' => w'.cell? ⟨w.heap.size, 0, none⟩ = some (.string x.name) ∧ w'.cell? ⟨w.heap.size, 0 + 1, none⟩ = some (.int .i64 x.day) ∧ w'.cell? ⟨w.heap.size, 0 + 2, none⟩ = some (.string x.who) ∧ w'.cell? ⟨w.heap.size, 0 + 3, none⟩ = some (.slice p x.marks.length pc) ∧ w'.cell? ⟨w.heap.size + 1, 0, none⟩ = some (.int .i64 d0) ∧ w'.cell? ⟨w.heap.size + 1, 1, none⟩ = some (.int .i64 d1) ∧ Hid (Below wG.heap.size wG w')) (by kernel_rfl) (MK.out _ HBd.out) (fun hHeld => ?_)
                refine wpAnyH_take (i := 0) (v := ?val0x50) rfl (by kernel_rfl) (by kernel_rfl) (by kernel_rfl) (fun _ _ _ h => h) (Or.inl ⟨by rfl, fun w9 hS9 => ?yields0x50⟩) (by assumption) ?later0x50
                case yields0x50 =>
                  dsimp only at hS9
                  go_simp
                  try with_reducible rfl
                try simp only [Act.put, List.getElem_toArray, List.getElem_cons_succ, List.getElem_cons_zero, List.setIfInBounds_toArray, List.set_cons_zero, List.set_cons_succ]
                refine wpAnyH_take (i := 2) (v := ?val2x51) rfl (by kernel_rfl) (by kernel_rfl) (by kernel_rfl) (fun _ _ _ h => h) (Or.inl ⟨by rfl, fun w9 hS9 => ?yields2x51⟩) (by assumption) ?later2x51
                case yields2x51 =>
                  dsimp only at hS9
                  go_simp
                  try with_reducible rfl
                try simp only [Act.put, List.getElem_toArray, List.getElem_cons_succ, List.getElem_cons_zero, List.setIfInBounds_toArray, List.set_cons_zero, List.set_cons_succ]
                refine wpAnyH_take (i := 4) (v := ?val4x52) rfl (by kernel_rfl) (by kernel_rfl) (by kernel_rfl) (fun _ _ _ h => h) (Or.inl ⟨by rfl, fun w9 hS9 => ?yields4x52⟩) (by assumption) ?later4x52
                case yields4x52 =>
                  dsimp only at hS9
                  go_simp
                  try with_reducible rfl
                try simp only [Act.put, List.getElem_toArray, List.getElem_cons_succ, List.getElem_cons_zero, List.setIfInBounds_toArray, List.set_cons_zero, List.set_cons_succ]
                refine wpAnyH_take (i := 5) (v := ?val5x53) rfl (by kernel_rfl) (by kernel_rfl) (by kernel_rfl) (fun _ _ _ h => h) (Or.inl ⟨by rfl, fun w9 hS9 => ?yields5x53⟩) (by assumption) ?later5x53
                case yields5x53 =>
                  dsimp only at hS9
                  go_simp
                  try with_reducible rfl
                try simp only [Act.put, List.getElem_toArray, List.getElem_cons_succ, List.getElem_cons_zero, List.setIfInBounds_toArray, List.set_cons_zero, List.set_cons_succ]
                refine wpAnyH_ready (rs := [1]) (by kernel_rfl) (by simp) ?_
                refine AllReadyH.cons rfl (fun K hK => ?_) AllReadyH.nil
                go_simp
                go_at_call 9
                go_split_ands
                refine (rCopyItem_any x _ _ ⟨_, _, rfl, KM.out _ (Hid.out (by assumption))⟩ HM.out).mono ?_
                rintro e' wz5 ⟨A5, c5, rfl, h5, -, hb1⟩
                have H5 := Lib.hid h5
                clear h5
                go_wp2_with fail
                refine hK.out _ _ ?_ (fun hHeld => ?_)
                · (try dsimp only)
                  (go_split_ands; exact MK.out _ (Below.trans (Hid.out (by assumption)) (hb1.mono (Hid.out (by assumption) : Below wG.heap.size wG _).size)))
                clear hK K
                try simp only [Act.put, List.getElem_toArray, List.getElem_cons_succ, List.getElem_cons_zero, List.setIfInBounds_toArray, List.set_cons_zero, List.set_cons_succ]
                refine wpAnyH_ready (rs := [3]) (by kernel_rfl) (by simp) ?_
                refine AllReadyH.cons rfl (fun K hK => ?_) AllReadyH.nil
                go_simp
                go_at_call 10
                go_split_ands
                refine (rCopyEvents_any l _ c _ (KE.out _ (Hid.out (by assumption))) (by omega)).mono ?_
                rintro e' wz6 ⟨A6, c6, rfl, h6, -, hb1⟩
                have H6 := Lib.hid h6
                replace H5 := Lib.hid (H5.out.keep (Keep.below hb1))
                clear h6
                go_wp2_with fail
                refine hK.out _ _ ?_ (fun hHeld => ?_)
                · (try dsimp only)
                  (go_split_ands; exact MK.out _ (Below.trans (Hid.out (by assumption)) (hb1.mono (Hid.out (by assumption) : Below wG.heap.size wG _).size)))
                clear hK K
                try simp only [Act.put, List.getElem_toArray, List.getElem_cons_succ, List.getElem_cons_zero, List.setIfInBounds_toArray, List.set_cons_zero, List.set_cons_succ]
                refine wpAnyH_ready (rs := [6]) (by kernel_rfl) (by simp) ?_
                refine AllReadyH.cons rfl (fun K hK => ?_) AllReadyH.nil
                go_simp
                go_at_call 13
                go_split_ands
                refine (xRightAt_any x _ l _ _ d0 _ ⟨_, _, rfl, H5.out⟩ H6.out (KTB.out _ (Hid.out (by assumption)))).mono ?_
                rintro e' wz7 ⟨rfl, hb1⟩
                clear H5 H6
                go_wp2_with fail
                refine hK.out _ _ ?_ (fun hHeld => ?_)
                · (try dsimp only)
                  (go_split_ands; exact MK.out _ (Below.trans (Hid.out (by assumption)) (hb1.mono (Hid.out (by assumption) : Below wG.heap.size wG _).size)))
                clear hK K
                try simp only [Act.put, List.getElem_toArray, List.getElem_cons_succ, List.getElem_cons_zero, List.setIfInBounds_toArray, List.set_cons_zero, List.set_cons_succ]
                refine wpAnyH_take (i := 7) (v := ?val7x54) rfl (by kernel_rfl) (by kernel_rfl) (by kernel_rfl) (fun _ _ _ h => h) (Or.inl ⟨by rfl, fun w9 hS9 => ?yields7x54⟩) (by assumption) ?later7x54
                case yields7x54 =>
                  dsimp only at hS9
                  go_simp
                  try with_reducible rfl
                try simp only [Act.put, List.getElem_toArray, List.getElem_cons_succ, List.getElem_cons_zero, List.setIfInBounds_toArray, List.set_cons_zero, List.set_cons_succ]
                refine wpAnyH_take (i := 8) (v := ?val8x55) rfl (by kernel_rfl) (by kernel_rfl) (by kernel_rfl) (fun _ _ _ h => h) (Or.inl ⟨by rfl, fun w9 hS9 => ?yields8x55⟩) (by assumption) ?later8x55
                case yields8x55 =>
                  dsimp only at hS9
                  go_simp
                  try with_reducible rfl
                try simp only [Act.put, List.getElem_toArray, List.getElem_cons_succ, List.getElem_cons_zero, List.setIfInBounds_toArray, List.set_cons_zero, List.set_cons_succ]
                refine wpAnyH_take (i := 9) (v := ?val9x56) rfl (by kernel_rfl) (by kernel_rfl) (by kernel_rfl) (fun _ _ _ h => h) (Or.inl ⟨by rfl, fun w9 hS9 => ?yields9x56⟩) (by assumption) ?later9x56
                case yields9x56 =>
                  dsimp only at hS9
                  go_simp
                  try with_reducible rfl
                try simp only [Act.put, List.getElem_toArray, List.getElem_cons_succ, List.getElem_cons_zero, List.setIfInBounds_toArray, List.set_cons_zero, List.set_cons_succ]
                refine wpAnyH_take (i := 10) (v := ?val10x57) rfl (by kernel_rfl) (by kernel_rfl) (by kernel_rfl) (fun _ _ _ h => h) (Or.inl ⟨by rfl, fun w9 hS9 => ?yields10x57⟩) (by assumption) ?later10x57
                case yields10x57 =>
                  dsimp only at hS9
                  go_simp
                  try with_reducible rfl
                try simp only [Act.put, List.getElem_toArray, List.getElem_cons_succ, List.getElem_cons_zero, List.setIfInBounds_toArray, List.set_cons_zero, List.set_cons_succ]
                refine wpAnyH_take (i := 11) (v := ?val11x58) rfl (by kernel_rfl) (by kernel_rfl) (by kernel_rfl) (fun _ _ _ h => h) (Or.inl ⟨by rfl, fun w9 hS9 => ?yields11x58⟩) (by assumption) ?later11x58
                case yields11x58 =>
                  dsimp only at hS9
                  go_simp
                  try with_reducible rfl
                try simp only [Act.put, List.getElem_toArray, List.getElem_cons_succ, List.getElem_cons_zero, List.setIfInBounds_toArray, List.set_cons_zero, List.set_cons_succ]
                refine wpAnyH_done (by kernel_rfl) ?_ _
                obtain ⟨-, -, -, -, -, -, HB⟩ := hHeld
                clear HBd MK
                clear KM KE KT KTB
                replace HWR := Lib.hid (HWR.out.trans (HB.out.mono HWR.out.size))
                replace BX := Lib.hid (BX.out.keep (Keep.below HB.out))
                replace BD := Lib.hid (BD.out.keep HB.out)
                replace HXW := Lib.hid (HXW.out.keep HB.out)
                clear HB
                clear q0 q1 q2 q3 e0 e1
                obtain ⟨wH, hwH⟩ : ∃ wz, wz = wz7 := ⟨_, rfl⟩
                subst hwH
                obtain ⟨q0, q1, q2, q3⟩ := BX.out
                obtain ⟨e0, e1, -, -⟩ := BD.out
                go_wp2_with fail
                have HBd : Hid (Below wH.heap.size wH wH.drew) := Lib.hid (Below.refl _ _).drew
                have MK : Hid (∀ w', Below wH.heap.size wH w' → w'.cell? ⟨w.heap.size, 0, none⟩ = some (.string x.name) ∧ w'.cell? ⟨w.heap.size, 0 + 1, none⟩ = some (.int .i64 x.day) ∧ w'.cell? ⟨w.heap.size, 0 + 2, none⟩ = some (.string x.who) ∧ w'.cell? ⟨w.heap.size, 0 + 3, none⟩ = some (.slice p x.marks.length pc) ∧ w'.cell? ⟨w.heap.size + 1, 0, none⟩ = some (.int .i64 d0) ∧ w'.cell? ⟨w.heap.size + 1, 1, none⟩ = some (.int .i64 d1) ∧ Hid (Below wH.heap.size wH w')) :=
                  Lib.hid fun w' hw => ⟨Keep.below hw _ _ q0, Keep.below hw _ _ q1, Keep.below hw _ _ q2, Keep.below hw _ _ q3, Keep.below hw _ _ e0, Keep.below hw _ _ e1, Lib.hid hw⟩
                have KM : Hid (∀ w', Below wH.heap.size wH w' → ArrMk w' p x.marks pc) := Lib.hid fun w' hw => (M.out.keep (Keep.below (HWR.out.trans (hw.mono HWR.out.size))))
                have KE : Hid (∀ w', Below wH.heap.size wH w' → ArrEv w' (some ⟨gb, go, none⟩) l c) := Lib.hid fun w' hw => (HA.out.keep (Keep.below (HWR.out.trans (hw.mono HWR.out.size))))
                have KTB : Hid (∀ w', Below wH.heap.size wH w' → TabSt w') := Lib.hid fun w' hw => (TBS.out.keep (Keep.below (HWR.out.trans (hw.mono HWR.out.size))))
                have KT : Hid (∀ w', Below wH.heap.size wH w' → ArrEv w' (some ⟨gb, go, none⟩) T c) := Lib.hid fun w' hw => (by rw [HT.out]; exact (HA.out.take n).keep (Keep.below (HWR.out.trans (hw.mono HWR.out.size))))
                refine wp_region_held_drew (S := fun w' => w'.cell? ⟨w.heap.size, 0, none⟩ = some (.string x.name) ∧ w'.cell? ⟨w.heap.size, 0 + 1, none⟩ = some (.int .i64 x.day) ∧ w'.cell? ⟨w.heap.size, 0 + 2, none⟩ = some (.string x.who) ∧ w'.cell? ⟨w.heap.size, 0 + 3, none⟩ = some (.slice p x.marks.length pc) ∧ w'.cell? ⟨w.heap.size + 1, 0, none⟩ = some (.int .i64 d0) ∧ w'.cell? ⟨w.heap.size + 1, 1, none⟩ = some (.int .i64 d1) ∧ Hid (Below wH.heap.size wH w')) (by kernel_rfl) (MK.out _ HBd.out) (fun hHeld => ?_)
                refine wpAnyH_take (i := 0) (v := ?val0x59) rfl (by kernel_rfl) (by kernel_rfl) (by kernel_rfl) (fun _ _ _ h => h) (Or.inl ⟨by rfl, fun w9 hS9 => ?yields0x59⟩) (by assumption) ?later0x59
                case yields0x59 =>
                  dsimp only at hS9
                  go_simp
                  try with_reducible rfl
                try simp only [Act.put, List.getElem_toArray, List.getElem_cons_succ, List.getElem_cons_zero, List.setIfInBounds_toArray, List.set_cons_zero, List.set_cons_succ]
                refine wpAnyH_take (i := 2) (v := ?val2x60) rfl (by kernel_rfl) (by kernel_rfl) (by kernel_rfl) (fun _ _ _ h => h) (Or.inl ⟨by rfl, fun w9 hS9 => ?yields2x60⟩) (by assumption) ?later2x60
                case yields2x60 =>
                  dsimp only at hS9
                  go_simp
                  try with_reducible rfl
                try simp only [Act.put, List.getElem_toArray, List.getElem_cons_succ, List.getElem_cons_zero, List.setIfInBounds_toArray, List.set_cons_zero, List.set_cons_succ]
                refine wpAnyH_take (i := 3) (v := ?val3x61) rfl (by kernel_rfl) (by kernel_rfl) (by kernel_rfl) (fun _ _ _ h => h) (Or.inl ⟨by rfl, fun w9 hS9 => ?yields3x61⟩) (by assumption) ?later3x61
                case yields3x61 =>
                  dsimp only at hS9
                  go_simp
                  try with_reducible rfl
                try simp only [Act.put, List.getElem_toArray, List.getElem_cons_succ, List.getElem_cons_zero, List.setIfInBounds_toArray, List.set_cons_zero, List.set_cons_succ]
                refine wpAnyH_take (i := 4) (v := ?val4x62) rfl (by kernel_rfl) (by kernel_rfl) (by kernel_rfl) (fun _ _ _ h => h) (Or.inl ⟨by rfl, fun w9 hS9 => ?yields4x62⟩) (by assumption) ?later4x62
                case yields4x62 =>
                  dsimp only at hS9
                  go_simp
                  try with_reducible rfl
                try simp only [Act.put, List.getElem_toArray, List.getElem_cons_succ, List.getElem_cons_zero, List.setIfInBounds_toArray, List.set_cons_zero, List.set_cons_succ]
                refine wpAnyH_take (i := 6) (v := ?val6x63) rfl (by kernel_rfl) (by kernel_rfl) (by kernel_rfl) (fun _ _ _ h => h) (Or.inl ⟨by rfl, fun w9 hS9 => ?yields6x63⟩) (by assumption) ?later6x63
                case yields6x63 =>
                  dsimp only at hS9
                  go_simp
                  try with_reducible rfl
                try simp only [Act.put, List.getElem_toArray, List.getElem_cons_succ, List.getElem_cons_zero, List.setIfInBounds_toArray, List.set_cons_zero, List.set_cons_succ]
                refine wpAnyH_take (i := 7) (v := ?val7x64) rfl (by kernel_rfl) (by kernel_rfl) (by kernel_rfl) (fun _ _ _ h => h) (Or.inl ⟨by rfl, fun w9 hS9 => ?yields7x64⟩) (by assumption) ?later7x64
                case yields7x64 =>
                  dsimp only at hS9
                  go_simp
                  try with_reducible rfl
                try simp only [Act.put, List.getElem_toArray, List.getElem_cons_succ, List.getElem_cons_zero, List.setIfInBounds_toArray, List.set_cons_zero, List.set_cons_succ]
                refine wpAnyH_ready (rs := [1]) (by kernel_rfl) (by simp) ?_
                refine AllReadyH.cons rfl (fun K hK => ?_) AllReadyH.nil
                go_simp
                go_at_call 9
                go_split_ands
                refine (rCopyItem_any x _ _ ⟨_, _, rfl, KM.out _ (Hid.out (by assumption))⟩ HM.out).mono ?_
                rintro e' wz5 ⟨A5, c5, rfl, h5, -, hb1⟩
                have H5 := Lib.hid h5
                clear h5
                go_wp2_with fail
                refine hK.out _ _ ?_ (fun hHeld => ?_)
                · (try dsimp only)
                  (go_split_ands; exact MK.out _ (Below.trans (Hid.out (by assumption)) (hb1.mono (Hid.out (by assumption) : Below wH.heap.size wH _).size)))
                clear hK K
                try simp only [Act.put, List.getElem_toArray, List.getElem_cons_succ, List.getElem_cons_zero, List.setIfInBounds_toArray, List.set_cons_zero, List.set_cons_succ]
                refine wpAnyH_ready (rs := [5]) (by kernel_rfl) (by simp) ?_
                refine AllReadyH.cons rfl (fun K hK => ?_) AllReadyH.nil
                go_simp
                go_at_call 10
                go_split_ands
                refine (HCT.out _ (KT.out _ (Hid.out (by assumption)))).mono ?_
                rintro e' wz6 ⟨A6, c6, rfl, h6, -, hb1⟩
                have H6 := Lib.hid h6
                replace H5 := Lib.hid (H5.out.keep (Keep.below hb1))
                clear h6
                go_wp2_with fail
                refine hK.out _ _ ?_ (fun hHeld => ?_)
                · (try dsimp only)
                  (go_split_ands; exact MK.out _ (Below.trans (Hid.out (by assumption)) (hb1.mono (Hid.out (by assumption) : Below wH.heap.size wH _).size)))
                clear hK K
                try simp only [Act.put, List.getElem_toArray, List.getElem_cons_succ, List.getElem_cons_zero, List.setIfInBounds_toArray, List.set_cons_zero, List.set_cons_succ]
                refine wpAnyH_ready (rs := [8]) (by kernel_rfl) (by simp) ?_
                refine AllReadyH.cons rfl (fun K hK => ?_) AllReadyH.nil
                go_simp
                go_at_call 13
                go_split_ands
                refine (HXR.out _ _ _ _ ⟨_, _, rfl, H5.out⟩ H6.out (KTB.out _ (Hid.out (by assumption)))).mono ?_
                rintro e' wz7 ⟨rfl, hb1⟩
                clear H5 H6
                go_wp2_with fail
                refine hK.out _ _ ?_ (fun hHeld => ?_)
                · (try dsimp only)
                  (go_split_ands; exact MK.out _ (Below.trans (Hid.out (by assumption)) (hb1.mono (Hid.out (by assumption) : Below wH.heap.size wH _).size)))
                clear hK K
                try simp only [Act.put, List.getElem_toArray, List.getElem_cons_succ, List.getElem_cons_zero, List.setIfInBounds_toArray, List.set_cons_zero, List.set_cons_succ]
                refine wpAnyH_take (i := 9) (v := ?val9x65) rfl (by kernel_rfl) (by kernel_rfl) (by kernel_rfl) (fun _ _ _ h => h) (Or.inl ⟨by rfl, fun w9 hS9 => ?yields9x65⟩) (by assumption) ?later9x65
                case yields9x65 =>
                  dsimp only at hS9
                  go_simp
                  try with_reducible rfl
                try simp only [Act.put, List.getElem_toArray, List.getElem_cons_succ, List.getElem_cons_zero, List.setIfInBounds_toArray, List.set_cons_zero, List.set_cons_succ]
                refine wpAnyH_take (i := 10) (v := ?val10x66) rfl (by kernel_rfl) (by kernel_rfl) (by kernel_rfl) (fun _ _ _ h => h) (Or.inl ⟨by rfl, fun w9 hS9 => ?yields10x66⟩) (by assumption) ?later10x66
                case yields10x66 =>
                  dsimp only at hS9
                  go_simp
                  try with_reducible rfl
                try simp only [Act.put, List.getElem_toArray, List.getElem_cons_succ, List.getElem_cons_zero, List.setIfInBounds_toArray, List.set_cons_zero, List.set_cons_succ]
                refine wpAnyH_take (i := 11) (v := ?val11x67) rfl (by kernel_rfl) (by kernel_rfl) (by kernel_rfl) (fun _ _ _ h => h) (Or.inl ⟨by rfl, fun w9 hS9 => ?yields11x67⟩) (by assumption) ?later11x67
                case yields11x67 =>
                  dsimp only at hS9
                  go_simp
                  try with_reducible rfl
                try simp only [Act.put, List.getElem_toArray, List.getElem_cons_succ, List.getElem_cons_zero, List.setIfInBounds_toArray, List.set_cons_zero, List.set_cons_succ]
                refine wpAnyH_take (i := 12) (v := ?val12x68) rfl (by kernel_rfl) (by kernel_rfl) (by kernel_rfl) (fun _ _ _ h => h) (Or.inl ⟨by rfl, fun w9 hS9 => ?yields12x68⟩) (by assumption) ?later12x68
                case yields12x68 =>
                  dsimp only at hS9
                  go_simp
                  try with_reducible rfl
                try simp only [Act.put, List.getElem_toArray, List.getElem_cons_succ, List.getElem_cons_zero, List.setIfInBounds_toArray, List.set_cons_zero, List.set_cons_succ]
                refine wpAnyH_take (i := 13) (v := ?val13x69) rfl (by kernel_rfl) (by kernel_rfl) (by kernel_rfl) (fun _ _ _ h => h) (Or.inl ⟨by rfl, fun w9 hS9 => ?yields13x69⟩) (by assumption) ?later13x69
                case yields13x69 =>
                  dsimp only at hS9
                  go_simp
                  try with_reducible rfl
                try simp only [Act.put, List.getElem_toArray, List.getElem_cons_succ, List.getElem_cons_zero, List.setIfInBounds_toArray, List.set_cons_zero, List.set_cons_succ]
                refine wpAnyH_done (by kernel_rfl) ?_ _
                obtain ⟨-, -, -, -, -, -, HB⟩ := hHeld
                clear HBd MK
                clear KM KE KT KTB
                replace HWR := Lib.hid (HWR.out.trans (HB.out.mono HWR.out.size))
                replace BX := Lib.hid (BX.out.keep (Keep.below HB.out))
                replace BD := Lib.hid (BD.out.keep HB.out)
                replace HXW := Lib.hid (HXW.out.keep HB.out)
                clear HB
                clear q0 q1 q2 q3 e0 e1
                obtain ⟨wI, hwI⟩ : ∃ wz, wz = wz7 := ⟨_, rfl⟩
                subst hwI
                rw [HT.out, on_take HC.out n d0, HS.out.1, HS.out.2.1, HS.out.2.2]
                have ee1 : ((onErr x l d0) == (onErr x l d0)) = true := by simp
                have ee1b : ((onErr x l d0) != (onErr x l d0)) = false := by simp
                have ee2 : ((stOut x l d0) == (stOut x l d0)) = true := by simp
                have ee2b : ((stOut x l d0) != (stOut x l d0)) = false := by simp
                have ee3 : ((riOut x l d0) == (riOut x l d0)) = true := by simp
                have ee3b : ((riOut x l d0) != (riOut x l d0)) = false := by simp
                have ee4 : ((hoOut x l d0).toList == (hoOut x l d0).toList) = true := by simp
                have ee5 : ((hoOut x l d0).toList != (hoOut x l d0).toList) = false := by simp
                go_wp2_with fail
                go_roundw
                case rel => exact ⟨n + 1, by omega, by go_num, HXW⟩
                case measure => simp [intOf]; omega
            · have hnl : ¬ (n : Int) < (l.length : Int) := by omega
              have d2' : decide ((n : Int) < (l.length : Int)) = false := decide_eq_false hnl
              have d3' : decide (n < l.length) = false := decide_eq_false hlt2
              have HS := Lib.hid (same_take HC.out (show n ≤ l.length by omega) (d := d0) (fun hh => absurd hh hlt2))
              obtain ⟨q0, q1, q2, q3⟩ := BX.out
              obtain ⟨e0, e1, -, -⟩ := BD.out
              go_wp2_with fail
              go_quiet (fail)
              have BXn := Lib.hid (BX.out.keep (Keep.below (bdrewN (Below.refl _ _) nq)))
              have BDn := Lib.hid (BD.out.keep (bdrewN (Below.refl _ _) nq))
              have HWn := Lib.hid (bdrewN HWR.out nq)
              have HXn : Hid (Past wS (wB.drewN nq)) := Lib.hid (bdrewN HXW.out nq)
              clear q0 q1 q2 q3 e0 e1 BX BD HWR HXW
              generalize World.drewN wB nq = wC at *
              clear nq
              have BX := BXn
              have BD := BDn
              have HWR := HWn
              have HXW := HXn
              clear BXn BDn HWn HXn
              obtain ⟨q0, q1, q2, q3⟩ := BX.out
              obtain ⟨e0, e1, -, -⟩ := BD.out
              go_wp2_with fail
              have HBd : Hid (Below wC.heap.size wC wC.drew) := Lib.hid (Below.refl _ _).drew
              have MK : Hid (∀ w', Below wC.heap.size wC w' → w'.cell? ⟨w.heap.size, 0, none⟩ = some (.string x.name) ∧ w'.cell? ⟨w.heap.size, 0 + 1, none⟩ = some (.int .i64 x.day) ∧ w'.cell? ⟨w.heap.size, 0 + 2, none⟩ = some (.string x.who) ∧ w'.cell? ⟨w.heap.size, 0 + 3, none⟩ = some (.slice p x.marks.length pc) ∧ w'.cell? ⟨w.heap.size + 1, 0, none⟩ = some (.int .i64 d0) ∧ w'.cell? ⟨w.heap.size + 1, 1, none⟩ = some (.int .i64 d1) ∧ Hid (Below wC.heap.size wC w')) :=
                Lib.hid fun w' hw => ⟨Keep.below hw _ _ q0, Keep.below hw _ _ q1, Keep.below hw _ _ q2, Keep.below hw _ _ q3, Keep.below hw _ _ e0, Keep.below hw _ _ e1, Lib.hid hw⟩
              have KM : Hid (∀ w', Below wC.heap.size wC w' → ArrMk w' p x.marks pc) := Lib.hid fun w' hw => (M.out.keep (Keep.below (HWR.out.trans (hw.mono HWR.out.size))))
              have KE : Hid (∀ w', Below wC.heap.size wC w' → ArrEv w' A l c) := Lib.hid fun w' hw => (HA.out.keep (Keep.below (HWR.out.trans (hw.mono HWR.out.size))))
              have KTB : Hid (∀ w', Below wC.heap.size wC w' → TabSt w') := Lib.hid fun w' hw => (TBS.out.keep (Keep.below (HWR.out.trans (hw.mono HWR.out.size))))
              have KT : Hid (∀ w', Below wC.heap.size wC w' → ArrEv w' A T c) := Lib.hid fun w' hw => (by rw [HT.out]; exact (HA.out.take n).keep (Keep.below (HWR.out.trans (hw.mono HWR.out.size))))
              refine wp_region_held_drew (S := fun w' => w'.cell? ⟨w.heap.size, 0, none⟩ = some (.string x.name) ∧ w'.cell? ⟨w.heap.size, 0 + 1, none⟩ = some (.int .i64 x.day) ∧ w'.cell? ⟨w.heap.size, 0 + 2, none⟩ = some (.string x.who) ∧ w'.cell? ⟨w.heap.size, 0 + 3, none⟩ = some (.slice p x.marks.length pc) ∧ w'.cell? ⟨w.heap.size + 1, 0, none⟩ = some (.int .i64 d0) ∧ w'.cell? ⟨w.heap.size + 1, 1, none⟩ = some (.int .i64 d1) ∧ Hid (Below wC.heap.size wC w')) (by kernel_rfl) (MK.out _ HBd.out) (fun hHeld => ?_)
              refine wpAnyH_take (i := 0) (v := ?val0x70) rfl (by kernel_rfl) (by kernel_rfl) (by kernel_rfl) (fun _ _ _ h => h) (Or.inl ⟨by rfl, fun w9 hS9 => ?yields0x70⟩) (by assumption) ?later0x70
              case yields0x70 =>
                dsimp only at hS9
                go_simp
                try with_reducible rfl
              try simp only [Act.put, List.getElem_toArray, List.getElem_cons_succ, List.getElem_cons_zero, List.setIfInBounds_toArray, List.set_cons_zero, List.set_cons_succ]
              refine wpAnyH_take (i := 2) (v := ?val2x71) rfl (by kernel_rfl) (by kernel_rfl) (by kernel_rfl) (fun _ _ _ h => h) (Or.inl ⟨by rfl, fun w9 hS9 => ?yields2x71⟩) (by assumption) ?later2x71
              case yields2x71 =>
                dsimp only at hS9
                go_simp
                try with_reducible rfl
              try simp only [Act.put, List.getElem_toArray, List.getElem_cons_succ, List.getElem_cons_zero, List.setIfInBounds_toArray, List.set_cons_zero, List.set_cons_succ]
              refine wpAnyH_take (i := 4) (v := ?val4x72) rfl (by kernel_rfl) (by kernel_rfl) (by kernel_rfl) (fun _ _ _ h => h) (Or.inl ⟨by rfl, fun w9 hS9 => ?yields4x72⟩) (by assumption) ?later4x72
              case yields4x72 =>
                dsimp only at hS9
                go_simp
                try with_reducible rfl
              try simp only [Act.put, List.getElem_toArray, List.getElem_cons_succ, List.getElem_cons_zero, List.setIfInBounds_toArray, List.set_cons_zero, List.set_cons_succ]
              refine wpAnyH_take (i := 5) (v := ?val5x73) rfl (by kernel_rfl) (by kernel_rfl) (by kernel_rfl) (fun _ _ _ h => h) (Or.inl ⟨by rfl, fun w9 hS9 => ?yields5x73⟩) (by assumption) ?later5x73
              case yields5x73 =>
                dsimp only at hS9
                go_simp
                try with_reducible rfl
              try simp only [Act.put, List.getElem_toArray, List.getElem_cons_succ, List.getElem_cons_zero, List.setIfInBounds_toArray, List.set_cons_zero, List.set_cons_succ]
              refine wpAnyH_ready (rs := [1]) (by kernel_rfl) (by simp) ?_
              refine AllReadyH.cons rfl (fun K hK => ?_) AllReadyH.nil
              go_simp
              go_at_call 9
              go_split_ands
              refine (rCopyItem_any x _ _ ⟨_, _, rfl, KM.out _ (Hid.out (by assumption))⟩ HM.out).mono ?_
              rintro e' wz5 ⟨A5, c5, rfl, h5, -, hb1⟩
              have H5 := Lib.hid h5
              clear h5
              go_wp2_with fail
              refine hK.out _ _ ?_ (fun hHeld => ?_)
              · (try dsimp only)
                (go_split_ands; exact MK.out _ (Below.trans (Hid.out (by assumption)) (hb1.mono (Hid.out (by assumption) : Below wC.heap.size wC _).size)))
              clear hK K
              try simp only [Act.put, List.getElem_toArray, List.getElem_cons_succ, List.getElem_cons_zero, List.setIfInBounds_toArray, List.set_cons_zero, List.set_cons_succ]
              refine wpAnyH_ready (rs := [3]) (by kernel_rfl) (by simp) ?_
              refine AllReadyH.cons rfl (fun K hK => ?_) AllReadyH.nil
              go_simp
              go_at_call 10
              go_split_ands
              refine (rCopyEvents_any l A c _ (KE.out _ (Hid.out (by assumption))) (by omega)).mono ?_
              rintro e' wz6 ⟨A6, c6, rfl, h6, -, hb1⟩
              have H6 := Lib.hid h6
              replace H5 := Lib.hid (H5.out.keep (Keep.below hb1))
              clear h6
              go_wp2_with fail
              refine hK.out _ _ ?_ (fun hHeld => ?_)
              · (try dsimp only)
                (go_split_ands; exact MK.out _ (Below.trans (Hid.out (by assumption)) (hb1.mono (Hid.out (by assumption) : Below wC.heap.size wC _).size)))
              clear hK K
              try simp only [Act.put, List.getElem_toArray, List.getElem_cons_succ, List.getElem_cons_zero, List.setIfInBounds_toArray, List.set_cons_zero, List.set_cons_succ]
              refine wpAnyH_ready (rs := [6]) (by kernel_rfl) (by simp) ?_
              refine AllReadyH.cons rfl (fun K hK => ?_) AllReadyH.nil
              go_simp
              go_at_call 11
              go_split_ands
              refine (xHolderAt_any x _ l _ _ d0 _ ⟨_, _, rfl, H5.out⟩ H6.out (KTB.out _ (Hid.out (by assumption)))).mono ?_
              rintro e' wz7 ⟨rfl, hb1⟩
              clear H5 H6
              go_wp2_with fail
              refine hK.out _ _ ?_ (fun hHeld => ?_)
              · (try dsimp only)
                (go_split_ands; exact MK.out _ (Below.trans (Hid.out (by assumption)) (hb1.mono (Hid.out (by assumption) : Below wC.heap.size wC _).size)))
              clear hK K
              try simp only [Act.put, List.getElem_toArray, List.getElem_cons_succ, List.getElem_cons_zero, List.setIfInBounds_toArray, List.set_cons_zero, List.set_cons_succ]
              refine wpAnyH_take (i := 7) (v := ?val7x74) rfl (by kernel_rfl) (by kernel_rfl) (by kernel_rfl) (fun _ _ _ h => h) (Or.inl ⟨by rfl, fun w9 hS9 => ?yields7x74⟩) (by assumption) ?later7x74
              case yields7x74 =>
                dsimp only at hS9
                go_simp
                try with_reducible rfl
              try simp only [Act.put, List.getElem_toArray, List.getElem_cons_succ, List.getElem_cons_zero, List.setIfInBounds_toArray, List.set_cons_zero, List.set_cons_succ]
              refine wpAnyH_take (i := 8) (v := ?val8x75) rfl (by kernel_rfl) (by kernel_rfl) (by kernel_rfl) (fun _ _ _ h => h) (Or.inl ⟨by rfl, fun w9 hS9 => ?yields8x75⟩) (by assumption) ?later8x75
              case yields8x75 =>
                dsimp only at hS9
                go_simp
                try with_reducible rfl
              try simp only [Act.put, List.getElem_toArray, List.getElem_cons_succ, List.getElem_cons_zero, List.setIfInBounds_toArray, List.set_cons_zero, List.set_cons_succ]
              refine wpAnyH_take (i := 9) (v := ?val9x76) rfl (by kernel_rfl) (by kernel_rfl) (by kernel_rfl) (fun _ _ _ h => h) (Or.inl ⟨by rfl, fun w9 hS9 => ?yields9x76⟩) (by assumption) ?later9x76
              case yields9x76 =>
                dsimp only at hS9
                go_simp
                try with_reducible rfl
              try simp only [Act.put, List.getElem_toArray, List.getElem_cons_succ, List.getElem_cons_zero, List.setIfInBounds_toArray, List.set_cons_zero, List.set_cons_succ]
              refine wpAnyH_take (i := 10) (v := ?val10x77) rfl (by kernel_rfl) (by kernel_rfl) (by kernel_rfl) (fun _ _ _ h => h) (Or.inl ⟨by rfl, fun w9 hS9 => ?yields10x77⟩) (by assumption) ?later10x77
              case yields10x77 =>
                dsimp only at hS9
                go_simp
                try with_reducible rfl
              try simp only [Act.put, List.getElem_toArray, List.getElem_cons_succ, List.getElem_cons_zero, List.setIfInBounds_toArray, List.set_cons_zero, List.set_cons_succ]
              refine wpAnyH_take (i := 11) (v := ?val11x78) rfl (by kernel_rfl) (by kernel_rfl) (by kernel_rfl) (fun _ _ _ h => h) (Or.inl ⟨by rfl, fun w9 hS9 => ?yields11x78⟩) (by assumption) ?later11x78
              case yields11x78 =>
                dsimp only at hS9
                go_simp
                try with_reducible rfl
              try simp only [Act.put, List.getElem_toArray, List.getElem_cons_succ, List.getElem_cons_zero, List.setIfInBounds_toArray, List.set_cons_zero, List.set_cons_succ]
              refine wpAnyH_done (by kernel_rfl) ?_ _
              obtain ⟨-, -, -, -, -, -, HB⟩ := hHeld
              clear HBd MK
              clear KM KE KT KTB
              replace HWR := Lib.hid (HWR.out.trans (HB.out.mono HWR.out.size))
              replace BX := Lib.hid (BX.out.keep (Keep.below HB.out))
              replace BD := Lib.hid (BD.out.keep HB.out)
              replace HXW := Lib.hid (HXW.out.keep HB.out)
              clear HB
              clear q0 q1 q2 q3 e0 e1
              obtain ⟨wD, hwD⟩ : ∃ wz, wz = wz7 := ⟨_, rfl⟩
              subst hwD
              obtain ⟨q0, q1, q2, q3⟩ := BX.out
              obtain ⟨e0, e1, -, -⟩ := BD.out
              go_wp2_with fail
              have HBd : Hid (Below wD.heap.size wD wD.drew) := Lib.hid (Below.refl _ _).drew
              have MK : Hid (∀ w', Below wD.heap.size wD w' → w'.cell? ⟨w.heap.size, 0, none⟩ = some (.string x.name) ∧ w'.cell? ⟨w.heap.size, 0 + 1, none⟩ = some (.int .i64 x.day) ∧ w'.cell? ⟨w.heap.size, 0 + 2, none⟩ = some (.string x.who) ∧ w'.cell? ⟨w.heap.size, 0 + 3, none⟩ = some (.slice p x.marks.length pc) ∧ w'.cell? ⟨w.heap.size + 1, 0, none⟩ = some (.int .i64 d0) ∧ w'.cell? ⟨w.heap.size + 1, 1, none⟩ = some (.int .i64 d1) ∧ Hid (Below wD.heap.size wD w')) :=
                Lib.hid fun w' hw => ⟨Keep.below hw _ _ q0, Keep.below hw _ _ q1, Keep.below hw _ _ q2, Keep.below hw _ _ q3, Keep.below hw _ _ e0, Keep.below hw _ _ e1, Lib.hid hw⟩
              have KM : Hid (∀ w', Below wD.heap.size wD w' → ArrMk w' p x.marks pc) := Lib.hid fun w' hw => (M.out.keep (Keep.below (HWR.out.trans (hw.mono HWR.out.size))))
              have KE : Hid (∀ w', Below wD.heap.size wD w' → ArrEv w' A l c) := Lib.hid fun w' hw => (HA.out.keep (Keep.below (HWR.out.trans (hw.mono HWR.out.size))))
              have KTB : Hid (∀ w', Below wD.heap.size wD w' → TabSt w') := Lib.hid fun w' hw => (TBS.out.keep (Keep.below (HWR.out.trans (hw.mono HWR.out.size))))
              have KT : Hid (∀ w', Below wD.heap.size wD w' → ArrEv w' A T c) := Lib.hid fun w' hw => (by rw [HT.out]; exact (HA.out.take n).keep (Keep.below (HWR.out.trans (hw.mono HWR.out.size))))
              refine wp_region_held_drew (S := fun w' => w'.cell? ⟨w.heap.size, 0, none⟩ = some (.string x.name) ∧ w'.cell? ⟨w.heap.size, 0 + 1, none⟩ = some (.int .i64 x.day) ∧ w'.cell? ⟨w.heap.size, 0 + 2, none⟩ = some (.string x.who) ∧ w'.cell? ⟨w.heap.size, 0 + 3, none⟩ = some (.slice p x.marks.length pc) ∧ w'.cell? ⟨w.heap.size + 1, 0, none⟩ = some (.int .i64 d0) ∧ w'.cell? ⟨w.heap.size + 1, 1, none⟩ = some (.int .i64 d1) ∧ Hid (Below wD.heap.size wD w')) (by kernel_rfl) (MK.out _ HBd.out) (fun hHeld => ?_)
              refine wpAnyH_take (i := 0) (v := ?val0x79) rfl (by kernel_rfl) (by kernel_rfl) (by kernel_rfl) (fun _ _ _ h => h) (Or.inl ⟨by rfl, fun w9 hS9 => ?yields0x79⟩) (by assumption) ?later0x79
              case yields0x79 =>
                dsimp only at hS9
                go_simp
                try with_reducible rfl
              try simp only [Act.put, List.getElem_toArray, List.getElem_cons_succ, List.getElem_cons_zero, List.setIfInBounds_toArray, List.set_cons_zero, List.set_cons_succ]
              refine wpAnyH_take (i := 2) (v := ?val2x80) rfl (by kernel_rfl) (by kernel_rfl) (by kernel_rfl) (fun _ _ _ h => h) (Or.inl ⟨by rfl, fun w9 hS9 => ?yields2x80⟩) (by assumption) ?later2x80
              case yields2x80 =>
                dsimp only at hS9
                go_simp
                try with_reducible rfl
              try simp only [Act.put, List.getElem_toArray, List.getElem_cons_succ, List.getElem_cons_zero, List.setIfInBounds_toArray, List.set_cons_zero, List.set_cons_succ]
              refine wpAnyH_take (i := 3) (v := ?val3x81) rfl (by kernel_rfl) (by kernel_rfl) (by kernel_rfl) (fun _ _ _ h => h) (Or.inl ⟨by rfl, fun w9 hS9 => ?yields3x81⟩) (by assumption) ?later3x81
              case yields3x81 =>
                dsimp only at hS9
                go_simp
                try with_reducible rfl
              try simp only [Act.put, List.getElem_toArray, List.getElem_cons_succ, List.getElem_cons_zero, List.setIfInBounds_toArray, List.set_cons_zero, List.set_cons_succ]
              refine wpAnyH_take (i := 4) (v := ?val4x82) rfl (by kernel_rfl) (by kernel_rfl) (by kernel_rfl) (fun _ _ _ h => h) (Or.inl ⟨by rfl, fun w9 hS9 => ?yields4x82⟩) (by assumption) ?later4x82
              case yields4x82 =>
                dsimp only at hS9
                go_simp
                try with_reducible rfl
              try simp only [Act.put, List.getElem_toArray, List.getElem_cons_succ, List.getElem_cons_zero, List.setIfInBounds_toArray, List.set_cons_zero, List.set_cons_succ]
              refine wpAnyH_take (i := 6) (v := ?val6x83) rfl (by kernel_rfl) (by kernel_rfl) (by kernel_rfl) (fun _ _ _ h => h) (Or.inl ⟨by rfl, fun w9 hS9 => ?yields6x83⟩) (by assumption) ?later6x83
              case yields6x83 =>
                dsimp only at hS9
                go_simp
                try with_reducible rfl
              try simp only [Act.put, List.getElem_toArray, List.getElem_cons_succ, List.getElem_cons_zero, List.setIfInBounds_toArray, List.set_cons_zero, List.set_cons_succ]
              refine wpAnyH_take (i := 7) (v := ?val7x84) rfl (by kernel_rfl) (by kernel_rfl) (by kernel_rfl) (fun _ _ _ h => h) (Or.inl ⟨by rfl, fun w9 hS9 => ?yields7x84⟩) (by assumption) ?later7x84
              case yields7x84 =>
                dsimp only at hS9
                go_simp
                try with_reducible rfl
              try simp only [Act.put, List.getElem_toArray, List.getElem_cons_succ, List.getElem_cons_zero, List.setIfInBounds_toArray, List.set_cons_zero, List.set_cons_succ]
              refine wpAnyH_ready (rs := [1]) (by kernel_rfl) (by simp) ?_
              refine AllReadyH.cons rfl (fun K hK => ?_) AllReadyH.nil
              go_simp
              go_at_call 9
              go_split_ands
              refine (rCopyItem_any x _ _ ⟨_, _, rfl, KM.out _ (Hid.out (by assumption))⟩ HM.out).mono ?_
              rintro e' wz5 ⟨A5, c5, rfl, h5, -, hb1⟩
              have H5 := Lib.hid h5
              clear h5
              go_wp2_with fail
              refine hK.out _ _ ?_ (fun hHeld => ?_)
              · (try dsimp only)
                (go_split_ands; exact MK.out _ (Below.trans (Hid.out (by assumption)) (hb1.mono (Hid.out (by assumption) : Below wD.heap.size wD _).size)))
              clear hK K
              try simp only [Act.put, List.getElem_toArray, List.getElem_cons_succ, List.getElem_cons_zero, List.setIfInBounds_toArray, List.set_cons_zero, List.set_cons_succ]
              refine wpAnyH_ready (rs := [5]) (by kernel_rfl) (by simp) ?_
              refine AllReadyH.cons rfl (fun K hK => ?_) AllReadyH.nil
              go_simp
              go_at_call 10
              go_split_ands
              refine (HCT.out _ (KT.out _ (Hid.out (by assumption)))).mono ?_
              rintro e' wz6 ⟨A6, c6, rfl, h6, -, hb1⟩
              have H6 := Lib.hid h6
              replace H5 := Lib.hid (H5.out.keep (Keep.below hb1))
              clear h6
              go_wp2_with fail
              refine hK.out _ _ ?_ (fun hHeld => ?_)
              · (try dsimp only)
                (go_split_ands; exact MK.out _ (Below.trans (Hid.out (by assumption)) (hb1.mono (Hid.out (by assumption) : Below wD.heap.size wD _).size)))
              clear hK K
              try simp only [Act.put, List.getElem_toArray, List.getElem_cons_succ, List.getElem_cons_zero, List.setIfInBounds_toArray, List.set_cons_zero, List.set_cons_succ]
              refine wpAnyH_ready (rs := [8]) (by kernel_rfl) (by simp) ?_
              refine AllReadyH.cons rfl (fun K hK => ?_) AllReadyH.nil
              go_simp
              go_at_call 11
              go_split_ands
              refine (HXH.out _ _ _ _ ⟨_, _, rfl, H5.out⟩ H6.out (KTB.out _ (Hid.out (by assumption)))).mono ?_
              rintro e' wz7 ⟨rfl, hb1⟩
              clear H5 H6
              go_wp2_with fail
              refine hK.out _ _ ?_ (fun hHeld => ?_)
              · (try dsimp only)
                (go_split_ands; exact MK.out _ (Below.trans (Hid.out (by assumption)) (hb1.mono (Hid.out (by assumption) : Below wD.heap.size wD _).size)))
              clear hK K
              try simp only [Act.put, List.getElem_toArray, List.getElem_cons_succ, List.getElem_cons_zero, List.setIfInBounds_toArray, List.set_cons_zero, List.set_cons_succ]
              refine wpAnyH_take (i := 9) (v := ?val9x85) rfl (by kernel_rfl) (by kernel_rfl) (by kernel_rfl) (fun _ _ _ h => h) (Or.inl ⟨by rfl, fun w9 hS9 => ?yields9x85⟩) (by assumption) ?later9x85
              case yields9x85 =>
                dsimp only at hS9
                go_simp
                try with_reducible rfl
              try simp only [Act.put, List.getElem_toArray, List.getElem_cons_succ, List.getElem_cons_zero, List.setIfInBounds_toArray, List.set_cons_zero, List.set_cons_succ]
              refine wpAnyH_take (i := 10) (v := ?val10x86) rfl (by kernel_rfl) (by kernel_rfl) (by kernel_rfl) (fun _ _ _ h => h) (Or.inl ⟨by rfl, fun w9 hS9 => ?yields10x86⟩) (by assumption) ?later10x86
              case yields10x86 =>
                dsimp only at hS9
                go_simp
                try with_reducible rfl
              try simp only [Act.put, List.getElem_toArray, List.getElem_cons_succ, List.getElem_cons_zero, List.setIfInBounds_toArray, List.set_cons_zero, List.set_cons_succ]
              refine wpAnyH_take (i := 11) (v := ?val11x87) rfl (by kernel_rfl) (by kernel_rfl) (by kernel_rfl) (fun _ _ _ h => h) (Or.inl ⟨by rfl, fun w9 hS9 => ?yields11x87⟩) (by assumption) ?later11x87
              case yields11x87 =>
                dsimp only at hS9
                go_simp
                try with_reducible rfl
              try simp only [Act.put, List.getElem_toArray, List.getElem_cons_succ, List.getElem_cons_zero, List.setIfInBounds_toArray, List.set_cons_zero, List.set_cons_succ]
              refine wpAnyH_take (i := 12) (v := ?val12x88) rfl (by kernel_rfl) (by kernel_rfl) (by kernel_rfl) (fun _ _ _ h => h) (Or.inl ⟨by rfl, fun w9 hS9 => ?yields12x88⟩) (by assumption) ?later12x88
              case yields12x88 =>
                dsimp only at hS9
                go_simp
                try with_reducible rfl
              try simp only [Act.put, List.getElem_toArray, List.getElem_cons_succ, List.getElem_cons_zero, List.setIfInBounds_toArray, List.set_cons_zero, List.set_cons_succ]
              refine wpAnyH_take (i := 13) (v := ?val13x89) rfl (by kernel_rfl) (by kernel_rfl) (by kernel_rfl) (fun _ _ _ h => h) (Or.inl ⟨by rfl, fun w9 hS9 => ?yields13x89⟩) (by assumption) ?later13x89
              case yields13x89 =>
                dsimp only at hS9
                go_simp
                try with_reducible rfl
              try simp only [Act.put, List.getElem_toArray, List.getElem_cons_succ, List.getElem_cons_zero, List.setIfInBounds_toArray, List.set_cons_zero, List.set_cons_succ]
              refine wpAnyH_done (by kernel_rfl) ?_ _
              obtain ⟨-, -, -, -, -, -, HB⟩ := hHeld
              clear HBd MK
              clear KM KE KT KTB
              replace HWR := Lib.hid (HWR.out.trans (HB.out.mono HWR.out.size))
              replace BX := Lib.hid (BX.out.keep (Keep.below HB.out))
              replace BD := Lib.hid (BD.out.keep HB.out)
              replace HXW := Lib.hid (HXW.out.keep HB.out)
              clear HB
              clear q0 q1 q2 q3 e0 e1
              obtain ⟨wE, hwE⟩ : ∃ wz, wz = wz7 := ⟨_, rfl⟩
              subst hwE
              obtain ⟨q0, q1, q2, q3⟩ := BX.out
              obtain ⟨e0, e1, -, -⟩ := BD.out
              go_wp2_with fail
              have HBd : Hid (Below wE.heap.size wE wE.drew) := Lib.hid (Below.refl _ _).drew
              have MK : Hid (∀ w', Below wE.heap.size wE w' → w'.cell? ⟨w.heap.size, 0, none⟩ = some (.string x.name) ∧ w'.cell? ⟨w.heap.size, 0 + 1, none⟩ = some (.int .i64 x.day) ∧ w'.cell? ⟨w.heap.size, 0 + 2, none⟩ = some (.string x.who) ∧ w'.cell? ⟨w.heap.size, 0 + 3, none⟩ = some (.slice p x.marks.length pc) ∧ w'.cell? ⟨w.heap.size + 1, 0, none⟩ = some (.int .i64 d0) ∧ w'.cell? ⟨w.heap.size + 1, 1, none⟩ = some (.int .i64 d1) ∧ Hid (Below wE.heap.size wE w')) :=
                Lib.hid fun w' hw => ⟨Keep.below hw _ _ q0, Keep.below hw _ _ q1, Keep.below hw _ _ q2, Keep.below hw _ _ q3, Keep.below hw _ _ e0, Keep.below hw _ _ e1, Lib.hid hw⟩
              have KM : Hid (∀ w', Below wE.heap.size wE w' → ArrMk w' p x.marks pc) := Lib.hid fun w' hw => (M.out.keep (Keep.below (HWR.out.trans (hw.mono HWR.out.size))))
              have KE : Hid (∀ w', Below wE.heap.size wE w' → ArrEv w' A l c) := Lib.hid fun w' hw => (HA.out.keep (Keep.below (HWR.out.trans (hw.mono HWR.out.size))))
              have KTB : Hid (∀ w', Below wE.heap.size wE w' → TabSt w') := Lib.hid fun w' hw => (TBS.out.keep (Keep.below (HWR.out.trans (hw.mono HWR.out.size))))
              have KT : Hid (∀ w', Below wE.heap.size wE w' → ArrEv w' A T c) := Lib.hid fun w' hw => (by rw [HT.out]; exact (HA.out.take n).keep (Keep.below (HWR.out.trans (hw.mono HWR.out.size))))
              refine wp_region_held_drew (S := fun w' => w'.cell? ⟨w.heap.size, 0, none⟩ = some (.string x.name) ∧ w'.cell? ⟨w.heap.size, 0 + 1, none⟩ = some (.int .i64 x.day) ∧ w'.cell? ⟨w.heap.size, 0 + 2, none⟩ = some (.string x.who) ∧ w'.cell? ⟨w.heap.size, 0 + 3, none⟩ = some (.slice p x.marks.length pc) ∧ w'.cell? ⟨w.heap.size + 1, 0, none⟩ = some (.int .i64 d0) ∧ w'.cell? ⟨w.heap.size + 1, 1, none⟩ = some (.int .i64 d1) ∧ Hid (Below wE.heap.size wE w')) (by kernel_rfl) (MK.out _ HBd.out) (fun hHeld => ?_)
              refine wpAnyH_take (i := 0) (v := ?val0x90) rfl (by kernel_rfl) (by kernel_rfl) (by kernel_rfl) (fun _ _ _ h => h) (Or.inl ⟨by rfl, fun w9 hS9 => ?yields0x90⟩) (by assumption) ?later0x90
              case yields0x90 =>
                dsimp only at hS9
                go_simp
                try with_reducible rfl
              try simp only [Act.put, List.getElem_toArray, List.getElem_cons_succ, List.getElem_cons_zero, List.setIfInBounds_toArray, List.set_cons_zero, List.set_cons_succ]
              refine wpAnyH_take (i := 2) (v := ?val2x91) rfl (by kernel_rfl) (by kernel_rfl) (by kernel_rfl) (fun _ _ _ h => h) (Or.inl ⟨by rfl, fun w9 hS9 => ?yields2x91⟩) (by assumption) ?later2x91
              case yields2x91 =>
                dsimp only at hS9
                go_simp
                try with_reducible rfl
              try simp only [Act.put, List.getElem_toArray, List.getElem_cons_succ, List.getElem_cons_zero, List.setIfInBounds_toArray, List.set_cons_zero, List.set_cons_succ]
              refine wpAnyH_take (i := 4) (v := ?val4x92) rfl (by kernel_rfl) (by kernel_rfl) (by kernel_rfl) (fun _ _ _ h => h) (Or.inl ⟨by rfl, fun w9 hS9 => ?yields4x92⟩) (by assumption) ?later4x92
              case yields4x92 =>
                dsimp only at hS9
                go_simp
                try with_reducible rfl
              try simp only [Act.put, List.getElem_toArray, List.getElem_cons_succ, List.getElem_cons_zero, List.setIfInBounds_toArray, List.set_cons_zero, List.set_cons_succ]
              refine wpAnyH_take (i := 5) (v := ?val5x93) rfl (by kernel_rfl) (by kernel_rfl) (by kernel_rfl) (fun _ _ _ h => h) (Or.inl ⟨by rfl, fun w9 hS9 => ?yields5x93⟩) (by assumption) ?later5x93
              case yields5x93 =>
                dsimp only at hS9
                go_simp
                try with_reducible rfl
              try simp only [Act.put, List.getElem_toArray, List.getElem_cons_succ, List.getElem_cons_zero, List.setIfInBounds_toArray, List.set_cons_zero, List.set_cons_succ]
              refine wpAnyH_ready (rs := [1]) (by kernel_rfl) (by simp) ?_
              refine AllReadyH.cons rfl (fun K hK => ?_) AllReadyH.nil
              go_simp
              go_at_call 9
              go_split_ands
              refine (rCopyItem_any x _ _ ⟨_, _, rfl, KM.out _ (Hid.out (by assumption))⟩ HM.out).mono ?_
              rintro e' wz5 ⟨A5, c5, rfl, h5, -, hb1⟩
              have H5 := Lib.hid h5
              clear h5
              go_wp2_with fail
              refine hK.out _ _ ?_ (fun hHeld => ?_)
              · (try dsimp only)
                (go_split_ands; exact MK.out _ (Below.trans (Hid.out (by assumption)) (hb1.mono (Hid.out (by assumption) : Below wE.heap.size wE _).size)))
              clear hK K
              try simp only [Act.put, List.getElem_toArray, List.getElem_cons_succ, List.getElem_cons_zero, List.setIfInBounds_toArray, List.set_cons_zero, List.set_cons_succ]
              refine wpAnyH_ready (rs := [3]) (by kernel_rfl) (by simp) ?_
              refine AllReadyH.cons rfl (fun K hK => ?_) AllReadyH.nil
              go_simp
              go_at_call 10
              go_split_ands
              refine (rCopyEvents_any l A c _ (KE.out _ (Hid.out (by assumption))) (by omega)).mono ?_
              rintro e' wz6 ⟨A6, c6, rfl, h6, -, hb1⟩
              have H6 := Lib.hid h6
              replace H5 := Lib.hid (H5.out.keep (Keep.below hb1))
              clear h6
              go_wp2_with fail
              refine hK.out _ _ ?_ (fun hHeld => ?_)
              · (try dsimp only)
                (go_split_ands; exact MK.out _ (Below.trans (Hid.out (by assumption)) (hb1.mono (Hid.out (by assumption) : Below wE.heap.size wE _).size)))
              clear hK K
              try simp only [Act.put, List.getElem_toArray, List.getElem_cons_succ, List.getElem_cons_zero, List.setIfInBounds_toArray, List.set_cons_zero, List.set_cons_succ]
              refine wpAnyH_ready (rs := [6]) (by kernel_rfl) (by simp) ?_
              refine AllReadyH.cons rfl (fun K hK => ?_) AllReadyH.nil
              go_simp
              go_at_call 12
              go_split_ands
              refine (xStateAt_any x _ l _ _ d0 _ ⟨_, _, rfl, H5.out⟩ H6.out (KTB.out _ (Hid.out (by assumption)))).mono ?_
              rintro e' wz7 ⟨rfl, hb1⟩
              clear H5 H6
              go_wp2_with fail
              refine hK.out _ _ ?_ (fun hHeld => ?_)
              · (try dsimp only)
                (go_split_ands; exact MK.out _ (Below.trans (Hid.out (by assumption)) (hb1.mono (Hid.out (by assumption) : Below wE.heap.size wE _).size)))
              clear hK K
              try simp only [Act.put, List.getElem_toArray, List.getElem_cons_succ, List.getElem_cons_zero, List.setIfInBounds_toArray, List.set_cons_zero, List.set_cons_succ]
              refine wpAnyH_take (i := 7) (v := ?val7x94) rfl (by kernel_rfl) (by kernel_rfl) (by kernel_rfl) (fun _ _ _ h => h) (Or.inl ⟨by rfl, fun w9 hS9 => ?yields7x94⟩) (by assumption) ?later7x94
              case yields7x94 =>
                dsimp only at hS9
                go_simp
                try with_reducible rfl
              try simp only [Act.put, List.getElem_toArray, List.getElem_cons_succ, List.getElem_cons_zero, List.setIfInBounds_toArray, List.set_cons_zero, List.set_cons_succ]
              refine wpAnyH_take (i := 8) (v := ?val8x95) rfl (by kernel_rfl) (by kernel_rfl) (by kernel_rfl) (fun _ _ _ h => h) (Or.inl ⟨by rfl, fun w9 hS9 => ?yields8x95⟩) (by assumption) ?later8x95
              case yields8x95 =>
                dsimp only at hS9
                go_simp
                try with_reducible rfl
              try simp only [Act.put, List.getElem_toArray, List.getElem_cons_succ, List.getElem_cons_zero, List.setIfInBounds_toArray, List.set_cons_zero, List.set_cons_succ]
              refine wpAnyH_take (i := 9) (v := ?val9x96) rfl (by kernel_rfl) (by kernel_rfl) (by kernel_rfl) (fun _ _ _ h => h) (Or.inl ⟨by rfl, fun w9 hS9 => ?yields9x96⟩) (by assumption) ?later9x96
              case yields9x96 =>
                dsimp only at hS9
                go_simp
                try with_reducible rfl
              try simp only [Act.put, List.getElem_toArray, List.getElem_cons_succ, List.getElem_cons_zero, List.setIfInBounds_toArray, List.set_cons_zero, List.set_cons_succ]
              refine wpAnyH_take (i := 10) (v := ?val10x97) rfl (by kernel_rfl) (by kernel_rfl) (by kernel_rfl) (fun _ _ _ h => h) (Or.inl ⟨by rfl, fun w9 hS9 => ?yields10x97⟩) (by assumption) ?later10x97
              case yields10x97 =>
                dsimp only at hS9
                go_simp
                try with_reducible rfl
              try simp only [Act.put, List.getElem_toArray, List.getElem_cons_succ, List.getElem_cons_zero, List.setIfInBounds_toArray, List.set_cons_zero, List.set_cons_succ]
              refine wpAnyH_take (i := 11) (v := ?val11x98) rfl (by kernel_rfl) (by kernel_rfl) (by kernel_rfl) (fun _ _ _ h => h) (Or.inl ⟨by rfl, fun w9 hS9 => ?yields11x98⟩) (by assumption) ?later11x98
              case yields11x98 =>
                dsimp only at hS9
                go_simp
                try with_reducible rfl
              try simp only [Act.put, List.getElem_toArray, List.getElem_cons_succ, List.getElem_cons_zero, List.setIfInBounds_toArray, List.set_cons_zero, List.set_cons_succ]
              refine wpAnyH_done (by kernel_rfl) ?_ _
              obtain ⟨-, -, -, -, -, -, HB⟩ := hHeld
              clear HBd MK
              clear KM KE KT KTB
              replace HWR := Lib.hid (HWR.out.trans (HB.out.mono HWR.out.size))
              replace BX := Lib.hid (BX.out.keep (Keep.below HB.out))
              replace BD := Lib.hid (BD.out.keep HB.out)
              replace HXW := Lib.hid (HXW.out.keep HB.out)
              clear HB
              clear q0 q1 q2 q3 e0 e1
              obtain ⟨wF, hwF⟩ : ∃ wz, wz = wz7 := ⟨_, rfl⟩
              subst hwF
              obtain ⟨q0, q1, q2, q3⟩ := BX.out
              obtain ⟨e0, e1, -, -⟩ := BD.out
              go_wp2_with fail
              have HBd : Hid (Below wF.heap.size wF wF.drew) := Lib.hid (Below.refl _ _).drew
              have MK : Hid (∀ w', Below wF.heap.size wF w' → w'.cell? ⟨w.heap.size, 0, none⟩ = some (.string x.name) ∧ w'.cell? ⟨w.heap.size, 0 + 1, none⟩ = some (.int .i64 x.day) ∧ w'.cell? ⟨w.heap.size, 0 + 2, none⟩ = some (.string x.who) ∧ w'.cell? ⟨w.heap.size, 0 + 3, none⟩ = some (.slice p x.marks.length pc) ∧ w'.cell? ⟨w.heap.size + 1, 0, none⟩ = some (.int .i64 d0) ∧ w'.cell? ⟨w.heap.size + 1, 1, none⟩ = some (.int .i64 d1) ∧ Hid (Below wF.heap.size wF w')) :=
                Lib.hid fun w' hw => ⟨Keep.below hw _ _ q0, Keep.below hw _ _ q1, Keep.below hw _ _ q2, Keep.below hw _ _ q3, Keep.below hw _ _ e0, Keep.below hw _ _ e1, Lib.hid hw⟩
              have KM : Hid (∀ w', Below wF.heap.size wF w' → ArrMk w' p x.marks pc) := Lib.hid fun w' hw => (M.out.keep (Keep.below (HWR.out.trans (hw.mono HWR.out.size))))
              have KE : Hid (∀ w', Below wF.heap.size wF w' → ArrEv w' A l c) := Lib.hid fun w' hw => (HA.out.keep (Keep.below (HWR.out.trans (hw.mono HWR.out.size))))
              have KTB : Hid (∀ w', Below wF.heap.size wF w' → TabSt w') := Lib.hid fun w' hw => (TBS.out.keep (Keep.below (HWR.out.trans (hw.mono HWR.out.size))))
              have KT : Hid (∀ w', Below wF.heap.size wF w' → ArrEv w' A T c) := Lib.hid fun w' hw => (by rw [HT.out]; exact (HA.out.take n).keep (Keep.below (HWR.out.trans (hw.mono HWR.out.size))))
              refine wp_region_held_drew (S := fun w' => w'.cell? ⟨w.heap.size, 0, none⟩ = some (.string x.name) ∧ w'.cell? ⟨w.heap.size, 0 + 1, none⟩ = some (.int .i64 x.day) ∧ w'.cell? ⟨w.heap.size, 0 + 2, none⟩ = some (.string x.who) ∧ w'.cell? ⟨w.heap.size, 0 + 3, none⟩ = some (.slice p x.marks.length pc) ∧ w'.cell? ⟨w.heap.size + 1, 0, none⟩ = some (.int .i64 d0) ∧ w'.cell? ⟨w.heap.size + 1, 1, none⟩ = some (.int .i64 d1) ∧ Hid (Below wF.heap.size wF w')) (by kernel_rfl) (MK.out _ HBd.out) (fun hHeld => ?_)
              refine wpAnyH_take (i := 0) (v := ?val0x99) rfl (by kernel_rfl) (by kernel_rfl) (by kernel_rfl) (fun _ _ _ h => h) (Or.inl ⟨by rfl, fun w9 hS9 => ?yields0x99⟩) (by assumption) ?later0x99
              case yields0x99 =>
                dsimp only at hS9
                go_simp
                try with_reducible rfl
              try simp only [Act.put, List.getElem_toArray, List.getElem_cons_succ, List.getElem_cons_zero, List.setIfInBounds_toArray, List.set_cons_zero, List.set_cons_succ]
              refine wpAnyH_take (i := 2) (v := ?val2x100) rfl (by kernel_rfl) (by kernel_rfl) (by kernel_rfl) (fun _ _ _ h => h) (Or.inl ⟨by rfl, fun w9 hS9 => ?yields2x100⟩) (by assumption) ?later2x100
              case yields2x100 =>
                dsimp only at hS9
                go_simp
                try with_reducible rfl
              try simp only [Act.put, List.getElem_toArray, List.getElem_cons_succ, List.getElem_cons_zero, List.setIfInBounds_toArray, List.set_cons_zero, List.set_cons_succ]
              refine wpAnyH_take (i := 3) (v := ?val3x101) rfl (by kernel_rfl) (by kernel_rfl) (by kernel_rfl) (fun _ _ _ h => h) (Or.inl ⟨by rfl, fun w9 hS9 => ?yields3x101⟩) (by assumption) ?later3x101
              case yields3x101 =>
                dsimp only at hS9
                go_simp
                try with_reducible rfl
              try simp only [Act.put, List.getElem_toArray, List.getElem_cons_succ, List.getElem_cons_zero, List.setIfInBounds_toArray, List.set_cons_zero, List.set_cons_succ]
              refine wpAnyH_take (i := 4) (v := ?val4x102) rfl (by kernel_rfl) (by kernel_rfl) (by kernel_rfl) (fun _ _ _ h => h) (Or.inl ⟨by rfl, fun w9 hS9 => ?yields4x102⟩) (by assumption) ?later4x102
              case yields4x102 =>
                dsimp only at hS9
                go_simp
                try with_reducible rfl
              try simp only [Act.put, List.getElem_toArray, List.getElem_cons_succ, List.getElem_cons_zero, List.setIfInBounds_toArray, List.set_cons_zero, List.set_cons_succ]
              refine wpAnyH_take (i := 6) (v := ?val6x103) rfl (by kernel_rfl) (by kernel_rfl) (by kernel_rfl) (fun _ _ _ h => h) (Or.inl ⟨by rfl, fun w9 hS9 => ?yields6x103⟩) (by assumption) ?later6x103
              case yields6x103 =>
                dsimp only at hS9
                go_simp
                try with_reducible rfl
              try simp only [Act.put, List.getElem_toArray, List.getElem_cons_succ, List.getElem_cons_zero, List.setIfInBounds_toArray, List.set_cons_zero, List.set_cons_succ]
              refine wpAnyH_take (i := 7) (v := ?val7x104) rfl (by kernel_rfl) (by kernel_rfl) (by kernel_rfl) (fun _ _ _ h => h) (Or.inl ⟨by rfl, fun w9 hS9 => ?yields7x104⟩) (by assumption) ?later7x104
              case yields7x104 =>
                dsimp only at hS9
                go_simp
                try with_reducible rfl
              try simp only [Act.put, List.getElem_toArray, List.getElem_cons_succ, List.getElem_cons_zero, List.setIfInBounds_toArray, List.set_cons_zero, List.set_cons_succ]
              refine wpAnyH_ready (rs := [1]) (by kernel_rfl) (by simp) ?_
              refine AllReadyH.cons rfl (fun K hK => ?_) AllReadyH.nil
              go_simp
              go_at_call 9
              go_split_ands
              refine (rCopyItem_any x _ _ ⟨_, _, rfl, KM.out _ (Hid.out (by assumption))⟩ HM.out).mono ?_
              rintro e' wz5 ⟨A5, c5, rfl, h5, -, hb1⟩
              have H5 := Lib.hid h5
              clear h5
              go_wp2_with fail
              refine hK.out _ _ ?_ (fun hHeld => ?_)
              · (try dsimp only)
                (go_split_ands; exact MK.out _ (Below.trans (Hid.out (by assumption)) (hb1.mono (Hid.out (by assumption) : Below wF.heap.size wF _).size)))
              clear hK K
              try simp only [Act.put, List.getElem_toArray, List.getElem_cons_succ, List.getElem_cons_zero, List.setIfInBounds_toArray, List.set_cons_zero, List.set_cons_succ]
              refine wpAnyH_ready (rs := [5]) (by kernel_rfl) (by simp) ?_
              refine AllReadyH.cons rfl (fun K hK => ?_) AllReadyH.nil
              go_simp
              go_at_call 10
              go_split_ands
              refine (HCT.out _ (KT.out _ (Hid.out (by assumption)))).mono ?_
              rintro e' wz6 ⟨A6, c6, rfl, h6, -, hb1⟩
              have H6 := Lib.hid h6
              replace H5 := Lib.hid (H5.out.keep (Keep.below hb1))
              clear h6
              go_wp2_with fail
              refine hK.out _ _ ?_ (fun hHeld => ?_)
              · (try dsimp only)
                (go_split_ands; exact MK.out _ (Below.trans (Hid.out (by assumption)) (hb1.mono (Hid.out (by assumption) : Below wF.heap.size wF _).size)))
              clear hK K
              try simp only [Act.put, List.getElem_toArray, List.getElem_cons_succ, List.getElem_cons_zero, List.setIfInBounds_toArray, List.set_cons_zero, List.set_cons_succ]
              refine wpAnyH_ready (rs := [8]) (by kernel_rfl) (by simp) ?_
              refine AllReadyH.cons rfl (fun K hK => ?_) AllReadyH.nil
              go_simp
              go_at_call 12
              go_split_ands
              refine (HXS.out _ _ _ _ ⟨_, _, rfl, H5.out⟩ H6.out (KTB.out _ (Hid.out (by assumption)))).mono ?_
              rintro e' wz7 ⟨rfl, hb1⟩
              clear H5 H6
              go_wp2_with fail
              refine hK.out _ _ ?_ (fun hHeld => ?_)
              · (try dsimp only)
                (go_split_ands; exact MK.out _ (Below.trans (Hid.out (by assumption)) (hb1.mono (Hid.out (by assumption) : Below wF.heap.size wF _).size)))
              clear hK K
              try simp only [Act.put, List.getElem_toArray, List.getElem_cons_succ, List.getElem_cons_zero, List.setIfInBounds_toArray, List.set_cons_zero, List.set_cons_succ]
              refine wpAnyH_take (i := 9) (v := ?val9x105) rfl (by kernel_rfl) (by kernel_rfl) (by kernel_rfl) (fun _ _ _ h => h) (Or.inl ⟨by rfl, fun w9 hS9 => ?yields9x105⟩) (by assumption) ?later9x105
              case yields9x105 =>
                dsimp only at hS9
                go_simp
                try with_reducible rfl
              try simp only [Act.put, List.getElem_toArray, List.getElem_cons_succ, List.getElem_cons_zero, List.setIfInBounds_toArray, List.set_cons_zero, List.set_cons_succ]
              refine wpAnyH_take (i := 10) (v := ?val10x106) rfl (by kernel_rfl) (by kernel_rfl) (by kernel_rfl) (fun _ _ _ h => h) (Or.inl ⟨by rfl, fun w9 hS9 => ?yields10x106⟩) (by assumption) ?later10x106
              case yields10x106 =>
                dsimp only at hS9
                go_simp
                try with_reducible rfl
              try simp only [Act.put, List.getElem_toArray, List.getElem_cons_succ, List.getElem_cons_zero, List.setIfInBounds_toArray, List.set_cons_zero, List.set_cons_succ]
              refine wpAnyH_take (i := 11) (v := ?val11x107) rfl (by kernel_rfl) (by kernel_rfl) (by kernel_rfl) (fun _ _ _ h => h) (Or.inl ⟨by rfl, fun w9 hS9 => ?yields11x107⟩) (by assumption) ?later11x107
              case yields11x107 =>
                dsimp only at hS9
                go_simp
                try with_reducible rfl
              try simp only [Act.put, List.getElem_toArray, List.getElem_cons_succ, List.getElem_cons_zero, List.setIfInBounds_toArray, List.set_cons_zero, List.set_cons_succ]
              refine wpAnyH_take (i := 12) (v := ?val12x108) rfl (by kernel_rfl) (by kernel_rfl) (by kernel_rfl) (fun _ _ _ h => h) (Or.inl ⟨by rfl, fun w9 hS9 => ?yields12x108⟩) (by assumption) ?later12x108
              case yields12x108 =>
                dsimp only at hS9
                go_simp
                try with_reducible rfl
              try simp only [Act.put, List.getElem_toArray, List.getElem_cons_succ, List.getElem_cons_zero, List.setIfInBounds_toArray, List.set_cons_zero, List.set_cons_succ]
              refine wpAnyH_take (i := 13) (v := ?val13x109) rfl (by kernel_rfl) (by kernel_rfl) (by kernel_rfl) (fun _ _ _ h => h) (Or.inl ⟨by rfl, fun w9 hS9 => ?yields13x109⟩) (by assumption) ?later13x109
              case yields13x109 =>
                dsimp only at hS9
                go_simp
                try with_reducible rfl
              try simp only [Act.put, List.getElem_toArray, List.getElem_cons_succ, List.getElem_cons_zero, List.setIfInBounds_toArray, List.set_cons_zero, List.set_cons_succ]
              refine wpAnyH_done (by kernel_rfl) ?_ _
              obtain ⟨-, -, -, -, -, -, HB⟩ := hHeld
              clear HBd MK
              clear KM KE KT KTB
              replace HWR := Lib.hid (HWR.out.trans (HB.out.mono HWR.out.size))
              replace BX := Lib.hid (BX.out.keep (Keep.below HB.out))
              replace BD := Lib.hid (BD.out.keep HB.out)
              replace HXW := Lib.hid (HXW.out.keep HB.out)
              clear HB
              clear q0 q1 q2 q3 e0 e1
              obtain ⟨wG, hwG⟩ : ∃ wz, wz = wz7 := ⟨_, rfl⟩
              subst hwG
              obtain ⟨q0, q1, q2, q3⟩ := BX.out
              obtain ⟨e0, e1, -, -⟩ := BD.out
              go_wp2_with fail
              have HBd : Hid (Below wG.heap.size wG wG.drew) := Lib.hid (Below.refl _ _).drew
              have MK : Hid (∀ w', Below wG.heap.size wG w' → w'.cell? ⟨w.heap.size, 0, none⟩ = some (.string x.name) ∧ w'.cell? ⟨w.heap.size, 0 + 1, none⟩ = some (.int .i64 x.day) ∧ w'.cell? ⟨w.heap.size, 0 + 2, none⟩ = some (.string x.who) ∧ w'.cell? ⟨w.heap.size, 0 + 3, none⟩ = some (.slice p x.marks.length pc) ∧ w'.cell? ⟨w.heap.size + 1, 0, none⟩ = some (.int .i64 d0) ∧ w'.cell? ⟨w.heap.size + 1, 1, none⟩ = some (.int .i64 d1) ∧ Hid (Below wG.heap.size wG w')) :=
                Lib.hid fun w' hw => ⟨Keep.below hw _ _ q0, Keep.below hw _ _ q1, Keep.below hw _ _ q2, Keep.below hw _ _ q3, Keep.below hw _ _ e0, Keep.below hw _ _ e1, Lib.hid hw⟩
              have KM : Hid (∀ w', Below wG.heap.size wG w' → ArrMk w' p x.marks pc) := Lib.hid fun w' hw => (M.out.keep (Keep.below (HWR.out.trans (hw.mono HWR.out.size))))
              have KE : Hid (∀ w', Below wG.heap.size wG w' → ArrEv w' A l c) := Lib.hid fun w' hw => (HA.out.keep (Keep.below (HWR.out.trans (hw.mono HWR.out.size))))
              have KTB : Hid (∀ w', Below wG.heap.size wG w' → TabSt w') := Lib.hid fun w' hw => (TBS.out.keep (Keep.below (HWR.out.trans (hw.mono HWR.out.size))))
              have KT : Hid (∀ w', Below wG.heap.size wG w' → ArrEv w' A T c) := Lib.hid fun w' hw => (by rw [HT.out]; exact (HA.out.take n).keep (Keep.below (HWR.out.trans (hw.mono HWR.out.size))))
              refine wp_region_held_drew (S := fun w' => w'.cell? ⟨w.heap.size, 0, none⟩ = some (.string x.name) ∧ w'.cell? ⟨w.heap.size, 0 + 1, none⟩ = some (.int .i64 x.day) ∧ w'.cell? ⟨w.heap.size, 0 + 2, none⟩ = some (.string x.who) ∧ w'.cell? ⟨w.heap.size, 0 + 3, none⟩ = some (.slice p x.marks.length pc) ∧ w'.cell? ⟨w.heap.size + 1, 0, none⟩ = some (.int .i64 d0) ∧ w'.cell? ⟨w.heap.size + 1, 1, none⟩ = some (.int .i64 d1) ∧ Hid (Below wG.heap.size wG w')) (by kernel_rfl) (MK.out _ HBd.out) (fun hHeld => ?_)
              refine wpAnyH_take (i := 0) (v := ?val0x110) rfl (by kernel_rfl) (by kernel_rfl) (by kernel_rfl) (fun _ _ _ h => h) (Or.inl ⟨by rfl, fun w9 hS9 => ?yields0x110⟩) (by assumption) ?later0x110
              case yields0x110 =>
                dsimp only at hS9
                go_simp
                try with_reducible rfl
              try simp only [Act.put, List.getElem_toArray, List.getElem_cons_succ, List.getElem_cons_zero, List.setIfInBounds_toArray, List.set_cons_zero, List.set_cons_succ]
              refine wpAnyH_take (i := 2) (v := ?val2x111) rfl (by kernel_rfl) (by kernel_rfl) (by kernel_rfl) (fun _ _ _ h => h) (Or.inl ⟨by rfl, fun w9 hS9 => ?yields2x111⟩) (by assumption) ?later2x111
              case yields2x111 =>
                dsimp only at hS9
                go_simp
                try with_reducible rfl
              try simp only [Act.put, List.getElem_toArray, List.getElem_cons_succ, List.getElem_cons_zero, List.setIfInBounds_toArray, List.set_cons_zero, List.set_cons_succ]
              refine wpAnyH_take (i := 4) (v := ?val4x112) rfl (by kernel_rfl) (by kernel_rfl) (by kernel_rfl) (fun _ _ _ h => h) (Or.inl ⟨by rfl, fun w9 hS9 => ?yields4x112⟩) (by assumption) ?later4x112
              case yields4x112 =>
                dsimp only at hS9
                go_simp
                try with_reducible rfl
              try simp only [Act.put, List.getElem_toArray, List.getElem_cons_succ, List.getElem_cons_zero, List.setIfInBounds_toArray, List.set_cons_zero, List.set_cons_succ]
              refine wpAnyH_take (i := 5) (v := ?val5x113) rfl (by kernel_rfl) (by kernel_rfl) (by kernel_rfl) (fun _ _ _ h => h) (Or.inl ⟨by rfl, fun w9 hS9 => ?yields5x113⟩) (by assumption) ?later5x113
              case yields5x113 =>
                dsimp only at hS9
                go_simp
                try with_reducible rfl
              try simp only [Act.put, List.getElem_toArray, List.getElem_cons_succ, List.getElem_cons_zero, List.setIfInBounds_toArray, List.set_cons_zero, List.set_cons_succ]
              refine wpAnyH_ready (rs := [1]) (by kernel_rfl) (by simp) ?_
              refine AllReadyH.cons rfl (fun K hK => ?_) AllReadyH.nil
              go_simp
              go_at_call 9
              go_split_ands
              refine (rCopyItem_any x _ _ ⟨_, _, rfl, KM.out _ (Hid.out (by assumption))⟩ HM.out).mono ?_
              rintro e' wz5 ⟨A5, c5, rfl, h5, -, hb1⟩
              have H5 := Lib.hid h5
              clear h5
              go_wp2_with fail
              refine hK.out _ _ ?_ (fun hHeld => ?_)
              · (try dsimp only)
                (go_split_ands; exact MK.out _ (Below.trans (Hid.out (by assumption)) (hb1.mono (Hid.out (by assumption) : Below wG.heap.size wG _).size)))
              clear hK K
              try simp only [Act.put, List.getElem_toArray, List.getElem_cons_succ, List.getElem_cons_zero, List.setIfInBounds_toArray, List.set_cons_zero, List.set_cons_succ]
              refine wpAnyH_ready (rs := [3]) (by kernel_rfl) (by simp) ?_
              refine AllReadyH.cons rfl (fun K hK => ?_) AllReadyH.nil
              go_simp
              go_at_call 10
              go_split_ands
              refine (rCopyEvents_any l A c _ (KE.out _ (Hid.out (by assumption))) (by omega)).mono ?_
              rintro e' wz6 ⟨A6, c6, rfl, h6, -, hb1⟩
              have H6 := Lib.hid h6
              replace H5 := Lib.hid (H5.out.keep (Keep.below hb1))
              clear h6
              go_wp2_with fail
              refine hK.out _ _ ?_ (fun hHeld => ?_)
              · (try dsimp only)
                (go_split_ands; exact MK.out _ (Below.trans (Hid.out (by assumption)) (hb1.mono (Hid.out (by assumption) : Below wG.heap.size wG _).size)))
              clear hK K
              try simp only [Act.put, List.getElem_toArray, List.getElem_cons_succ, List.getElem_cons_zero, List.setIfInBounds_toArray, List.set_cons_zero, List.set_cons_succ]
              refine wpAnyH_ready (rs := [6]) (by kernel_rfl) (by simp) ?_
              refine AllReadyH.cons rfl (fun K hK => ?_) AllReadyH.nil
              go_simp
              go_at_call 13
              go_split_ands
              refine (xRightAt_any x _ l _ _ d0 _ ⟨_, _, rfl, H5.out⟩ H6.out (KTB.out _ (Hid.out (by assumption)))).mono ?_
              rintro e' wz7 ⟨rfl, hb1⟩
              clear H5 H6
              go_wp2_with fail
              refine hK.out _ _ ?_ (fun hHeld => ?_)
              · (try dsimp only)
                (go_split_ands; exact MK.out _ (Below.trans (Hid.out (by assumption)) (hb1.mono (Hid.out (by assumption) : Below wG.heap.size wG _).size)))
              clear hK K
              try simp only [Act.put, List.getElem_toArray, List.getElem_cons_succ, List.getElem_cons_zero, List.setIfInBounds_toArray, List.set_cons_zero, List.set_cons_succ]
              refine wpAnyH_take (i := 7) (v := ?val7x114) rfl (by kernel_rfl) (by kernel_rfl) (by kernel_rfl) (fun _ _ _ h => h) (Or.inl ⟨by rfl, fun w9 hS9 => ?yields7x114⟩) (by assumption) ?later7x114
              case yields7x114 =>
                dsimp only at hS9
                go_simp
                try with_reducible rfl
              try simp only [Act.put, List.getElem_toArray, List.getElem_cons_succ, List.getElem_cons_zero, List.setIfInBounds_toArray, List.set_cons_zero, List.set_cons_succ]
              refine wpAnyH_take (i := 8) (v := ?val8x115) rfl (by kernel_rfl) (by kernel_rfl) (by kernel_rfl) (fun _ _ _ h => h) (Or.inl ⟨by rfl, fun w9 hS9 => ?yields8x115⟩) (by assumption) ?later8x115
              case yields8x115 =>
                dsimp only at hS9
                go_simp
                try with_reducible rfl
              try simp only [Act.put, List.getElem_toArray, List.getElem_cons_succ, List.getElem_cons_zero, List.setIfInBounds_toArray, List.set_cons_zero, List.set_cons_succ]
              refine wpAnyH_take (i := 9) (v := ?val9x116) rfl (by kernel_rfl) (by kernel_rfl) (by kernel_rfl) (fun _ _ _ h => h) (Or.inl ⟨by rfl, fun w9 hS9 => ?yields9x116⟩) (by assumption) ?later9x116
              case yields9x116 =>
                dsimp only at hS9
                go_simp
                try with_reducible rfl
              try simp only [Act.put, List.getElem_toArray, List.getElem_cons_succ, List.getElem_cons_zero, List.setIfInBounds_toArray, List.set_cons_zero, List.set_cons_succ]
              refine wpAnyH_take (i := 10) (v := ?val10x117) rfl (by kernel_rfl) (by kernel_rfl) (by kernel_rfl) (fun _ _ _ h => h) (Or.inl ⟨by rfl, fun w9 hS9 => ?yields10x117⟩) (by assumption) ?later10x117
              case yields10x117 =>
                dsimp only at hS9
                go_simp
                try with_reducible rfl
              try simp only [Act.put, List.getElem_toArray, List.getElem_cons_succ, List.getElem_cons_zero, List.setIfInBounds_toArray, List.set_cons_zero, List.set_cons_succ]
              refine wpAnyH_take (i := 11) (v := ?val11x118) rfl (by kernel_rfl) (by kernel_rfl) (by kernel_rfl) (fun _ _ _ h => h) (Or.inl ⟨by rfl, fun w9 hS9 => ?yields11x118⟩) (by assumption) ?later11x118
              case yields11x118 =>
                dsimp only at hS9
                go_simp
                try with_reducible rfl
              try simp only [Act.put, List.getElem_toArray, List.getElem_cons_succ, List.getElem_cons_zero, List.setIfInBounds_toArray, List.set_cons_zero, List.set_cons_succ]
              refine wpAnyH_done (by kernel_rfl) ?_ _
              obtain ⟨-, -, -, -, -, -, HB⟩ := hHeld
              clear HBd MK
              clear KM KE KT KTB
              replace HWR := Lib.hid (HWR.out.trans (HB.out.mono HWR.out.size))
              replace BX := Lib.hid (BX.out.keep (Keep.below HB.out))
              replace BD := Lib.hid (BD.out.keep HB.out)
              replace HXW := Lib.hid (HXW.out.keep HB.out)
              clear HB
              clear q0 q1 q2 q3 e0 e1
              obtain ⟨wH, hwH⟩ : ∃ wz, wz = wz7 := ⟨_, rfl⟩
              subst hwH
              obtain ⟨q0, q1, q2, q3⟩ := BX.out
              obtain ⟨e0, e1, -, -⟩ := BD.out
              go_wp2_with fail
              have HBd : Hid (Below wH.heap.size wH wH.drew) := Lib.hid (Below.refl _ _).drew
              have MK : Hid (∀ w', Below wH.heap.size wH w' → w'.cell? ⟨w.heap.size, 0, none⟩ = some (.string x.name) ∧ w'.cell? ⟨w.heap.size, 0 + 1, none⟩ = some (.int .i64 x.day) ∧ w'.cell? ⟨w.heap.size, 0 + 2, none⟩ = some (.string x.who) ∧ w'.cell? ⟨w.heap.size, 0 + 3, none⟩ = some (.slice p x.marks.length pc) ∧ w'.cell? ⟨w.heap.size + 1, 0, none⟩ = some (.int .i64 d0) ∧ w'.cell? ⟨w.heap.size + 1, 1, none⟩ = some (.int .i64 d1) ∧ Hid (Below wH.heap.size wH w')) :=
                Lib.hid fun w' hw => ⟨Keep.below hw _ _ q0, Keep.below hw _ _ q1, Keep.below hw _ _ q2, Keep.below hw _ _ q3, Keep.below hw _ _ e0, Keep.below hw _ _ e1, Lib.hid hw⟩
              have KM : Hid (∀ w', Below wH.heap.size wH w' → ArrMk w' p x.marks pc) := Lib.hid fun w' hw => (M.out.keep (Keep.below (HWR.out.trans (hw.mono HWR.out.size))))
              have KE : Hid (∀ w', Below wH.heap.size wH w' → ArrEv w' A l c) := Lib.hid fun w' hw => (HA.out.keep (Keep.below (HWR.out.trans (hw.mono HWR.out.size))))
              have KTB : Hid (∀ w', Below wH.heap.size wH w' → TabSt w') := Lib.hid fun w' hw => (TBS.out.keep (Keep.below (HWR.out.trans (hw.mono HWR.out.size))))
              have KT : Hid (∀ w', Below wH.heap.size wH w' → ArrEv w' A T c) := Lib.hid fun w' hw => (by rw [HT.out]; exact (HA.out.take n).keep (Keep.below (HWR.out.trans (hw.mono HWR.out.size))))
              refine wp_region_held_drew (S := fun w' => w'.cell? ⟨w.heap.size, 0, none⟩ = some (.string x.name) ∧ w'.cell? ⟨w.heap.size, 0 + 1, none⟩ = some (.int .i64 x.day) ∧ w'.cell? ⟨w.heap.size, 0 + 2, none⟩ = some (.string x.who) ∧ w'.cell? ⟨w.heap.size, 0 + 3, none⟩ = some (.slice p x.marks.length pc) ∧ w'.cell? ⟨w.heap.size + 1, 0, none⟩ = some (.int .i64 d0) ∧ w'.cell? ⟨w.heap.size + 1, 1, none⟩ = some (.int .i64 d1) ∧ Hid (Below wH.heap.size wH w')) (by kernel_rfl) (MK.out _ HBd.out) (fun hHeld => ?_)
              refine wpAnyH_take (i := 0) (v := ?val0x119) rfl (by kernel_rfl) (by kernel_rfl) (by kernel_rfl) (fun _ _ _ h => h) (Or.inl ⟨by rfl, fun w9 hS9 => ?yields0x119⟩) (by assumption) ?later0x119
              case yields0x119 =>
                dsimp only at hS9
                go_simp
                try with_reducible rfl
              try simp only [Act.put, List.getElem_toArray, List.getElem_cons_succ, List.getElem_cons_zero, List.setIfInBounds_toArray, List.set_cons_zero, List.set_cons_succ]
              refine wpAnyH_take (i := 2) (v := ?val2x120) rfl (by kernel_rfl) (by kernel_rfl) (by kernel_rfl) (fun _ _ _ h => h) (Or.inl ⟨by rfl, fun w9 hS9 => ?yields2x120⟩) (by assumption) ?later2x120
              case yields2x120 =>
                dsimp only at hS9
                go_simp
                try with_reducible rfl
              try simp only [Act.put, List.getElem_toArray, List.getElem_cons_succ, List.getElem_cons_zero, List.setIfInBounds_toArray, List.set_cons_zero, List.set_cons_succ]
              refine wpAnyH_take (i := 3) (v := ?val3x121) rfl (by kernel_rfl) (by kernel_rfl) (by kernel_rfl) (fun _ _ _ h => h) (Or.inl ⟨by rfl, fun w9 hS9 => ?yields3x121⟩) (by assumption) ?later3x121
              case yields3x121 =>
                dsimp only at hS9
                go_simp
                try with_reducible rfl
              try simp only [Act.put, List.getElem_toArray, List.getElem_cons_succ, List.getElem_cons_zero, List.setIfInBounds_toArray, List.set_cons_zero, List.set_cons_succ]
              refine wpAnyH_take (i := 4) (v := ?val4x122) rfl (by kernel_rfl) (by kernel_rfl) (by kernel_rfl) (fun _ _ _ h => h) (Or.inl ⟨by rfl, fun w9 hS9 => ?yields4x122⟩) (by assumption) ?later4x122
              case yields4x122 =>
                dsimp only at hS9
                go_simp
                try with_reducible rfl
              try simp only [Act.put, List.getElem_toArray, List.getElem_cons_succ, List.getElem_cons_zero, List.setIfInBounds_toArray, List.set_cons_zero, List.set_cons_succ]
              refine wpAnyH_take (i := 6) (v := ?val6x123) rfl (by kernel_rfl) (by kernel_rfl) (by kernel_rfl) (fun _ _ _ h => h) (Or.inl ⟨by rfl, fun w9 hS9 => ?yields6x123⟩) (by assumption) ?later6x123
              case yields6x123 =>
                dsimp only at hS9
                go_simp
                try with_reducible rfl
              try simp only [Act.put, List.getElem_toArray, List.getElem_cons_succ, List.getElem_cons_zero, List.setIfInBounds_toArray, List.set_cons_zero, List.set_cons_succ]
              refine wpAnyH_take (i := 7) (v := ?val7x124) rfl (by kernel_rfl) (by kernel_rfl) (by kernel_rfl) (fun _ _ _ h => h) (Or.inl ⟨by rfl, fun w9 hS9 => ?yields7x124⟩) (by assumption) ?later7x124
              case yields7x124 =>
                dsimp only at hS9
                go_simp
                try with_reducible rfl
              try simp only [Act.put, List.getElem_toArray, List.getElem_cons_succ, List.getElem_cons_zero, List.setIfInBounds_toArray, List.set_cons_zero, List.set_cons_succ]
              refine wpAnyH_ready (rs := [1]) (by kernel_rfl) (by simp) ?_
              refine AllReadyH.cons rfl (fun K hK => ?_) AllReadyH.nil
              go_simp
              go_at_call 9
              go_split_ands
              refine (rCopyItem_any x _ _ ⟨_, _, rfl, KM.out _ (Hid.out (by assumption))⟩ HM.out).mono ?_
              rintro e' wz5 ⟨A5, c5, rfl, h5, -, hb1⟩
              have H5 := Lib.hid h5
              clear h5
              go_wp2_with fail
              refine hK.out _ _ ?_ (fun hHeld => ?_)
              · (try dsimp only)
                (go_split_ands; exact MK.out _ (Below.trans (Hid.out (by assumption)) (hb1.mono (Hid.out (by assumption) : Below wH.heap.size wH _).size)))
              clear hK K
              try simp only [Act.put, List.getElem_toArray, List.getElem_cons_succ, List.getElem_cons_zero, List.setIfInBounds_toArray, List.set_cons_zero, List.set_cons_succ]
              refine wpAnyH_ready (rs := [5]) (by kernel_rfl) (by simp) ?_
              refine AllReadyH.cons rfl (fun K hK => ?_) AllReadyH.nil
              go_simp
              go_at_call 10
              go_split_ands
              refine (HCT.out _ (KT.out _ (Hid.out (by assumption)))).mono ?_
              rintro e' wz6 ⟨A6, c6, rfl, h6, -, hb1⟩
              have H6 := Lib.hid h6
              replace H5 := Lib.hid (H5.out.keep (Keep.below hb1))
              clear h6
              go_wp2_with fail
              refine hK.out _ _ ?_ (fun hHeld => ?_)
              · (try dsimp only)
                (go_split_ands; exact MK.out _ (Below.trans (Hid.out (by assumption)) (hb1.mono (Hid.out (by assumption) : Below wH.heap.size wH _).size)))
              clear hK K
              try simp only [Act.put, List.getElem_toArray, List.getElem_cons_succ, List.getElem_cons_zero, List.setIfInBounds_toArray, List.set_cons_zero, List.set_cons_succ]
              refine wpAnyH_ready (rs := [8]) (by kernel_rfl) (by simp) ?_
              refine AllReadyH.cons rfl (fun K hK => ?_) AllReadyH.nil
              go_simp
              go_at_call 13
              go_split_ands
              refine (HXR.out _ _ _ _ ⟨_, _, rfl, H5.out⟩ H6.out (KTB.out _ (Hid.out (by assumption)))).mono ?_
              rintro e' wz7 ⟨rfl, hb1⟩
              clear H5 H6
              go_wp2_with fail
              refine hK.out _ _ ?_ (fun hHeld => ?_)
              · (try dsimp only)
                (go_split_ands; exact MK.out _ (Below.trans (Hid.out (by assumption)) (hb1.mono (Hid.out (by assumption) : Below wH.heap.size wH _).size)))
              clear hK K
              try simp only [Act.put, List.getElem_toArray, List.getElem_cons_succ, List.getElem_cons_zero, List.setIfInBounds_toArray, List.set_cons_zero, List.set_cons_succ]
              refine wpAnyH_take (i := 9) (v := ?val9x125) rfl (by kernel_rfl) (by kernel_rfl) (by kernel_rfl) (fun _ _ _ h => h) (Or.inl ⟨by rfl, fun w9 hS9 => ?yields9x125⟩) (by assumption) ?later9x125
              case yields9x125 =>
                dsimp only at hS9
                go_simp
                try with_reducible rfl
              try simp only [Act.put, List.getElem_toArray, List.getElem_cons_succ, List.getElem_cons_zero, List.setIfInBounds_toArray, List.set_cons_zero, List.set_cons_succ]
              refine wpAnyH_take (i := 10) (v := ?val10x126) rfl (by kernel_rfl) (by kernel_rfl) (by kernel_rfl) (fun _ _ _ h => h) (Or.inl ⟨by rfl, fun w9 hS9 => ?yields10x126⟩) (by assumption) ?later10x126
              case yields10x126 =>
                dsimp only at hS9
                go_simp
                try with_reducible rfl
              try simp only [Act.put, List.getElem_toArray, List.getElem_cons_succ, List.getElem_cons_zero, List.setIfInBounds_toArray, List.set_cons_zero, List.set_cons_succ]
              refine wpAnyH_take (i := 11) (v := ?val11x127) rfl (by kernel_rfl) (by kernel_rfl) (by kernel_rfl) (fun _ _ _ h => h) (Or.inl ⟨by rfl, fun w9 hS9 => ?yields11x127⟩) (by assumption) ?later11x127
              case yields11x127 =>
                dsimp only at hS9
                go_simp
                try with_reducible rfl
              try simp only [Act.put, List.getElem_toArray, List.getElem_cons_succ, List.getElem_cons_zero, List.setIfInBounds_toArray, List.set_cons_zero, List.set_cons_succ]
              refine wpAnyH_take (i := 12) (v := ?val12x128) rfl (by kernel_rfl) (by kernel_rfl) (by kernel_rfl) (fun _ _ _ h => h) (Or.inl ⟨by rfl, fun w9 hS9 => ?yields12x128⟩) (by assumption) ?later12x128
              case yields12x128 =>
                dsimp only at hS9
                go_simp
                try with_reducible rfl
              try simp only [Act.put, List.getElem_toArray, List.getElem_cons_succ, List.getElem_cons_zero, List.setIfInBounds_toArray, List.set_cons_zero, List.set_cons_succ]
              refine wpAnyH_take (i := 13) (v := ?val13x129) rfl (by kernel_rfl) (by kernel_rfl) (by kernel_rfl) (fun _ _ _ h => h) (Or.inl ⟨by rfl, fun w9 hS9 => ?yields13x129⟩) (by assumption) ?later13x129
              case yields13x129 =>
                dsimp only at hS9
                go_simp
                try with_reducible rfl
              try simp only [Act.put, List.getElem_toArray, List.getElem_cons_succ, List.getElem_cons_zero, List.setIfInBounds_toArray, List.set_cons_zero, List.set_cons_succ]
              refine wpAnyH_done (by kernel_rfl) ?_ _
              obtain ⟨-, -, -, -, -, -, HB⟩ := hHeld
              clear HBd MK
              clear KM KE KT KTB
              replace HWR := Lib.hid (HWR.out.trans (HB.out.mono HWR.out.size))
              replace BX := Lib.hid (BX.out.keep (Keep.below HB.out))
              replace BD := Lib.hid (BD.out.keep HB.out)
              replace HXW := Lib.hid (HXW.out.keep HB.out)
              clear HB
              clear q0 q1 q2 q3 e0 e1
              obtain ⟨wI, hwI⟩ : ∃ wz, wz = wz7 := ⟨_, rfl⟩
              subst hwI
              rw [HT.out, on_take HC.out n d0, HS.out.1, HS.out.2.1, HS.out.2.2]
              have ee1 : ((onErr x l d0) == (onErr x l d0)) = true := by simp
              have ee1b : ((onErr x l d0) != (onErr x l d0)) = false := by simp
              have ee2 : ((stOut x l d0) == (stOut x l d0)) = true := by simp
              have ee2b : ((stOut x l d0) != (stOut x l d0)) = false := by simp
              have ee3 : ((riOut x l d0) == (riOut x l d0)) = true := by simp
              have ee3b : ((riOut x l d0) != (riOut x l d0)) = false := by simp
              have ee4 : ((hoOut x l d0).toList == (hoOut x l d0).toList) = true := by simp
              have ee5 : ((hoOut x l d0).toList != (hoOut x l d0).toList) = false := by simp
              go_wp2_with fail
              go_roundw
              case rel => exact ⟨n + 1, by omega, by go_num, HXW⟩
              case measure => simp [intOf]; omega
          · have hnn : ¬ (n : Int) ≤ (l.length : Int) := by omega
            have d1' : decide ((n : Int) ≤ (l.length : Int)) = false := decide_eq_false hnn
            have HWR := HW2
            clear BX BD
            have BX := BX2
            have BD := BD2
            clear BX2 BD2 HW2 HX
            obtain ⟨wA, hwA⟩ : ∃ wz, wz = wr := ⟨_, rfl⟩
            subst hwA
            obtain ⟨q0, q1, q2, q3⟩ := BX.out
            obtain ⟨e0, e1, -, -⟩ := BD.out
            go_wp2_with fail
            have HBd : Hid (Below wA.heap.size wA wA.drew) := Lib.hid (Below.refl _ _).drew
            have MK : Hid (∀ w', Below wA.heap.size wA w' → w'.cell? ⟨w.heap.size, 0, none⟩ = some (.string x.name) ∧ w'.cell? ⟨w.heap.size, 0 + 1, none⟩ = some (.int .i64 x.day) ∧ w'.cell? ⟨w.heap.size, 0 + 2, none⟩ = some (.string x.who) ∧ w'.cell? ⟨w.heap.size, 0 + 3, none⟩ = some (.slice p x.marks.length pc) ∧ w'.cell? ⟨w.heap.size + 1, 0, none⟩ = some (.int .i64 d0) ∧ w'.cell? ⟨w.heap.size + 1, 1, none⟩ = some (.int .i64 d1) ∧ Hid (Below wA.heap.size wA w')) :=
              Lib.hid fun w' hw => ⟨Keep.below hw _ _ q0, Keep.below hw _ _ q1, Keep.below hw _ _ q2, Keep.below hw _ _ q3, Keep.below hw _ _ e0, Keep.below hw _ _ e1, Lib.hid hw⟩
            have KM : Hid (∀ w', Below wA.heap.size wA w' → ArrMk w' p x.marks pc) := Lib.hid fun w' hw => (M.out.keep (Keep.below (HWR.out.trans (hw.mono HWR.out.size))))
            have KE : Hid (∀ w', Below wA.heap.size wA w' → ArrEv w' A l c) := Lib.hid fun w' hw => (HA.out.keep (Keep.below (HWR.out.trans (hw.mono HWR.out.size))))
            have KTB : Hid (∀ w', Below wA.heap.size wA w' → TabSt w') := Lib.hid fun w' hw => (TBS.out.keep (Keep.below (HWR.out.trans (hw.mono HWR.out.size))))
            have KT := KE
            refine wp_region_held_drew (S := fun w' => w'.cell? ⟨w.heap.size, 0, none⟩ = some (.string x.name) ∧ w'.cell? ⟨w.heap.size, 0 + 1, none⟩ = some (.int .i64 x.day) ∧ w'.cell? ⟨w.heap.size, 0 + 2, none⟩ = some (.string x.who) ∧ w'.cell? ⟨w.heap.size, 0 + 3, none⟩ = some (.slice p x.marks.length pc) ∧ w'.cell? ⟨w.heap.size + 1, 0, none⟩ = some (.int .i64 d0) ∧ w'.cell? ⟨w.heap.size + 1, 1, none⟩ = some (.int .i64 d1) ∧ Hid (Below wA.heap.size wA w')) (by kernel_rfl) (MK.out _ HBd.out) (fun hHeld => ?_)
            refine wpAnyH_take (i := 0) (v := ?val0x130) rfl (by kernel_rfl) (by kernel_rfl) (by kernel_rfl) (fun _ _ _ h => h) (Or.inl ⟨by rfl, fun w9 hS9 => ?yields0x130⟩) (by assumption) ?later0x130
            case yields0x130 =>
              dsimp only at hS9
              go_simp
              try with_reducible rfl
            try simp only [Act.put, List.getElem_toArray, List.getElem_cons_succ, List.getElem_cons_zero, List.setIfInBounds_toArray, List.set_cons_zero, List.set_cons_succ]
            refine wpAnyH_take (i := 2) (v := ?val2x131) rfl (by kernel_rfl) (by kernel_rfl) (by kernel_rfl) (fun _ _ _ h => h) (Or.inl ⟨by rfl, fun w9 hS9 => ?yields2x131⟩) (by assumption) ?later2x131
            case yields2x131 =>
              dsimp only at hS9
              go_simp
              try with_reducible rfl
            try simp only [Act.put, List.getElem_toArray, List.getElem_cons_succ, List.getElem_cons_zero, List.setIfInBounds_toArray, List.set_cons_zero, List.set_cons_succ]
            refine wpAnyH_take (i := 4) (v := ?val4x132) rfl (by kernel_rfl) (by kernel_rfl) (by kernel_rfl) (fun _ _ _ h => h) (Or.inl ⟨by rfl, fun w9 hS9 => ?yields4x132⟩) (by assumption) ?later4x132
            case yields4x132 =>
              dsimp only at hS9
              go_simp
              try with_reducible rfl
            try simp only [Act.put, List.getElem_toArray, List.getElem_cons_succ, List.getElem_cons_zero, List.setIfInBounds_toArray, List.set_cons_zero, List.set_cons_succ]
            refine wpAnyH_take (i := 5) (v := ?val5x133) rfl (by kernel_rfl) (by kernel_rfl) (by kernel_rfl) (fun _ _ _ h => h) (Or.inl ⟨by rfl, fun w9 hS9 => ?yields5x133⟩) (by assumption) ?later5x133
            case yields5x133 =>
              dsimp only at hS9
              go_simp
              try with_reducible rfl
            try simp only [Act.put, List.getElem_toArray, List.getElem_cons_succ, List.getElem_cons_zero, List.setIfInBounds_toArray, List.set_cons_zero, List.set_cons_succ]
            refine wpAnyH_ready (rs := [1]) (by kernel_rfl) (by simp) ?_
            refine AllReadyH.cons rfl (fun K hK => ?_) AllReadyH.nil
            go_simp
            go_at_call 9
            go_split_ands
            refine (rCopyItem_any x _ _ ⟨_, _, rfl, KM.out _ (Hid.out (by assumption))⟩ HM.out).mono ?_
            rintro e' wz5 ⟨A5, c5, rfl, h5, -, hb1⟩
            have H5 := Lib.hid h5
            clear h5
            go_wp2_with fail
            refine hK.out _ _ ?_ (fun hHeld => ?_)
            · (try dsimp only)
              (go_split_ands; exact MK.out _ (Below.trans (Hid.out (by assumption)) (hb1.mono (Hid.out (by assumption) : Below wA.heap.size wA _).size)))
            clear hK K
            try simp only [Act.put, List.getElem_toArray, List.getElem_cons_succ, List.getElem_cons_zero, List.setIfInBounds_toArray, List.set_cons_zero, List.set_cons_succ]
            refine wpAnyH_ready (rs := [3]) (by kernel_rfl) (by simp) ?_
            refine AllReadyH.cons rfl (fun K hK => ?_) AllReadyH.nil
            go_simp
            go_at_call 10
            go_split_ands
            refine (rCopyEvents_any l A c _ (KE.out _ (Hid.out (by assumption))) (by omega)).mono ?_
            rintro e' wz6 ⟨A6, c6, rfl, h6, -, hb1⟩
            have H6 := Lib.hid h6
            replace H5 := Lib.hid (H5.out.keep (Keep.below hb1))
            clear h6
            go_wp2_with fail
            refine hK.out _ _ ?_ (fun hHeld => ?_)
            · (try dsimp only)
              (go_split_ands; exact MK.out _ (Below.trans (Hid.out (by assumption)) (hb1.mono (Hid.out (by assumption) : Below wA.heap.size wA _).size)))
            clear hK K
            try simp only [Act.put, List.getElem_toArray, List.getElem_cons_succ, List.getElem_cons_zero, List.setIfInBounds_toArray, List.set_cons_zero, List.set_cons_succ]
            refine wpAnyH_ready (rs := [6]) (by kernel_rfl) (by simp) ?_
            refine AllReadyH.cons rfl (fun K hK => ?_) AllReadyH.nil
            go_simp
            go_at_call 13
            go_split_ands
            refine (xRightAt_any x _ l _ _ d0 _ ⟨_, _, rfl, H5.out⟩ H6.out (KTB.out _ (Hid.out (by assumption)))).mono ?_
            rintro e' wz7 ⟨rfl, hb1⟩
            clear H5 H6
            go_wp2_with fail
            refine hK.out _ _ ?_ (fun hHeld => ?_)
            · (try dsimp only)
              (go_split_ands; exact MK.out _ (Below.trans (Hid.out (by assumption)) (hb1.mono (Hid.out (by assumption) : Below wA.heap.size wA _).size)))
            clear hK K
            try simp only [Act.put, List.getElem_toArray, List.getElem_cons_succ, List.getElem_cons_zero, List.setIfInBounds_toArray, List.set_cons_zero, List.set_cons_succ]
            refine wpAnyH_take (i := 7) (v := ?val7x134) rfl (by kernel_rfl) (by kernel_rfl) (by kernel_rfl) (fun _ _ _ h => h) (Or.inl ⟨by rfl, fun w9 hS9 => ?yields7x134⟩) (by assumption) ?later7x134
            case yields7x134 =>
              dsimp only at hS9
              go_simp
              try with_reducible rfl
            try simp only [Act.put, List.getElem_toArray, List.getElem_cons_succ, List.getElem_cons_zero, List.setIfInBounds_toArray, List.set_cons_zero, List.set_cons_succ]
            refine wpAnyH_take (i := 8) (v := ?val8x135) rfl (by kernel_rfl) (by kernel_rfl) (by kernel_rfl) (fun _ _ _ h => h) (Or.inl ⟨by rfl, fun w9 hS9 => ?yields8x135⟩) (by assumption) ?later8x135
            case yields8x135 =>
              dsimp only at hS9
              go_simp
              try with_reducible rfl
            try simp only [Act.put, List.getElem_toArray, List.getElem_cons_succ, List.getElem_cons_zero, List.setIfInBounds_toArray, List.set_cons_zero, List.set_cons_succ]
            refine wpAnyH_take (i := 9) (v := ?val9x136) rfl (by kernel_rfl) (by kernel_rfl) (by kernel_rfl) (fun _ _ _ h => h) (Or.inl ⟨by rfl, fun w9 hS9 => ?yields9x136⟩) (by assumption) ?later9x136
            case yields9x136 =>
              dsimp only at hS9
              go_simp
              try with_reducible rfl
            try simp only [Act.put, List.getElem_toArray, List.getElem_cons_succ, List.getElem_cons_zero, List.setIfInBounds_toArray, List.set_cons_zero, List.set_cons_succ]
            refine wpAnyH_take (i := 10) (v := ?val10x137) rfl (by kernel_rfl) (by kernel_rfl) (by kernel_rfl) (fun _ _ _ h => h) (Or.inl ⟨by rfl, fun w9 hS9 => ?yields10x137⟩) (by assumption) ?later10x137
            case yields10x137 =>
              dsimp only at hS9
              go_simp
              try with_reducible rfl
            try simp only [Act.put, List.getElem_toArray, List.getElem_cons_succ, List.getElem_cons_zero, List.setIfInBounds_toArray, List.set_cons_zero, List.set_cons_succ]
            refine wpAnyH_take (i := 11) (v := ?val11x138) rfl (by kernel_rfl) (by kernel_rfl) (by kernel_rfl) (fun _ _ _ h => h) (Or.inl ⟨by rfl, fun w9 hS9 => ?yields11x138⟩) (by assumption) ?later11x138
            case yields11x138 =>
              dsimp only at hS9
              go_simp
              try with_reducible rfl
            try simp only [Act.put, List.getElem_toArray, List.getElem_cons_succ, List.getElem_cons_zero, List.setIfInBounds_toArray, List.set_cons_zero, List.set_cons_succ]
            refine wpAnyH_done (by kernel_rfl) ?_ _
            obtain ⟨-, -, -, -, -, -, HB⟩ := hHeld
            clear HBd MK
            clear KM KE KT KTB
            replace HWR := Lib.hid (HWR.out.trans (HB.out.mono HWR.out.size))
            replace BX := Lib.hid (BX.out.keep (Keep.below HB.out))
            replace BD := Lib.hid (BD.out.keep HB.out)
            clear HB
            clear q0 q1 q2 q3 e0 e1
            obtain ⟨wB, hwB⟩ : ∃ wz, wz = wz7 := ⟨_, rfl⟩
            subst hwB
            obtain ⟨q0, q1, q2, q3⟩ := BX.out
            obtain ⟨e0, e1, -, -⟩ := BD.out
            go_wp2_with fail
            have HBd : Hid (Below wB.heap.size wB wB.drew) := Lib.hid (Below.refl _ _).drew
            have MK : Hid (∀ w', Below wB.heap.size wB w' → w'.cell? ⟨w.heap.size, 0, none⟩ = some (.string x.name) ∧ w'.cell? ⟨w.heap.size, 0 + 1, none⟩ = some (.int .i64 x.day) ∧ w'.cell? ⟨w.heap.size, 0 + 2, none⟩ = some (.string x.who) ∧ w'.cell? ⟨w.heap.size, 0 + 3, none⟩ = some (.slice p x.marks.length pc) ∧ w'.cell? ⟨w.heap.size + 1, 0, none⟩ = some (.int .i64 d0) ∧ w'.cell? ⟨w.heap.size + 1, 1, none⟩ = some (.int .i64 d1) ∧ Hid (Below wB.heap.size wB w')) :=
              Lib.hid fun w' hw => ⟨Keep.below hw _ _ q0, Keep.below hw _ _ q1, Keep.below hw _ _ q2, Keep.below hw _ _ q3, Keep.below hw _ _ e0, Keep.below hw _ _ e1, Lib.hid hw⟩
            have KM : Hid (∀ w', Below wB.heap.size wB w' → ArrMk w' p x.marks pc) := Lib.hid fun w' hw => (M.out.keep (Keep.below (HWR.out.trans (hw.mono HWR.out.size))))
            have KE : Hid (∀ w', Below wB.heap.size wB w' → ArrEv w' A l c) := Lib.hid fun w' hw => (HA.out.keep (Keep.below (HWR.out.trans (hw.mono HWR.out.size))))
            have KTB : Hid (∀ w', Below wB.heap.size wB w' → TabSt w') := Lib.hid fun w' hw => (TBS.out.keep (Keep.below (HWR.out.trans (hw.mono HWR.out.size))))
            have KT := KE
            refine wp_region_held_drew (S := fun w' => w'.cell? ⟨w.heap.size, 0, none⟩ = some (.string x.name) ∧ w'.cell? ⟨w.heap.size, 0 + 1, none⟩ = some (.int .i64 x.day) ∧ w'.cell? ⟨w.heap.size, 0 + 2, none⟩ = some (.string x.who) ∧ w'.cell? ⟨w.heap.size, 0 + 3, none⟩ = some (.slice p x.marks.length pc) ∧ w'.cell? ⟨w.heap.size + 1, 0, none⟩ = some (.int .i64 d0) ∧ w'.cell? ⟨w.heap.size + 1, 1, none⟩ = some (.int .i64 d1) ∧ Hid (Below wB.heap.size wB w')) (by kernel_rfl) (MK.out _ HBd.out) (fun hHeld => ?_)
            refine wpAnyH_take (i := 0) (v := ?val0x139) rfl (by kernel_rfl) (by kernel_rfl) (by kernel_rfl) (fun _ _ _ h => h) (Or.inl ⟨by rfl, fun w9 hS9 => ?yields0x139⟩) (by assumption) ?later0x139
            case yields0x139 =>
              dsimp only at hS9
              go_simp
              try with_reducible rfl
            try simp only [Act.put, List.getElem_toArray, List.getElem_cons_succ, List.getElem_cons_zero, List.setIfInBounds_toArray, List.set_cons_zero, List.set_cons_succ]
            refine wpAnyH_take (i := 2) (v := ?val2x140) rfl (by kernel_rfl) (by kernel_rfl) (by kernel_rfl) (fun _ _ _ h => h) (Or.inl ⟨by rfl, fun w9 hS9 => ?yields2x140⟩) (by assumption) ?later2x140
            case yields2x140 =>
              dsimp only at hS9
              go_simp
              try with_reducible rfl
            try simp only [Act.put, List.getElem_toArray, List.getElem_cons_succ, List.getElem_cons_zero, List.setIfInBounds_toArray, List.set_cons_zero, List.set_cons_succ]
            refine wpAnyH_take (i := 4) (v := ?val4x141) rfl (by kernel_rfl) (by kernel_rfl) (by kernel_rfl) (fun _ _ _ h => h) (Or.inl ⟨by rfl, fun w9 hS9 => ?yields4x141⟩) (by assumption) ?later4x141
            case yields4x141 =>
              dsimp only at hS9
              go_simp
              try with_reducible rfl
            try simp only [Act.put, List.getElem_toArray, List.getElem_cons_succ, List.getElem_cons_zero, List.setIfInBounds_toArray, List.set_cons_zero, List.set_cons_succ]
            refine wpAnyH_take (i := 5) (v := ?val5x142) rfl (by kernel_rfl) (by kernel_rfl) (by kernel_rfl) (fun _ _ _ h => h) (Or.inl ⟨by rfl, fun w9 hS9 => ?yields5x142⟩) (by assumption) ?later5x142
            case yields5x142 =>
              dsimp only at hS9
              go_simp
              try with_reducible rfl
            try simp only [Act.put, List.getElem_toArray, List.getElem_cons_succ, List.getElem_cons_zero, List.setIfInBounds_toArray, List.set_cons_zero, List.set_cons_succ]
            refine wpAnyH_ready (rs := [1]) (by kernel_rfl) (by simp) ?_
            refine AllReadyH.cons rfl (fun K hK => ?_) AllReadyH.nil
            go_simp
            go_at_call 9
            go_split_ands
            refine (rCopyItem_any x _ _ ⟨_, _, rfl, KM.out _ (Hid.out (by assumption))⟩ HM.out).mono ?_
            rintro e' wz5 ⟨A5, c5, rfl, h5, -, hb1⟩
            have H5 := Lib.hid h5
            clear h5
            go_wp2_with fail
            refine hK.out _ _ ?_ (fun hHeld => ?_)
            · (try dsimp only)
              (go_split_ands; exact MK.out _ (Below.trans (Hid.out (by assumption)) (hb1.mono (Hid.out (by assumption) : Below wB.heap.size wB _).size)))
            clear hK K
            try simp only [Act.put, List.getElem_toArray, List.getElem_cons_succ, List.getElem_cons_zero, List.setIfInBounds_toArray, List.set_cons_zero, List.set_cons_succ]
            refine wpAnyH_ready (rs := [3]) (by kernel_rfl) (by simp) ?_
            refine AllReadyH.cons rfl (fun K hK => ?_) AllReadyH.nil
            go_simp
            go_at_call 10
            go_split_ands
            refine (rCopyEvents_any l A c _ (KE.out _ (Hid.out (by assumption))) (by omega)).mono ?_
            rintro e' wz6 ⟨A6, c6, rfl, h6, -, hb1⟩
            have H6 := Lib.hid h6
            replace H5 := Lib.hid (H5.out.keep (Keep.below hb1))
            clear h6
            go_wp2_with fail
            refine hK.out _ _ ?_ (fun hHeld => ?_)
            · (try dsimp only)
              (go_split_ands; exact MK.out _ (Below.trans (Hid.out (by assumption)) (hb1.mono (Hid.out (by assumption) : Below wB.heap.size wB _).size)))
            clear hK K
            try simp only [Act.put, List.getElem_toArray, List.getElem_cons_succ, List.getElem_cons_zero, List.setIfInBounds_toArray, List.set_cons_zero, List.set_cons_succ]
            refine wpAnyH_ready (rs := [6]) (by kernel_rfl) (by simp) ?_
            refine AllReadyH.cons rfl (fun K hK => ?_) AllReadyH.nil
            go_simp
            go_at_call 13
            go_split_ands
            refine (xRightAt_any x _ l _ _ d1 _ ⟨_, _, rfl, H5.out⟩ H6.out (KTB.out _ (Hid.out (by assumption)))).mono ?_
            rintro e' wz7 ⟨rfl, hb1⟩
            clear H5 H6
            go_wp2_with fail
            refine hK.out _ _ ?_ (fun hHeld => ?_)
            · (try dsimp only)
              (go_split_ands; exact MK.out _ (Below.trans (Hid.out (by assumption)) (hb1.mono (Hid.out (by assumption) : Below wB.heap.size wB _).size)))
            clear hK K
            try simp only [Act.put, List.getElem_toArray, List.getElem_cons_succ, List.getElem_cons_zero, List.setIfInBounds_toArray, List.set_cons_zero, List.set_cons_succ]
            refine wpAnyH_take (i := 7) (v := ?val7x143) rfl (by kernel_rfl) (by kernel_rfl) (by kernel_rfl) (fun _ _ _ h => h) (Or.inl ⟨by rfl, fun w9 hS9 => ?yields7x143⟩) (by assumption) ?later7x143
            case yields7x143 =>
              dsimp only at hS9
              go_simp
              try with_reducible rfl
            try simp only [Act.put, List.getElem_toArray, List.getElem_cons_succ, List.getElem_cons_zero, List.setIfInBounds_toArray, List.set_cons_zero, List.set_cons_succ]
            refine wpAnyH_take (i := 8) (v := ?val8x144) rfl (by kernel_rfl) (by kernel_rfl) (by kernel_rfl) (fun _ _ _ h => h) (Or.inl ⟨by rfl, fun w9 hS9 => ?yields8x144⟩) (by assumption) ?later8x144
            case yields8x144 =>
              dsimp only at hS9
              go_simp
              try with_reducible rfl
            try simp only [Act.put, List.getElem_toArray, List.getElem_cons_succ, List.getElem_cons_zero, List.setIfInBounds_toArray, List.set_cons_zero, List.set_cons_succ]
            refine wpAnyH_take (i := 9) (v := ?val9x145) rfl (by kernel_rfl) (by kernel_rfl) (by kernel_rfl) (fun _ _ _ h => h) (Or.inl ⟨by rfl, fun w9 hS9 => ?yields9x145⟩) (by assumption) ?later9x145
            case yields9x145 =>
              dsimp only at hS9
              go_simp
              try with_reducible rfl
            try simp only [Act.put, List.getElem_toArray, List.getElem_cons_succ, List.getElem_cons_zero, List.setIfInBounds_toArray, List.set_cons_zero, List.set_cons_succ]
            refine wpAnyH_take (i := 10) (v := ?val10x146) rfl (by kernel_rfl) (by kernel_rfl) (by kernel_rfl) (fun _ _ _ h => h) (Or.inl ⟨by rfl, fun w9 hS9 => ?yields10x146⟩) (by assumption) ?later10x146
            case yields10x146 =>
              dsimp only at hS9
              go_simp
              try with_reducible rfl
            try simp only [Act.put, List.getElem_toArray, List.getElem_cons_succ, List.getElem_cons_zero, List.setIfInBounds_toArray, List.set_cons_zero, List.set_cons_succ]
            refine wpAnyH_take (i := 11) (v := ?val11x147) rfl (by kernel_rfl) (by kernel_rfl) (by kernel_rfl) (fun _ _ _ h => h) (Or.inl ⟨by rfl, fun w9 hS9 => ?yields11x147⟩) (by assumption) ?later11x147
            case yields11x147 =>
              dsimp only at hS9
              go_simp
              try with_reducible rfl
            try simp only [Act.put, List.getElem_toArray, List.getElem_cons_succ, List.getElem_cons_zero, List.setIfInBounds_toArray, List.set_cons_zero, List.set_cons_succ]
            refine wpAnyH_done (by kernel_rfl) ?_ _
            obtain ⟨-, -, -, -, -, -, HB⟩ := hHeld
            clear HBd MK
            clear KM KE KT KTB
            replace HWR := Lib.hid (HWR.out.trans (HB.out.mono HWR.out.size))
            replace BX := Lib.hid (BX.out.keep (Keep.below HB.out))
            replace BD := Lib.hid (BD.out.keep HB.out)
            clear HB
            clear q0 q1 q2 q3 e0 e1
            obtain ⟨wC, hwC⟩ : ∃ wz, wz = wz7 := ⟨_, rfl⟩
            subst hwC
            by_cases h0 : onErr x l d0 = 0
            · by_cases h1 : onErr x l d1 = 0
              · have hup := right_up HC.out HIN.out.2
                have hr0 := right_in l (untilN l d0) d0
                have hr1 := right_in l (untilN l d1) d1
                rw [show riOut x l d0 = rightOf l (untilN l d0) d0 from if_pos h0, show riOut x l d1 = rightOf l (untilN l d1) d1 from if_pos h1, h0, h1]
                clear h0 h1
                generalize rightOf l (untilN l d0) d0 = r0 at *
                generalize rightOf l (untilN l d1) d1 = r1 at *
                obtain ⟨R0, hR0⟩ : ∃ R : Nat, r0 = R := ⟨_, (Int.toNat_of_nonneg hr0.1).symm⟩
                obtain ⟨R1, hR1⟩ : ∃ R : Nat, r1 = R := ⟨_, (Int.toNat_of_nonneg hr1.1).symm⟩
                subst hR0; subst hR1
                go_upto_region 28 with fail
                have OI := OrdIn.at_ (w := wC.alloc (.cells #[.int .i64 3, .int .i64 0, .int .i64 1, .int .i64 2] 40)) (g := wC.heap.size) ⟨cellNew _ _ _ 0, cellNew _ _ _ 1, cellNew _ _ _ 2, cellNew _ _ _ 3⟩ hr0
                have OJ := OrdIn.at_ (w := wC.alloc (.cells #[.int .i64 3, .int .i64 0, .int .i64 1, .int .i64 2] 40)) (g := wC.heap.size) ⟨cellNew _ _ _ 0, cellNew _ _ _ 1, cellNew _ _ _ 2, cellNew _ _ _ 3⟩ hr1
                rw [Int.toNat_natCast] at OI OJ
                have HWZ := Lib.hid (HWR.out.alloc HWR.out.size (.cells #[.int .i64 3, .int .i64 0, .int .i64 1, .int .i64 2] 40))
                generalize hg : wC.heap.size = g at *
                generalize hwz : wC.alloc _ = wD at *
                clear hwz hg
                have w0 := Fs.within_iff.2 hr0
                have w1' := Fs.within_iff.2 hr1
                have u0 : (R0 : Int) < 4 := by omega
                have u1 : (R1 : Int) < 4 := by omega
                have u2 : decide (ordR R0 ≤ ordR R1) = true := decide_eq_true hup
                have hup2 := Lib.hid hup
                clear hup
                go_wp2_with fail
                go_quiet ((go_at_call 7; exact Calls.quiet_of_same ((bwithin_any _ _ _ _).mono fun _ _ h => ⟨h.1.trans (congrArg (fun b => Ending.returned (.bool b)) (by first | exact w0 | exact w1')), h.2.symm⟩)))
                go_wp2_with fail
                go_ret
                exact ⟨rfl, bdrewN HWZ.out _⟩
              · have e3 : (onErr x l d1 == 0) = false := by simpa using h1
                have e4 : (onErr x l d1 != 0) = true := by simpa using h1
                rw [h0]
                clear h0 h1
                go_wp2_with fail
                go_ret
                exact ⟨rfl, HWR.out⟩
            · have e3 : (onErr x l d0 == 0) = false := by simpa using h0
              have e4 : (onErr x l d0 != 0) = true := by simpa using h0
              clear h0
              go_wp2_with fail
              go_ret
              exact ⟨rfl, HWR.out⟩
      · have e1 : (chainErr x l == 0) = false := by simpa using he
        have e2 : (chainErr x l != 0) = true := by simpa using he
        clear he
        go_wp2_with fail
        go_ret
        exact ⟨rfl, HW.out⟩
end Go.Proofs.YtfjdnbnalihjiaaDoor

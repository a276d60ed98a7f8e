/- The law of rests: what is surely allowed breaks no rule, whatever it takes; what is not allowed does. No condition. -/
import Derived.Test.YtolicafhbeiciaaE9
import Derived.Deep.RegionHeld3
import Derived.Deep.CutRange
import Derived.Deep.CutBlock
namespace Go.Proofs.Ytolicafhbeiciaa
open Go.RowKit Fs

set_option linter.unusedSimpArgs false in
set_option maxHeartbeats 12800000 in
set_option maxRecDepth 100000 in
theorem lawRests_any (R : DRules) (l : List WRec) (t : DTrip) (n : Int) (A : Option Addr) (c : Nat) (w : World) (h : ArrW w A l c) :
    Calls Try.prog 7 #[drulesV R, .slice A l.length c, caseV t n] w fun e w' => e = .returned (.bool true) ∧ Below w.heap.size w w' := by
  obtain ⟨i0, hi, hz0, hz1, hz2⟩ := info_parts Try.infoDRec
  have HINF := Lib.hid (And.intro hi (And.intro hz0 (And.intro hz1 hz2)))
  clear hi hz0 hz1 hz2
  have b1 := h.le.1
  have b2 := h.le.2
  have HA := Lib.hid h
  clear h
  have BR := Lib.hid ((RulesIn.new w R 23).keep (Keep.alloc _ (.cells #[.int .i64 t.start, .int .i64 t.lo, .int .i64 t.hi, .int .i64 t.next, .int .i64 n] 62)))
  have BC := Lib.hid (show CaseIn ((w.alloc (.cells #[.int .i64 R.brk, .int .i64 R.rest, .int .i64 R.stint, .int .i64 R.shift, .int .i64 R.week] 23)).alloc (.cells #[.int .i64 t.start, .int .i64 t.lo, .int .i64 t.hi, .int .i64 t.next, .int .i64 n] 62)) (w.heap.size + 1) t n from ⟨cellNew1 _ _ _ _ 0, cellNew1 _ _ _ _ 1, cellNew1 _ _ _ _ 2, cellNew1 _ _ _ _ 3, cellNew1 _ _ _ _ 4⟩)
  go_enter Try.func7, Try.ntmps7
  go_upto_region 1 with fail
  generalize hwb : (w.alloc _).alloc _ = wb at *
  have HW : Hid (Below w.heap.size w wb) := by rw [← hwb]; exact Lib.hid (((Below.refl _ _).alloc (Nat.le_refl _) _).alloc (by simp) _)
  clear hwb
  obtain ⟨x0, x1, x2, x3, x4⟩ := BC.out
  obtain ⟨a0, a1, a2, a3, a4⟩ := BR.out
  go_wp2_with fail
  refine (lawAwake_any _).mono ?_
  rintro e' w1 ⟨rfl, hb1⟩
  replace HW := Lib.hid (HW.out.trans (hb1.mono HW.out.size))
  replace BC := Lib.hid (BC.out.keep (Keep.below hb1))
  replace BR := Lib.hid (BR.out.keep (Keep.below hb1))
  clear x0 x1 x2 x3 x4 a0 a1 a2 a3 a4
  clear hb1
  obtain ⟨x0, x1, x2, x3, x4⟩ := BC.out
  go_wp2_with fail
  clear x0 x1 x2 x3 x4
  have BT := Lib.hid (TripIn.new w1 t 54)
  have hb8 : Below w1.heap.size w1 (w1.alloc (.cells #[.int .i64 t.start, .int .i64 t.lo, .int .i64 t.hi, .int .i64 t.next] 54)) := (Below.refl _ _).alloc (Nat.le_refl _) _
  replace HW := Lib.hid (HW.out.trans (hb8.mono HW.out.size))
  replace BC := Lib.hid (BC.out.keep (Keep.below hb8))
  replace BR := Lib.hid (BR.out.keep (Keep.below hb8))
  clear hb8
  obtain ⟨gt, hgt⟩ : ∃ gt, gt = w1.heap.size := ⟨_, rfl⟩
  rw [← hgt] at BT
  rw [← hgt]
  generalize hwA : w1.alloc _ = wA at *
  clear hwA hgt
  refine (lawFew_any l A c _ (HA.out.keep (Keep.below HW.out))).mono ?_
  rintro e' wA' ⟨rfl, rfl⟩
  cases hf : fewR l with
  | false =>
    go_wp2_with fail
    go_ret
    exact ⟨rfl, HW.out⟩
  | true =>
    have hl := (fewR_is hf).1
    have hl : l.length ≤ 42 := by omega
    clear hf
    obtain ⟨x0, x1, x2, x3, x4⟩ := BC.out
    obtain ⟨a0, a1, a2, a3, a4⟩ := BR.out
    obtain ⟨t0, t1, t2, t3⟩ := BT.out
    go_wp2_with fail
    refine (lawTripErr_any R l t A c _ (HA.out.keep (Keep.below HW.out))).mono ?_
    rintro e' w3 ⟨rfl, hb1⟩
    replace HW := Lib.hid (HW.out.trans (hb1.mono HW.out.size))
    replace BC := Lib.hid (BC.out.keep (Keep.below hb1))
    replace BR := Lib.hid (BR.out.keep (Keep.below hb1))
    replace BT := Lib.hid (BT.out.keep (Keep.below hb1))
    clear x0 x1 x2 x3 x4 a0 a1 a2 a3 a4 t0 t1 t2 t3
    clear hb1
    by_cases he : lawTripErr R l t = 0
    · have HLE := Lib.hid he
      have HRE := Lib.hid (both_ok (lawTrip_ok he).1).2
      have HR := Lib.hid (recs_right HRE.out)
      have HT := Lib.hid (dtrip_ok (lawTrip_ok he).2)
      have hs0 := HT.out.1.from0
      have hs1 := HT.out.1.from1
      have hrr := drules_is (both_ok (lawTrip_ok he).1).1
      obtain ⟨-, -, -, hrr0, hrr1⟩ := hrr
      rw [he]
      clear he
      obtain ⟨x0, x1, x2, x3, x4⟩ := BC.out
      obtain ⟨t0, t1, t2, t3⟩ := BT.out
      go_wp2_with fail
      refine (bwithin_any _ _ _ _).mono ?_
      rintro e' w9 ⟨rfl, rfl⟩
      cases h1 : within n 1 200000 with
      | false =>
        go_wp2_with fail
        go_ret
        exact ⟨rfl, HW.out⟩
      | true =>
        go_wp2_with fail
        refine (bwithin_any _ _ _ _).mono ?_
        rintro e' w9 ⟨rfl, rfl⟩
        cases h2 : within n t.lo t.hi with
        | false =>
          go_wp2_with fail
          go_ret
          exact ⟨rfl, HW.out⟩
        | true =>
          have hn0 : 0 < n := by have := (Fs.within_iff.1 h1).1; omega
          have hn1 := (Fs.within_iff.1 h1).2
          obtain ⟨hn3, hn4⟩ := Fs.within_iff.1 h2
          clear h1 h2
          have hw2 : IntKind.i64.wrap (t.start + n) = t.start + n := by rw [IntKind.wrap_i64]; omega
          by_cases hn2 : t.start + n ≤ 8640000000
          · have e7 : decide (t.start + n > 8640000000) = false := decide_eq_false (by omega)
            have e8 : decide (8640000000 < t.start + n) = false := decide_eq_false (by omega)
            clear t0 t1 t2 t3 x0 x1 x2 x3 x4
            obtain ⟨x0, x1, x2, x3, x4⟩ := BC.out
            obtain ⟨a0, a1, a2, a3, a4⟩ := BR.out
            obtain ⟨t0, t1, t2, t3⟩ := BT.out
            go_wp2_with fail
            have HBd : Hid (Below w3.heap.size w3 w3.drew) := Lib.hid (Below.refl _ _).drew
            have MK : Hid (∀ w', Below w3.heap.size w3 w' → w'.cell? ⟨w.heap.size, 0, none⟩ = some (.int .i64 R.brk) ∧ w'.cell? ⟨w.heap.size, 1, none⟩ = some (.int .i64 R.rest) ∧ w'.cell? ⟨w.heap.size, 2, none⟩ = some (.int .i64 R.stint) ∧ w'.cell? ⟨w.heap.size, 3, none⟩ = some (.int .i64 R.shift) ∧ w'.cell? ⟨w.heap.size, 4, none⟩ = some (.int .i64 R.week) ∧ w'.cell? ⟨gt, 0, none⟩ = some (.int .i64 t.start) ∧ w'.cell? ⟨gt, 1, none⟩ = some (.int .i64 t.lo) ∧ w'.cell? ⟨gt, 2, none⟩ = some (.int .i64 t.hi) ∧ w'.cell? ⟨gt, 3, none⟩ = some (.int .i64 t.next) ∧ Hid (Below w3.heap.size w3 w')) :=
              Lib.hid fun w' hw => ⟨Keep.below hw _ _ a0, Keep.below hw _ _ a1, Keep.below hw _ _ a2, Keep.below hw _ _ a3, Keep.below hw _ _ a4, Keep.below hw _ _ t0, Keep.below hw _ _ t1, Keep.below hw _ _ t2, Keep.below hw _ _ t3, Lib.hid hw⟩
            have KA : Hid (∀ w', Below w3.heap.size w3 w' → ArrW w' A l c) := Lib.hid fun w' hw => (HA.out.keep (Keep.below (HW.out.trans (hw.mono HW.out.size))))
            refine wp_region_held_drew (S := fun w' => w'.cell? ⟨w.heap.size, 0, none⟩ = some (.int .i64 R.brk) ∧ w'.cell? ⟨w.heap.size, 1, none⟩ = some (.int .i64 R.rest) ∧ w'.cell? ⟨w.heap.size, 2, none⟩ = some (.int .i64 R.stint) ∧ w'.cell? ⟨w.heap.size, 3, none⟩ = some (.int .i64 R.shift) ∧ w'.cell? ⟨w.heap.size, 4, none⟩ = some (.int .i64 R.week) ∧ w'.cell? ⟨gt, 0, none⟩ = some (.int .i64 t.start) ∧ w'.cell? ⟨gt, 1, none⟩ = some (.int .i64 t.lo) ∧ w'.cell? ⟨gt, 2, none⟩ = some (.int .i64 t.hi) ∧ w'.cell? ⟨gt, 3, none⟩ = some (.int .i64 t.next) ∧ Hid (Below w3.heap.size w3 w')) (by kernel_rfl) (MK.out _ HBd.out) (fun hHeld => ?_)
            refine wpAnyH_take (i := 0) (v := ?val0x1) rfl (by kernel_rfl) (by kernel_rfl) (by kernel_rfl) (fun _ _ _ h => h) (Or.inl ⟨by rfl, fun w9 hS9 => ?yields0x1⟩) (by assumption) ?later0x1
            case yields0x1 =>
              dsimp only at hS9
              go_simp
              try with_reducible rfl
            try simp only [Act.put, List.getElem_toArray, List.getElem_cons_succ, List.getElem_cons_zero, List.setIfInBounds_toArray, List.set_cons_zero, List.set_cons_succ]
            refine wpAnyH_take (i := 1) (v := ?val1x2) rfl (by kernel_rfl) (by kernel_rfl) (by kernel_rfl) (fun _ _ _ h => h) (Or.inl ⟨by rfl, fun w9 hS9 => ?yields1x2⟩) (by assumption) ?later1x2
            case yields1x2 =>
              dsimp only at hS9
              go_simp
              try with_reducible rfl
            try simp only [Act.put, List.getElem_toArray, List.getElem_cons_succ, List.getElem_cons_zero, List.setIfInBounds_toArray, List.set_cons_zero, List.set_cons_succ]
            refine wpAnyH_take (i := 3) (v := ?val3x3) rfl (by kernel_rfl) (by kernel_rfl) (by kernel_rfl) (fun _ _ _ h => h) (Or.inl ⟨by rfl, fun w9 hS9 => ?yields3x3⟩) (by assumption) ?later3x3
            case yields3x3 =>
              dsimp only at hS9
              go_simp
              try with_reducible rfl
            try simp only [Act.put, List.getElem_toArray, List.getElem_cons_succ, List.getElem_cons_zero, List.setIfInBounds_toArray, List.set_cons_zero, List.set_cons_succ]
            refine wpAnyH_ready (rs := [2]) (by kernel_rfl) (by simp) ?_
            refine AllReadyH.cons rfl (fun K hK => ?_) AllReadyH.nil
            go_simp
            go_at_call 20
            go_split_ands
            refine (rCopyRecords_any l A c _ (KA.out _ (Hid.out (by assumption))) (by omega)).mono ?_
            rintro e' wz5 ⟨v5, rfl, h5, hb1⟩
            obtain ⟨A5, c5, rfl, h6⟩ := own_recs h5
            have H5 := Lib.hid h6
            clear h5 h6
            go_wp2_with fail
            refine hK.out _ _ ?_ (fun hHeld => ?_)
            · (try dsimp only)
              (go_split_ands; exact MK.out _ (Below.trans (Hid.out (by assumption)) (hb1.mono (Hid.out (by assumption) : Below w3.heap.size w3 _).size)))
            clear hK K
            try simp only [Act.put, List.getElem_toArray, List.getElem_cons_succ, List.getElem_cons_zero, List.setIfInBounds_toArray, List.set_cons_zero, List.set_cons_succ]
            refine wpAnyH_ready (rs := [4]) (by kernel_rfl) (by simp) ?_
            refine AllReadyH.cons rfl (fun K hK => ?_) AllReadyH.nil
            go_simp
            go_at_call 31
            go_split_ands
            refine (xAllowed_any R l A5 c5 t _ H5.out).mono ?_
            rintro e' wz7 ⟨rfl, hb1⟩
            clear H5
            go_wp2_with fail
            refine hK.out _ _ ?_ (fun hHeld => ?_)
            · (try dsimp only)
              (go_split_ands; exact MK.out _ (Below.trans (Hid.out (by assumption)) (hb1.mono (Hid.out (by assumption) : Below w3.heap.size w3 _).size)))
            clear hK K
            try simp only [Act.put, List.getElem_toArray, List.getElem_cons_succ, List.getElem_cons_zero, List.setIfInBounds_toArray, List.set_cons_zero, List.set_cons_succ]
            refine wpAnyH_take (i := 5) (v := ?val5x4) rfl (by kernel_rfl) (by kernel_rfl) (by kernel_rfl) (fun _ _ _ h => h) (Or.inl ⟨by rfl, fun w9 hS9 => ?yields5x4⟩) (by assumption) ?later5x4
            case yields5x4 =>
              dsimp only at hS9
              go_simp
              try with_reducible rfl
            try simp only [Act.put, List.getElem_toArray, List.getElem_cons_succ, List.getElem_cons_zero, List.setIfInBounds_toArray, List.set_cons_zero, List.set_cons_succ]
            refine wpAnyH_take (i := 6) (v := ?val6x5) rfl (by kernel_rfl) (by kernel_rfl) (by kernel_rfl) (fun _ _ _ h => h) (Or.inl ⟨by rfl, fun w9 hS9 => ?yields6x5⟩) (by assumption) ?later6x5
            case yields6x5 =>
              dsimp only at hS9
              go_simp
              try with_reducible rfl
            try simp only [Act.put, List.getElem_toArray, List.getElem_cons_succ, List.getElem_cons_zero, List.setIfInBounds_toArray, List.set_cons_zero, List.set_cons_succ]
            refine wpAnyH_take (i := 7) (v := ?val7x6) rfl (by kernel_rfl) (by kernel_rfl) (by kernel_rfl) (fun _ _ _ h => h) (Or.inl ⟨by rfl, fun w9 hS9 => ?yields7x6⟩) (by assumption) ?later7x6
            case yields7x6 =>
              dsimp only at hS9
              go_simp
              try with_reducible rfl
            try simp only [Act.put, List.getElem_toArray, List.getElem_cons_succ, List.getElem_cons_zero, List.setIfInBounds_toArray, List.set_cons_zero, List.set_cons_succ]
            refine wpAnyH_take (i := 8) (v := ?val8x7) rfl (by kernel_rfl) (by kernel_rfl) (by kernel_rfl) (fun _ _ _ h => h) (Or.inl ⟨by rfl, fun w9 hS9 => ?yields8x7⟩) (by assumption) ?later8x7
            case yields8x7 =>
              dsimp only at hS9
              go_simp
              try with_reducible rfl
            try simp only [Act.put, List.getElem_toArray, List.getElem_cons_succ, List.getElem_cons_zero, List.setIfInBounds_toArray, List.set_cons_zero, List.set_cons_succ]
            refine wpAnyH_take (i := 9) (v := ?val9x8) rfl (by kernel_rfl) (by kernel_rfl) (by kernel_rfl) (fun _ _ _ h => h) (Or.inl ⟨by rfl, fun w9 hS9 => ?yields9x8⟩) (by assumption) ?later9x8
            case yields9x8 =>
              dsimp only at hS9
              go_simp
              try with_reducible rfl
            try simp only [Act.put, List.getElem_toArray, List.getElem_cons_succ, List.getElem_cons_zero, List.setIfInBounds_toArray, List.set_cons_zero, List.set_cons_succ]
            refine wpAnyH_take (i := 10) (v := ?val10x9) rfl (by kernel_rfl) (by kernel_rfl) (by kernel_rfl) (fun _ _ _ h => h) (Or.inl ⟨by rfl, fun w9 hS9 => ?yields10x9⟩) (by assumption) ?later10x9
            case yields10x9 =>
              dsimp only at hS9
              go_simp
              try with_reducible rfl
            try simp only [Act.put, List.getElem_toArray, List.getElem_cons_succ, List.getElem_cons_zero, List.setIfInBounds_toArray, List.set_cons_zero, List.set_cons_succ]
            refine wpAnyH_take (i := 11) (v := ?val11x10) rfl (by kernel_rfl) (by kernel_rfl) (by kernel_rfl) (fun _ _ _ h => h) (Or.inl ⟨by rfl, fun w9 hS9 => ?yields11x10⟩) (by assumption) ?later11x10
            case yields11x10 =>
              dsimp only at hS9
              go_simp
              try with_reducible rfl
            try simp only [Act.put, List.getElem_toArray, List.getElem_cons_succ, List.getElem_cons_zero, List.setIfInBounds_toArray, List.set_cons_zero, List.set_cons_succ]
            refine wpAnyH_done (by kernel_rfl) ?_ _
            obtain ⟨-, -, -, -, -, -, -, -, -, HB⟩ := hHeld
            clear HBd MK
            clear KA
            replace HW := Lib.hid (HW.out.trans (HB.out.mono HW.out.size))
            replace BC := Lib.hid (BC.out.keep (Keep.below HB.out))
            replace BR := Lib.hid (BR.out.keep (Keep.below HB.out))
            replace BT := Lib.hid (BT.out.keep (Keep.below HB.out))
            clear HB
            clear x0 x1 x2 x3 x4 a0 a1 a2 a3 a4 t0 t1 t2 t3
            obtain ⟨wB, hwB⟩ : ∃ wz, wz = wz7 := ⟨_, rfl⟩
            subst hwB
            rw [allowed_good HLE.out, HLE.out]
            have HAV := Lib.hid (allowed_len (R := R) (n := n) HR.out HT.out.1 hn3 hn4 HT.out.2.2.1.2)
            have hnx0 := HT.out.1.next0
            have hnx1 := HT.out.1.next1
            have hw3 : IntKind.i64.wrap (t.next - (t.start + n)) = t.next - (t.start + n) := by rw [IntKind.wrap_i64]; omega
            clear hn3 hn4 e7 e8
            by_cases h0 : 0 < l.length
            · have d1 : decide ((l.length : Int) > 0) = true := decide_eq_true (by omega)
              have d2 : decide (0 < (l.length : Int)) = true := decide_eq_true (by omega)
              have d3 : decide (0 < l.length) = true := decide_eq_true h0
              have h0i : (0 : Int) < (l.length : Int) := by omega
              obtain ⟨b, o, rfl, q⟩ := (HA.out.keep (Keep.below HW.out)).at_ h0
              obtain ⟨q0, q1, q2⟩ := q
              simp only [Nat.zero_mul, Nat.add_zero] at q0
              clear q1 q2
              obtain ⟨V, hV'⟩ : ∃ V, V = l ++ [⟨(listW l 0).who, t.start, t.start + n⟩] := ⟨_, rfl⟩
              have HV := Lib.hid hV'
              have hVl : V.length = l.length + 1 := by rw [hV']; exact more_len _ _
              have HME := Lib.hid (show brokenErr R V = if brokenAt R (withTrip l t.start n) l.length = 0 then 12 else 0 by rw [hV']; exact more_fine HLE.out (name_first HRE.out h0) (fun _ => rfl) hn0 hn2)
              clear hV'
              obtain ⟨hi, hz0, hz1, hz2⟩ := HINF.out
              obtain ⟨x0, x1, x2, x3, x4⟩ := BC.out
              obtain ⟨t0, t1, t2, t3⟩ := BT.out
              go_wp2_with fail
              have KA : Hid (∀ w', Below wB.heap.size wB w' → ArrW w' (some ⟨b, o, none⟩) l c) := Lib.hid fun w' hw => (HA.out.keep (Keep.below (HW.out.trans (hw.mono HW.out.size))))
              go_cut [12] from 74 to 86 (fun s wx => ∃ A9 c9, s = .slice A9 V.length c9 ∧ Hid (ArrW wx A9 V c9) ∧ Hid (Below wB.heap.size wB wx))
              case first =>
                have HBd : Hid (Below wB.heap.size wB wB.drew) := Lib.hid (Below.refl _ _).drew
                have MK : Hid (∀ w', Below wB.heap.size wB w' → w'.cell? ⟨gt, 0, none⟩ = some (.int .i64 t.start) ∧ w'.cell? ⟨w.heap.size + 1, 4, none⟩ = some (.int .i64 n) ∧ Hid (Below wB.heap.size wB w')) :=
                  Lib.hid fun w' hw => ⟨Keep.below hw _ _ t0, Keep.below hw _ _ x4, Lib.hid hw⟩
                refine wp_region_held_drew (S := fun w' => w'.cell? ⟨gt, 0, none⟩ = some (.int .i64 t.start) ∧ w'.cell? ⟨w.heap.size + 1, 4, none⟩ = some (.int .i64 n) ∧ Hid (Below wB.heap.size wB w')) (by kernel_rfl) (MK.out _ HBd.out) (fun hHeld => ?_)
                refine wpAnyH_take (i := 0) (v := ?val0x11) rfl (by kernel_rfl) (by kernel_rfl) (by kernel_rfl) (fun _ _ _ h => h) (Or.inl ⟨by rfl, fun w9 hS9 => ?yields0x11⟩) (by assumption) ?later0x11
                case yields0x11 =>
                  dsimp only at hS9
                  go_simp
                  try with_reducible rfl
                try simp only [Act.put, List.getElem_toArray, List.getElem_cons_succ, List.getElem_cons_zero, List.setIfInBounds_toArray, List.set_cons_zero, List.set_cons_succ]
                refine wpAnyH_take (i := 2) (v := ?val2x12) rfl (by kernel_rfl) (by kernel_rfl) (by kernel_rfl) (fun _ _ _ h => h) (Or.inl ⟨by rfl, fun w9 hS9 => ?yields2x12⟩) (by assumption) ?later2x12
                case yields2x12 =>
                  dsimp only at hS9
                  go_simp
                  try with_reducible rfl
                try simp only [Act.put, List.getElem_toArray, List.getElem_cons_succ, List.getElem_cons_zero, List.setIfInBounds_toArray, List.set_cons_zero, List.set_cons_succ]
                refine wpAnyH_take (i := 3) (v := ?val3x13) rfl (by kernel_rfl) (by kernel_rfl) (by kernel_rfl) (fun _ _ _ h => h) (Or.inl ⟨by rfl, fun w9 hS9 => ?yields3x13⟩) (by assumption) ?later3x13
                case yields3x13 =>
                  dsimp only at hS9
                  go_simp
                  try with_reducible rfl
                try simp only [Act.put, List.getElem_toArray, List.getElem_cons_succ, List.getElem_cons_zero, List.setIfInBounds_toArray, List.set_cons_zero, List.set_cons_succ]
                refine wpAnyH_take (i := 4) (v := ?val4x14) rfl (by kernel_rfl) (by kernel_rfl) (by kernel_rfl) (fun _ _ _ h => h) (Or.inl ⟨by rfl, fun w9 hS9 => ?yields4x14⟩) (by assumption) ?later4x14
                case yields4x14 =>
                  dsimp only at hS9
                  go_simp
                  try with_reducible rfl
                try simp only [Act.put, List.getElem_toArray, List.getElem_cons_succ, List.getElem_cons_zero, List.setIfInBounds_toArray, List.set_cons_zero, List.set_cons_succ]
                refine wpAnyH_take (i := 5) (v := ?val5x15) rfl (by kernel_rfl) (by kernel_rfl) (by kernel_rfl) (fun _ _ _ h => h) (Or.inl ⟨by rfl, fun w9 hS9 => ?yields5x15⟩) (by assumption) ?later5x15
                case yields5x15 =>
                  dsimp only at hS9
                  go_simp
                  try with_reducible rfl
                try simp only [Act.put, List.getElem_toArray, List.getElem_cons_succ, List.getElem_cons_zero, List.setIfInBounds_toArray, List.set_cons_zero, List.set_cons_succ]
                refine wpAnyH_take (i := 6) (v := ?val6x16) rfl (by kernel_rfl) (by kernel_rfl) (by kernel_rfl) (fun _ _ _ h => h) (Or.inl ⟨by rfl, fun w9 hS9 => ?yields6x16⟩) (by assumption) ?later6x16
                case yields6x16 =>
                  dsimp only at hS9
                  go_simp
                  try with_reducible rfl
                try simp only [Act.put, List.getElem_toArray, List.getElem_cons_succ, List.getElem_cons_zero, List.setIfInBounds_toArray, List.set_cons_zero, List.set_cons_succ]
                refine wpAnyH_take (i := 7) (v := ?val7x17) rfl (by kernel_rfl) (by kernel_rfl) (by kernel_rfl) (fun _ _ _ h => h) (Or.inl ⟨by rfl, fun w9 hS9 => ?yields7x17⟩) (by assumption) ?later7x17
                case yields7x17 =>
                  dsimp only at hS9
                  go_simp
                  try with_reducible rfl
                try simp only [Act.put, List.getElem_toArray, List.getElem_cons_succ, List.getElem_cons_zero, List.setIfInBounds_toArray, List.set_cons_zero, List.set_cons_succ]
                refine wpAnyH_take (i := 8) (v := ?val8x18) rfl (by kernel_rfl) (by kernel_rfl) (by kernel_rfl) (fun _ _ _ h => h) (Or.inl ⟨by rfl, fun w9 hS9 => ?yields8x18⟩) (by assumption) ?later8x18
                case yields8x18 =>
                  dsimp only at hS9
                  go_simp
                  try with_reducible rfl
                try simp only [Act.put, List.getElem_toArray, List.getElem_cons_succ, List.getElem_cons_zero, List.setIfInBounds_toArray, List.set_cons_zero, List.set_cons_succ]
                refine wpAnyH_take (i := 9) (v := ?val9x19) rfl (by kernel_rfl) (by kernel_rfl) (by kernel_rfl) (fun _ _ _ h => h) (Or.inl ⟨by rfl, fun w9 hS9 => ?yields9x19⟩) (by assumption) ?later9x19
                case yields9x19 =>
                  dsimp only at hS9
                  go_simp
                  try with_reducible rfl
                try simp only [Act.put, List.getElem_toArray, List.getElem_cons_succ, List.getElem_cons_zero, List.setIfInBounds_toArray, List.set_cons_zero, List.set_cons_succ]
                refine wpAnyH_take (i := 10) (v := ?val10x20) rfl (by kernel_rfl) (by kernel_rfl) (by kernel_rfl) (fun _ _ _ h => h) (Or.inl ⟨by rfl, fun w9 hS9 => ?yields10x20⟩) (by assumption) ?later10x20
                case yields10x20 =>
                  dsimp only at hS9
                  go_simp
                  try with_reducible rfl
                try simp only [Act.put, List.getElem_toArray, List.getElem_cons_succ, List.getElem_cons_zero, List.setIfInBounds_toArray, List.set_cons_zero, List.set_cons_succ]
                generalize hyy : World.drew wB = y1 at *
                clear hyy
                refine wpAnyH_ready (rs := [1, 11]) (by kernel_rfl) (by simp) ?_
                refine AllReadyH.cons rfl (fun K hK => ?_) (AllReadyH.cons rfl (fun K hK => ?_) (AllReadyH.nil))
                · go_simp
                  obtain ⟨-, -, HBX⟩ := hHeld
                  go_at_call 20
                  refine (rCopyRecords_any l _ _ _ (KA.out _ HBX.out) (by omega)).mono ?_
                  rintro e' y2 ⟨vc, rfl, ho, hb1⟩
                  have HO := Lib.hid (own_low ho HBX.out.size)
                  go_wp2_with fail
                  refine hK.out _ _ (MK.out _ (HBX.out.trans (hb1.mono HBX.out.size))) (fun hHeld => ?_)
                  try simp only [Act.put, List.getElem_toArray, List.getElem_cons_succ, List.getElem_cons_zero, List.setIfInBounds_toArray, List.set_cons_zero, List.set_cons_succ]
                  clear ho hb1 HBX hK K
                  refine wpAnyH_ready (rs := [11]) (by kernel_rfl) (by simp) ?_
                  refine AllReadyH.cons rfl (fun K hK => ?_) (AllReadyH.nil)
                  · go_simp
                    obtain ⟨-, -, HBX⟩ := hHeld
                    have HL := Lib.hid (oneRecG y2 (listW l 0).who t.start (t.start + n))
                    have HO := Lib.hid (below_of_own HO.out ((Below.refl _ _).alloc (Nat.le_refl _) (.cells #[.string (listW l 0).who, .int .i64 t.start, .int .i64 (t.start + n)] 39)))
                    refine hK.out _ _ (MK.out _ (HBX.out.alloc HBX.out.size _)) (fun hHeld => ?_)
                    try simp only [Act.put, List.getElem_toArray, List.getElem_cons_succ, List.getElem_cons_zero, List.setIfInBounds_toArray, List.set_cons_zero, List.set_cons_succ]
                    clear HBX hK K
                    generalize hyy : World.alloc y2 _ = y3 at *
                    clear hyy
                    refine wpAnyH_ready (rs := [12]) (by kernel_rfl) (by simp) ?_
                    refine AllReadyH.cons rfl (fun K hK => ?_) AllReadyH.nil
                    obtain ⟨-, -, HBX⟩ := hHeld
                    refine step_append_lies _ rfl (.tmp 75) (.tmp 85) 24 rfl wB.heap.size 39 i0 _ 3 32 Try.underlying24 hi hz0 hz1 hz2 rfl (by decide) _ l.length _ rfl HO.out _ 1 1 (flat 1 3 fun _ j => recCells ⟨(listW l 0).who, t.start, t.start + n⟩ j) rfl (by simp [flat]) (news_of_arr (by decide) HL.out) (recCells_one _) (by decide) (by unfold maxLen; omega) (by omega) HBX.out.size _ rfl ?_
                    rintro g9 c9 y9 ho9 hg9 - -
                    have hb9 := (Below.refl _ _).grown hg9 HBX.out.size (fun k hk => (HO.out.lt k hk).1)
                    rw [moreFlat HV.out] at ho9
                    have H9 := Lib.hid (own_arrN ho9)
                    refine hK.out _ _ (MK.out _ (HBX.out.trans hb9)) (fun hHeld => ?_)
                    try simp only [Act.put, List.getElem_toArray, List.getElem_cons_succ, List.getElem_cons_zero, List.setIfInBounds_toArray, List.set_cons_zero, List.set_cons_succ]
                    clear ho9 hb9 hg9 HBX hK K
                    refine wpAnyH_take (i := 13) (v := ?val13x21) rfl (by kernel_rfl) (by kernel_rfl) (by kernel_rfl) (fun _ _ _ h => h) (Or.inl ⟨by rfl, fun w9 hS9 => ?yields13x21⟩) (by assumption) ?later13x21
                    case yields13x21 =>
                      dsimp only at hS9
                      go_simp
                      try with_reducible rfl
                    try simp only [Act.put, List.getElem_toArray, List.getElem_cons_succ, List.getElem_cons_zero, List.setIfInBounds_toArray, List.set_cons_zero, List.set_cons_succ]
                    refine wpAnyH_done (by kernel_rfl) ?_ _
                    obtain ⟨-, -, hbb⟩ := hHeld
                    go_wp2_with fail
                    go_meet
                    exact ⟨_, c9, by rw [hVl], Lib.hid (show Arr _ _ V.length c9 3 _ by rw [hVl]; exact H9.out), hbb⟩
                · go_simp
                  obtain ⟨-, -, HBX⟩ := hHeld
                  have HL := Lib.hid (oneRecG y1 (listW l 0).who t.start (t.start + n))
                  refine hK.out _ _ (MK.out _ (HBX.out.alloc HBX.out.size _)) (fun hHeld => ?_)
                  try simp only [Act.put, List.getElem_toArray, List.getElem_cons_succ, List.getElem_cons_zero, List.setIfInBounds_toArray, List.set_cons_zero, List.set_cons_succ]
                  clear HBX hK K
                  generalize hyy : World.alloc y1 _ = y4 at *
                  clear hyy
                  refine wpAnyH_ready (rs := [1]) (by kernel_rfl) (by simp) ?_
                  refine AllReadyH.cons rfl (fun K hK => ?_) (AllReadyH.nil)
                  · go_simp
                    obtain ⟨-, -, HBX⟩ := hHeld
                    go_at_call 20
                    refine (rCopyRecords_any l _ _ _ (KA.out _ HBX.out) (by omega)).mono ?_
                    rintro e' y5 ⟨vc, rfl, ho, hb1⟩
                    have HO := Lib.hid (own_low ho HBX.out.size)
                    have HL := Lib.hid (Arr.keep (Keep.below hb1) HL.out)
                    go_wp2_with fail
                    refine hK.out _ _ (MK.out _ (HBX.out.trans (hb1.mono HBX.out.size))) (fun hHeld => ?_)
                    try simp only [Act.put, List.getElem_toArray, List.getElem_cons_succ, List.getElem_cons_zero, List.setIfInBounds_toArray, List.set_cons_zero, List.set_cons_succ]
                    clear ho hb1 HBX hK K
                    refine wpAnyH_ready (rs := [12]) (by kernel_rfl) (by simp) ?_
                    refine AllReadyH.cons rfl (fun K hK => ?_) AllReadyH.nil
                    obtain ⟨-, -, HBX⟩ := hHeld
                    refine step_append_lies _ rfl (.tmp 75) (.tmp 85) 24 rfl wB.heap.size 39 i0 _ 3 32 Try.underlying24 hi hz0 hz1 hz2 rfl (by decide) _ l.length _ rfl HO.out _ 1 1 (flat 1 3 fun _ j => recCells ⟨(listW l 0).who, t.start, t.start + n⟩ j) rfl (by simp [flat]) (news_of_arr (by decide) HL.out) (recCells_one _) (by decide) (by unfold maxLen; omega) (by omega) HBX.out.size _ rfl ?_
                    rintro g9 c9 y9 ho9 hg9 - -
                    have hb9 := (Below.refl _ _).grown hg9 HBX.out.size (fun k hk => (HO.out.lt k hk).1)
                    rw [moreFlat HV.out] at ho9
                    have H9 := Lib.hid (own_arrN ho9)
                    refine hK.out _ _ (MK.out _ (HBX.out.trans hb9)) (fun hHeld => ?_)
                    try simp only [Act.put, List.getElem_toArray, List.getElem_cons_succ, List.getElem_cons_zero, List.setIfInBounds_toArray, List.set_cons_zero, List.set_cons_succ]
                    clear ho9 hb9 hg9 HBX hK K
                    refine wpAnyH_take (i := 13) (v := ?val13x22) rfl (by kernel_rfl) (by kernel_rfl) (by kernel_rfl) (fun _ _ _ h => h) (Or.inl ⟨by rfl, fun w9 hS9 => ?yields13x22⟩) (by assumption) ?later13x22
                    case yields13x22 =>
                      dsimp only at hS9
                      go_simp
                      try with_reducible rfl
                    try simp only [Act.put, List.getElem_toArray, List.getElem_cons_succ, List.getElem_cons_zero, List.setIfInBounds_toArray, List.set_cons_zero, List.set_cons_succ]
                    refine wpAnyH_done (by kernel_rfl) ?_ _
                    obtain ⟨-, -, hbb⟩ := hHeld
                    go_wp2_with fail
                    go_meet
                    exact ⟨_, c9, by rw [hVl], Lib.hid (show Arr _ _ V.length c9 3 _ by rw [hVl]; exact H9.out), hbb⟩
              case rest =>
                obtain ⟨A9, c9, rfl, H9, HB⟩ := hcut
                replace HW := Lib.hid (HW.out.trans (HB.out.mono HW.out.size))
                replace BC := Lib.hid (BC.out.keep (Keep.below HB.out))
                replace BR := Lib.hid (BR.out.keep (Keep.below HB.out))
                replace BT := Lib.hid (BT.out.keep (Keep.below HB.out))
                clear HB t0 t1 t2 t3 x0 x1 x2 x3 x4
                clear hVl
                have hv1 := H9.out.le.1
                have hv2 := H9.out.le.2
                obtain ⟨a0, a1, a2, a3, a4⟩ := BR.out
                go_wp2_with fail
                refine (xBroken_any R V A9 c9 _ H9.out).mono ?_
                rintro e' wE ⟨rfl, hb1⟩
                replace HW := Lib.hid (HW.out.trans (hb1.mono HW.out.size))
                replace BC := Lib.hid (BC.out.keep (Keep.below hb1))
                replace BR := Lib.hid (BR.out.keep (Keep.below hb1))
                replace BT := Lib.hid (BT.out.keep (Keep.below hb1))
                clear a0 a1 a2 a3 a4
                clear hb1
                obtain ⟨X, hX⟩ : ∃ X, X = (brokenOut R V).1 := ⟨_, rfl⟩
                obtain ⟨Y, hY⟩ : ∃ Y, Y = (brokenOut R V).2 := ⟨_, rfl⟩
                rw [← hX, ← hY, HME.out]
                clear hX hY H9 HME
                have hb8 : Below wE.heap.size wE (wE.alloc (.cells #[.int .i64 X, .int .i64 (Y : Nat)] 47)) := (Below.refl _ _).alloc (Nat.le_refl _) _
                replace HW := Lib.hid (HW.out.trans (hb8.mono HW.out.size))
                replace BC := Lib.hid (BC.out.keep (Keep.below hb8))
                replace BR := Lib.hid (BR.out.keep (Keep.below hb8))
                replace BT := Lib.hid (BT.out.keep (Keep.below hb8))
                clear hb8
                obtain ⟨x0, x1, x2, x3, x4⟩ := BC.out
                obtain ⟨a0, a1, a2, a3, a4⟩ := BR.out
                obtain ⟨t0, t1, t2, t3⟩ := BT.out
                by_cases hk : brokenAt R (withTrip l t.start n) l.length = 0
                · rw [if_pos hk]
                  rcases HAV.out with ⟨ha, hab⟩ | hab | ⟨ha, hab⟩
                  · have hbz := breaks_zero.1 hab
                    rw [ha]
                    clear ha
                    by_cases hx : t.next = -1
                    · have e3 : (t.next == -1) = true := by simpa using hx
                      clear hx hk hbz hab
                      go_wp2_with fail
                      go_ret
                      exact ⟨rfl, HW.out⟩
                    · have e3 : (t.next == -1) = false := by simpa using hx
                      by_cases hr : R.rest ≤ t.next - (t.start + n)
                      · have e5 : decide (t.next - (t.start + n) ≥ R.rest) = true := decide_eq_true hr
                        have e6 : decide (R.rest ≤ t.next - (t.start + n)) = true := decide_eq_true hr
                        clear hx hr hk hbz hab
                        go_wp2_with fail
                        go_ret
                        exact ⟨rfl, HW.out⟩
                      · have e5 : decide (t.next - (t.start + n) ≥ R.rest) = false := decide_eq_false hr
                        have e6 : decide (R.rest ≤ t.next - (t.start + n)) = false := decide_eq_false hr
                        exact absurd (hbz.2 hx) hr
                  · rw [hab]
                    have hbz := hab
                    by_cases hx : t.next = -1
                    · have e3 : (t.next == -1) = true := by simpa using hx
                      clear hx hk hbz hab
                      go_wp2_with fail
                      go_ret
                      exact ⟨rfl, HW.out⟩
                    · have e3 : (t.next == -1) = false := by simpa using hx
                      by_cases hr : R.rest ≤ t.next - (t.start + n)
                      · have e5 : decide (t.next - (t.start + n) ≥ R.rest) = true := decide_eq_true hr
                        have e6 : decide (R.rest ≤ t.next - (t.start + n)) = true := decide_eq_true hr
                        clear hx hr hk hbz hab
                        go_wp2_with fail
                        go_ret
                        exact ⟨rfl, HW.out⟩
                      · have e5 : decide (t.next - (t.start + n) ≥ R.rest) = false := decide_eq_false hr
                        have e6 : decide (R.rest ≤ t.next - (t.start + n)) = false := decide_eq_false hr
                        clear hx hr hk hbz hab
                        go_wp2_with fail
                        go_ret
                        exact ⟨rfl, HW.out⟩
                  · have hbz := hab
                    rw [ha]
                    clear ha
                    by_cases hx : t.next = -1
                    · have e3 : (t.next == -1) = true := by simpa using hx
                      exact absurd (breaks_zero.2 ⟨fun _ => hk, fun hh => absurd hx hh⟩) hab
                    · have e3 : (t.next == -1) = false := by simpa using hx
                      by_cases hr : R.rest ≤ t.next - (t.start + n)
                      · have e5 : decide (t.next - (t.start + n) ≥ R.rest) = true := decide_eq_true hr
                        have e6 : decide (R.rest ≤ t.next - (t.start + n)) = true := decide_eq_true hr
                        exact absurd (breaks_zero.2 ⟨fun _ => hk, fun hh => hr⟩) hab
                      · have e5 : decide (t.next - (t.start + n) ≥ R.rest) = false := decide_eq_false hr
                        have e6 : decide (R.rest ≤ t.next - (t.start + n)) = false := decide_eq_false hr
                        clear hx hr hk hbz hab
                        go_wp2_with fail
                        go_ret
                        exact ⟨rfl, HW.out⟩
                · rw [if_neg hk]
                  rcases HAV.out with ⟨ha, hab⟩ | hab | ⟨ha, hab⟩
                  · exact absurd ((breaks_zero.1 hab).1 hn0) hk
                  · rw [hab]
                    clear hab hk
                    go_wp2_with fail
                    go_ret
                    exact ⟨rfl, HW.out⟩
                  · rw [ha]
                    clear ha hab hk
                    go_wp2_with fail
                    go_ret
                    exact ⟨rfl, HW.out⟩
            · have d1 : decide ((l.length : Int) > 0) = false := decide_eq_false (by omega)
              have d2 : decide (0 < (l.length : Int)) = false := decide_eq_false (by omega)
              have d3 : decide (0 < l.length) = false := decide_eq_false h0
              obtain ⟨V, hV'⟩ : ∃ V, V = l ++ [⟨⟨#[97, 110, 110]⟩, t.start, t.start + n⟩] := ⟨_, rfl⟩
              have HV := Lib.hid hV'
              have hVl : V.length = l.length + 1 := by rw [hV']; exact more_len _ _
              have HME := Lib.hid (show brokenErr R V = if brokenAt R (withTrip l t.start n) l.length = 0 then 12 else 0 by rw [hV']; exact more_fine HLE.out ann_name (fun hh => absurd hh h0) hn0 hn2)
              clear hV'
              obtain ⟨hi, hz0, hz1, hz2⟩ := HINF.out
              obtain ⟨x0, x1, x2, x3, x4⟩ := BC.out
              obtain ⟨t0, t1, t2, t3⟩ := BT.out
              go_wp2_with fail
              have KA : Hid (∀ w', Below wB.heap.size wB w' → ArrW w' A l c) := Lib.hid fun w' hw => (HA.out.keep (Keep.below (HW.out.trans (hw.mono HW.out.size))))
              go_cut [12] from 74 to 86 (fun s wx => ∃ A9 c9, s = .slice A9 V.length c9 ∧ Hid (ArrW wx A9 V c9) ∧ Hid (Below wB.heap.size wB wx))
              case first =>
                have HBd : Hid (Below wB.heap.size wB wB.drew) := Lib.hid (Below.refl _ _).drew
                have MK : Hid (∀ w', Below wB.heap.size wB w' → w'.cell? ⟨gt, 0, none⟩ = some (.int .i64 t.start) ∧ w'.cell? ⟨w.heap.size + 1, 4, none⟩ = some (.int .i64 n) ∧ Hid (Below wB.heap.size wB w')) :=
                  Lib.hid fun w' hw => ⟨Keep.below hw _ _ t0, Keep.below hw _ _ x4, Lib.hid hw⟩
                refine wp_region_held_drew (S := fun w' => w'.cell? ⟨gt, 0, none⟩ = some (.int .i64 t.start) ∧ w'.cell? ⟨w.heap.size + 1, 4, none⟩ = some (.int .i64 n) ∧ Hid (Below wB.heap.size wB w')) (by kernel_rfl) (MK.out _ HBd.out) (fun hHeld => ?_)
                refine wpAnyH_take (i := 0) (v := ?val0x23) rfl (by kernel_rfl) (by kernel_rfl) (by kernel_rfl) (fun _ _ _ h => h) (Or.inl ⟨by rfl, fun w9 hS9 => ?yields0x23⟩) (by assumption) ?later0x23
                case yields0x23 =>
                  dsimp only at hS9
                  go_simp
                  try with_reducible rfl
                try simp only [Act.put, List.getElem_toArray, List.getElem_cons_succ, List.getElem_cons_zero, List.setIfInBounds_toArray, List.set_cons_zero, List.set_cons_succ]
                refine wpAnyH_take (i := 2) (v := ?val2x24) rfl (by kernel_rfl) (by kernel_rfl) (by kernel_rfl) (fun _ _ _ h => h) (Or.inl ⟨by rfl, fun w9 hS9 => ?yields2x24⟩) (by assumption) ?later2x24
                case yields2x24 =>
                  dsimp only at hS9
                  go_simp
                  try with_reducible rfl
                try simp only [Act.put, List.getElem_toArray, List.getElem_cons_succ, List.getElem_cons_zero, List.setIfInBounds_toArray, List.set_cons_zero, List.set_cons_succ]
                refine wpAnyH_take (i := 3) (v := ?val3x25) rfl (by kernel_rfl) (by kernel_rfl) (by kernel_rfl) (fun _ _ _ h => h) (Or.inl ⟨by rfl, fun w9 hS9 => ?yields3x25⟩) (by assumption) ?later3x25
                case yields3x25 =>
                  dsimp only at hS9
                  go_simp
                  try with_reducible rfl
                try simp only [Act.put, List.getElem_toArray, List.getElem_cons_succ, List.getElem_cons_zero, List.setIfInBounds_toArray, List.set_cons_zero, List.set_cons_succ]
                refine wpAnyH_take (i := 4) (v := ?val4x26) rfl (by kernel_rfl) (by kernel_rfl) (by kernel_rfl) (fun _ _ _ h => h) (Or.inl ⟨by rfl, fun w9 hS9 => ?yields4x26⟩) (by assumption) ?later4x26
                case yields4x26 =>
                  dsimp only at hS9
                  go_simp
                  try with_reducible rfl
                try simp only [Act.put, List.getElem_toArray, List.getElem_cons_succ, List.getElem_cons_zero, List.setIfInBounds_toArray, List.set_cons_zero, List.set_cons_succ]
                refine wpAnyH_take (i := 5) (v := ?val5x27) rfl (by kernel_rfl) (by kernel_rfl) (by kernel_rfl) (fun _ _ _ h => h) (Or.inl ⟨by rfl, fun w9 hS9 => ?yields5x27⟩) (by assumption) ?later5x27
                case yields5x27 =>
                  dsimp only at hS9
                  go_simp
                  try with_reducible rfl
                try simp only [Act.put, List.getElem_toArray, List.getElem_cons_succ, List.getElem_cons_zero, List.setIfInBounds_toArray, List.set_cons_zero, List.set_cons_succ]
                refine wpAnyH_take (i := 6) (v := ?val6x28) rfl (by kernel_rfl) (by kernel_rfl) (by kernel_rfl) (fun _ _ _ h => h) (Or.inl ⟨by rfl, fun w9 hS9 => ?yields6x28⟩) (by assumption) ?later6x28
                case yields6x28 =>
                  dsimp only at hS9
                  go_simp
                  try with_reducible rfl
                try simp only [Act.put, List.getElem_toArray, List.getElem_cons_succ, List.getElem_cons_zero, List.setIfInBounds_toArray, List.set_cons_zero, List.set_cons_succ]
                refine wpAnyH_take (i := 7) (v := ?val7x29) rfl (by kernel_rfl) (by kernel_rfl) (by kernel_rfl) (fun _ _ _ h => h) (Or.inl ⟨by rfl, fun w9 hS9 => ?yields7x29⟩) (by assumption) ?later7x29
                case yields7x29 =>
                  dsimp only at hS9
                  go_simp
                  try with_reducible rfl
                try simp only [Act.put, List.getElem_toArray, List.getElem_cons_succ, List.getElem_cons_zero, List.setIfInBounds_toArray, List.set_cons_zero, List.set_cons_succ]
                refine wpAnyH_take (i := 8) (v := ?val8x30) rfl (by kernel_rfl) (by kernel_rfl) (by kernel_rfl) (fun _ _ _ h => h) (Or.inl ⟨by rfl, fun w9 hS9 => ?yields8x30⟩) (by assumption) ?later8x30
                case yields8x30 =>
                  dsimp only at hS9
                  go_simp
                  try with_reducible rfl
                try simp only [Act.put, List.getElem_toArray, List.getElem_cons_succ, List.getElem_cons_zero, List.setIfInBounds_toArray, List.set_cons_zero, List.set_cons_succ]
                refine wpAnyH_take (i := 9) (v := ?val9x31) rfl (by kernel_rfl) (by kernel_rfl) (by kernel_rfl) (fun _ _ _ h => h) (Or.inl ⟨by rfl, fun w9 hS9 => ?yields9x31⟩) (by assumption) ?later9x31
                case yields9x31 =>
                  dsimp only at hS9
                  go_simp
                  try with_reducible rfl
                try simp only [Act.put, List.getElem_toArray, List.getElem_cons_succ, List.getElem_cons_zero, List.setIfInBounds_toArray, List.set_cons_zero, List.set_cons_succ]
                refine wpAnyH_take (i := 10) (v := ?val10x32) rfl (by kernel_rfl) (by kernel_rfl) (by kernel_rfl) (fun _ _ _ h => h) (Or.inl ⟨by rfl, fun w9 hS9 => ?yields10x32⟩) (by assumption) ?later10x32
                case yields10x32 =>
                  dsimp only at hS9
                  go_simp
                  try with_reducible rfl
                try simp only [Act.put, List.getElem_toArray, List.getElem_cons_succ, List.getElem_cons_zero, List.setIfInBounds_toArray, List.set_cons_zero, List.set_cons_succ]
                generalize hyy : World.drew wB = y6 at *
                clear hyy
                refine wpAnyH_ready (rs := [1, 11]) (by kernel_rfl) (by simp) ?_
                refine AllReadyH.cons rfl (fun K hK => ?_) (AllReadyH.cons rfl (fun K hK => ?_) (AllReadyH.nil))
                · go_simp
                  obtain ⟨-, -, HBX⟩ := hHeld
                  go_at_call 20
                  refine (rCopyRecords_any l _ _ _ (KA.out _ HBX.out) (by omega)).mono ?_
                  rintro e' y7 ⟨vc, rfl, ho, hb1⟩
                  have HO := Lib.hid (own_low ho HBX.out.size)
                  go_wp2_with fail
                  refine hK.out _ _ (MK.out _ (HBX.out.trans (hb1.mono HBX.out.size))) (fun hHeld => ?_)
                  try simp only [Act.put, List.getElem_toArray, List.getElem_cons_succ, List.getElem_cons_zero, List.setIfInBounds_toArray, List.set_cons_zero, List.set_cons_succ]
                  clear ho hb1 HBX hK K
                  refine wpAnyH_ready (rs := [11]) (by kernel_rfl) (by simp) ?_
                  refine AllReadyH.cons rfl (fun K hK => ?_) (AllReadyH.nil)
                  · go_simp
                    obtain ⟨-, -, HBX⟩ := hHeld
                    have HL := Lib.hid (oneRecG y7 ⟨#[97, 110, 110]⟩ t.start (t.start + n))
                    have HO := Lib.hid (below_of_own HO.out ((Below.refl _ _).alloc (Nat.le_refl _) (.cells #[.string ⟨#[97, 110, 110]⟩, .int .i64 t.start, .int .i64 (t.start + n)] 39)))
                    refine hK.out _ _ (MK.out _ (HBX.out.alloc HBX.out.size _)) (fun hHeld => ?_)
                    try simp only [Act.put, List.getElem_toArray, List.getElem_cons_succ, List.getElem_cons_zero, List.setIfInBounds_toArray, List.set_cons_zero, List.set_cons_succ]
                    clear HBX hK K
                    generalize hyy : World.alloc y7 _ = y8 at *
                    clear hyy
                    refine wpAnyH_ready (rs := [12]) (by kernel_rfl) (by simp) ?_
                    refine AllReadyH.cons rfl (fun K hK => ?_) AllReadyH.nil
                    obtain ⟨-, -, HBX⟩ := hHeld
                    refine step_append_lies _ rfl (.tmp 75) (.tmp 85) 24 rfl wB.heap.size 39 i0 _ 3 32 Try.underlying24 hi hz0 hz1 hz2 rfl (by decide) _ l.length _ rfl HO.out _ 1 1 (flat 1 3 fun _ j => recCells ⟨⟨#[97, 110, 110]⟩, t.start, t.start + n⟩ j) rfl (by simp [flat]) (news_of_arr (by decide) HL.out) (recCells_one _) (by decide) (by unfold maxLen; omega) (by omega) HBX.out.size _ rfl ?_
                    rintro g9 c9 y9 ho9 hg9 - -
                    have hb9 := (Below.refl _ _).grown hg9 HBX.out.size (fun k hk => (HO.out.lt k hk).1)
                    rw [moreFlat HV.out] at ho9
                    have H9 := Lib.hid (own_arrN ho9)
                    refine hK.out _ _ (MK.out _ (HBX.out.trans hb9)) (fun hHeld => ?_)
                    try simp only [Act.put, List.getElem_toArray, List.getElem_cons_succ, List.getElem_cons_zero, List.setIfInBounds_toArray, List.set_cons_zero, List.set_cons_succ]
                    clear ho9 hb9 hg9 HBX hK K
                    refine wpAnyH_take (i := 13) (v := ?val13x33) rfl (by kernel_rfl) (by kernel_rfl) (by kernel_rfl) (fun _ _ _ h => h) (Or.inl ⟨by rfl, fun w9 hS9 => ?yields13x33⟩) (by assumption) ?later13x33
                    case yields13x33 =>
                      dsimp only at hS9
                      go_simp
                      try with_reducible rfl
                    try simp only [Act.put, List.getElem_toArray, List.getElem_cons_succ, List.getElem_cons_zero, List.setIfInBounds_toArray, List.set_cons_zero, List.set_cons_succ]
                    refine wpAnyH_done (by kernel_rfl) ?_ _
                    obtain ⟨-, -, hbb⟩ := hHeld
                    go_wp2_with fail
                    go_meet
                    exact ⟨_, c9, by rw [hVl], Lib.hid (show Arr _ _ V.length c9 3 _ by rw [hVl]; exact H9.out), hbb⟩
                · go_simp
                  obtain ⟨-, -, HBX⟩ := hHeld
                  have HL := Lib.hid (oneRecG y6 ⟨#[97, 110, 110]⟩ t.start (t.start + n))
                  refine hK.out _ _ (MK.out _ (HBX.out.alloc HBX.out.size _)) (fun hHeld => ?_)
                  try simp only [Act.put, List.getElem_toArray, List.getElem_cons_succ, List.getElem_cons_zero, List.setIfInBounds_toArray, List.set_cons_zero, List.set_cons_succ]
                  clear HBX hK K
                  generalize hyy : World.alloc y6 _ = y9 at *
                  clear hyy
                  refine wpAnyH_ready (rs := [1]) (by kernel_rfl) (by simp) ?_
                  refine AllReadyH.cons rfl (fun K hK => ?_) (AllReadyH.nil)
                  · go_simp
                    obtain ⟨-, -, HBX⟩ := hHeld
                    go_at_call 20
                    refine (rCopyRecords_any l _ _ _ (KA.out _ HBX.out) (by omega)).mono ?_
                    rintro e' y10 ⟨vc, rfl, ho, hb1⟩
                    have HO := Lib.hid (own_low ho HBX.out.size)
                    have HL := Lib.hid (Arr.keep (Keep.below hb1) HL.out)
                    go_wp2_with fail
                    refine hK.out _ _ (MK.out _ (HBX.out.trans (hb1.mono HBX.out.size))) (fun hHeld => ?_)
                    try simp only [Act.put, List.getElem_toArray, List.getElem_cons_succ, List.getElem_cons_zero, List.setIfInBounds_toArray, List.set_cons_zero, List.set_cons_succ]
                    clear ho hb1 HBX hK K
                    refine wpAnyH_ready (rs := [12]) (by kernel_rfl) (by simp) ?_
                    refine AllReadyH.cons rfl (fun K hK => ?_) AllReadyH.nil
                    obtain ⟨-, -, HBX⟩ := hHeld
                    refine step_append_lies _ rfl (.tmp 75) (.tmp 85) 24 rfl wB.heap.size 39 i0 _ 3 32 Try.underlying24 hi hz0 hz1 hz2 rfl (by decide) _ l.length _ rfl HO.out _ 1 1 (flat 1 3 fun _ j => recCells ⟨⟨#[97, 110, 110]⟩, t.start, t.start + n⟩ j) rfl (by simp [flat]) (news_of_arr (by decide) HL.out) (recCells_one _) (by decide) (by unfold maxLen; omega) (by omega) HBX.out.size _ rfl ?_
                    rintro g9 c9 y9 ho9 hg9 - -
                    have hb9 := (Below.refl _ _).grown hg9 HBX.out.size (fun k hk => (HO.out.lt k hk).1)
                    rw [moreFlat HV.out] at ho9
                    have H9 := Lib.hid (own_arrN ho9)
                    refine hK.out _ _ (MK.out _ (HBX.out.trans hb9)) (fun hHeld => ?_)
                    try simp only [Act.put, List.getElem_toArray, List.getElem_cons_succ, List.getElem_cons_zero, List.setIfInBounds_toArray, List.set_cons_zero, List.set_cons_succ]
                    clear ho9 hb9 hg9 HBX hK K
                    refine wpAnyH_take (i := 13) (v := ?val13x34) rfl (by kernel_rfl) (by kernel_rfl) (by kernel_rfl) (fun _ _ _ h => h) (Or.inl ⟨by rfl, fun w9 hS9 => ?yields13x34⟩) (by assumption) ?later13x34
                    case yields13x34 =>
                      dsimp only at hS9
                      go_simp
                      try with_reducible rfl
                    try simp only [Act.put, List.getElem_toArray, List.getElem_cons_succ, List.getElem_cons_zero, List.setIfInBounds_toArray, List.set_cons_zero, List.set_cons_succ]
                    refine wpAnyH_done (by kernel_rfl) ?_ _
                    obtain ⟨-, -, hbb⟩ := hHeld
                    go_wp2_with fail
                    go_meet
                    exact ⟨_, c9, by rw [hVl], Lib.hid (show Arr _ _ V.length c9 3 _ by rw [hVl]; exact H9.out), hbb⟩
              case rest =>
                obtain ⟨A9, c9, rfl, H9, HB⟩ := hcut
                replace HW := Lib.hid (HW.out.trans (HB.out.mono HW.out.size))
                replace BC := Lib.hid (BC.out.keep (Keep.below HB.out))
                replace BR := Lib.hid (BR.out.keep (Keep.below HB.out))
                replace BT := Lib.hid (BT.out.keep (Keep.below HB.out))
                clear HB t0 t1 t2 t3 x0 x1 x2 x3 x4
                clear hVl
                have hv1 := H9.out.le.1
                have hv2 := H9.out.le.2
                obtain ⟨a0, a1, a2, a3, a4⟩ := BR.out
                go_wp2_with fail
                refine (xBroken_any R V A9 c9 _ H9.out).mono ?_
                rintro e' wE ⟨rfl, hb1⟩
                replace HW := Lib.hid (HW.out.trans (hb1.mono HW.out.size))
                replace BC := Lib.hid (BC.out.keep (Keep.below hb1))
                replace BR := Lib.hid (BR.out.keep (Keep.below hb1))
                replace BT := Lib.hid (BT.out.keep (Keep.below hb1))
                clear a0 a1 a2 a3 a4
                clear hb1
                obtain ⟨X, hX⟩ : ∃ X, X = (brokenOut R V).1 := ⟨_, rfl⟩
                obtain ⟨Y, hY⟩ : ∃ Y, Y = (brokenOut R V).2 := ⟨_, rfl⟩
                rw [← hX, ← hY, HME.out]
                clear hX hY H9 HME
                have hb8 : Below wE.heap.size wE (wE.alloc (.cells #[.int .i64 X, .int .i64 (Y : Nat)] 47)) := (Below.refl _ _).alloc (Nat.le_refl _) _
                replace HW := Lib.hid (HW.out.trans (hb8.mono HW.out.size))
                replace BC := Lib.hid (BC.out.keep (Keep.below hb8))
                replace BR := Lib.hid (BR.out.keep (Keep.below hb8))
                replace BT := Lib.hid (BT.out.keep (Keep.below hb8))
                clear hb8
                obtain ⟨x0, x1, x2, x3, x4⟩ := BC.out
                obtain ⟨a0, a1, a2, a3, a4⟩ := BR.out
                obtain ⟨t0, t1, t2, t3⟩ := BT.out
                by_cases hk : brokenAt R (withTrip l t.start n) l.length = 0
                · rw [if_pos hk]
                  rcases HAV.out with ⟨ha, hab⟩ | hab | ⟨ha, hab⟩
                  · have hbz := breaks_zero.1 hab
                    rw [ha]
                    clear ha
                    by_cases hx : t.next = -1
                    · have e3 : (t.next == -1) = true := by simpa using hx
                      clear hx hk hbz hab
                      go_wp2_with fail
                      go_ret
                      exact ⟨rfl, HW.out⟩
                    · have e3 : (t.next == -1) = false := by simpa using hx
                      by_cases hr : R.rest ≤ t.next - (t.start + n)
                      · have e5 : decide (t.next - (t.start + n) ≥ R.rest) = true := decide_eq_true hr
                        have e6 : decide (R.rest ≤ t.next - (t.start + n)) = true := decide_eq_true hr
                        clear hx hr hk hbz hab
                        go_wp2_with fail
                        go_ret
                        exact ⟨rfl, HW.out⟩
                      · have e5 : decide (t.next - (t.start + n) ≥ R.rest) = false := decide_eq_false hr
                        have e6 : decide (R.rest ≤ t.next - (t.start + n)) = false := decide_eq_false hr
                        exact absurd (hbz.2 hx) hr
                  · rw [hab]
                    have hbz := hab
                    by_cases hx : t.next = -1
                    · have e3 : (t.next == -1) = true := by simpa using hx
                      clear hx hk hbz hab
                      go_wp2_with fail
                      go_ret
                      exact ⟨rfl, HW.out⟩
                    · have e3 : (t.next == -1) = false := by simpa using hx
                      by_cases hr : R.rest ≤ t.next - (t.start + n)
                      · have e5 : decide (t.next - (t.start + n) ≥ R.rest) = true := decide_eq_true hr
                        have e6 : decide (R.rest ≤ t.next - (t.start + n)) = true := decide_eq_true hr
                        clear hx hr hk hbz hab
                        go_wp2_with fail
                        go_ret
                        exact ⟨rfl, HW.out⟩
                      · have e5 : decide (t.next - (t.start + n) ≥ R.rest) = false := decide_eq_false hr
                        have e6 : decide (R.rest ≤ t.next - (t.start + n)) = false := decide_eq_false hr
                        clear hx hr hk hbz hab
                        go_wp2_with fail
                        go_ret
                        exact ⟨rfl, HW.out⟩
                  · have hbz := hab
                    rw [ha]
                    clear ha
                    by_cases hx : t.next = -1
                    · have e3 : (t.next == -1) = true := by simpa using hx
                      exact absurd (breaks_zero.2 ⟨fun _ => hk, fun hh => absurd hx hh⟩) hab
                    · have e3 : (t.next == -1) = false := by simpa using hx
                      by_cases hr : R.rest ≤ t.next - (t.start + n)
                      · have e5 : decide (t.next - (t.start + n) ≥ R.rest) = true := decide_eq_true hr
                        have e6 : decide (R.rest ≤ t.next - (t.start + n)) = true := decide_eq_true hr
                        exact absurd (breaks_zero.2 ⟨fun _ => hk, fun hh => hr⟩) hab
                      · have e5 : decide (t.next - (t.start + n) ≥ R.rest) = false := decide_eq_false hr
                        have e6 : decide (R.rest ≤ t.next - (t.start + n)) = false := decide_eq_false hr
                        clear hx hr hk hbz hab
                        go_wp2_with fail
                        go_ret
                        exact ⟨rfl, HW.out⟩
                · rw [if_neg hk]
                  rcases HAV.out with ⟨ha, hab⟩ | hab | ⟨ha, hab⟩
                  · exact absurd ((breaks_zero.1 hab).1 hn0) hk
                  · rw [hab]
                    clear hab hk
                    go_wp2_with fail
                    go_ret
                    exact ⟨rfl, HW.out⟩
                  · rw [ha]
                    clear ha hab hk
                    go_wp2_with fail
                    go_ret
                    exact ⟨rfl, HW.out⟩
          · have e7 : decide (t.start + n > 8640000000) = true := decide_eq_true (by omega)
            have e8 : decide (8640000000 < t.start + n) = true := decide_eq_true (by omega)
            go_wp2_with fail
            go_ret
            exact ⟨rfl, HW.out⟩
    · have e1 : (lawTripErr R l t == 0) = false := by simpa using he
      have e2 : (lawTripErr R l t != 0) = true := by simpa using he
      clear he
      go_wp2_with fail
      go_ret
      exact ⟨rfl, HW.out⟩
end Go.Proofs.Ytolicafhbeiciaa

/- The law of what is overdue. No condition. -/
import Derived.Test.YtfjdnbnalihjiaaGreatDoorH2
import Derived.Test.YtfjdnbnalihjiaaGreatDoorG21
import Derived.Test.YtfjdnbnalihjiaaGreatDoorVG
import Derived.Test.YtfjdnbnalihjiaaGreatDoorGK
namespace Go.Proofs.YtfjdnbnalihjiaaGreatDoor
open Go.RowKit Fs

set_option maxHeartbeats 800000 in
set_option maxRecDepth 100000 in
/-- Two rows that read as the same list are the same. -/
theorem oints_same (l : List Int) (A B : Option Addr) (c d : Nat) (w : World) (hA : ArrI w A l c) (hB : ArrI w B l d) :
    Calls Tryz.prog 38 #[.slice A l.length c, .slice B l.length d] w fun e w' => e = .returned (.bool true) ∧ Below w.heap.size w w' := by
  have b1 := hA.le.1
  have b2 := hA.le.2
  have b3 := hB.le.1
  have b4 := hB.le.2
  have HA := Lib.hid hA
  have HB := Lib.hid hB
  clear hA hB
  go_enter Tryz.func38, Tryz.ntmps38
  go_wp2_with fail
  go_loopw [5] (fun i wr => ∃ k : Nat, k ≤ l.length ∧ i = .int .i64 k ∧ Hid (Below w.heap.size w wr)) (fun i _ => l.length - (intOf i).toNat)
  case atStart => exact ⟨0, Nat.zero_le _, rfl, Lib.hid (Below.refl _ _)⟩
  case round =>
    obtain ⟨k, hk, rfl, HX⟩ := hrel
    by_cases hlt : k < l.length
    · have hkn : (k : Int) < (l.length : Int) := by omega
      obtain ⟨b1', o1, h1, c1⟩ := (HA.out.keep (Keep.below HX.out)).at_ hlt
      obtain ⟨b2', o2, h2, c2⟩ := (HB.out.keep (Keep.below HX.out)).at_ hlt
      subst h1; subst h2
      have e1 : (listI l k == listI l k) = true := by simp
      have e2 : (listI l k != listI l k) = false := by simp
      go_wp2_with fail
      go_quiet (fail)
      go_wp2_with fail
      go_roundw
      case rel => exact ⟨k + 1, by omega, by go_num, Lib.hid (bdrewN HX.out _)⟩
      case measure => simp [intOf]; omega
    · obtain rfl : k = l.length := by omega
      clear hlt hk
      go_wp2_with fail
      go_ret
      exact ⟨rfl, HX.out⟩

set_option linter.unusedSimpArgs false in
set_option maxHeartbeats 12800000 in
set_option maxRecDepth 100000 in
theorem lawOverdues_any (l : List Kpt) (A : Option Addr) (c : Nat) (a : KA) (n : Int) (w : World) (h : ArrKp w A l c a) (tbs : TabSt w) :
    Calls Tryz.prog 12 #[.slice A l.length c, .int .i64 n] w fun e w' => e = .returned (.bool true) ∧ Below w.heap.size w w' := by
  have b1 := h.le.1
  have b2 := h.le.2
  have HA := Lib.hid h
  have TBS := Lib.hid tbs
  clear h tbs
  go_enter Tryz.func12, Tryz.ntmps12
  go_wp2_with fail
  refine (lawAwake_any _ TBS.out).mono ?_
  rintro e' w1 ⟨rfl, hb1⟩
  have HW := Lib.hid hb1
  clear hb1
  by_cases h4 : l.length ≤ 4
  · have d1 : decide ((l.length : Int) > 4) = false := decide_eq_false (by omega)
    have d2 : decide ((4 : Int) < (l.length : Int)) = false := decide_eq_false (by omega)
    have d3 : decide ((l.length : Int) ≤ 40) = true := decide_eq_true (by omega)
    have d5 : decide ((l.length : Int) > 42) = false := decide_eq_false (by omega)
    have d6 : decide ((42 : Int) < (l.length : Int)) = false := decide_eq_false (by omega)
    go_wp2_with fail
    go_loopw [5] (fun u wr => ∃ k : Nat, k ≤ l.length ∧ u = .int .i64 k ∧ Hid (∀ j, j < k → (lKpt l j).it.marks.length ≤ 10 ∧ (lKpt l j).evs.length ≤ 32) ∧ Hid (Below w.heap.size w wr)) (fun u _ => l.length - (intOf u).toNat)
    case atStart => exact ⟨0, Nat.zero_le _, rfl, Lib.hid fun j hj => absurd hj (Nat.not_lt_zero _), HW⟩
    case round =>
      obtain ⟨k, hk, rfl, Hn, HB⟩ := hrel
      by_cases hlt : k < l.length
      · have hkn : (k : Int) < (l.length : Int) := by omega
        obtain ⟨b, o, rfl, ⟨q0, q1, q2, q3, q4⟩, qm, qe⟩ := (HA.out.keep (Keep.below HB.out)).at_ hlt
        have QM := Lib.hid qm
        have QE := Lib.hid qe
        clear qm qe
        go_wp2_with fail
        have HBd : Hid (Below wr.heap.size wr wr.drew) := Lib.hid (Below.refl _ _).drew
        have MK : Hid (∀ w', Below wr.heap.size wr w' → w'.cell? ⟨b, o + k * 5, none⟩ = some (.string (lKpt l k).it.name) ∧ w'.cell? ⟨b, o + k * 5 + 1, none⟩ = some (.int .i64 (lKpt l k).it.day) ∧ w'.cell? ⟨b, o + k * 5 + 2, none⟩ = some (.string (lKpt l k).it.who) ∧ w'.cell? ⟨b, o + k * 5 + 3, none⟩ = some (.slice (a.p k) (lKpt l k).it.marks.length (a.pc k)) ∧ w'.cell? ⟨b, o + k * 5 + 4, none⟩ = some (.slice (a.q k) (lKpt l k).evs.length (a.qc k)) ∧ Hid (Below wr.heap.size wr w')) :=
          Lib.hid fun w' hw => ⟨Keep.below hw _ _ q0, Keep.below hw _ _ q1, Keep.below hw _ _ q2, Keep.below hw _ _ q3, Keep.below hw _ _ q4, Lib.hid hw⟩
        have KX : Hid (∀ w', Below wr.heap.size wr w' → ArrMk w' (a.p k) (lKpt l k).it.marks (a.pc k) ∧ ArrEv w' (a.q k) (lKpt l k).evs (a.qc k)) := Lib.hid fun w' hw => ⟨QM.out.keep (Keep.below hw), QE.out.keep (Keep.below hw)⟩
        refine wp_region_held_drew (S := fun w' => w'.cell? ⟨b, o + k * 5, none⟩ = some (.string (lKpt l k).it.name) ∧ w'.cell? ⟨b, o + k * 5 + 1, none⟩ = some (.int .i64 (lKpt l k).it.day) ∧ w'.cell? ⟨b, o + k * 5 + 2, none⟩ = some (.string (lKpt l k).it.who) ∧ w'.cell? ⟨b, o + k * 5 + 3, none⟩ = some (.slice (a.p k) (lKpt l k).it.marks.length (a.pc k)) ∧ w'.cell? ⟨b, o + k * 5 + 4, none⟩ = some (.slice (a.q k) (lKpt l k).evs.length (a.qc k)) ∧ Hid (Below wr.heap.size wr w')) (by kernel_rfl) (MK.out _ HBd.out) (fun hHeld => ?_)
        refine wpAnyH_take (i := 0) (v := ?val0x1) rfl (by kernel_rfl) (by kernel_rfl) (by kernel_rfl) (fun _ _ _ h => h) (Or.inl ⟨by rfl, fun w9 hS9 => ?yields0x1⟩) (by assumption) ?later0x1
        case yields0x1 =>
          dsimp only at hS9
          go_simp
          try with_reducible rfl
        try simp only [Act.put, List.getElem_toArray, List.getElem_cons_succ, List.getElem_cons_zero, List.setIfInBounds_toArray, List.set_cons_zero, List.set_cons_succ]
        refine wpAnyH_take (i := 1) (v := ?val1x2) rfl (by kernel_rfl) (by kernel_rfl) (by kernel_rfl) (fun _ _ _ h => h) (Or.inl ⟨by rfl, fun w9 hS9 => ?yields1x2⟩) (by assumption) ?later1x2
        case yields1x2 =>
          dsimp only at hS9
          go_simp
          try with_reducible rfl
        try simp only [Act.put, List.getElem_toArray, List.getElem_cons_succ, List.getElem_cons_zero, List.setIfInBounds_toArray, List.set_cons_zero, List.set_cons_succ]
        refine wpAnyH_take (i := 2) (v := ?val2x3) rfl (by kernel_rfl) (by kernel_rfl) (by kernel_rfl) (fun _ _ _ h => h) (Or.inl ⟨by rfl, fun w9 hS9 => ?yields2x3⟩) (by assumption) ?later2x3
        case yields2x3 =>
          dsimp only at hS9
          go_simp
          try with_reducible rfl
        try simp only [Act.put, List.getElem_toArray, List.getElem_cons_succ, List.getElem_cons_zero, List.setIfInBounds_toArray, List.set_cons_zero, List.set_cons_succ]
        refine wpAnyH_take (i := 3) (v := ?val3x4) rfl (by kernel_rfl) (by kernel_rfl) (by kernel_rfl) (fun _ _ _ h => h) (Or.inl ⟨by rfl, fun w9 hS9 => ?yields3x4⟩) (by assumption) ?later3x4
        case yields3x4 =>
          dsimp only at hS9
          go_simp
          try with_reducible rfl
        try simp only [Act.put, List.getElem_toArray, List.getElem_cons_succ, List.getElem_cons_zero, List.setIfInBounds_toArray, List.set_cons_zero, List.set_cons_succ]
        refine wpAnyH_take (i := 4) (v := ?val4x5) rfl (by kernel_rfl) (by kernel_rfl) (by kernel_rfl) (fun _ _ _ h => h) (Or.inl ⟨by rfl, fun w9 hS9 => ?yields4x5⟩) (by assumption) ?later4x5
        case yields4x5 =>
          dsimp only at hS9
          go_simp
          try with_reducible rfl
        try simp only [Act.put, List.getElem_toArray, List.getElem_cons_succ, List.getElem_cons_zero, List.setIfInBounds_toArray, List.set_cons_zero, List.set_cons_succ]
        refine wpAnyH_take (i := 5) (v := ?val5x6) rfl (by kernel_rfl) (by kernel_rfl) (by kernel_rfl) (fun _ _ _ h => h) (Or.inl ⟨by rfl, fun w9 hS9 => ?yields5x6⟩) (by assumption) ?later5x6
        case yields5x6 =>
          dsimp only at hS9
          go_simp
          try with_reducible rfl
        try simp only [Act.put, List.getElem_toArray, List.getElem_cons_succ, List.getElem_cons_zero, List.setIfInBounds_toArray, List.set_cons_zero, List.set_cons_succ]
        refine wpAnyH_take (i := 6) (v := ?val6x7) rfl (by kernel_rfl) (by kernel_rfl) (by kernel_rfl) (fun _ _ _ h => h) (Or.inl ⟨by rfl, fun w9 hS9 => ?yields6x7⟩) (by assumption) ?later6x7
        case yields6x7 =>
          dsimp only at hS9
          go_simp
          try with_reducible rfl
        try simp only [Act.put, List.getElem_toArray, List.getElem_cons_succ, List.getElem_cons_zero, List.setIfInBounds_toArray, List.set_cons_zero, List.set_cons_succ]
        refine wpAnyH_take (i := 7) (v := ?val7x8) rfl (by kernel_rfl) (by kernel_rfl) (by kernel_rfl) (fun _ _ _ h => h) (Or.inl ⟨by rfl, fun w9 hS9 => ?yields7x8⟩) (by assumption) ?later7x8
        case yields7x8 =>
          dsimp only at hS9
          go_simp
          try with_reducible rfl
        try simp only [Act.put, List.getElem_toArray, List.getElem_cons_succ, List.getElem_cons_zero, List.setIfInBounds_toArray, List.set_cons_zero, List.set_cons_succ]
        refine wpAnyH_take (i := 8) (v := ?val8x9) rfl (by kernel_rfl) (by kernel_rfl) (by kernel_rfl) (fun _ _ _ h => h) (Or.inl ⟨by rfl, fun w9 hS9 => ?yields8x9⟩) (by assumption) ?later8x9
        case yields8x9 =>
          dsimp only at hS9
          go_simp
          try with_reducible rfl
        try simp only [Act.put, List.getElem_toArray, List.getElem_cons_succ, List.getElem_cons_zero, List.setIfInBounds_toArray, List.set_cons_zero, List.set_cons_succ]
        refine wpAnyH_take (i := 9) (v := ?val9x10) rfl (by kernel_rfl) (by kernel_rfl) (by kernel_rfl) (fun _ _ _ h => h) (Or.inl ⟨by rfl, fun w9 hS9 => ?yields9x10⟩) (by assumption) ?later9x10
        case yields9x10 =>
          dsimp only at hS9
          go_simp
          try with_reducible rfl
        try simp only [Act.put, List.getElem_toArray, List.getElem_cons_succ, List.getElem_cons_zero, List.setIfInBounds_toArray, List.set_cons_zero, List.set_cons_succ]
        refine wpAnyH_ready (rs := [10]) (by kernel_rfl) (by simp) ?_
        refine AllReadyH.cons rfl (fun K hK => ?_) AllReadyH.nil
        go_simp
        go_at_call 54
        go_split_ands
        refine (lawChain_any (lKpt l k).it _ (lKpt l k).evs (a.q k) (a.qc k) _ ⟨_, _, rfl, (KX.out _ (Hid.out (by assumption))).1⟩ (KX.out _ (Hid.out (by assumption))).2).mono ?_
        rintro e' w5 ⟨⟨bb, rfl, hbb⟩, hb1⟩
        have HBB := Lib.hid hbb
        clear hbb
        go_wp2_with fail
        refine hK.out _ _ ?_ (fun hHeld => ?_)
        · (try dsimp only)
          (go_split_ands; exact MK.out _ (Below.trans (Hid.out (by assumption)) (hb1.mono (Hid.out (by assumption) : Below wr.heap.size wr _).size)))
        clear hK K
        try simp only [Act.put, List.getElem_toArray, List.getElem_cons_succ, List.getElem_cons_zero, List.setIfInBounds_toArray, List.set_cons_zero, List.set_cons_succ]
        refine wpAnyH_take (i := 11) (v := ?val11x11) rfl (by kernel_rfl) (by kernel_rfl) (by kernel_rfl) (fun _ _ _ h => h) (Or.inl ⟨by rfl, fun w9 hS9 => ?yields11x11⟩) (by assumption) ?later11x11
        case yields11x11 =>
          dsimp only at hS9
          go_simp
          try with_reducible rfl
        try simp only [Act.put, List.getElem_toArray, List.getElem_cons_succ, List.getElem_cons_zero, List.setIfInBounds_toArray, List.set_cons_zero, List.set_cons_succ]
        refine wpAnyH_done (by kernel_rfl) ?_ _
        obtain ⟨-, -, -, -, -, HBR⟩ := hHeld
        clear HBd MK
        have HB2 := Lib.hid (HB.out.trans (HBR.out.mono HB.out.size))
        clear KX q0 q1 q2 q3 q4 QM QE HBR
        cases bb with
        | false =>
          go_wp2_with fail
          go_ret
          exact ⟨rfl, HB2.out⟩
        | true =>
          have HK := Lib.hid (HBB.out rfl)
          clear HBB
          go_wp2_with fail
          go_roundw
          case rel =>
            exact ⟨k + 1, by omega, by go_num, Lib.hid fun j hj => by
              by_cases e : j = k
              · subst e; exact HK.out
              · exact Hn.out j (by omega), HB2⟩
          case measure => simp [intOf]; omega
      · obtain rfl : k = l.length := by omega
        have HM := Lib.hid (fun i (hi : i < l.length) => (show (lKpt l i).it.marks.length ≤ 1000000 ∧ (lKpt l i).evs.length ≤ 1000000 from ⟨by have := (Hn.out i hi).1; omega, by have := (Hn.out i hi).2; omega⟩))
        go_wp2_with fail
        refine (rCopyKept_any l A c a _ (HA.out.keep (Keep.below HB.out)) (by omega) HM.out).mono ?_
        rintro e' w6 ⟨⟨A5, c5, a5, rfl, h5⟩, hb1⟩
        have H5 := Lib.hid h5
        replace HB := Lib.hid (HB.out.trans (hb1.mono HB.out.size))
        clear h5 hb1
        go_wp2_with fail
        refine (xOverdue_any l A5 c5 a5 n _ H5.out (TBS.out.keep (Keep.below HB.out))).mono ?_
        rintro e' w7 ⟨⟨A6, c6, rfl, h6⟩, hb1⟩
        have H6 := Lib.hid h6
        replace HB := Lib.hid (HB.out.trans (hb1.mono HB.out.size))
        clear h6 hb1 H5
        go_wp2_with fail
        refine (rOverdue_any l A c a n _ (HA.out.keep (Keep.below HB.out))).mono ?_
        rintro e' w8 ⟨⟨A7, c7, rfl, h7⟩, hb1⟩
        have H7 := Lib.hid h7
        replace H6 := Lib.hid (H6.out.keep (Keep.below hb1))
        replace HB := Lib.hid (HB.out.trans (hb1.mono HB.out.size))
        clear h7 hb1
        have ee1 : ((ovErr l n) == (ovErr l n)) = true := by simp
        have ee1b : ((ovErr l n) != (ovErr l n)) = false := by simp
        go_wp2_with fail
        refine (oints_same (ovOut l n) A6 A7 c6 c7 _ H6.out H7.out).mono ?_
        rintro e' w9 ⟨rfl, hb1⟩
        replace HB := Lib.hid (HB.out.trans (hb1.mono HB.out.size))
        clear hb1
        go_wp2_with fail
        go_ret
        exact ⟨rfl, HB.out⟩
  · have d1 : decide ((l.length : Int) > 4) = true := decide_eq_true (by omega)
    have d2 : decide ((4 : Int) < (l.length : Int)) = true := decide_eq_true (by omega)
    by_cases h40 : l.length ≤ 40
    · have d3 : decide ((l.length : Int) ≤ 40) = true := decide_eq_true (by omega)
      have d5 : decide ((l.length : Int) > 42) = false := decide_eq_false (by omega)
      have d6 : decide ((42 : Int) < (l.length : Int)) = false := decide_eq_false (by omega)
      go_wp2_with fail
      go_ret
      exact ⟨rfl, HW.out⟩
    · have d3 : decide ((l.length : Int) ≤ 40) = false := decide_eq_false (by omega)
      by_cases h42 : l.length ≤ 42
      · have d5 : decide ((l.length : Int) > 42) = false := decide_eq_false (by omega)
        have d6 : decide ((42 : Int) < (l.length : Int)) = false := decide_eq_false (by omega)
        go_wp2_with fail
        go_loopw [5] (fun u wr => ∃ k : Nat, k ≤ l.length ∧ u = .int .i64 k ∧ Hid (∀ j, j < k → (lKpt l j).it.marks.length ≤ 10 ∧ (lKpt l j).evs.length ≤ 32) ∧ Hid (Below w.heap.size w wr)) (fun u _ => l.length - (intOf u).toNat)
        case atStart => exact ⟨0, Nat.zero_le _, rfl, Lib.hid fun j hj => absurd hj (Nat.not_lt_zero _), HW⟩
        case round =>
          obtain ⟨k, hk, rfl, Hn, HB⟩ := hrel
          by_cases hlt : k < l.length
          · have hkn : (k : Int) < (l.length : Int) := by omega
            obtain ⟨b, o, rfl, ⟨q0, q1, q2, q3, q4⟩, qm, qe⟩ := (HA.out.keep (Keep.below HB.out)).at_ hlt
            have QM := Lib.hid qm
            have QE := Lib.hid qe
            clear qm qe
            go_wp2_with fail
            have HBd : Hid (Below wr.heap.size wr wr.drew) := Lib.hid (Below.refl _ _).drew
            have MK : Hid (∀ w', Below wr.heap.size wr w' → w'.cell? ⟨b, o + k * 5, none⟩ = some (.string (lKpt l k).it.name) ∧ w'.cell? ⟨b, o + k * 5 + 1, none⟩ = some (.int .i64 (lKpt l k).it.day) ∧ w'.cell? ⟨b, o + k * 5 + 2, none⟩ = some (.string (lKpt l k).it.who) ∧ w'.cell? ⟨b, o + k * 5 + 3, none⟩ = some (.slice (a.p k) (lKpt l k).it.marks.length (a.pc k)) ∧ w'.cell? ⟨b, o + k * 5 + 4, none⟩ = some (.slice (a.q k) (lKpt l k).evs.length (a.qc k)) ∧ Hid (Below wr.heap.size wr w')) :=
              Lib.hid fun w' hw => ⟨Keep.below hw _ _ q0, Keep.below hw _ _ q1, Keep.below hw _ _ q2, Keep.below hw _ _ q3, Keep.below hw _ _ q4, Lib.hid hw⟩
            have KX : Hid (∀ w', Below wr.heap.size wr w' → ArrMk w' (a.p k) (lKpt l k).it.marks (a.pc k) ∧ ArrEv w' (a.q k) (lKpt l k).evs (a.qc k)) := Lib.hid fun w' hw => ⟨QM.out.keep (Keep.below hw), QE.out.keep (Keep.below hw)⟩
            refine wp_region_held_drew (S := fun w' => w'.cell? ⟨b, o + k * 5, none⟩ = some (.string (lKpt l k).it.name) ∧ w'.cell? ⟨b, o + k * 5 + 1, none⟩ = some (.int .i64 (lKpt l k).it.day) ∧ w'.cell? ⟨b, o + k * 5 + 2, none⟩ = some (.string (lKpt l k).it.who) ∧ w'.cell? ⟨b, o + k * 5 + 3, none⟩ = some (.slice (a.p k) (lKpt l k).it.marks.length (a.pc k)) ∧ w'.cell? ⟨b, o + k * 5 + 4, none⟩ = some (.slice (a.q k) (lKpt l k).evs.length (a.qc k)) ∧ Hid (Below wr.heap.size wr w')) (by kernel_rfl) (MK.out _ HBd.out) (fun hHeld => ?_)
            refine wpAnyH_take (i := 0) (v := ?val0x12) rfl (by kernel_rfl) (by kernel_rfl) (by kernel_rfl) (fun _ _ _ h => h) (Or.inl ⟨by rfl, fun w9 hS9 => ?yields0x12⟩) (by assumption) ?later0x12
            case yields0x12 =>
              dsimp only at hS9
              go_simp
              try with_reducible rfl
            try simp only [Act.put, List.getElem_toArray, List.getElem_cons_succ, List.getElem_cons_zero, List.setIfInBounds_toArray, List.set_cons_zero, List.set_cons_succ]
            refine wpAnyH_take (i := 1) (v := ?val1x13) rfl (by kernel_rfl) (by kernel_rfl) (by kernel_rfl) (fun _ _ _ h => h) (Or.inl ⟨by rfl, fun w9 hS9 => ?yields1x13⟩) (by assumption) ?later1x13
            case yields1x13 =>
              dsimp only at hS9
              go_simp
              try with_reducible rfl
            try simp only [Act.put, List.getElem_toArray, List.getElem_cons_succ, List.getElem_cons_zero, List.setIfInBounds_toArray, List.set_cons_zero, List.set_cons_succ]
            refine wpAnyH_take (i := 2) (v := ?val2x14) rfl (by kernel_rfl) (by kernel_rfl) (by kernel_rfl) (fun _ _ _ h => h) (Or.inl ⟨by rfl, fun w9 hS9 => ?yields2x14⟩) (by assumption) ?later2x14
            case yields2x14 =>
              dsimp only at hS9
              go_simp
              try with_reducible rfl
            try simp only [Act.put, List.getElem_toArray, List.getElem_cons_succ, List.getElem_cons_zero, List.setIfInBounds_toArray, List.set_cons_zero, List.set_cons_succ]
            refine wpAnyH_take (i := 3) (v := ?val3x15) rfl (by kernel_rfl) (by kernel_rfl) (by kernel_rfl) (fun _ _ _ h => h) (Or.inl ⟨by rfl, fun w9 hS9 => ?yields3x15⟩) (by assumption) ?later3x15
            case yields3x15 =>
              dsimp only at hS9
              go_simp
              try with_reducible rfl
            try simp only [Act.put, List.getElem_toArray, List.getElem_cons_succ, List.getElem_cons_zero, List.setIfInBounds_toArray, List.set_cons_zero, List.set_cons_succ]
            refine wpAnyH_take (i := 4) (v := ?val4x16) rfl (by kernel_rfl) (by kernel_rfl) (by kernel_rfl) (fun _ _ _ h => h) (Or.inl ⟨by rfl, fun w9 hS9 => ?yields4x16⟩) (by assumption) ?later4x16
            case yields4x16 =>
              dsimp only at hS9
              go_simp
              try with_reducible rfl
            try simp only [Act.put, List.getElem_toArray, List.getElem_cons_succ, List.getElem_cons_zero, List.setIfInBounds_toArray, List.set_cons_zero, List.set_cons_succ]
            refine wpAnyH_take (i := 5) (v := ?val5x17) rfl (by kernel_rfl) (by kernel_rfl) (by kernel_rfl) (fun _ _ _ h => h) (Or.inl ⟨by rfl, fun w9 hS9 => ?yields5x17⟩) (by assumption) ?later5x17
            case yields5x17 =>
              dsimp only at hS9
              go_simp
              try with_reducible rfl
            try simp only [Act.put, List.getElem_toArray, List.getElem_cons_succ, List.getElem_cons_zero, List.setIfInBounds_toArray, List.set_cons_zero, List.set_cons_succ]
            refine wpAnyH_take (i := 6) (v := ?val6x18) rfl (by kernel_rfl) (by kernel_rfl) (by kernel_rfl) (fun _ _ _ h => h) (Or.inl ⟨by rfl, fun w9 hS9 => ?yields6x18⟩) (by assumption) ?later6x18
            case yields6x18 =>
              dsimp only at hS9
              go_simp
              try with_reducible rfl
            try simp only [Act.put, List.getElem_toArray, List.getElem_cons_succ, List.getElem_cons_zero, List.setIfInBounds_toArray, List.set_cons_zero, List.set_cons_succ]
            refine wpAnyH_take (i := 7) (v := ?val7x19) rfl (by kernel_rfl) (by kernel_rfl) (by kernel_rfl) (fun _ _ _ h => h) (Or.inl ⟨by rfl, fun w9 hS9 => ?yields7x19⟩) (by assumption) ?later7x19
            case yields7x19 =>
              dsimp only at hS9
              go_simp
              try with_reducible rfl
            try simp only [Act.put, List.getElem_toArray, List.getElem_cons_succ, List.getElem_cons_zero, List.setIfInBounds_toArray, List.set_cons_zero, List.set_cons_succ]
            refine wpAnyH_take (i := 8) (v := ?val8x20) rfl (by kernel_rfl) (by kernel_rfl) (by kernel_rfl) (fun _ _ _ h => h) (Or.inl ⟨by rfl, fun w9 hS9 => ?yields8x20⟩) (by assumption) ?later8x20
            case yields8x20 =>
              dsimp only at hS9
              go_simp
              try with_reducible rfl
            try simp only [Act.put, List.getElem_toArray, List.getElem_cons_succ, List.getElem_cons_zero, List.setIfInBounds_toArray, List.set_cons_zero, List.set_cons_succ]
            refine wpAnyH_take (i := 9) (v := ?val9x21) rfl (by kernel_rfl) (by kernel_rfl) (by kernel_rfl) (fun _ _ _ h => h) (Or.inl ⟨by rfl, fun w9 hS9 => ?yields9x21⟩) (by assumption) ?later9x21
            case yields9x21 =>
              dsimp only at hS9
              go_simp
              try with_reducible rfl
            try simp only [Act.put, List.getElem_toArray, List.getElem_cons_succ, List.getElem_cons_zero, List.setIfInBounds_toArray, List.set_cons_zero, List.set_cons_succ]
            refine wpAnyH_ready (rs := [10]) (by kernel_rfl) (by simp) ?_
            refine AllReadyH.cons rfl (fun K hK => ?_) AllReadyH.nil
            go_simp
            go_at_call 54
            go_split_ands
            refine (lawChain_any (lKpt l k).it _ (lKpt l k).evs (a.q k) (a.qc k) _ ⟨_, _, rfl, (KX.out _ (Hid.out (by assumption))).1⟩ (KX.out _ (Hid.out (by assumption))).2).mono ?_
            rintro e' w5 ⟨⟨bb, rfl, hbb⟩, hb1⟩
            have HBB := Lib.hid hbb
            clear hbb
            go_wp2_with fail
            refine hK.out _ _ ?_ (fun hHeld => ?_)
            · (try dsimp only)
              (go_split_ands; exact MK.out _ (Below.trans (Hid.out (by assumption)) (hb1.mono (Hid.out (by assumption) : Below wr.heap.size wr _).size)))
            clear hK K
            try simp only [Act.put, List.getElem_toArray, List.getElem_cons_succ, List.getElem_cons_zero, List.setIfInBounds_toArray, List.set_cons_zero, List.set_cons_succ]
            refine wpAnyH_take (i := 11) (v := ?val11x22) rfl (by kernel_rfl) (by kernel_rfl) (by kernel_rfl) (fun _ _ _ h => h) (Or.inl ⟨by rfl, fun w9 hS9 => ?yields11x22⟩) (by assumption) ?later11x22
            case yields11x22 =>
              dsimp only at hS9
              go_simp
              try with_reducible rfl
            try simp only [Act.put, List.getElem_toArray, List.getElem_cons_succ, List.getElem_cons_zero, List.setIfInBounds_toArray, List.set_cons_zero, List.set_cons_succ]
            refine wpAnyH_done (by kernel_rfl) ?_ _
            obtain ⟨-, -, -, -, -, HBR⟩ := hHeld
            clear HBd MK
            have HB2 := Lib.hid (HB.out.trans (HBR.out.mono HB.out.size))
            clear KX q0 q1 q2 q3 q4 QM QE HBR
            cases bb with
            | false =>
              go_wp2_with fail
              go_ret
              exact ⟨rfl, HB2.out⟩
            | true =>
              have HK := Lib.hid (HBB.out rfl)
              clear HBB
              go_wp2_with fail
              go_roundw
              case rel =>
                exact ⟨k + 1, by omega, by go_num, Lib.hid fun j hj => by
                  by_cases e : j = k
                  · subst e; exact HK.out
                  · exact Hn.out j (by omega), HB2⟩
              case measure => simp [intOf]; omega
          · obtain rfl : k = l.length := by omega
            have HM := Lib.hid (fun i (hi : i < l.length) => (show (lKpt l i).it.marks.length ≤ 1000000 ∧ (lKpt l i).evs.length ≤ 1000000 from ⟨by have := (Hn.out i hi).1; omega, by have := (Hn.out i hi).2; omega⟩))
            go_wp2_with fail
            refine (rCopyKept_any l A c a _ (HA.out.keep (Keep.below HB.out)) (by omega) HM.out).mono ?_
            rintro e' w6 ⟨⟨A5, c5, a5, rfl, h5⟩, hb1⟩
            have H5 := Lib.hid h5
            replace HB := Lib.hid (HB.out.trans (hb1.mono HB.out.size))
            clear h5 hb1
            go_wp2_with fail
            refine (xOverdue_any l A5 c5 a5 n _ H5.out (TBS.out.keep (Keep.below HB.out))).mono ?_
            rintro e' w7 ⟨⟨A6, c6, rfl, h6⟩, hb1⟩
            have H6 := Lib.hid h6
            replace HB := Lib.hid (HB.out.trans (hb1.mono HB.out.size))
            clear h6 hb1 H5
            go_wp2_with fail
            refine (rOverdue_any l A c a n _ (HA.out.keep (Keep.below HB.out))).mono ?_
            rintro e' w8 ⟨⟨A7, c7, rfl, h7⟩, hb1⟩
            have H7 := Lib.hid h7
            replace H6 := Lib.hid (H6.out.keep (Keep.below hb1))
            replace HB := Lib.hid (HB.out.trans (hb1.mono HB.out.size))
            clear h7 hb1
            have ee1 : ((ovErr l n) == (ovErr l n)) = true := by simp
            have ee1b : ((ovErr l n) != (ovErr l n)) = false := by simp
            go_wp2_with fail
            refine (oints_same (ovOut l n) A6 A7 c6 c7 _ H6.out H7.out).mono ?_
            rintro e' w9 ⟨rfl, hb1⟩
            replace HB := Lib.hid (HB.out.trans (hb1.mono HB.out.size))
            clear hb1
            go_wp2_with fail
            go_ret
            exact ⟨rfl, HB.out⟩
      · have d5 : decide ((l.length : Int) > 42) = true := decide_eq_true (by omega)
        have d6 : decide ((42 : Int) < (l.length : Int)) = true := decide_eq_true (by omega)
        go_wp2_with fail
        go_ret
        exact ⟨rfl, HW.out⟩
end Go.Proofs.YtfjdnbnalihjiaaGreatDoor
/- An argument as it comes reads as items with their events. No condition. -/
namespace Go.Proofs.YtfjdnbnalihjiaaGreatDoor
open Go.ChangeShapes Go.WideShapes Go.RowKit Go.Deep Fs

theorem Tryz.cellsKept : Tryz.prog.cellsOf 100 = 5 := by kernel_rfl
section
variable {H : Type} {enc : TypeId × Value → H} {w : World} {base : Nat} {spare : Nat → Bool} {held : Bool}
/-- An item with its events; where its marks lie, and its events. -/
structure KT where
  x : Kpt
  p : Option Addr
  pc : Nat
  q : Option Addr
  qc : Nat
def kt0 : KT := ⟨kpt0, none, 0, none, 0⟩
set_option maxRecDepth 100000 in
theorem openKept {r : Reach} {b0 : Nat} {v : Value} {d : DataW H} {p : List MemPlace} (hv : Value.okWide Tryz.prog w r b0 98 v) (h : DataW.Trod enc Tryz.prog w base spare held 98 v d p) : ∃ (l : List Kpt) (A : Option Addr) (c : Nat) (a : KA), v = .slice A l.length c ∧ ArrKp w A l c a := by
  obtain ⟨a, n, c, rfl⟩ := okWide_slice Tryz.underlying98 hv
  obtain ⟨fuel, hf⟩ := h
  have hf2 : DataW.trod enc Tryz.prog w base spare held fuel 98 [.slice a n c] = some (d, p) := by simpa [Value.cells] using hf
  obtain ⟨L, A, c, hv, ha, hr⟩ := openArr kt0 (fun u j => kptCells u.x u.p u.pc u.q u.qc j) (fun u => ArrMk w u.p u.x.it.marks u.pc ∧ ArrEv w u.q u.x.evs u.qc) Tryz.underlying98 Tryz.cellsKept (by decide) (fun n cs y hy => by
    have hl := (structLen Tryz.underlying100 hy).trans Tryz.cellsKept
    match cs, hl with
    | [v0, v1, v2, v3, v4], _ =>
      obtain ⟨y1, n1, g0⟩ := fieldCells Tryz.underlying100 hy 0 _ rfl
      have g1 : DataW.trod enc Tryz.prog w base spare held n1 24 (([v0, v1, v2, v3, v4].drop 0).take (Tryz.prog.cellsOf 24)) = some y1 := g0
      rw [Tryz.cellsItem] at g1
      have g2 : DataW.trod enc Tryz.prog w base spare held n1 24 [v0, v1, v2, v3] = some y1 := g1
      obtain ⟨u, hu, hm⟩ := cellsItem g2
      obtain ⟨y2, n2, k0⟩ := fieldCells Tryz.underlying100 hy 1 _ rfl
      have k1 : DataW.trod enc Tryz.prog w base spare held n2 86 (([v0, v1, v2, v3, v4].drop 4).take (Tryz.prog.cellsOf 86)) = some y2 := k0
      rw [Tryz.cellsEvents] at k1
      have k2 : DataW.trod enc Tryz.prog w base spare held n2 86 [v4] = some y2 := k1
      obtain ⟨E, Q, qc, rfl, hE⟩ := openEventsC k2
      injection hu with e0 hu; injection hu with e1 hu; injection hu with e2 hu; injection hu with e3 hu
      subst e0; subst e1; subst e2; subst e3
      refine ⟨⟨⟨u.1, E⟩, u.2.1, u.2.2, Q, qc⟩, ⟨hm, hE⟩, fun j hj => ?_⟩
      match j, hj with
      | 0, _ => rfl
      | 1, _ => rfl
      | 2, _ => rfl
      | 3, _ => rfl
      | 4, _ => rfl) hf2
  have hg : ∀ i, i < L.length → lKpt (L.map KT.x) i = (L.getD i kt0).x := fun i hi => by
    unfold lKpt
    rw [List.getD_eq_getElem?_getD, List.getD_eq_getElem?_getD, List.getElem?_map, List.getElem?_eq_getElem hi]
    rfl
  refine ⟨L.map KT.x, A, c, ⟨fun i => (L.getD i kt0).p, fun i => (L.getD i kt0).pc, fun i => (L.getD i kt0).q, fun i => (L.getD i kt0).qc⟩, by rw [hv, List.length_map], ⟨by rw [List.length_map]; exact ha.1, ha.2.1, fun hp => ?_⟩, fun i hi => ?_⟩
  · rw [List.length_map] at hp
    obtain ⟨b, o, e, hc⟩ := ha.2.2 hp
    refine ⟨b, o, e, fun i j hi hj => ?_⟩
    rw [List.length_map] at hi
    show _ = some (kptCells (lKpt (L.map KT.x) i) _ _ _ _ j)
    rw [hg i hi]
    exact hc i j hi hj
  · rw [List.length_map] at hi
    rw [hg i hi]
    exact hr i hi
end
end Go.Proofs.YtfjdnbnalihjiaaGreatDoor

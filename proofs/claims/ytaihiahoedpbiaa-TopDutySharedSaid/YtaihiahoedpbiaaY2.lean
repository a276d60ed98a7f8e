/- CheckPlates. No condition. -/
import Derived.Test.YtaihiahoedpbiaaY1
import Derived.Test.YtaihiahoedpbiaaD24
import Derived.Test.YtaihiahoedpbiaaX15c
import Derived.Test.YtaihiahoedpbiaaT14
import Derived.Sort.LotA
import Derived.Lib.OwnBridge
namespace Go.Proofs.Ytaihiahoedpbiaa
open Go.RowKit Fs

open Classical in
noncomputable def Fs.platesErr (l : List WRec) (P : List Int) (t : Int) : Int :=
  if P.length ≠ l.length then 10 else if fst (plateBad P) l.length ≠ 0 then 2 else if isClock t = false then 2
  else if ∃ i, i < l.length ∧ ∃ k, k < i ∧ plateClash l P i k then 13 else 0
theorem Fs.plateBad_two (P : List Int) (n : Nat) : fst (plateBad P) n = 0 ∨ fst (plateBad P) n = 2 := by
  by_cases h : ∃ k, k < n ∧ (∀ j, j < k → plateBad P j = 0) ∧ plateBad P k ≠ 0
  · obtain ⟨k, hk, h1, h2⟩ := h
    rw [(fst_hit hk h1 h2).1]
    unfold plateBad at h2 ⊢
    by_cases h3 : within (listI P k) 0 13 = true
    · rw [if_pos h3] at h2; exact absurd rfl h2
    · rw [if_neg h3]; exact Or.inr rfl
  · refine Or.inl (fst_none fun j hj => ?_)
    have key : ∀ j, j < n → plateBad P j = 0 := by
      intro j
      induction j using Nat.strongRecOn with
      | _ j ih =>
        intro hj
        by_cases h4 : plateBad P j = 0
        · exact h4
        · exact absurd ⟨j, hj, fun i hi => ih i hi (by omega), h4⟩ h
    exact key j hj
theorem Fs.check_bad {l : List WRec} {P : List Int} {t : Int} (h : platesErr l P t ≠ 0) : checkPlates l P t = (0, platesErr l P t) := by
  unfold platesErr at h ⊢
  by_cases h1 : P.length = l.length
  · rw [if_neg (fun hh => hh h1)] at h ⊢
    rcases plateBad_two P l.length with h2 | h2
    · rw [if_neg (fun hh => hh h2)] at h ⊢
      cases h3 : isClock t with
      | false => rw [if_pos rfl]; exact plate_time h1 h2 h3
      | true =>
        rw [h3, if_neg (by decide)] at h
        rw [if_neg (by decide)]
        by_cases h4 : ∃ i, i < l.length ∧ ∃ k, k < i ∧ plateClash l P i k
        · rw [if_pos h4]; exact plate_clash h1 h2 h3 h4
        · rw [if_neg h4] at h; exact absurd rfl h
    · rw [if_pos (by rw [h2]; decide)]; exact plate_bad h1 h2
  · rw [if_pos h1]; unfold checkPlates; rw [if_pos h1]
structure Fs.PlatesFine (l : List WRec) (P : List Int) (t : Int) : Prop where
  len : P.length = l.length
  bad : fst (plateBad P) l.length = 0
  clock : isClock t = true
  clash : ¬ ∃ i, i < l.length ∧ ∃ k, k < i ∧ plateClash l P i k
theorem Fs.check_fine {l : List WRec} {P : List Int} {t : Int} (h : platesErr l P t = 0) : PlatesFine l P t := by
  unfold platesErr at h
  by_cases h1 : P.length = l.length
  · rw [if_neg (fun hh => hh h1)] at h
    by_cases h2 : fst (plateBad P) l.length = 0
    · rw [if_neg (fun hh => hh h2)] at h
      cases h3 : isClock t with
      | false => rw [h3, if_pos rfl] at h; exact absurd h (by decide)
      | true =>
        rw [h3, if_neg (by decide)] at h
        by_cases h4 : ∃ i, i < l.length ∧ ∃ k, k < i ∧ plateClash l P i k
        · rw [if_pos h4] at h; exact absurd h (by decide)
        · exact ⟨h1, h2, h3, h4⟩
    · rw [if_pos h2] at h; exact absurd h (by decide)
  · rw [if_pos h1] at h; exact absurd h (by decide)
theorem PlatesIn.new (w : World) (A : Option Addr) (n c : Nat) (x : Int) (t : TypeId) : PlatesIn (w.alloc (.cells #[.slice A n c, .int .i64 x] t)) w.heap.size A n c x := ⟨cellNew _ _ _ 0, cellNew _ _ _ 1⟩
open Classical in
set_option linter.unusedSimpArgs false in
set_option maxHeartbeats 12800000 in
set_option maxRecDepth 100000 in
theorem xPlatesErr_any (l : List WRec) (A : Option Addr) (c : Nat) (P : List Int) (B : Option Addr) (cp : Nat) (t : Int) (w : World) (h : ArrW w A l c) (hP : ArrI w B P cp) :
    Calls Try.prog 123 #[.slice A l.length c, .agg #[.slice B P.length cp, .int .i64 t]] w fun e w' => e = .returned (.int .i64 (platesErr l P t)) ∧ Below w.heap.size w w' := by
  have b1 := h.le.1
  have b2 := h.le.2
  have p1 := hP.le.1
  have p2 := hP.le.2
  have HA := Lib.hid h
  have HP := Lib.hid hP
  clear h hP
  have BP := Lib.hid (PlatesIn.new w B P.length cp t 103)
  obtain ⟨gp, hgp⟩ : ∃ gp, gp = w.heap.size := ⟨_, rfl⟩
  go_enter Try.func123, Try.ntmps123
  go_upto_region 1 with fail
  rw [← hgp] at BP
  generalize hwb : w.alloc _ = wb at *
  have HW : Hid (Below w.heap.size w wb) := by rw [← hwb]; exact Lib.hid ((Below.refl _ _).alloc (Nat.le_refl _) _)
  clear hwb
  rw [← hgp]
  clear hgp
  replace HA := Lib.hid (HA.out.keep (Keep.below HW.out))
  replace HP := Lib.hid (HP.out.keep (Keep.below HW.out))
  obtain ⟨cg, ct⟩ := BP.out
  by_cases hlen : P.length = l.length
  · have HLEN := Lib.hid hlen
    have e1 : ((P.length : Int) == (l.length : Int)) = true := by simp; omega
    have e2 : ((P.length : Int) != (l.length : Int)) = false := by simp; omega
    have e3 : decide (P.length = l.length) = true := decide_eq_true hlen
    have F0 := Lib.hid (show platesErr l P t = if fst (plateBad P) l.length ≠ 0 then 2 else if isClock t = false then 2 else if ∃ i, i < l.length ∧ ∃ k, k < i ∧ plateClash l P i k then 13 else 0 from if_neg (fun hh => hh hlen))
    clear hlen
    go_wp2_with fail
    go_loop [20] (fun i => ∃ k : Nat, k ≤ P.length ∧ i = .int .i64 k ∧ Hid (∀ j, j < k → plateBad P j = 0)) (fun i => P.length - (intOf i).toNat)
    case atStart => exact ⟨0, Nat.zero_le _, rfl, Lib.hid fun j hj => absurd hj (Nat.not_lt_zero _)⟩
    case round =>
      obtain ⟨k, hk, rfl, Hn⟩ := hrel
      by_cases hlt : k < P.length
      · have hkn : (k : Int) < (P.length : Int) := by omega
        obtain ⟨pb, po, rfl, pk⟩ := HP.out.at_ hlt
        cases hw : within (listI P k) 0 13 with
        | false =>
          have F := Lib.hid (show platesErr l P t = 2 from F0.out.trans (if_pos (by rw [(fst_hit (f := plateBad P) (by rw [← HLEN.out]; exact hlt) Hn.out (by unfold plateBad; rw [hw]; decide)).1]; unfold plateBad; rw [hw]; decide)))
          have HWI := Lib.hid hw
          clear hw
          go_wp2_with fail
          refine (within_any _ _ _ _).mono ?_
          rintro e' wx ⟨rfl, rfl⟩
          rw [HWI.out]
          go_wp2_with fail
          go_ret
          exact ⟨ret_int F.out.symm, HW.out⟩
        | true =>
          have G := Lib.hid (show ∀ j, j < k + 1 → plateBad P j = 0 from fun j hj => by
            by_cases e : j = k
            · subst e; unfold plateBad; rw [hw]; rfl
            · exact Hn.out j (by omega))
          have HWI := Lib.hid hw
          clear hw
          go_wp2_with fail
          refine (within_any _ _ _ _).mono ?_
          rintro e' wx ⟨rfl, rfl⟩
          rw [HWI.out]
          go_wp2_with fail
          go_round
          case rel => exact ⟨k + 1, by omega, by go_num, G⟩
          case measure => simp [intOf]; omega
      · have F1 := Lib.hid (F0.out.trans (if_neg (fun hh => hh (fst_none fun j hj => Hn.out j (by have := HLEN.out; omega)))))
        cases hc : isClock t with
        | false =>
          have F := Lib.hid (F1.out.trans (if_pos hc))
          have HCI := Lib.hid hc
          clear hc
          go_wp2_with fail
          refine (xIsTime_any _ _).mono ?_
          rintro e' wx ⟨rfl, rfl⟩
          rw [HCI.out]
          go_wp2_with fail
          go_ret
          exact ⟨ret_int F.out.symm, HW.out⟩
        | true =>
          have F2 := Lib.hid (F1.out.trans (if_neg (by rw [hc]; decide)))
          have HCI := Lib.hid hc
          clear hc
          go_wp2_with fail
          refine (xIsTime_any _ _).mono ?_
          rintro e' wx ⟨rfl, rfl⟩
          rw [HCI.out]
          go_wp2_with fail
          go_loopw [34] (fun s wr => ∃ i : Nat, i ≤ l.length ∧ s = .int .i64 i ∧ Hid (∀ i', i' < i → ∀ k, k < i' → ¬ plateClash l P i' k) ∧ Hid (Below wb.heap.size wb wr)) (fun s _ => l.length - (intOf s).toNat)
          case atStart => exact ⟨0, Nat.zero_le _, rfl, Lib.hid fun j hj => absurd hj (Nat.not_lt_zero _), Lib.hid (Below.refl _ _)⟩
          case round =>
            obtain ⟨i, hi, rfl, Hi, HBi⟩ := hrel
            by_cases hil : i < l.length
            · have hin : (i : Int) < (l.length : Int) := by omega
              have hile : (i : Int) ≤ (l.length : Int) := by omega
              have hic : (i : Int) ≤ (c : Int) := by omega
              have hiw : IntKind.i64.wrap (i : Int) = (i : Int) := by rw [IntKind.wrap_i64]; omega
              obtain ⟨b, o, rfl, q0, q1, q2⟩ := (HA.out.keep (Keep.below HBi.out)).at_ hil
              have hbx := (Below.refl wr.heap.size wr).alloc (Nat.le_refl _) (.cells #[.string (listW l i).who, .int .i64 (listW l i).beg, .int .i64 (listW l i).fin] 113)
              have HBx := Lib.hid (HBi.out.trans (hbx.mono HBi.out.size))
              have HU := Lib.hid (show RecAt (wr.alloc (.cells #[.string (listW l i).who, .int .i64 (listW l i).beg, .int .i64 (listW l i).fin] 113)) wr.heap.size 0 (listW l i) from ⟨cellNew _ _ _ 0, cellNew _ _ _ 1, cellNew _ _ _ 2⟩)
              have HIL := Lib.hid hil
              clear hbx
              go_upto_region 14 with fail
              generalize hgi : wr.heap.size = gi at *
              generalize hwy : wr.alloc _ = wy at *
              clear hgi hwy q0 q1 q2
              go_wp2_with fail
              go_loopw [43] (fun s wr => ∃ j : Nat, j ≤ i ∧ s = .int .i64 j ∧ Hid (∀ k, k < j → ¬ plateClash l P i k) ∧ Hid (Below wy.heap.size wy wr)) (fun s _ => i - (intOf s).toNat)
              case atStart => exact ⟨0, Nat.zero_le _, rfl, Lib.hid fun j hj => absurd hj (Nat.not_lt_zero _), Lib.hid (Below.refl _ _)⟩
              case round =>
                obtain ⟨j, hj, rfl, Hj, HBj⟩ := hrel
                by_cases hjl : j < i
                · have hjn : (j : Int) < (i : Int) := by omega
                  have hjL : (j : Int) < (l.length : Int) := by omega
                  have hjP : (j : Int) < (P.length : Int) := by have := HLEN.out; omega
                  have hiP : (i : Int) < (P.length : Int) := by have := HLEN.out; omega
                  have hjw : IntKind.i64.wrap (j : Int) = (j : Int) := by rw [IntKind.wrap_i64]; omega
                  have HBz := Lib.hid (HBx.out.trans (HBj.out.mono HBx.out.size))
                  obtain ⟨b', o', e', q0, q1, q2⟩ := (HA.out.keep (Keep.below HBz.out)).at_ (k := j) (by have := HIL.out; omega)
                  obtain ⟨rfl, rfl⟩ : b = b' ∧ o = o' := by simpa using e'
                  clear e'
                  have hbx := (Below.refl wr.heap.size wr).alloc (Nat.le_refl _) (.cells #[.string (listW l j).who, .int .i64 (listW l j).beg, .int .i64 (listW l j).fin] 113)
                  have HBy := Lib.hid (HBz.out.trans (hbx.mono HBz.out.size))
                  have HBj2 := Lib.hid (HBj.out.trans (hbx.mono HBj.out.size))
                  have HV := Lib.hid (show RecAt (wr.alloc (.cells #[.string (listW l j).who, .int .i64 (listW l j).beg, .int .i64 (listW l j).fin] 113)) wr.heap.size 0 (listW l j) from ⟨cellNew _ _ _ 0, cellNew _ _ _ 1, cellNew _ _ _ 2⟩)
                  have HUz := Lib.hid ((HU.out.keep (Keep.below HBj.out)).keep (Keep.below hbx))
                  clear hbx
                  go_upto_region 17 with fail
                  generalize hgj : wr.heap.size = gj at *
                  generalize hwq : wr.alloc _ = wq at *
                  clear hgj hwq q0 q1 q2
                  obtain ⟨u0, u1, u2⟩ := HUz.out
                  obtain ⟨v0, v1, v2⟩ := HV.out
                  obtain ⟨cg, ct⟩ := BP.out.keep (Keep.below HBy.out)
                  obtain ⟨pb, po, rfl, pi⟩ := (HP.out.keep (Keep.below HBy.out)).at_ (k := i) (by have := HLEN.out; have := HIL.out; omega)
                  obtain ⟨pb', po', e', pj⟩ := (HP.out.keep (Keep.below HBy.out)).at_ (k := j) (by have := HLEN.out; have := HIL.out; omega)
                  obtain ⟨rfl, rfl⟩ : pb = pb' ∧ po = po' := by simpa using e'
                  clear e'
                  by_cases heq : listI P i = listI P j
                  · have d1 : (listI P i == listI P j) = true := by simpa using heq
                    have HEQ := Lib.hid heq
                    clear heq
                    go_wp2_with fail
                    have HBd : Hid (Below wq.heap.size wq wq.drew) := Lib.hid (Below.refl _ _).drew
                    have MK : Hid (∀ w', Below wq.heap.size wq w' → w'.cell? ⟨gp, 0, none⟩ = some (.slice (some ⟨pb, po, none⟩) P.length cp) ∧ w'.cell? ⟨pb, po + i, none⟩ = some (.int .i64 (listI P i)) ∧ w'.cell? ⟨pb, po + j, none⟩ = some (.int .i64 (listI P j)) ∧ w'.cell? ⟨gi, 0, none⟩ = some (.string (listW l i).who) ∧ w'.cell? ⟨gi, 1, none⟩ = some (.int .i64 (listW l i).beg) ∧ w'.cell? ⟨gi, 2, none⟩ = some (.int .i64 (listW l i).fin) ∧ w'.cell? ⟨gj, 0, none⟩ = some (.string (listW l j).who) ∧ w'.cell? ⟨gj, 1, none⟩ = some (.int .i64 (listW l j).beg) ∧ w'.cell? ⟨gj, 2, none⟩ = some (.int .i64 (listW l j).fin) ∧ Hid (Below wq.heap.size wq w')) :=
                      Lib.hid fun w' hw => ⟨Keep.below hw _ _ cg, Keep.below hw _ _ pi, Keep.below hw _ _ pj, Keep.below hw _ _ u0, Keep.below hw _ _ u1, Keep.below hw _ _ u2, Keep.below hw _ _ v0, Keep.below hw _ _ v1, Keep.below hw _ _ v2, Lib.hid hw⟩
                    refine wp_region_held_drew (S := fun w' => w'.cell? ⟨gp, 0, none⟩ = some (.slice (some ⟨pb, po, none⟩) P.length cp) ∧ w'.cell? ⟨pb, po + i, none⟩ = some (.int .i64 (listI P i)) ∧ w'.cell? ⟨pb, po + j, none⟩ = some (.int .i64 (listI P j)) ∧ w'.cell? ⟨gi, 0, none⟩ = some (.string (listW l i).who) ∧ w'.cell? ⟨gi, 1, none⟩ = some (.int .i64 (listW l i).beg) ∧ w'.cell? ⟨gi, 2, none⟩ = some (.int .i64 (listW l i).fin) ∧ w'.cell? ⟨gj, 0, none⟩ = some (.string (listW l j).who) ∧ w'.cell? ⟨gj, 1, none⟩ = some (.int .i64 (listW l j).beg) ∧ w'.cell? ⟨gj, 2, none⟩ = some (.int .i64 (listW l j).fin) ∧ Hid (Below wq.heap.size wq w')) (by kernel_rfl) (MK.out _ HBd.out) (fun hHeld => ?_)
                    refine wpAnyH_take (i := 0) (v := ?val0x19) rfl (by kernel_rfl) (by kernel_rfl) (by kernel_rfl) (fun _ _ _ h => h) (Or.inl ⟨by rfl, fun w9 hS9 => ?yields0x19⟩) (by assumption) ?later0x19
                    case yields0x19 =>
                      dsimp only at hS9
                      go_simp
                      try with_reducible rfl
                    try simp only [Act.put, List.getElem_toArray, List.getElem_cons_succ, List.getElem_cons_zero, List.setIfInBounds_toArray, List.set_cons_zero, List.set_cons_succ]
                    refine wpAnyH_take (i := 1) (v := ?val1x20) rfl (by kernel_rfl) (by kernel_rfl) (by kernel_rfl) (fun _ _ _ h => h) (Or.inl ⟨by rfl, fun w9 hS9 => ?yields1x20⟩) (by assumption) ?later1x20
                    case yields1x20 =>
                      dsimp only at hS9
                      go_simp
                      try with_reducible rfl
                    try simp only [Act.put, List.getElem_toArray, List.getElem_cons_succ, List.getElem_cons_zero, List.setIfInBounds_toArray, List.set_cons_zero, List.set_cons_succ]
                    refine wpAnyH_take (i := 2) (v := ?val2x21) rfl (by kernel_rfl) (by kernel_rfl) (by kernel_rfl) (fun _ _ _ h => h) (Or.inl ⟨by rfl, fun w9 hS9 => ?yields2x21⟩) (by assumption) ?later2x21
                    case yields2x21 =>
                      dsimp only at hS9
                      go_simp
                      try with_reducible rfl
                    try simp only [Act.put, List.getElem_toArray, List.getElem_cons_succ, List.getElem_cons_zero, List.setIfInBounds_toArray, List.set_cons_zero, List.set_cons_succ]
                    refine wpAnyH_take (i := 3) (v := ?val3x22) rfl (by kernel_rfl) (by kernel_rfl) (by kernel_rfl) (fun _ _ _ h => h) (Or.inl ⟨by rfl, fun w9 hS9 => ?yields3x22⟩) (by assumption) ?later3x22
                    case yields3x22 =>
                      dsimp only at hS9
                      go_simp
                      try with_reducible rfl
                    try simp only [Act.put, List.getElem_toArray, List.getElem_cons_succ, List.getElem_cons_zero, List.setIfInBounds_toArray, List.set_cons_zero, List.set_cons_succ]
                    refine wpAnyH_take (i := 4) (v := ?val4x23) rfl (by kernel_rfl) (by kernel_rfl) (by kernel_rfl) (fun _ _ _ h => h) (Or.inl ⟨by rfl, fun w9 hS9 => ?yields4x23⟩) (by assumption) ?later4x23
                    case yields4x23 =>
                      dsimp only at hS9
                      go_simp
                      try with_reducible rfl
                    try simp only [Act.put, List.getElem_toArray, List.getElem_cons_succ, List.getElem_cons_zero, List.setIfInBounds_toArray, List.set_cons_zero, List.set_cons_succ]
                    refine wpAnyH_take (i := 5) (v := ?val5x24) rfl (by kernel_rfl) (by kernel_rfl) (by kernel_rfl) (fun _ _ _ h => h) (Or.inl ⟨by rfl, fun w9 hS9 => ?yields5x24⟩) (by assumption) ?later5x24
                    case yields5x24 =>
                      dsimp only at hS9
                      go_simp
                      try with_reducible rfl
                    try simp only [Act.put, List.getElem_toArray, List.getElem_cons_succ, List.getElem_cons_zero, List.setIfInBounds_toArray, List.set_cons_zero, List.set_cons_succ]
                    refine wpAnyH_take (i := 6) (v := ?val6x25) rfl (by kernel_rfl) (by kernel_rfl) (by kernel_rfl) (fun _ _ _ h => h) (Or.inl ⟨by rfl, fun w9 hS9 => ?yields6x25⟩) (by assumption) ?later6x25
                    case yields6x25 =>
                      dsimp only at hS9
                      go_simp
                      try with_reducible rfl
                    try simp only [Act.put, List.getElem_toArray, List.getElem_cons_succ, List.getElem_cons_zero, List.setIfInBounds_toArray, List.set_cons_zero, List.set_cons_succ]
                    refine wpAnyH_take (i := 7) (v := ?val7x26) rfl (by kernel_rfl) (by kernel_rfl) (by kernel_rfl) (fun _ _ _ h => h) (Or.inl ⟨by rfl, fun w9 hS9 => ?yields7x26⟩) (by assumption) ?later7x26
                    case yields7x26 =>
                      dsimp only at hS9
                      go_simp
                      try with_reducible rfl
                    try simp only [Act.put, List.getElem_toArray, List.getElem_cons_succ, List.getElem_cons_zero, List.setIfInBounds_toArray, List.set_cons_zero, List.set_cons_succ]
                    refine wpAnyH_take (i := 8) (v := ?val8x27) rfl (by kernel_rfl) (by kernel_rfl) (by kernel_rfl) (fun _ _ _ h => h) (Or.inl ⟨by rfl, fun w9 hS9 => ?yields8x27⟩) (by assumption) ?later8x27
                    case yields8x27 =>
                      dsimp only at hS9
                      go_simp
                      try with_reducible rfl
                    try simp only [Act.put, List.getElem_toArray, List.getElem_cons_succ, List.getElem_cons_zero, List.setIfInBounds_toArray, List.set_cons_zero, List.set_cons_succ]
                    refine wpAnyH_take (i := 9) (v := ?val9x28) rfl (by kernel_rfl) (by kernel_rfl) (by kernel_rfl) (fun _ _ _ h => h) (Or.inl ⟨by rfl, fun w9 hS9 => ?yields9x28⟩) (by assumption) ?later9x28
                    case yields9x28 =>
                      dsimp only at hS9
                      go_simp
                      try with_reducible rfl
                    try simp only [Act.put, List.getElem_toArray, List.getElem_cons_succ, List.getElem_cons_zero, List.setIfInBounds_toArray, List.set_cons_zero, List.set_cons_succ]
                    refine wpAnyH_take (i := 10) (v := ?val10x29) rfl (by kernel_rfl) (by kernel_rfl) (by kernel_rfl) (fun _ _ _ h => h) (Or.inl ⟨by rfl, fun w9 hS9 => ?yields10x29⟩) (by assumption) ?later10x29
                    case yields10x29 =>
                      dsimp only at hS9
                      go_simp
                      try with_reducible rfl
                    try simp only [Act.put, List.getElem_toArray, List.getElem_cons_succ, List.getElem_cons_zero, List.setIfInBounds_toArray, List.set_cons_zero, List.set_cons_succ]
                    refine wpAnyH_take (i := 11) (v := ?val11x30) rfl (by kernel_rfl) (by kernel_rfl) (by kernel_rfl) (fun _ _ _ h => h) (Or.inl ⟨by rfl, fun w9 hS9 => ?yields11x30⟩) (by assumption) ?later11x30
                    case yields11x30 =>
                      dsimp only at hS9
                      go_simp
                      try with_reducible rfl
                    try simp only [Act.put, List.getElem_toArray, List.getElem_cons_succ, List.getElem_cons_zero, List.setIfInBounds_toArray, List.set_cons_zero, List.set_cons_succ]
                    refine wpAnyH_take (i := 12) (v := ?val12x31) rfl (by kernel_rfl) (by kernel_rfl) (by kernel_rfl) (fun _ _ _ h => h) (Or.inl ⟨by rfl, fun w9 hS9 => ?yields12x31⟩) (by assumption) ?later12x31
                    case yields12x31 =>
                      dsimp only at hS9
                      go_simp
                      try with_reducible rfl
                    try simp only [Act.put, List.getElem_toArray, List.getElem_cons_succ, List.getElem_cons_zero, List.setIfInBounds_toArray, List.set_cons_zero, List.set_cons_succ]
                    refine wpAnyH_take (i := 13) (v := ?val13x32) rfl (by kernel_rfl) (by kernel_rfl) (by kernel_rfl) (fun _ _ _ h => h) (Or.inl ⟨by rfl, fun w9 hS9 => ?yields13x32⟩) (by assumption) ?later13x32
                    case yields13x32 =>
                      dsimp only at hS9
                      go_simp
                      try with_reducible rfl
                    try simp only [Act.put, List.getElem_toArray, List.getElem_cons_succ, List.getElem_cons_zero, List.setIfInBounds_toArray, List.set_cons_zero, List.set_cons_succ]
                    refine wpAnyH_ready (rs := [14]) (by kernel_rfl) (by simp) ?_
                    refine AllReadyH.cons rfl (fun K hK => ?_) AllReadyH.nil
                    go_simp
                    go_at_call 155
                    go_split_ands
                    refine (xOverlap_any (listW l i) (listW l j) _).mono ?_
                    rintro e' w5 ⟨rfl, hb1⟩
                    go_wp2_with fail
                    refine hK.out _ _ ?_ (fun hHeld => ?_)
                    · (try dsimp only)
                      (go_split_ands; exact MK.out _ (Below.trans (Hid.out (by assumption)) (hb1.mono (Hid.out (by assumption) : Below wq.heap.size wq _).size)))
                    clear hK K
                    try simp only [Act.put, List.getElem_toArray, List.getElem_cons_succ, List.getElem_cons_zero, List.setIfInBounds_toArray, List.set_cons_zero, List.set_cons_succ]
                    refine wpAnyH_take (i := 15) (v := ?val15x33) rfl (by kernel_rfl) (by kernel_rfl) (by kernel_rfl) (fun _ _ _ h => h) (Or.inl ⟨by rfl, fun w9 hS9 => ?yields15x33⟩) (by assumption) ?later15x33
                    case yields15x33 =>
                      dsimp only at hS9
                      go_simp
                      try with_reducible rfl
                    try simp only [Act.put, List.getElem_toArray, List.getElem_cons_succ, List.getElem_cons_zero, List.setIfInBounds_toArray, List.set_cons_zero, List.set_cons_succ]
                    refine wpAnyH_done (by kernel_rfl) ?_ _
                    obtain ⟨-, -, -, -, -, -, -, -, -, HB7⟩ := hHeld
                    clear HBd MK
                    cases hov : overlapB (listW l i) (listW l j) with
                    | true =>
                      have F := Lib.hid (F2.out.trans (if_pos ⟨i, HIL.out, j, hjl, hov, HEQ.out⟩))
                      clear hov
                      go_wp2_with fail
                      go_ret
                      exact ⟨ret_int F.out.symm, HW.out.trans ((HBy.out.trans (HB7.out.mono HBy.out.size)).mono HW.out.size)⟩
                    | false =>
                      have G := Lib.hid (show ∀ k, k < j + 1 → ¬ plateClash l P i k from fun k hk => by
                        by_cases e : k = j
                        · subst e; exact fun hh => by have h9 := hh.1; rw [hov] at h9; cases h9
                        · exact Hj.out k (by omega))
                      clear hov
                      go_wp2_with fail
                      go_roundw
                      case rel => exact ⟨j + 1, by omega, by go_num, G, Lib.hid (HBj2.out.trans (HB7.out.mono HBj2.out.size))⟩
                      case measure => simp [intOf]; omega
                  · have d1 : (listI P i == listI P j) = false := by simpa using heq
                    have G := Lib.hid (show ∀ k, k < j + 1 → ¬ plateClash l P i k from fun k hk => by
                      by_cases e : k = j
                      · subst e; exact fun hh => heq hh.2
                      · exact Hj.out k (by omega))
                    clear heq
                    go_wp2_with fail
                    go_quiet (fail)
                    go_wp2_with fail
                    go_roundw
                    case rel => exact ⟨j + 1, by omega, by go_num, G, Lib.hid (bdrewN HBj2.out _)⟩
                    case measure => simp [intOf]; omega
                · have G := Lib.hid (show ∀ i', i' < i + 1 → ∀ k, k < i' → ¬ plateClash l P i' k from fun i' hi' k hk => by
                    by_cases e : i' = i
                    · subst e; exact Hj.out k (by omega)
                    · exact Hi.out i' (by omega) k hk)
                  go_wp2_with fail
                  go_roundw
                  case rel => exact ⟨i + 1, by omega, by go_num, G, Lib.hid (HBx.out.trans (HBj.out.mono HBx.out.size))⟩
                  case measure => simp [intOf]; omega
            · have F := Lib.hid (F2.out.trans (if_neg (fun ⟨i', h1, k', h2, h3⟩ => Hi.out i' (by omega) k' h2 h3)))
              go_wp2_with fail
              go_ret
              exact ⟨ret_int F.out.symm, HW.out.trans (HBi.out.mono HW.out.size)⟩
  · have F := Lib.hid (show platesErr l P t = 10 from if_pos hlen)
    have e1 : ((P.length : Int) == (l.length : Int)) = false := by simp; omega
    have e2 : ((P.length : Int) != (l.length : Int)) = true := by simp; omega
    have e3 : decide (P.length = l.length) = false := decide_eq_false hlen
    go_wp2_with fail
    go_ret
    exact ⟨ret_int F.out.symm, HW.out⟩
end Go.Proofs.Ytaihiahoedpbiaa
/- CheckPlates. No condition. -/
namespace Go.Proofs.Ytaihiahoedpbiaa
open Go.RowKit Fs

theorem xuse_span {l : List WRec} {k : Nat} (h : useBad l k = 0) : isName (listW l k).who = true ∧ spanErr (listW l k).beg (listW l k).fin = 0 ∧ ¬ ∃ i, i < k ∧ clashAt l k i := by
  unfold useBad at h
  cases hn : isName (listW l k).who with
  | false => rw [hn, if_pos rfl] at h; exact absurd h (by decide)
  | true =>
    rw [hn, if_neg (by decide)] at h
    by_cases h1 : spanErr (listW l k).beg (listW l k).fin = 0
    · rw [if_neg (fun hh => hh h1)] at h
      by_cases h2 : ∃ i, i < k ∧ clashAt l k i
      · rw [if_pos h2] at h; exact absurd h (by decide)
      · exact ⟨rfl, h1, h2⟩
    · rw [if_pos h1] at h; exact absurd h h1
theorem xuses_fine {l : List WRec} (h : usesErr l = 0) : l.length ≤ 14 ∧ ∀ k, k < l.length → useBad l k = 0 := by
  unfold usesErr at h
  by_cases h0 : 14 < l.length
  · rw [if_pos h0] at h; exact absurd h (by decide)
  · rw [if_neg h0] at h; exact ⟨by omega, fst_zero h⟩
theorem xuses_small {l : List WRec} (h : usesErr l = 0) : SmallU l :=
  ⟨by have := (xuses_fine h).1; omega, fun i hi => spanErr_ok (xuse_span ((xuses_fine h).2 i hi)).2.1⟩
theorem Fs.plates_wrong {l : List WRec} {P : List Int} {t : Int} (h : (if usesErr l ≠ 0 then usesErr l else platesErr l P t) ≠ 0) : platesOut l P t = (0, if usesErr l ≠ 0 then usesErr l else platesErr l P t) := by
  unfold platesOut
  by_cases h1 : usesErr l = 0
  · rw [if_neg (fun hh => hh h1)] at h
    rw [if_neg (fun hh => hh h1), if_neg (fun hh => hh h1)]
    exact check_bad h
  · rw [if_pos h1, if_pos h1]
theorem Fs.plates_right {l : List WRec} {P : List Int} {t : Int} (h : (if usesErr l ≠ 0 then usesErr l else platesErr l P t) = 0) : usesErr l = 0 ∧ PlatesFine l P t ∧ platesOut l P t = if atTo l t l.length ≠ countTo P l.length then (0, 20) else (countTo P l.length, 0) := by
  by_cases h1 : usesErr l = 0
  · rw [if_neg (fun hh => hh h1)] at h
    have h2 := check_fine h
    exact ⟨h1, h2, by unfold platesOut; rw [if_neg (fun hh => hh h1)]; exact plate_fine h2.len h2.bad h2.clock h2.clash⟩
  · rw [if_pos h1] at h; exact absurd h h1
theorem Fs.countTo_is {P : List Int} (h : ∀ i, i < P.length → 0 ≤ listI P i ∧ listI P i ≤ 13) : ∀ k, k ≤ P.length → 0 ≤ countTo P k ∧ countTo P k ≤ 14
  | 0, _ => ⟨Int.le_refl _, show (0 : Int) ≤ 14 by decide⟩
  | k + 1, hk => by
    have ih := countTo_is h k (by omega)
    have := h k (by omega)
    rw [countTo]
    omega
set_option linter.unusedSimpArgs false in
set_option maxHeartbeats 12800000 in
set_option maxRecDepth 100000 in
theorem xCheckPlates_any (l : List WRec) (A : Option Addr) (c : Nat) (P : List Int) (B : Option Addr) (cp : Nat) (t : Int) (w : World) (h : ArrW w A l c) (hP : ArrI w B P cp) :
    Calls Try.prog 66 #[.slice A l.length c, .agg #[.slice B P.length cp, .int .i64 t]] w fun e w' => e = .returned (.tuple #[.int .i64 (platesOut l P t).1, .int .i64 (platesOut l P t).2]) ∧ Below w.heap.size w w' := by
  have b1 := h.le.1
  have b2 := h.le.2
  have p1 := hP.le.1
  have p2 := hP.le.2
  have HA := Lib.hid h
  have HP := Lib.hid hP
  clear h hP
  have BP := Lib.hid (PlatesIn.new w B P.length cp t 103)
  go_enter Try.func66, Try.ntmps66
  go_upto_region 1 with fail
  generalize hwb : w.alloc _ = wb at *
  have HW : Hid (Below w.heap.size w wb) := by rw [← hwb]; exact Lib.hid ((Below.refl _ _).alloc (Nat.le_refl _) _)
  clear hwb
  replace HA := Lib.hid (HA.out.keep (Keep.below HW.out))
  replace HP := Lib.hid (HP.out.keep (Keep.below HW.out))
  obtain ⟨cg, ct⟩ := BP.out
  obtain ⟨E, hE0⟩ : ∃ E, E = (if usesErr l ≠ 0 then usesErr l else platesErr l P t) := ⟨_, rfl⟩
  have HE0 := Lib.hid hE0
  clear hE0
  go_wp2_with fail
  have HBd : Hid (Below wb.heap.size wb wb.drew) := Lib.hid (Below.refl _ _).drew
  have MK : Hid (∀ w', Below wb.heap.size wb w' → w'.cell? ⟨w.heap.size, 0, none⟩ = some (.slice B P.length cp) ∧ w'.cell? ⟨w.heap.size, 1, none⟩ = some (.int .i64 t) ∧ Hid (Below wb.heap.size wb w')) :=
    Lib.hid fun w' hw => ⟨Keep.below hw _ _ cg, Keep.below hw _ _ ct, Lib.hid hw⟩
  have KA : Hid (∀ w', Below wb.heap.size wb w' → ArrW w' A l c) := Lib.hid fun w' hw => (HA.out.keep (Keep.below hw))
  have KP : Hid (∀ w', Below wb.heap.size wb w' → ArrI w' B P cp) := Lib.hid fun w' hw => (HP.out.keep (Keep.below hw))
  refine wp_region_held_drew (S := fun w' => w'.cell? ⟨w.heap.size, 0, none⟩ = some (.slice B P.length cp) ∧ w'.cell? ⟨w.heap.size, 1, none⟩ = some (.int .i64 t) ∧ Hid (Below wb.heap.size wb w')) (by kernel_rfl) (MK.out _ HBd.out) (fun hHeld => ?_)
  refine wpAnyH_take (i := 0) (v := ?val0x19) rfl (by kernel_rfl) (by kernel_rfl) (by kernel_rfl) (fun _ _ _ h => h) (Or.inl ⟨by rfl, fun w9 hS9 => ?yields0x19⟩) (by assumption) ?later0x19
  case yields0x19 =>
    dsimp only at hS9
    go_simp
    try with_reducible rfl
  try simp only [Act.put, List.getElem_toArray, List.getElem_cons_succ, List.getElem_cons_zero, List.setIfInBounds_toArray, List.set_cons_zero, List.set_cons_succ]
  refine wpAnyH_take (i := 2) (v := ?val2x20) rfl (by kernel_rfl) (by kernel_rfl) (by kernel_rfl) (fun _ _ _ h => h) (Or.inl ⟨by rfl, fun w9 hS9 => ?yields2x20⟩) (by assumption) ?later2x20
  case yields2x20 =>
    dsimp only at hS9
    go_simp
    try with_reducible rfl
  try simp only [Act.put, List.getElem_toArray, List.getElem_cons_succ, List.getElem_cons_zero, List.setIfInBounds_toArray, List.set_cons_zero, List.set_cons_succ]
  refine wpAnyH_take (i := 3) (v := ?val3x21) rfl (by kernel_rfl) (by kernel_rfl) (by kernel_rfl) (fun _ _ _ h => h) (Or.inl ⟨by rfl, fun w9 hS9 => ?yields3x21⟩) (by assumption) ?later3x21
  case yields3x21 =>
    dsimp only at hS9
    go_simp
    try with_reducible rfl
  try simp only [Act.put, List.getElem_toArray, List.getElem_cons_succ, List.getElem_cons_zero, List.setIfInBounds_toArray, List.set_cons_zero, List.set_cons_succ]
  refine wpAnyH_ready (rs := [1]) (by kernel_rfl) (by simp) ?_
  refine AllReadyH.cons rfl (fun K hK => ?_) AllReadyH.nil
  go_simp
  go_at_call 120
  go_split_ands
  refine (xUsesErr_any l A c _ (KA.out _ (Hid.out (by assumption)))).mono ?_
  rintro e' w5 ⟨rfl, hb1⟩
  go_wp2_with fail
  refine hK.out _ _ ?_ (fun hHeld => ?_)
  · (try dsimp only)
    (go_split_ands; exact MK.out _ (Below.trans (Hid.out (by assumption)) (hb1.mono (Hid.out (by assumption) : Below wb.heap.size wb _).size)))
  clear hK K
  try simp only [Act.put, List.getElem_toArray, List.getElem_cons_succ, List.getElem_cons_zero, List.setIfInBounds_toArray, List.set_cons_zero, List.set_cons_succ]
  refine wpAnyH_ready (rs := [4]) (by kernel_rfl) (by simp) ?_
  refine AllReadyH.cons rfl (fun K hK => ?_) AllReadyH.nil
  go_simp
  go_at_call 123
  go_split_ands
  refine (xPlatesErr_any l A c P B cp t _ (KA.out _ (Hid.out (by assumption))) (KP.out _ (Hid.out (by assumption)))).mono ?_
  rintro e' w6 ⟨rfl, hb1⟩
  go_wp2_with fail
  refine hK.out _ _ ?_ (fun hHeld => ?_)
  · (try dsimp only)
    (go_split_ands; exact MK.out _ (Below.trans (Hid.out (by assumption)) (hb1.mono (Hid.out (by assumption) : Below wb.heap.size wb _).size)))
  clear hK K
  try simp only [Act.put, List.getElem_toArray, List.getElem_cons_succ, List.getElem_cons_zero, List.setIfInBounds_toArray, List.set_cons_zero, List.set_cons_succ]
  refine wpAnyH_ready (rs := [5]) (by kernel_rfl) (by simp) ?_
  refine AllReadyH.cons rfl (fun K hK => ?_) AllReadyH.nil
  go_simp
  obtain ⟨-, -, HBX⟩ := hHeld
  have HL := Lib.hid (arr2New w6 (usesErr l) (platesErr l P t) 28)
  refine hK.out _ _ (MK.out _ (HBX.out.alloc HBX.out.size _)) (fun hHeld => ?_)
  try simp only [Act.put, List.getElem_toArray, List.getElem_cons_succ, List.getElem_cons_zero, List.setIfInBounds_toArray, List.set_cons_zero, List.set_cons_succ]
  clear HBX hK K
  generalize hyy : World.alloc w6 _ = y1 at *
  clear hyy
  refine wpAnyH_ready (rs := [6]) (by kernel_rfl) (by simp) ?_
  refine AllReadyH.cons rfl (fun K hK => ?_) AllReadyH.nil
  go_simp
  go_at_call 78
  refine (firstError_any [usesErr l, platesErr l P t] _ _ _ HL.out).mono ?_
  rintro e' wx ⟨rfl, rfl⟩
  rw [show [usesErr l, platesErr l P t].length = 2 from rfl, fst_two, ← HE0.out]
  go_wp2_with fail
  refine hK.out _ _ ?_ (fun hHeld => ?_)
  · (try dsimp only)
    exact hHeld
  clear hK K
  try simp only [Act.put, List.getElem_toArray, List.getElem_cons_succ, List.getElem_cons_zero, List.setIfInBounds_toArray, List.set_cons_zero, List.set_cons_succ]
  refine wpAnyH_take (i := 7) (v := ?val7x22) rfl (by kernel_rfl) (by kernel_rfl) (by kernel_rfl) (fun _ _ _ h => h) (Or.inl ⟨by rfl, fun w9 hS9 => ?yields7x22⟩) (by assumption) ?later7x22
  case yields7x22 =>
    dsimp only at hS9
    go_simp
    try with_reducible rfl
  try simp only [Act.put, List.getElem_toArray, List.getElem_cons_succ, List.getElem_cons_zero, List.setIfInBounds_toArray, List.set_cons_zero, List.set_cons_succ]
  refine wpAnyH_done (by kernel_rfl) ?_ _
  obtain ⟨-, -, HB⟩ := hHeld
  clear HBd MK KA KP HL cg ct
  replace BP := Lib.hid (BP.out.keep (Keep.below HB.out))
  replace HA := Lib.hid (HA.out.keep (Keep.below HB.out))
  replace HP := Lib.hid (HP.out.keep (Keep.below HB.out))
  replace HW := Lib.hid (HW.out.trans (HB.out.mono HW.out.size))
  clear HB
  obtain ⟨cg, ct⟩ := BP.out
  have hE := HE0.out
  by_cases he : E = 0
  · obtain ⟨hu, hf, ho⟩ := plates_right (show (if usesErr l ≠ 0 then usesErr l else platesErr l P t) = 0 by rw [← hE]; exact he)
    have HSM := Lib.hid (xuses_small hu)
    have HO := Lib.hid ho
    have HLEN := Lib.hid hf.len
    have HPB := Lib.hid (show ∀ i, i < P.length → 0 ≤ listI P i ∧ listI P i ≤ 13 from fun i hi => by
      have h9 := fst_zero hf.bad i (by rw [← hf.len]; exact hi)
      unfold plateBad at h9
      by_cases h8 : within (listI P i) 0 13 = true
      · exact Fs.within_iff.1 h8
      · rw [if_neg h8] at h9; exact absurd h9 (by decide))
    rw [he]
    clear he hE hu hf ho
    go_wp2_with fail
    go_loop [7, 23] (fun u i => ∃ k : Nat, k ≤ P.length ∧ u = .int .i64 (countTo P k) ∧ i = .int .i64 k) (fun _ i => P.length - (intOf i).toNat)
    case atStart => exact ⟨0, Nat.zero_le _, rfl, rfl⟩
    case round =>
      obtain ⟨k, hk, rfl, rfl⟩ := hrel
      have hc := countTo_is HPB.out k hk
      by_cases hlt : k < P.length
      · have hkn : (k : Int) < (P.length : Int) := by omega
        obtain ⟨pb, po, rfl, pk⟩ := HP.out.at_ hlt
        have hx := HPB.out k hlt
        have F := Lib.hid (show countTo P (k + 1) = max (countTo P k) (listI P k + 1) from rfl)
        have hw1 : IntKind.i64.wrap (listI P k + 1) = listI P k + 1 := by rw [IntKind.wrap_i64]; omega
        go_wp2_with fail
        rw [← F.out]
        go_round
        case rel => exact ⟨k + 1, by omega, rfl, by go_num⟩
        case measure => simp [intOf]; omega
      · obtain rfl : k = P.length := by omega
        have HQ := Lib.hid (show countTo P P.length = countTo P l.length by rw [HLEN.out])
        obtain ⟨X, hX⟩ : ∃ X, X = countTo P P.length := ⟨_, rfl⟩
        obtain ⟨Y, hY⟩ : ∃ Y, Y = atTo l t l.length := ⟨_, rfl⟩
        rw [← hX]
        have HXX := Lib.hid (show countTo P l.length = X by rw [hX, HQ.out])
        have HYY := Lib.hid hY.symm
        clear hX hY hc
        go_wp2_with fail
        refine (xUsesAt_any l A c t _ HA.out HSM.out).mono ?_
        rintro e' w9 ⟨rfl, hb1⟩
        rw [HYY.out]
        by_cases hq : Y = X
        · have F := Lib.hid (show platesOut l P t = (X, 0) by rw [HO.out, HXX.out, HYY.out, if_neg (fun hh => hh hq)])
          have e1 : (Y == X) = true := by simpa using hq
          have e2 : (Y != X) = false := by simpa using hq
          clear hq
          go_wp2_with fail
          refine bodyPost_ret (v := .tuple #[.int .i64 X, .int .i64 0]) (by simp [results, Try.results66, go_sem]) rfl ⟨by rw [F.out], HW.out.trans (hb1.mono HW.out.size)⟩
        · have F := Lib.hid (show platesOut l P t = (0, 20) by rw [HO.out, HXX.out, HYY.out, if_pos hq])
          have e1 : (Y == X) = false := by simpa using hq
          have e2 : (Y != X) = true := by simpa using hq
          clear hq
          go_wp2_with fail
          refine bodyPost_ret (v := .tuple #[.int .i64 0, .int .i64 20]) (by simp [results, Try.results66, go_sem]) rfl ⟨by rw [F.out], HW.out.trans (hb1.mono HW.out.size)⟩
  · have ho := plates_wrong (show (if usesErr l ≠ 0 then usesErr l else platesErr l P t) ≠ 0 by rw [← hE]; exact he)
    rw [← hE] at ho
    have F := Lib.hid ho
    have e1 : (E != 0) = true := by simpa using he
    have e2 : (E == 0) = false := by simpa using he
    clear he hE ho
    go_wp2_with fail
    refine bodyPost_ret (v := .tuple #[.int .i64 0, .int .i64 E]) (by simp [results, Try.results66, go_sem]) rfl ⟨by rw [F.out], HW.out⟩
end Go.Proofs.Ytaihiahoedpbiaa
/- Uses by their beginnings. Condition: there are at most fourteen. -/
namespace Go.Proofs.Ytaihiahoedpbiaa
open Go.RowKit Fs

set_option linter.unusedSimpArgs false in
set_option maxHeartbeats 800000 in
theorem xByFrom_any (l : List WRec) (A : Option Addr) (c g i j : Nat) (w : World) (hg : w.cell? ⟨g, 0, none⟩ = some (.slice A l.length c)) (h : ArrW w A l c) (hi : i < l.length) (hj : j < l.length) :
    Calls Try.prog 157 #[.int .i64 i, .int .i64 j, .pointer (some ⟨g, 0, none⟩)] w fun e w' => e = .returned (.int .i64 (cmpI (listW l i).beg (listW l j).beg)) ∧ ∃ q, w' = w.drewN q := by
  have b1 := h.le.1
  have b2 := h.le.2
  have hin : (i : Int) < (l.length : Int) := by omega
  have hjn : (j : Int) < (l.length : Int) := by omega
  obtain ⟨b, o, rfl, q, r⟩ := h.two hi hj
  obtain ⟨q0, q1, q2⟩ := q
  obtain ⟨r0, r1, r2⟩ := r
  clear h hi hj
  go_enter Try.func157, Try.ntmps157
  go_wp2_with fail
  go_quiet ((go_at_call 99; exact Calls.quiet_of_same ((xCompare_any _ _ _).mono fun _ _ h => ⟨h.1, h.2.symm⟩)))
  go_wp2_with fail
  go_ret
  exact ⟨rfl, _, rfl⟩
theorem xStable_any (n c : Nat) (p : Option Addr) (f : Value) (w : World) (R : Ending → World → Prop) (hn : n ≤ 14)
    (h : Calls Try.prog 191 #[.slice p n c, .int .i64 0, .int .i64 n, f] w fun e w' => e = .returned (.tuple #[]) ∧ R e w') :
    Calls Try.prog 177 #[.slice p n c, .int .i64 n, f] w fun e w' => e = .returned (.tuple #[]) ∧ R e w' := by
  have HH := Lib.hid h
  clear h
  have e1 : ¬ (20 : Int) ≤ (n : Int) := by omega
  have e2 : ¬ (20 : Int) < (n : Int) := by omega
  go_enter Try.func177, Try.ntmps177
  go_wp2_with fail
  go_loopw [7, 8] (fun s u wr => s = .int .i64 0 ∧ u = .int .i64 20 ∧ Hid (wr = w)) (fun _ _ _ => 0)
  case atStart => exact ⟨rfl, rfl, Lib.hid rfl⟩
  case round =>
    obtain ⟨rfl, rfl, HR⟩ := hrel
    obtain rfl := HR.out
    go_wp2_with fail
    refine HH.out.mono ?_
    rintro e' w1 ⟨rfl, hr⟩
    have HRR := Lib.hid hr
    clear hr
    go_wp2_with fail
    go_loopw [6] (fun s wr => s = .int .i64 20 ∧ Hid (wr = w1)) (fun _ _ => 0)
    case atStart => exact ⟨rfl, Lib.hid rfl⟩
    case round =>
      obtain ⟨rfl, HR2⟩ := hrel
      obtain rfl := HR2.out
      go_wp2_with fail
      go_end0
      exact ⟨rfl, HRR.out⟩
end Go.Proofs.Ytaihiahoedpbiaa
/- Uses by their beginnings, the list laid. Condition: there are at most fourteen. -/
namespace Go.Proofs.Ytaihiahoedpbiaa
open Go.RowKit Fs

structure Fs.Begun (l : List WRec) (O : List Nat) : Prop where
  perm : O.Perm (List.range l.length)
  up : ∀ i j, i < j → j < O.length → (listW l (O.getD i 0)).beg ≤ (listW l (O.getD j 0)).beg
theorem xStableFunc_any (n c : Nat) (p : Option Addr) (f : Value) (w : World) (R : Ending → World → Prop) (hn : n ≤ 14)
    (h : Calls Try.prog 191 #[.slice p n c, .int .i64 0, .int .i64 n, f] w fun e w' => e = .returned (.tuple #[]) ∧ R e w') :
    Calls Try.prog 156 #[.slice p n c, f] w fun e w' => e = .returned (.tuple #[]) ∧ R e w' := by
  have HH := Lib.hid (xStable_any n c p f w R hn h)
  clear h
  go_enter Try.func156, Try.ntmps156
  go_wp2_with fail
  refine HH.out.mono ?_
  rintro e' w1 ⟨rfl, hr⟩
  have HRR := Lib.hid hr
  clear hr
  go_wp2_with fail
  go_end0
  exact ⟨rfl, HRR.out⟩
theorem xInsertNone_any (c : Nat) (p : Option Addr) (f : Value) (w : World) :
    Calls Try.prog 191 #[.slice p 0 c, .int .i64 0, .int .i64 ((0 : Nat) : Int), f] w fun e w' => e = .returned (.tuple #[]) ∧ w' = w := by
  go_enter Try.func191, Try.ntmps191
  go_wp2_with fail
  go_loopw [8] (fun s wr => s = .int .i64 1 ∧ Hid (wr = w)) (fun _ _ => 0)
  case atStart => exact ⟨rfl, Lib.hid rfl⟩
  case round =>
    obtain ⟨rfl, HR⟩ := hrel
    obtain rfl := HR.out
    go_wp2_with fail
    go_end0
    exact ⟨rfl, rfl⟩
def encF {n : Nat} (i : Fin n) : Value := .int .i64 (i.val : Nat)
theorem finRange_val (n : Nat) : (List.finRange n).map Fin.val = List.range n := by
  apply List.ext_getElem
  · simp
  · intro i h1 h2
    simp
theorem fin_beg (l : List WRec) {n : Nat} : Go.Sort.SWO (ltOf fun i j : Fin n => cmpI (listW l i.val).beg (listW l j.val).beg) := by
  have e : ∀ x y : Fin n, ltOf (fun i j : Fin n => cmpI (listW l i.val).beg (listW l j.val).beg) x y = decide ((listW l x.val).beg < (listW l y.val).beg) := fun x y => by
    unfold ltOf cmpI
    by_cases h1 : (listW l x.val).beg < (listW l y.val).beg
    · simp [h1]
    · by_cases h2 : (listW l y.val).beg < (listW l x.val).beg <;> simp [h1, h2]
  constructor
  · intro x; rw [e]; simp
  · intro x y z h1 h2; rw [e] at *; simp at *; omega
  · intro x y z h1 h2; rw [e] at *; simp at *; omega
set_option linter.unusedSimpArgs false in
set_option maxHeartbeats 12800000 in
set_option maxRecDepth 100000 in
theorem xSortUses_any (l : List WRec) (A : Option Addr) (c q g : Nat) (w w0 : World) (hl0 : 0 < l.length) (hl : l.length ≤ 14) (hrow : RowV w g 3 ((List.range l.length).map fun i => .int .i64 ((i : Nat) : Int)))
    (hg : w0.heap.size ≤ g) (hB : Below w0.heap.size w0 w) (h : ArrW w0 A l c) (hq : w0.cell? ⟨q, 0, none⟩ = some (.slice A l.length c)) :
    Calls Try.prog 191 #[.slice (some ⟨g, 0, none⟩) l.length l.length, .int .i64 ((0 : Nat) : Int), .int .i64 l.length, .func (.func 157) #[] #[.pointer (some ⟨q, 0, none⟩)]] w fun e w' =>
      e = .returned (.tuple #[]) ∧ (∃ O : List Nat, Begun l O ∧ ArrI w' (some ⟨g, 0, none⟩) (O.map Int.ofNat) l.length) ∧ Below w0.heap.size w0 w' := by
  obtain ⟨n, hn⟩ : ∃ n, n = l.length := ⟨_, rfl⟩
  haveI : Inhabited (Fin n) := ⟨⟨0, by omega⟩⟩
  rw [← hn] at hrow ⊢
  obtain ⟨d, hd⟩ : ∃ d : Array (Fin n), d = (List.finRange n).toArray := ⟨_, rfl⟩
  have hds : d.size = n := by rw [hd]; simp
  have hdt : ∀ j (hj : j < n), d[j]! = ⟨j, hj⟩ := fun j hj => by
    rw [getElem!_pos d j (by omega)]
    simp [hd]
  have hH : Go.Sort.Holds encF w g 0 d := fun j hj => by
    rw [hds] at hj
    rw [Nat.zero_add, hdt j hj]
    refine ⟨?_, hrow.frozen j⟩
    rw [hrow.cell, List.getElem?_map, List.getElem?_range hj]
    rfl
  have hgw := hrow.lt
  have hbw : w0.heap.size ≤ w.heap.size := hB.size
  have key := insert_any (α := Fin n) encF (fun i => rfl) (fun i j => cmpI (listW l i.val).beg (listW l j.val).beg) 157 #[.pointer (some ⟨q, 0, none⟩)] g 0 n 0 n d w (fun args w => by kernel_rfl) (fun m os dk hdk x y => by
    have hb1 : Below w0.heap.size w0 (sortWorld encF w g 0 m dk os) := by
      unfold sortWorld
      refine xGrowBelowK (Go.Lib.below_putRow hB hg) os ?_
      unfold Go.Sort.putRow Go.Sort.mapBlock Go.Sort.ahead
      simp
      omega
    exact xByFrom_any l A c q x.val y.val _ (Keep.below hb1 _ _ hq) (h.keep (Keep.below hb1)) (by have := x.isLt; omega) (by have := y.isLt; omega)) hH (Nat.zero_le _) (by omega) (by omega)
  rw [hds] at key
  refine key.mono ?_
  rintro e' w' ⟨rfl, m, rfl⟩
  obtain ⟨hpm, hso⟩ := Go.Sort.insertionSort_holds (lt := ltOf fun i j : Fin n => cmpI (listW l i.val).beg (listW l j.val).beg) (fin_beg l) d 0 n (Nat.zero_le _) (by omega)
  generalize Go.Sort.insertionSort (ltOf fun i j : Fin n => cmpI (listW l i.val).beg (listW l j.val).beg) d 0 n = d' at *
  obtain ⟨hs, -, hpp⟩ := hpm
  rw [hds] at hs
  have e1 : (d'.extract 0 n).toList = d'.toList := by rw [Array.extract_eq_self_of_le (by omega)]
  have e2 : (d.extract 0 n).toList = d.toList := by rw [Array.extract_eq_self_of_le (by omega)]
  rw [e1, e2] at hpp
  have hH2 := Go.Sort.holds_putRow _ _ _ _ _ d' hH (by rw [hs, hds])
  refine ⟨rfl, ⟨d'.toList.map Fin.val, ⟨?_, ?_⟩, ?_⟩, ?_⟩
  · have h5 := hpp.map Fin.val
    rw [hd] at h5
    rw [← hn, ← finRange_val n]
    simpa using h5
  · intro i j hij hj
    have hj' : j < n := by rw [List.length_map] at hj; rw [← hs]; simpa using hj
    have h6 := hso i j (Nat.zero_le _) hij hj'
    have hget : ∀ k, k < n → (d'.toList.map Fin.val).getD k 0 = (d'[k]!).val := fun k hk => by
      rw [getElem!_pos d' k (by omega), List.getD_eq_getElem?_getD, List.getElem?_map, List.getElem?_eq_getElem (by simpa [hs] using hk)]
      simp
    rw [hget i (by omega), hget j hj']
    unfold ltOf cmpI at h6
    by_cases h7 : (listW l (d'[j]!).val).beg < (listW l (d'[i]!).val).beg
    · simp [h7] at h6
    · omega
  · have hB2 := bdrewN (Below.refl (Go.Sort.putRow encF w g 0 d').heap.size (Go.Sort.putRow encF w g 0 d')) m
    refine ⟨by simp [hs], by omega, fun _ => ⟨g, 0, rfl, fun i j hi hj => ?_⟩⟩
    have hi' : i < n := by rw [List.length_map, List.length_map] at hi; rw [← hs]; simpa using hi
    have hj0 : j = 0 := by omega
    subst hj0
    have h8 := (hH2 i (by omega)).1
    rw [Nat.mul_one, Nat.add_zero]
    refine (Keep.below hB2 _ _ h8).trans ?_
    show some (Value.int .i64 ((d'[i]!).val : Nat)) = some (.int .i64 (listI ((d'.toList.map Fin.val).map Int.ofNat) i))
    congr 2
    unfold listI
    rw [getElem!_pos d' i (by omega), List.getD_eq_getElem?_getD, List.getElem?_map, List.getElem?_map, List.getElem?_eq_getElem (by simpa [hs] using hi')]
    simp
  · exact bdrewN (Go.Lib.below_putRow (q := 0) hB hg) m
end Go.Proofs.Ytaihiahoedpbiaa

/- Checks of records and rules, the check of a list thing by thing. No condition. -/
import Derived.Test.YtjmaankkbdpikaaD24
import Derived.Test.YtjmaankkbdpikaaN1
import Derived.Deep.RegionHeld3
import Derived.Test.YtjmaankkbdpikaaT17
namespace Go.Proofs.Ytjmaankkbdpikaa
open Go.RowKit Fs

/-! ### times and spans -/
set_option maxHeartbeats 400000 in
theorem xIsTime_any (n : Int) (w : World) : Calls Try.prog 65 #[.int .i64 n] w fun e w' => e = .returned (.bool (isClock n)) ∧ w = w' := by
  go_enter Try.func65, Try.ntmps65
  go_wp2_with (go_at_call 56; refine (within_any _ _ _ _).mono ?_; rintro e w' ⟨rfl, rfl⟩)
  go_ret
  exact ⟨rfl, rfl⟩
def Fs.clkErr (n : Int) : Int := if isClock n = true then 0 else 2
def Fs.nameSpan (s : ByteArray) (a b : Int) : Int := if isName s then spanErr a b else 4
set_option maxHeartbeats 400000 in
theorem xSpan_any (s : ByteArray) (a b : Int) (w : World) : Calls Try.prog 94 #[.string s, .int .i64 a, .int .i64 b] w fun e w' => e = .returned (.int .i64 (nameSpan s a b)) ∧ w = w' := by
  cases hn : isName s with
  | false =>
    have F := Lib.hid (show nameSpan s a b = 4 by unfold nameSpan; rw [hn]; rfl)
    go_enter Try.func94, Try.ntmps94
    go_wp2_with fail
    refine (isName_any _ _).mono ?_
    rintro e w' ⟨rfl, rfl⟩
    rw [hn]
    go_wp2_with fail
    go_ret
    exact ⟨ret_int F.out.symm, rfl⟩
  | true =>
    cases h1 : isClock a with
    | false =>
      have F := Lib.hid (show nameSpan s a b = 2 by unfold nameSpan spanErr; rw [hn, h1]; rfl)
      go_enter Try.func94, Try.ntmps94
      go_wp2_with fail
      refine (isName_any _ _).mono ?_
      rintro e w' ⟨rfl, rfl⟩
      rw [hn]
      go_wp2_with fail
      refine (xIsTime_any _ _).mono ?_
      rintro e w' ⟨rfl, rfl⟩
      rw [h1]
      go_wp2_with fail
      go_ret
      exact ⟨ret_int F.out.symm, rfl⟩
    | true =>
      cases h2 : isClock b with
      | false =>
        have F := Lib.hid (show nameSpan s a b = 2 by unfold nameSpan spanErr; rw [hn, h1, h2]; rfl)
        go_enter Try.func94, Try.ntmps94
        go_wp2_with fail
        refine (isName_any _ _).mono ?_
        rintro e w' ⟨rfl, rfl⟩
        rw [hn]
        go_wp2_with fail
        refine (xIsTime_any _ _).mono ?_
        rintro e w' ⟨rfl, rfl⟩
        rw [h1]
        go_wp2_with fail
        refine (xIsTime_any _ _).mono ?_
        rintro e w' ⟨rfl, rfl⟩
        rw [h2]
        go_wp2_with fail
        go_ret
        exact ⟨ret_int F.out.symm, rfl⟩
      | true =>
        have F0 := Lib.hid (show nameSpan s a b = if b ≤ a then 9 else 0 by unfold nameSpan spanErr; rw [hn, h1, h2]; rfl)
        by_cases hle : b ≤ a
        · have F := Lib.hid (F0.out.trans (if_pos hle))
          go_enter Try.func94, Try.ntmps94
          go_wp2_with fail
          refine (isName_any _ _).mono ?_
          rintro e w' ⟨rfl, rfl⟩
          rw [hn]
          go_wp2_with fail
          refine (xIsTime_any _ _).mono ?_
          rintro e w' ⟨rfl, rfl⟩
          rw [h1]
          go_wp2_with fail
          refine (xIsTime_any _ _).mono ?_
          rintro e w' ⟨rfl, rfl⟩
          rw [h2]
          go_wp2_with fail
          go_ret
          exact ⟨ret_int F.out.symm, rfl⟩
        · have F := Lib.hid (F0.out.trans (if_neg hle))
          go_enter Try.func94, Try.ntmps94
          go_wp2_with fail
          refine (isName_any _ _).mono ?_
          rintro e w' ⟨rfl, rfl⟩
          rw [hn]
          go_wp2_with fail
          refine (xIsTime_any _ _).mono ?_
          rintro e w' ⟨rfl, rfl⟩
          rw [h1]
          go_wp2_with fail
          refine (xIsTime_any _ _).mono ?_
          rintro e w' ⟨rfl, rfl⟩
          rw [h2]
          go_wp2_with fail
          go_ret
          exact ⟨ret_int F.out.symm, rfl⟩
set_option maxHeartbeats 400000 in
theorem xRecErr_any (x : WRec) (w : World) : Calls Try.prog 91 #[recV x] w fun e w' => e = .returned (.int .i64 (recErr x)) ∧ Below w.heap.size w w' := by
  have b0 := cellNew w #[.string x.who, .int .i64 x.beg, .int .i64 x.fin] 91 0
  have b1 := cellNew w #[.string x.who, .int .i64 x.beg, .int .i64 x.fin] 91 1
  have b2 := cellNew w #[.string x.who, .int .i64 x.beg, .int .i64 x.fin] 91 2
  go_enter Try.func91, Try.ntmps91
  go_wp2_with fail
  refine (xSpan_any _ _ _ _).mono ?_
  rintro e w' ⟨rfl, rfl⟩
  go_wp2_with fail
  go_ret
  exact ⟨rfl, (Below.refl _ _).alloc (Nat.le_refl _) _⟩
def Fs.behindErr (y x : WRec) : Int := if x.beg < y.fin then 26 else 0
set_option maxHeartbeats 800000 in
theorem xBehind_any (y x : WRec) (w : World) : Calls Try.prog 92 #[recV y, recV x] w fun e w' => e = .returned (.int .i64 (behindErr y x)) ∧ Below w.heap.size w w' := by
  have a0 := (Keep.alloc (w.alloc (.cells #[.string y.who, .int .i64 y.beg, .int .i64 y.fin] 91)) (.cells #[.string x.who, .int .i64 x.beg, .int .i64 x.fin] 91)) _ _ (cellNew w #[.string y.who, .int .i64 y.beg, .int .i64 y.fin] 91 2)
  have a1 := cellNew1 w (.cells #[.string y.who, .int .i64 y.beg, .int .i64 y.fin] 91) #[.string x.who, .int .i64 x.beg, .int .i64 x.fin] 91 1
  by_cases h : x.beg < y.fin
  · rw [show behindErr y x = 26 from if_pos h]
    have d := decide_eq_true h
    clear h
    go_enter Try.func92, Try.ntmps92
    go_wp2_with fail
    go_ret
    exact ⟨rfl, ((Below.refl _ _).alloc (Nat.le_refl _) _).alloc (by simp) _⟩
  · rw [show behindErr y x = 0 from if_neg h]
    have d := decide_eq_false h
    clear h
    go_enter Try.func92, Try.ntmps92
    go_wp2_with fail
    go_ret
    exact ⟨rfl, ((Below.refl _ _).alloc (Nat.le_refl _) _).alloc (by simp) _⟩

/-! ### a list, thing by thing -/
def Fs.manyErr (n most : Nat) (f : Nat → Int) : Int := if most < n then 8 else fst f n
def Fs.manyAt (n most : Nat) (f : Nat → Int) : Nat := if most < n then 0 else idx f n
set_option maxHeartbeats 800000 in
set_option maxRecDepth 100000 in
theorem xList_any (K : Nat) (p : Value) (n most : Nat) (f : Nat → Int) (w : World) (hn : n ≤ 9223372036854775807) (hm : most ≤ 1000000) (hcall : ∀ (args : Array Value) (w : World), (callFunc K args).run Try.prog w = .ok (.enter K args) w)
    (hf : ∀ w', Below w.heap.size w w' → ∀ i : Nat, i < n → Calls Try.prog K #[.int .i64 i, p] w' fun e w'' => e = .returned (.int .i64 (f i)) ∧ Below w'.heap.size w' w'') :
    Calls Try.prog 89 #[.int .i64 n, .int .i64 most, .func (.func K) #[] #[p]] w fun e w' => e = .returned (.tuple #[.int .i64 (manyAt n most f : Nat), .int .i64 (manyErr n most f)]) ∧ Below w.heap.size w w' := by
  have HCALL := Lib.hid hcall
  have HF := Lib.hid hf
  clear hcall hf
  go_enter Try.func89, Try.ntmps89
  by_cases h40 : most < n
  · have G1 := Lib.hid (show manyErr n most f = 8 from if_pos h40)
    have G2 := Lib.hid (show manyAt n most f = 0 from if_pos h40)
    have d1 : decide ((n : Int) > (most : Int)) = true := decide_eq_true (by omega)
    have d2 : decide ((most : Int) < (n : Int)) = true := decide_eq_true (by omega)
    go_wp2_with fail
    go_ret2
    exact ⟨by rw [G1.out, G2.out]; rfl, Below.refl _ _⟩
  · have G1 := Lib.hid (show manyErr n most f = fst f n from if_neg h40)
    have G2 := Lib.hid (show manyAt n most f = idx f n from if_neg h40)
    have hnm : n ≤ 1000000 := by omega
    have d1 : decide ((n : Int) > (most : Int)) = false := decide_eq_false (by omega)
    have d2 : decide ((most : Int) < (n : Int)) = false := decide_eq_false (by omega)
    go_wp2_with fail
    go_loopw [14] (fun i wr => ∃ k : Nat, k ≤ n ∧ i = .int .i64 k ∧ Hid (∀ j, j < k → f j = 0) ∧ Hid (Below w.heap.size w wr)) (fun i _ => n - (intOf i).toNat)
    case atStart => exact ⟨0, Nat.zero_le _, rfl, Lib.hid fun j hj => absurd hj (Nat.not_lt_zero _), Lib.hid (Below.refl _ _)⟩
    case round =>
      obtain ⟨k, hk, rfl, Hn, HB⟩ := hrel
      by_cases hlt : k < n
      · have hkn : (k : Int) < (n : Int) := by omega
        have HC := Lib.hid (HF.out wr HB.out k hlt)
        have hcall := HCALL.out
        by_cases he : f k = 0
        · have HE := Lib.hid he
          have HN : Hid (∀ j, j < k + 1 → f j = 0) := Lib.hid fun j hj => by
            by_cases e : j = k
            · subst e; exact HE.out
            · exact Hn.out j (by omega)
          clear he
          go_wp2_with fail
          refine HC.out.mono ?_
          rintro e w2 ⟨rfl, hb2⟩
          rw [HE.out]
          go_wp2_with fail
          go_roundw
          case rel => exact ⟨k + 1, by omega, by go_num, HN, Lib.hid (HB.out.trans (hb2.mono HB.out.size))⟩
          case measure => simp [intOf]; omega
        · obtain ⟨F1, F2⟩ := fst_hit hlt Hn.out he
          have G3 := Lib.hid (G1.out.trans F1)
          have G4 := Lib.hid (G2.out.trans F2)
          have e2 : (f k != 0) = true := by simpa using he
          have e3 : (f k == 0) = false := by simpa using he
          clear F1 F2
          go_wp2_with fail
          refine HC.out.mono ?_
          rintro e w2 ⟨rfl, hb2⟩
          go_wp2_with fail
          go_ret2
          exact ⟨by rw [G3.out, G4.out]; rfl, HB.out.trans (hb2.mono HB.out.size)⟩
      · have G3 := Lib.hid (G1.out.trans (fst_none fun j hj => Hn.out j (by omega)))
        have G4 := Lib.hid (G2.out.trans (idx_none fun j hj => Hn.out j (by omega)))
        go_wp2_with fail
        go_ret2
        exact ⟨by rw [G3.out, G4.out]; rfl, HB.out⟩

/-! ### records -/
set_option linter.unusedSimpArgs false in
set_option maxHeartbeats 3200000 in
set_option maxRecDepth 100000 in
theorem xRecBad_any (l : List WRec) (A : Option Addr) (c g k : Nat) (w : World) (hB : w.cell? ⟨g, 0, none⟩ = some (.slice A l.length c)) (h : ArrW w A l c) (hlt : k < l.length) :
    Calls Try.prog 90 #[.int .i64 k, .pointer (some ⟨g, 0, none⟩)] w fun e w' => e = .returned (.int .i64 (wrongRec true l k)) ∧ Below w.heap.size w w' := by
  have b1 := h.le.1
  have b2 := h.le.2
  have HA := Lib.hid h
  have HB0 := Lib.hid hB
  clear h
  have hkn : (k : Int) < (l.length : Int) := by omega
  obtain ⟨b, o, rfl, q⟩ := HA.out.at_ hlt
  obtain ⟨q0, q1, q2⟩ := q
  go_enter Try.func90, Try.ntmps90
  go_wp2_with fail
  refine (xRecErr_any (listW l k) _).mono ?_
  rintro e' w1 ⟨rfl, hb1⟩
  have HW := Lib.hid hb1
  clear hb1 q0 q1 q2 hB
  by_cases he : recErr (listW l k) = 0
  · have HE := Lib.hid he
    rw [he]
    clear he
    by_cases hk0 : 0 < k
    · have d6 : decide (k = 0) = false := decide_eq_false (by omega)
      have d7 : ((k : Int) == 0) = false := by simp; omega
      have hk1 : ((k - 1 : Nat) : Int) < (l.length : Int) := by omega
      have cB := Keep.below HW.out _ _ HB0.out
      obtain ⟨b', o', e', r, q⟩ := (HA.out.keep (Keep.below HW.out)).two (i := k - 1) (by omega) hlt
      obtain ⟨rfl, rfl⟩ : b = b' ∧ o = o' := by simpa using e'
      clear e'
      obtain ⟨j, hj⟩ : ∃ j, k = j + 1 := ⟨k - 1, by omega⟩
      have hkj : k - 1 = j := by omega
      rw [hkj] at r hk1
      have hkp : (k : Int) - 1 = (j : Int) := by omega
      have hwj : IntKind.i64.wrap (j : Int) = (j : Int) := by rw [IntKind.wrap_i64]; omega
      obtain ⟨q0, q1, q2⟩ := q
      obtain ⟨r0, r1, r2⟩ := r
      by_cases hw : (listW l k).who = (listW l j).who
      · have HWH := Lib.hid (show ¬ (true = true ∧ 0 < k ∧ (listW l k).who ≠ (listW l (k - 1)).who) from fun hh => hh.2.2 (by rw [hkj]; exact hw))
        have F := Lib.hid (show wrongRec true l k = behindErr (listW l j) (listW l k) by
          unfold wrongRec behindErr; rw [if_neg (fun hh => hh HE.out), if_neg HWH.out, hkj]
          by_cases hx : (listW l k).beg < (listW l j).fin
          · rw [if_pos hx, if_pos ⟨hk0, hx⟩]
          · rw [if_neg hx, if_neg (fun hh => hx hh.2)])
        have e1 := str_eq hw
        have e2 : ((listW l k).who.toList != (listW l j).who.toList) = false := by rw [bne, e1]; rfl
        clear hw hj hk0
        go_wp2_with fail
        go_quiet (fail)
        generalize hwd : World.drewN w1 _ = wd at *
        have HD : Hid (Below w1.heap.size w1 wd) := by rw [← hwd]; exact Lib.hid (bdrewN (Below.refl _ _) _)
        clear hwd
        replace HW := Lib.hid (HW.out.trans (HD.out.mono HW.out.size))
        replace cB := Keep.below HD.out _ _ cB
        replace q0 := Keep.below HD.out _ _ q0
        replace q1 := Keep.below HD.out _ _ q1
        replace q2 := Keep.below HD.out _ _ q2
        replace r0 := Keep.below HD.out _ _ r0
        replace r1 := Keep.below HD.out _ _ r1
        replace r2 := Keep.below HD.out _ _ r2
        clear HD
        go_wp2_with fail
        have HBd : Hid (Below wd.heap.size wd wd.drew) := Lib.hid (Below.refl _ _).drew
        have MK : Hid (∀ w', Below wd.heap.size wd w' → w'.cell? ⟨g, 0, none⟩ = some (.slice (some ⟨b, o, none⟩) l.length c) ∧ w'.cell? ⟨b, o + k * 3, none⟩ = some (.string (listW l k).who) ∧ w'.cell? ⟨b, o + k * 3 + 1, none⟩ = some (.int .i64 (listW l k).beg) ∧ w'.cell? ⟨b, o + k * 3 + 2, none⟩ = some (.int .i64 (listW l k).fin) ∧ w'.cell? ⟨b, o + j * 3, none⟩ = some (.string (listW l j).who) ∧ w'.cell? ⟨b, o + j * 3 + 1, none⟩ = some (.int .i64 (listW l j).beg) ∧ w'.cell? ⟨b, o + j * 3 + 2, none⟩ = some (.int .i64 (listW l j).fin) ∧ Hid (Below wd.heap.size wd w')) :=
          Lib.hid fun w' hw => ⟨Keep.below hw _ _ cB, Keep.below hw _ _ q0, Keep.below hw _ _ q1, Keep.below hw _ _ q2, Keep.below hw _ _ r0, Keep.below hw _ _ r1, Keep.below hw _ _ r2, Lib.hid hw⟩
        refine wp_region_held_drew (S := fun w' => w'.cell? ⟨g, 0, none⟩ = some (.slice (some ⟨b, o, none⟩) l.length c) ∧ w'.cell? ⟨b, o + k * 3, none⟩ = some (.string (listW l k).who) ∧ w'.cell? ⟨b, o + k * 3 + 1, none⟩ = some (.int .i64 (listW l k).beg) ∧ w'.cell? ⟨b, o + k * 3 + 2, none⟩ = some (.int .i64 (listW l k).fin) ∧ w'.cell? ⟨b, o + j * 3, none⟩ = some (.string (listW l j).who) ∧ w'.cell? ⟨b, o + j * 3 + 1, none⟩ = some (.int .i64 (listW l j).beg) ∧ w'.cell? ⟨b, o + j * 3 + 2, none⟩ = some (.int .i64 (listW l j).fin) ∧ Hid (Below wd.heap.size wd w')) (by kernel_rfl) (MK.out _ HBd.out) (fun hHeld => ?_)
        refine wpAnyH_take (i := 0) (v := ?val0x1) rfl (by kernel_rfl) (by kernel_rfl) (by kernel_rfl) (fun _ _ _ h => h) (Or.inl ⟨by rfl, fun w9 hS9 => ?yields0x1⟩) (by assumption) ?later0x1
        case yields0x1 =>
          dsimp only at hS9
          go_simp
          try with_reducible rfl
        try simp only [Act.put, List.getElem_toArray, List.getElem_cons_succ, List.getElem_cons_zero, List.setIfInBounds_toArray, List.set_cons_zero, List.set_cons_succ]
        refine wpAnyH_take (i := 1) (v := ?val1x2) rfl (by kernel_rfl) (by kernel_rfl) (by kernel_rfl) (fun _ _ _ h => h) (Or.inl ⟨by rfl, fun w9 hS9 => ?yields1x2⟩) (by assumption) ?later1x2
        case yields1x2 =>
          dsimp only at hS9
          go_simp
          try with_reducible rfl
        try simp only [Act.put, List.getElem_toArray, List.getElem_cons_succ, List.getElem_cons_zero, List.setIfInBounds_toArray, List.set_cons_zero, List.set_cons_succ]
        refine wpAnyH_take (i := 2) (v := ?val2x3) rfl (by kernel_rfl) (by kernel_rfl) (by kernel_rfl) (fun _ _ _ h => h) (Or.inl ⟨by rfl, fun w9 hS9 => ?yields2x3⟩) (by assumption) ?later2x3
        case yields2x3 =>
          dsimp only at hS9
          go_simp
          try with_reducible rfl
        try simp only [Act.put, List.getElem_toArray, List.getElem_cons_succ, List.getElem_cons_zero, List.setIfInBounds_toArray, List.set_cons_zero, List.set_cons_succ]
        refine wpAnyH_take (i := 3) (v := ?val3x4) rfl (by kernel_rfl) (by kernel_rfl) (by kernel_rfl) (fun _ _ _ h => h) (Or.inl ⟨by rfl, fun w9 hS9 => ?yields3x4⟩) (by assumption) ?later3x4
        case yields3x4 =>
          dsimp only at hS9
          go_simp
          try with_reducible rfl
        try simp only [Act.put, List.getElem_toArray, List.getElem_cons_succ, List.getElem_cons_zero, List.setIfInBounds_toArray, List.set_cons_zero, List.set_cons_succ]
        refine wpAnyH_take (i := 4) (v := ?val4x5) rfl (by kernel_rfl) (by kernel_rfl) (by kernel_rfl) (fun _ _ _ h => h) (Or.inl ⟨by rfl, fun w9 hS9 => ?yields4x5⟩) (by assumption) ?later4x5
        case yields4x5 =>
          dsimp only at hS9
          go_simp
          try with_reducible rfl
        try simp only [Act.put, List.getElem_toArray, List.getElem_cons_succ, List.getElem_cons_zero, List.setIfInBounds_toArray, List.set_cons_zero, List.set_cons_succ]
        refine wpAnyH_take (i := 5) (v := ?val5x6) rfl (by kernel_rfl) (by kernel_rfl) (by kernel_rfl) (fun _ _ _ h => h) (Or.inl ⟨by rfl, fun w9 hS9 => ?yields5x6⟩) (by assumption) ?later5x6
        case yields5x6 =>
          dsimp only at hS9
          go_simp
          try with_reducible rfl
        try simp only [Act.put, List.getElem_toArray, List.getElem_cons_succ, List.getElem_cons_zero, List.setIfInBounds_toArray, List.set_cons_zero, List.set_cons_succ]
        refine wpAnyH_take (i := 6) (v := ?val6x7) rfl (by kernel_rfl) (by kernel_rfl) (by kernel_rfl) (fun _ _ _ h => h) (Or.inl ⟨by rfl, fun w9 hS9 => ?yields6x7⟩) (by assumption) ?later6x7
        case yields6x7 =>
          dsimp only at hS9
          go_simp
          try with_reducible rfl
        try simp only [Act.put, List.getElem_toArray, List.getElem_cons_succ, List.getElem_cons_zero, List.setIfInBounds_toArray, List.set_cons_zero, List.set_cons_succ]
        refine wpAnyH_take (i := 7) (v := ?val7x8) rfl (by kernel_rfl) (by kernel_rfl) (by kernel_rfl) (fun _ _ _ h => h) (Or.inl ⟨by rfl, fun w9 hS9 => ?yields7x8⟩) (by assumption) ?later7x8
        case yields7x8 =>
          dsimp only at hS9
          go_simp
          try with_reducible rfl
        try simp only [Act.put, List.getElem_toArray, List.getElem_cons_succ, List.getElem_cons_zero, List.setIfInBounds_toArray, List.set_cons_zero, List.set_cons_succ]
        refine wpAnyH_take (i := 8) (v := ?val8x9) rfl (by kernel_rfl) (by kernel_rfl) (by kernel_rfl) (fun _ _ _ h => h) (Or.inl ⟨by rfl, fun w9 hS9 => ?yields8x9⟩) (by assumption) ?later8x9
        case yields8x9 =>
          dsimp only at hS9
          go_simp
          try with_reducible rfl
        try simp only [Act.put, List.getElem_toArray, List.getElem_cons_succ, List.getElem_cons_zero, List.setIfInBounds_toArray, List.set_cons_zero, List.set_cons_succ]
        refine wpAnyH_ready (rs := [9]) (by kernel_rfl) (by simp) ?_
        refine AllReadyH.cons rfl (fun K hK => ?_) AllReadyH.nil
        go_simp
        go_at_call 92
        go_split_ands
        refine (xBehind_any (listW l j) (listW l k) _).mono ?_
        rintro e' w5 ⟨rfl, hb1⟩
        go_wp2_with fail
        refine hK.out _ _ ?_ (fun hHeld => ?_)
        · (try dsimp only)
          (go_split_ands; exact MK.out _ (Below.trans (Hid.out (by assumption)) (hb1.mono (Hid.out (by assumption) : Below wd.heap.size wd _).size)))
        clear hK K
        try simp only [Act.put, List.getElem_toArray, List.getElem_cons_succ, List.getElem_cons_zero, List.setIfInBounds_toArray, List.set_cons_zero, List.set_cons_succ]
        refine wpAnyH_take (i := 10) (v := ?val10x10) rfl (by kernel_rfl) (by kernel_rfl) (by kernel_rfl) (fun _ _ _ h => h) (Or.inl ⟨by rfl, fun w9 hS9 => ?yields10x10⟩) (by assumption) ?later10x10
        case yields10x10 =>
          dsimp only at hS9
          go_simp
          try with_reducible rfl
        try simp only [Act.put, List.getElem_toArray, List.getElem_cons_succ, List.getElem_cons_zero, List.setIfInBounds_toArray, List.set_cons_zero, List.set_cons_succ]
        refine wpAnyH_done (by kernel_rfl) ?_ _
        obtain ⟨-, -, -, -, -, -, -, HB⟩ := hHeld
        clear HBd MK
        go_wp2_with fail
        go_ret
        exact ⟨ret_int F.out.symm, HW.out.trans (HB.out.mono HW.out.size)⟩
      · have e1 := str_ne hw
        have e2 : ((listW l k).who.toList != (listW l j).who.toList) = true := by rw [bne, e1]; rfl
        have F : Hid (wrongRec true l k = 13) := Lib.hid (by unfold wrongRec; rw [if_neg (fun hh => hh HE.out), if_pos ⟨rfl, hk0, by rw [hkj]; exact hw⟩])
        clear hw hj hk0
        go_wp2_with fail
        go_quiet (fail)
        go_wp2_with fail
        go_ret
        exact ⟨ret_int F.out.symm, bdrewN HW.out _⟩
    · obtain rfl : k = 0 := by omega
      have F : Hid (wrongRec true l 0 = 0) := Lib.hid (by unfold wrongRec; rw [if_neg (fun hh => hh HE.out), if_neg (fun hh => hk0 hh.2.1), if_neg (fun hh => hk0 hh.1)])
      clear hk0
      go_wp2_with fail
      go_ret
      exact ⟨ret_int F.out.symm, HW.out⟩
  · have F := Lib.hid (show wrongRec true l k = recErr (listW l k) from if_pos he)
    have e2 : (recErr (listW l k) != 0) = true := by simpa using he
    have e3 : (recErr (listW l k) == 0) = false := by simpa using he
    clear he
    go_wp2_with fail
    go_ret
    exact ⟨ret_int F.out.symm, HW.out⟩
theorem Fs.list_recs (l : List WRec) : manyErr l.length 40 (wrongRec true l) = recsErr true l ∧ manyAt l.length 40 (wrongRec true l) = recsAt true l := ⟨rfl, rfl⟩
set_option maxHeartbeats 400000 in
theorem xCheckRecords_any (l : List WRec) (A : Option Addr) (c : Nat) (w : World) (h : ArrW w A l c) :
    Calls Try.prog 80 #[.slice A l.length c] w fun e w' => e = .returned (.tuple #[.int .i64 (recsAt true l : Nat), .int .i64 (recsErr true l)]) ∧ Below w.heap.size w w' := by
  have b1 := h.le.1
  have b2 := h.le.2
  have HA := Lib.hid (h.keep (Keep.alloc w (.cells #[.slice A l.length c] 54)))
  clear h
  have c0 := cellNew w #[.slice A l.length c] 54 0
  have HC := Lib.hid c0
  go_enter Try.func80, Try.ntmps80
  go_wp2_with fail
  refine (xList_any 90 (.pointer (some ⟨w.heap.size, 0, none⟩)) l.length 40 (wrongRec true l) _ (by omega) (by omega) (fun args w => by kernel_rfl) (fun w' hb i hi => xRecBad_any l A c _ i w' (Keep.below hb _ _ HC.out) (HA.out.keep (Keep.below hb)) hi)).mono ?_
  rintro e w1 ⟨rfl, hb1⟩
  go_wp2_with fail
  go_ret2
  exact ⟨rfl, ((Below.refl _ _).alloc (Nat.le_refl _) _).trans (hb1.mono (by simp))⟩
set_option maxHeartbeats 400000 in
theorem xRecords_any (l : List WRec) (A : Option Addr) (c : Nat) (w : World) (h : ArrW w A l c) :
    Calls Try.prog 64 #[.slice A l.length c] w fun e w' => e = .returned (.int .i64 (recsErr true l)) ∧ Below w.heap.size w w' := by
  go_enter Try.func64, Try.ntmps64
  go_wp2_with fail
  refine (xCheckRecords_any l A c _ h).mono ?_
  rintro e w1 ⟨rfl, hb1⟩
  go_wp2_with fail
  go_ret
  exact ⟨rfl, hb1⟩
end Go.Proofs.Ytjmaankkbdpikaa
/- The work in a span; the check of rules; rules and records in one. Conditions: spans within bounds. -/
namespace Go.Proofs.Ytjmaankkbdpikaa
open Go.RowKit Fs

set_option maxHeartbeats 1600000 in
set_option maxRecDepth 100000 in
theorem xWorkTo_any (l : List WRec) (A : Option Addr) (c : Nat) (a b : Int) (w : World) (h : ArrW w A l c) (hF : Mild l) (ha : -1000000 ≤ a ∧ a ≤ 9000000000) (hb : -1000000 ≤ b ∧ b ≤ 9000000000) :
    Calls Try.prog 70 #[.slice A l.length c, .int .i64 a, .int .i64 b] w fun e w' => e = .returned (.int .i64 (workTo l a b l.length)) ∧ Below w.heap.size w w' := by
  have b1 := h.le.1
  have b2 := h.le.2
  have HA := Lib.hid h
  clear h
  have HFT := Lib.hid hF
  have hlen := hF.len
  clear hF
  obtain ⟨a0, a1⟩ := ha
  obtain ⟨b0, b3⟩ := hb
  obtain ⟨n, hn⟩ : ∃ n, n = l.length := ⟨_, rfl⟩
  rw [← hn] at b1 hlen ⊢
  have HN := Lib.hid hn
  clear hn
  go_enter Try.func70, Try.ntmps70
  go_wp2_with fail
  go_loopw [7, 12] (fun u i wr => ∃ k : Nat, k ≤ n ∧ u = .int .i64 (workTo l a b k) ∧ i = .int .i64 k ∧ Hid (Below w.heap.size w wr)) (fun _ i _ => n - (intOf i).toNat)
  case atStart => exact ⟨0, Nat.zero_le _, rfl, rfl, Lib.hid (Below.refl _ _)⟩
  case round =>
    obtain ⟨k, hk, rfl, rfl, HB⟩ := hrel
    by_cases hlt : k < n
    · have hkn : (k : Int) < (n : Int) := by omega
      have hkl : k < l.length := by rw [← HN.out]; exact hlt
      obtain ⟨bb, o, rfl, q⟩ := (HA.out.keep (Keep.below HB.out)).at_ hkl
      obtain ⟨q0, q1, q2⟩ := q
      have x1 := HFT.out.one k hkl
      have x2 := workTo_mild HFT.out a b k (by omega)
      have x3 := overlap_mild (a := a) (b := b) x1.1 x1.2.2
      have F := Lib.hid (show workTo l a b (k + 1) = workTo l a b k + overlapOf (listW l k) a b from rfl)
      have U := Lib.hid (show overlapOf (listW l k) a b = max 0 (min (listW l k).fin b - max (listW l k).beg a) from rfl)
      rw [U.out] at x3 F
      have y1 : -20000000000 ≤ min (listW l k).fin b - max (listW l k).beg a ∧ min (listW l k).fin b - max (listW l k).beg a ≤ 20000000000 := by omega
      have z1 := cellNew wr #[.string (listW l k).who, .int .i64 (listW l k).beg, .int .i64 (listW l k).fin] 91 1
      have z2 := cellNew wr #[.string (listW l k).who, .int .i64 (listW l k).beg, .int .i64 (listW l k).fin] 91 2
      clear hkl
      go_wp2_with fail
      rw [← F.out]
      go_roundw
      case rel => exact ⟨k + 1, by omega, rfl, by go_num, Lib.hid (HB.out.alloc HB.out.size _)⟩
      case measure => simp [intOf]; omega
    · obtain rfl : k = n := by omega
      go_wp2_with fail
      go_ret
      exact ⟨rfl, HB.out⟩
theorem arr3NewD (w : World) (x y z : Int) (ty : TypeId) : ArrI (w.alloc (.cells #[.int .i64 x, .int .i64 y, .int .i64 z] ty)) (some ⟨w.heap.size, 0, none⟩) [x, y, z] 3 := by
  refine ⟨Nat.le_refl _, by decide, fun _ => ⟨_, _, rfl, fun i j hi hj => ?_⟩⟩
  have hj0 : j = 0 := by omega
  subst hj0
  match i, hi with
  | 0, _ => exact cellNew w _ _ 0
  | 1, _ => exact cellNew w _ _ 1
  | 2, _ => exact cellNew w _ _ 2
theorem fst_three (x y z : Int) : fst (listI [x, y, z]) 3 = if x ≠ 0 then x else if y ≠ 0 then y else z := by
  have e : ∀ u v t : Int, fst (listI [u, v, t]) 3 = (if u ≠ 0 then u else if v ≠ 0 then v else t) := by
    intro u v t
    by_cases hu : u = 0
    · by_cases hv : v = 0
      · by_cases ht : t = 0
        · rw [if_neg (fun h => h hu), if_neg (fun h => h hv), ht]
          exact fst_none fun j hj => by
            match j, hj with
            | 0, _ => exact hu
            | 1, _ => exact hv
            | 2, _ => rfl
        · rw [if_neg (fun h => h hu), if_neg (fun h => h hv)]
          exact (fst_hit (f := listI [u, v, t]) (k := 2) (by decide) (fun j hj => by
            match j, hj with
            | 0, _ => exact hu
            | 1, _ => exact hv) ht).1
      · rw [if_neg (fun h => h hu), if_pos hv]
        exact (fst_hit (f := listI [u, v, t]) (k := 1) (by decide) (fun j hj => by
            match j, hj with
            | 0, _ => exact hu) hv).1
    · rw [if_pos hu]
      exact (fst_hit (f := listI [u, v, t]) (k := 0) (by decide) (fun j hj => absurd hj (Nat.not_lt_zero _)) hu).1
  exact e x y z
theorem fst_two (x y : Int) : fst (listI [x, y]) 2 = if x ≠ 0 then x else y := by
  by_cases hu : x = 0
  · by_cases hv : y = 0
    · rw [if_neg (fun h => h hu), hv]
      exact fst_none fun j hj => by
        match j, hj with
        | 0, _ => exact hu
        | 1, _ => rfl
    · rw [if_neg (fun h => h hu)]
      exact (fst_hit (f := listI [x, y]) (k := 1) (by decide) (fun j hj => by
        match j, hj with
        | 0, _ => exact hu) hv).1
  · rw [if_pos hu]
    exact (fst_hit (f := listI [x, y]) (k := 0) (by decide) (fun j hj => absurd hj (Nat.not_lt_zero _)) hu).1
theorem Fs.workErr_is (l : List WRec) (a b : Int) : (if recsErr true l ≠ 0 then recsErr true l else if clkErr a ≠ 0 then clkErr a else clkErr b) = if recsErr true l ≠ 0 then recsErr true l else if !(isClock a && isClock b) then 2 else 0 := by
  unfold clkErr
  cases h1 : isClock a <;> cases h2 : isClock b <;> rfl
end Go.Proofs.Ytjmaankkbdpikaa
/- The check of rules; a book of rules and records. No condition. -/
namespace Go.Proofs.Ytjmaankkbdpikaa
open Go.RowKit Fs

set_option maxHeartbeats 1600000 in
set_option maxRecDepth 100000 in
theorem xCheckRules_any (R : DRules) (w : World) :
    Calls Try.prog 63 #[drulesV R] w fun e w' => e = .returned (.int .i64 (drulesErr R)) ∧ Below w.heap.size w w' := by
  have BR := Lib.hid (RulesIn.new w R 29)
  go_enter Try.func63, Try.ntmps63
  go_upto_region 1 with fail
  generalize hwb : w.alloc _ = wb at *
  have HW : Hid (Below w.heap.size w wb) := by rw [← hwb]; exact Lib.hid ((Below.refl _ _).alloc (Nat.le_refl _) _)
  clear hwb
  obtain ⟨a0, a1, a2, a3, a4⟩ := BR.out
  have HL := Lib.hid (fun k (hk : k < 5) => show (wb.alloc (.cells #[.int .i64 R.brk, .int .i64 R.rest, .int .i64 R.stint, .int .i64 R.shift, .int .i64 R.week] 3)).cell? ⟨wb.heap.size, k, none⟩ = some (.int .i64 (ruleAtN R k)) by
    rw [cellNew]
    match k, hk with
    | 0, _ => rfl
    | 1, _ => rfl
    | 2, _ => rfl
    | 3, _ => rfl
    | 4, _ => rfl)
  have BR2 := Lib.hid (BR.out.keep (Keep.alloc _ (.cells #[.int .i64 R.brk, .int .i64 R.rest, .int .i64 R.stint, .int .i64 R.shift, .int .i64 R.week] 3)))
  have HW2 := Lib.hid (HW.out.alloc HW.out.size (.cells #[.int .i64 R.brk, .int .i64 R.rest, .int .i64 R.stint, .int .i64 R.shift, .int .i64 R.week] 3))
  go_wp2_with fail
  generalize hg : wb.heap.size = g at *
  generalize wb.alloc _ = wc at *
  clear a0 a1 a2 a3 a4
  go_loop [17] (fun i => ∃ k : Nat, k ≤ 5 ∧ i = .int .i64 k ∧ Hid (∀ j, j < k → ruleOk (ruleAtN R j) = true)) (fun i => 5 - (intOf i).toNat)
  case atStart => exact ⟨0, Nat.zero_le _, rfl, Lib.hid fun j hj => absurd hj (Nat.not_lt_zero _)⟩
  case round =>
    obtain ⟨k, hk, rfl, Hn⟩ := hrel
    by_cases hlt : k < 5
    · have hkn : (k : Int) < 5 := by omega
      have ck := HL.out k hlt
      cases hr : within (ruleAtN R k) 1 2000000 with
      | false =>
        have F := Lib.hid (drules_bad hlt hr)
        have HR := Lib.hid hr
        clear hr
        go_wp2_with fail
        refine (within_any _ _ _ _).mono ?_
        rintro e w' ⟨rfl, rfl⟩
        rw [HR.out]
        go_wp2_with fail
        go_ret
        exact ⟨ret_int F.out.symm, HW2.out⟩
      | true =>
        have G : Hid (∀ j, j < k + 1 → ruleOk (ruleAtN R j) = true) := Lib.hid fun j hj => by
          by_cases e : j = k
          · subst e; exact hr
          · exact Hn.out j (by omega)
        have HR := Lib.hid hr
        clear hr
        go_wp2_with fail
        refine (within_any _ _ _ _).mono ?_
        rintro e w' ⟨rfl, rfl⟩
        rw [HR.out]
        go_wp2_with fail
        go_round
        case rel => exact ⟨k + 1, by omega, by go_num, G⟩
        case measure => simp [intOf]; omega
    · obtain rfl : k = 5 := by omega
      have F := Lib.hid (drules_good Hn.out)
      obtain ⟨a0, a1, a2, a3, a4⟩ := BR2.out
      by_cases hb : R.rest < R.brk
      · have G := Lib.hid (F.out.trans (if_pos hb))
        have d1 : decide (R.brk > R.rest) = true := decide_eq_true hb
        have d2 : decide (R.rest < R.brk) = true := decide_eq_true hb
        clear hb
        go_wp2_with fail
        go_ret
        exact ⟨ret_int G.out.symm, HW2.out⟩
      · have G := Lib.hid (F.out.trans (if_neg hb))
        have d1 : decide (R.brk > R.rest) = false := decide_eq_false hb
        have d2 : decide (R.rest < R.brk) = false := decide_eq_false hb
        clear hb
        go_wp2_with fail
        go_ret
        exact ⟨ret_int G.out.symm, HW2.out⟩

/-! ### a book -/
abbrev bookV (R : DRules) (A : Option Addr) (n c : Nat) : Value := .agg #[.int .i64 R.brk, .int .i64 R.rest, .int .i64 R.stint, .int .i64 R.shift, .int .i64 R.week, .slice A n c]
abbrev bookZ : Value := .agg #[.int .i64 0, .int .i64 0, .int .i64 0, .int .i64 0, .int .i64 0, .slice none 0 0]
/-- A book in the block g. -/
structure BookIn (w : World) (g : Nat) (R : DRules) (A : Option Addr) (n c : Nat) : Prop where
  c0 : w.cell? ⟨g, 0, none⟩ = some (.int .i64 R.brk)
  c1 : w.cell? ⟨g, 1, none⟩ = some (.int .i64 R.rest)
  c2 : w.cell? ⟨g, 2, none⟩ = some (.int .i64 R.stint)
  c3 : w.cell? ⟨g, 3, none⟩ = some (.int .i64 R.shift)
  c4 : w.cell? ⟨g, 4, none⟩ = some (.int .i64 R.week)
  c5 : w.cell? ⟨g, 5, none⟩ = some (.slice A n c)
theorem BookIn.keep {w w' : World} (k : Keep w w') {g : Nat} {R : DRules} {A : Option Addr} {n c : Nat} (m : BookIn w g R A n c) : BookIn w' g R A n c := ⟨k _ _ m.c0, k _ _ m.c1, k _ _ m.c2, k _ _ m.c3, k _ _ m.c4, k _ _ m.c5⟩
theorem BookIn.new (w : World) (R : DRules) (A : Option Addr) (n c : Nat) (t : TypeId) : BookIn (w.alloc (.cells #[.int .i64 R.brk, .int .i64 R.rest, .int .i64 R.stint, .int .i64 R.shift, .int .i64 R.week, .slice A n c] t)) w.heap.size R A n c :=
  ⟨cellNew _ _ _ 0, cellNew _ _ _ 1, cellNew _ _ _ 2, cellNew _ _ _ 3, cellNew _ _ _ 4, cellNew _ _ _ 5⟩
/-- Six cells of one's own. -/
structure Six (w : World) (g : Nat) (v0 v1 v2 v3 v4 v5 : Value) : Prop where
  c0 : w.cell? ⟨g, 0, none⟩ = some v0
  c1 : w.cell? ⟨g, 1, none⟩ = some v1
  c2 : w.cell? ⟨g, 2, none⟩ = some v2
  c3 : w.cell? ⟨g, 3, none⟩ = some v3
  c4 : w.cell? ⟨g, 4, none⟩ = some v4
  c5 : w.cell? ⟨g, 5, none⟩ = some v5
  f0 : w.frozen? ⟨g, 0, none⟩ = false
  f1 : w.frozen? ⟨g, 1, none⟩ = false
  f2 : w.frozen? ⟨g, 2, none⟩ = false
  f3 : w.frozen? ⟨g, 3, none⟩ = false
  f4 : w.frozen? ⟨g, 4, none⟩ = false
  f5 : w.frozen? ⟨g, 5, none⟩ = false
theorem Six.lt {w : World} {g : Nat} {v0 v1 v2 v3 v4 v5 : Value} (m : Six w g v0 v1 v2 v3 v4 v5) : g < w.heap.size := World.block_lt_of_cell? w _ m.c0
theorem Six.keep {w w' : World} {g : Nat} {v0 v1 v2 v3 v4 v5 : Value} (m : Six w g v0 v1 v2 v3 v4 v5) (h : Below w.heap.size w w') : Six w' g v0 v1 v2 v3 v4 v5 :=
  ⟨(h.cell (p := ⟨g, 0, none⟩) m.lt).trans m.c0, (h.cell (p := ⟨g, 1, none⟩) m.lt).trans m.c1, (h.cell (p := ⟨g, 2, none⟩) m.lt).trans m.c2, (h.cell (p := ⟨g, 3, none⟩) m.lt).trans m.c3, (h.cell (p := ⟨g, 4, none⟩) m.lt).trans m.c4, (h.cell (p := ⟨g, 5, none⟩) m.lt).trans m.c5, (h.frozen (p := ⟨g, 0, none⟩) m.lt).trans m.f0, (h.frozen (p := ⟨g, 1, none⟩) m.lt).trans m.f1, (h.frozen (p := ⟨g, 2, none⟩) m.lt).trans m.f2, (h.frozen (p := ⟨g, 3, none⟩) m.lt).trans m.f3, (h.frozen (p := ⟨g, 4, none⟩) m.lt).trans m.f4, (h.frozen (p := ⟨g, 5, none⟩) m.lt).trans m.f5⟩
theorem Six.set {w : World} {g : Nat} {v0 v1 v2 v3 v4 v5 : Value} (m : Six w g v0 v1 v2 v3 v4 v5) (u0 u1 u2 u3 u4 u5 : Value) : Six (((((((w.setCell ⟨g, 0, none⟩ u0).setCell ⟨g, 1, none⟩ u1).setCell ⟨g, 2, none⟩ u2).setCell ⟨g, 3, none⟩ u3).setCell ⟨g, 4, none⟩ u4).setCell ⟨g, 5, none⟩ u5)) g u0 u1 u2 u3 u4 u5 :=
  ⟨(World.cell?_setCell_other _ _ _ _ (by simp)).trans ((World.cell?_setCell_other _ _ _ _ (by simp)).trans ((World.cell?_setCell_other _ _ _ _ (by simp)).trans ((World.cell?_setCell_other _ _ _ _ (by simp)).trans ((World.cell?_setCell_other _ _ _ _ (by simp)).trans (World.cell?_setCell_same _ _ _ (m.c0)))))),
   (World.cell?_setCell_other _ _ _ _ (by simp)).trans ((World.cell?_setCell_other _ _ _ _ (by simp)).trans ((World.cell?_setCell_other _ _ _ _ (by simp)).trans ((World.cell?_setCell_other _ _ _ _ (by simp)).trans (World.cell?_setCell_same _ _ _ ((World.cell?_setCell_other _ _ _ _ (by simp)).trans (m.c1)))))),
   (World.cell?_setCell_other _ _ _ _ (by simp)).trans ((World.cell?_setCell_other _ _ _ _ (by simp)).trans ((World.cell?_setCell_other _ _ _ _ (by simp)).trans (World.cell?_setCell_same _ _ _ ((World.cell?_setCell_other _ _ _ _ (by simp)).trans ((World.cell?_setCell_other _ _ _ _ (by simp)).trans (m.c2)))))),
   (World.cell?_setCell_other _ _ _ _ (by simp)).trans ((World.cell?_setCell_other _ _ _ _ (by simp)).trans (World.cell?_setCell_same _ _ _ ((World.cell?_setCell_other _ _ _ _ (by simp)).trans ((World.cell?_setCell_other _ _ _ _ (by simp)).trans ((World.cell?_setCell_other _ _ _ _ (by simp)).trans (m.c3)))))),
   (World.cell?_setCell_other _ _ _ _ (by simp)).trans (World.cell?_setCell_same _ _ _ ((World.cell?_setCell_other _ _ _ _ (by simp)).trans ((World.cell?_setCell_other _ _ _ _ (by simp)).trans ((World.cell?_setCell_other _ _ _ _ (by simp)).trans ((World.cell?_setCell_other _ _ _ _ (by simp)).trans (m.c4)))))),
   World.cell?_setCell_same _ _ _ ((World.cell?_setCell_other _ _ _ _ (by simp)).trans ((World.cell?_setCell_other _ _ _ _ (by simp)).trans ((World.cell?_setCell_other _ _ _ _ (by simp)).trans ((World.cell?_setCell_other _ _ _ _ (by simp)).trans ((World.cell?_setCell_other _ _ _ _ (by simp)).trans (m.c5)))))),
   (World.frozen?_setCell _ _ _ _).trans ((World.frozen?_setCell _ _ _ _).trans ((World.frozen?_setCell _ _ _ _).trans ((World.frozen?_setCell _ _ _ _).trans ((World.frozen?_setCell _ _ _ _).trans ((World.frozen?_setCell _ _ _ _).trans (m.f0)))))), (World.frozen?_setCell _ _ _ _).trans ((World.frozen?_setCell _ _ _ _).trans ((World.frozen?_setCell _ _ _ _).trans ((World.frozen?_setCell _ _ _ _).trans ((World.frozen?_setCell _ _ _ _).trans ((World.frozen?_setCell _ _ _ _).trans (m.f1)))))), (World.frozen?_setCell _ _ _ _).trans ((World.frozen?_setCell _ _ _ _).trans ((World.frozen?_setCell _ _ _ _).trans ((World.frozen?_setCell _ _ _ _).trans ((World.frozen?_setCell _ _ _ _).trans ((World.frozen?_setCell _ _ _ _).trans (m.f2)))))), (World.frozen?_setCell _ _ _ _).trans ((World.frozen?_setCell _ _ _ _).trans ((World.frozen?_setCell _ _ _ _).trans ((World.frozen?_setCell _ _ _ _).trans ((World.frozen?_setCell _ _ _ _).trans ((World.frozen?_setCell _ _ _ _).trans (m.f3)))))), (World.frozen?_setCell _ _ _ _).trans ((World.frozen?_setCell _ _ _ _).trans ((World.frozen?_setCell _ _ _ _).trans ((World.frozen?_setCell _ _ _ _).trans ((World.frozen?_setCell _ _ _ _).trans ((World.frozen?_setCell _ _ _ _).trans (m.f4)))))), (World.frozen?_setCell _ _ _ _).trans ((World.frozen?_setCell _ _ _ _).trans ((World.frozen?_setCell _ _ _ _).trans ((World.frozen?_setCell _ _ _ _).trans ((World.frozen?_setCell _ _ _ _).trans ((World.frozen?_setCell _ _ _ _).trans (m.f5))))))⟩
theorem Six.new (w : World) (v0 v1 v2 v3 v4 v5 : Value) (t : TypeId) : Six (w.alloc (.cells #[v0, v1, v2, v3, v4, v5] t)) w.heap.size v0 v1 v2 v3 v4 v5 := ⟨cellNew _ _ _ 0, cellNew _ _ _ 1, cellNew _ _ _ 2, cellNew _ _ _ 3, cellNew _ _ _ 4, cellNew _ _ _ 5, frozenNew _ _ _ 0, frozenNew _ _ _ 1, frozenNew _ _ _ 2, frozenNew _ _ _ 3, frozenNew _ _ _ 4, frozenNew _ _ _ 5⟩
theorem below_six {w wr : World} {g B : Nat} (h : Below B w wr) (hg : B ≤ g) (u0 u1 u2 u3 u4 u5 : Value) : Below B w (((((((wr.setCell ⟨g, 0, none⟩ u0).setCell ⟨g, 1, none⟩ u1).setCell ⟨g, 2, none⟩ u2).setCell ⟨g, 3, none⟩ u3).setCell ⟨g, 4, none⟩ u4).setCell ⟨g, 5, none⟩ u5)) :=
  (((((h.setCell (p := ⟨g, 0, none⟩) hg u0).setCell (p := ⟨g, 1, none⟩) hg u1).setCell (p := ⟨g, 2, none⟩) hg u2).setCell (p := ⟨g, 3, none⟩) hg u3).setCell (p := ⟨g, 4, none⟩) hg u4).setCell (p := ⟨g, 5, none⟩) hg u5
set_option linter.unusedSimpArgs false in
set_option maxHeartbeats 1600000 in
set_option maxRecDepth 100000 in
theorem xBookOf_any (R : DRules) (l : List WRec) (A : Option Addr) (c : Nat) (w : World) (h : ArrW w A l c) :
    Calls Try.prog 43 #[drulesV R, .slice A l.length c] w fun e w' => (∃ v, e = .returned (.tuple #[v, .int .i64 (bothErr R l)]) ∧ (bothErr R l = 0 → v = bookV R A l.length c) ∧ (bothErr R l ≠ 0 → v = bookZ)) ∧ Below w.heap.size w w' := by
  have HA := Lib.hid h
  clear h
  have BR := Lib.hid ((RulesIn.new w R 29).keep (Keep.alloc _ (.cells #[.int .i64 0, .int .i64 0, .int .i64 0, .int .i64 0, .int .i64 0, .slice none 0 0] 74)))
  have BT := Lib.hid (show Six ((w.alloc (.cells #[.int .i64 R.brk, .int .i64 R.rest, .int .i64 R.stint, .int .i64 R.shift, .int .i64 R.week] 29)).alloc (.cells #[.int .i64 0, .int .i64 0, .int .i64 0, .int .i64 0, .int .i64 0, .slice none 0 0] 74)) (w.heap.size + 1) _ _ _ _ _ _ from by
    have := Six.new (w.alloc (.cells #[.int .i64 R.brk, .int .i64 R.rest, .int .i64 R.stint, .int .i64 R.shift, .int .i64 R.week] 29)) (.int .i64 0) (.int .i64 0) (.int .i64 0) (.int .i64 0) (.int .i64 0) (.slice none 0 0) 74
    rw [show (w.alloc (.cells #[.int .i64 R.brk, .int .i64 R.rest, .int .i64 R.stint, .int .i64 R.shift, .int .i64 R.week] 29)).heap.size = w.heap.size + 1 by simp] at this
    exact this)
  go_enter Try.func43, Try.ntmps43
  go_upto_region 1 with fail
  generalize hwb : (w.alloc _).alloc _ = wb at *
  have HW : Hid (Below w.heap.size w wb) := by rw [← hwb]; exact Lib.hid (((Below.refl _ _).alloc (Nat.le_refl _) _).alloc (by simp) _)
  clear hwb
  obtain ⟨a0, a1, a2, a3, a4⟩ := BR.out
  go_wp2_with fail
  refine (xCheckRules_any R _).mono ?_
  rintro e' w1 ⟨rfl, hb1⟩
  replace BR := Lib.hid (BR.out.keep (Keep.below hb1))
  replace BT := Lib.hid (BT.out.keep hb1)
  replace HW := Lib.hid (HW.out.trans (hb1.mono HW.out.size))
  clear hb1 a0 a1 a2 a3 a4
  go_wp2_with fail
  refine (xRecords_any l A c _ (HA.out.keep (Keep.below HW.out))).mono ?_
  rintro e' w2 ⟨rfl, hb1⟩
  replace BR := Lib.hid (BR.out.keep (Keep.below hb1))
  replace BT := Lib.hid (BT.out.keep hb1)
  replace HW := Lib.hid (HW.out.trans (hb1.mono HW.out.size))
  clear hb1
  have HL := Lib.hid (arr2New w2 (drulesErr R) (recsErr true l) 37)
  have hbx := (Below.refl w2.heap.size w2).alloc (Nat.le_refl _) (.cells #[.int .i64 (drulesErr R), .int .i64 (recsErr true l)] 37)
  replace BR := Lib.hid (BR.out.keep (Keep.below hbx))
  replace BT := Lib.hid (BT.out.keep hbx)
  replace HW := Lib.hid (HW.out.trans (hbx.mono HW.out.size))
  clear hbx
  go_wp2_with fail
  refine (firstError_any [drulesErr R, recsErr true l] _ _ _ HL.out).mono ?_
  rintro e' wx ⟨rfl, rfl⟩
  rw [show [drulesErr R, recsErr true l].length = 2 from rfl, fst_two]
  have HZ := Lib.hid (show bothErr R l = if drulesErr R ≠ 0 then drulesErr R else recsErr true l from rfl)
  rw [← HZ.out]
  clear HL
  generalize hwy : w2.alloc _ = wy at *
  clear hwy
  obtain ⟨a0, a1, a2, a3, a4⟩ := BR.out
  obtain ⟨b0, b1, b2, b3, b4, b5, f0, f1, f2, f3, f4, f5⟩ := BT.out
  by_cases he : bothErr R l = 0
  · have HE := Lib.hid he
    rw [he]
    clear he
    go_wp2_with fail
    obtain ⟨s0, s1, s2, s3, s4, s5, -, -, -, -, -, -⟩ := BT.out.set (.int .i64 R.brk) (.int .i64 R.rest) (.int .i64 R.stint) (.int .i64 R.shift) (.int .i64 R.week) (.slice A l.length c)
    refine bodyPost_ret (v := .tuple #[bookV R A l.length c, .int .i64 0]) (by simp [results, Try.results43, go_sem, s0, s1, s2, s3, s4, s5]) rfl ⟨⟨_, by rw [HE.out], fun _ => rfl, fun h => absurd HE.out h⟩, ?_⟩
    exact below_six HW.out (by omega) _ _ _ _ _ _
  · have HE := Lib.hid he
    have e1 : (bothErr R l == 0) = false := by simpa using he
    have e2 : (bothErr R l != 0) = true := by simpa using he
    clear he
    go_wp2_with fail
    obtain ⟨s0, s1, s2, s3, s4, s5, -, -, -, -, -, -⟩ := BT.out.set (.int .i64 0) (.int .i64 0) (.int .i64 0) (.int .i64 0) (.int .i64 0) (.slice none 0 0)
    refine bodyPost_ret (v := .tuple #[bookZ, .int .i64 (bothErr R l)]) (by simp [results, Try.results43, go_sem, s0, s1, s2, s3, s4, s5]) rfl ⟨⟨_, rfl, fun h => absurd h HE.out, fun _ => rfl⟩, ?_⟩
    exact below_six HW.out (by omega) _ _ _ _ _ _
end Go.Proofs.Ytjmaankkbdpikaa

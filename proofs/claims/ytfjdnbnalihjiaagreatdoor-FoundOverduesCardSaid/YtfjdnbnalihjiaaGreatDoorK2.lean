/- Marks, items and claims: their errors. No condition. -/
import Derived.Test.YtfjdnbnalihjiaaGreatDoorK1
namespace Go.Proofs.YtfjdnbnalihjiaaGreatDoor
open Go.RowKit Fs

set_option linter.unusedSimpArgs false in
set_option maxHeartbeats 12800000 in
set_option maxRecDepth 100000 in
theorem xMarkBad_any (l : List Mrk) (A : Option Addr) (c g k : Nat) (w : World) (hB : w.cell? ⟨g, 0, none⟩ = some (.slice A l.length c)) (h : ArrMk w A l c) (hlt : k < l.length) :
    Calls Tryz.prog 77 #[.int .i64 k, .pointer (some ⟨g, 0, none⟩)] w fun e w' => e = .returned (.int .i64 (mrkErr l k)) ∧ Below w.heap.size w w' := by
  have b1 := h.le.1
  have b2 := h.le.2
  have HA := Lib.hid h
  have HB0 := Lib.hid hB
  clear h
  have hkn : (k : Int) < (l.length : Int) := by omega
  obtain ⟨b, o, rfl, q⟩ := HA.out.at_ hlt
  obtain ⟨q0, q1⟩ := q
  go_enter Tryz.func77, Tryz.ntmps77
  go_wp2_with fail
  have HBd : Hid (Below w.heap.size w w.drew) := Lib.hid (Below.refl _ _).drew
  have MK : Hid (∀ w', Below w.heap.size w w' → w'.cell? ⟨g, 0, none⟩ = some (.slice (some ⟨b, o, none⟩) l.length c) ∧ w'.cell? ⟨b, o + k * 2, none⟩ = some (.string (lMrk l k).key) ∧ w'.cell? ⟨b, o + k * 2 + 1, none⟩ = some (.string (lMrk l k).val) ∧ Hid (Below w.heap.size w w')) :=
    Lib.hid fun w' hw => ⟨Keep.below hw _ _ hB, Keep.below hw _ _ q0, Keep.below hw _ _ q1, Lib.hid hw⟩
  refine wp_region_held_drew (S := fun w' => w'.cell? ⟨g, 0, none⟩ = some (.slice (some ⟨b, o, none⟩) l.length c) ∧ w'.cell? ⟨b, o + k * 2, none⟩ = some (.string (lMrk l k).key) ∧ w'.cell? ⟨b, o + k * 2 + 1, none⟩ = some (.string (lMrk l k).val) ∧ Hid (Below w.heap.size w w')) (by kernel_rfl) (MK.out _ HBd.out) (fun hHeld => ?_)
  refine wpAnyH_take (i := 0) (v := ?val0x1) rfl (by kernel_rfl) (by kernel_rfl) (by kernel_rfl) (fun _ _ _ h => h) (Or.inl ⟨by rfl, fun w9 hS9 => ?yields0x1⟩) (by assumption) ?later0x1
  case yields0x1 =>
    dsimp only at hS9
    go_simp
    try with_reducible rfl
  try simp only [Act.put, List.getElem_toArray, List.getElem_cons_succ, List.getElem_cons_zero, List.setIfInBounds_toArray, List.set_cons_zero, List.set_cons_succ]
  refine wpAnyH_take (i := 1) (v := ?val1x2) rfl (by kernel_rfl) (by kernel_rfl) (by kernel_rfl) (fun _ _ _ h => h) (Or.inl ⟨by rfl, fun w9 hS9 => ?yields1x2⟩) (by assumption) ?later1x2
  case yields1x2 =>
    dsimp only at hS9
    go_simp
    try with_reducible rfl
  try simp only [Act.put, List.getElem_toArray, List.getElem_cons_succ, List.getElem_cons_zero, List.setIfInBounds_toArray, List.set_cons_zero, List.set_cons_succ]
  refine wpAnyH_take (i := 2) (v := ?val2x3) rfl (by kernel_rfl) (by kernel_rfl) (by kernel_rfl) (fun _ _ _ h => h) (Or.inl ⟨by rfl, fun w9 hS9 => ?yields2x3⟩) (by assumption) ?later2x3
  case yields2x3 =>
    dsimp only at hS9
    go_simp
    try with_reducible rfl
  try simp only [Act.put, List.getElem_toArray, List.getElem_cons_succ, List.getElem_cons_zero, List.setIfInBounds_toArray, List.set_cons_zero, List.set_cons_succ]
  refine wpAnyH_take (i := 3) (v := ?val3x4) rfl (by kernel_rfl) (by kernel_rfl) (by kernel_rfl) (fun _ _ _ h => h) (Or.inl ⟨by rfl, fun w9 hS9 => ?yields3x4⟩) (by assumption) ?later3x4
  case yields3x4 =>
    dsimp only at hS9
    go_simp
    try with_reducible rfl
  try simp only [Act.put, List.getElem_toArray, List.getElem_cons_succ, List.getElem_cons_zero, List.setIfInBounds_toArray, List.set_cons_zero, List.set_cons_succ]
  refine wpAnyH_take (i := 4) (v := ?val4x5) rfl (by kernel_rfl) (by kernel_rfl) (by kernel_rfl) (fun _ _ _ h => h) (Or.inl ⟨by rfl, fun w9 hS9 => ?yields4x5⟩) (by assumption) ?later4x5
  case yields4x5 =>
    dsimp only at hS9
    go_simp
    try with_reducible rfl
  try simp only [Act.put, List.getElem_toArray, List.getElem_cons_succ, List.getElem_cons_zero, List.setIfInBounds_toArray, List.set_cons_zero, List.set_cons_succ]
  refine wpAnyH_take (i := 5) (v := ?val5x6) rfl (by kernel_rfl) (by kernel_rfl) (by kernel_rfl) (fun _ _ _ h => h) (Or.inl ⟨by rfl, fun w9 hS9 => ?yields5x6⟩) (by assumption) ?later5x6
  case yields5x6 =>
    dsimp only at hS9
    go_simp
    try with_reducible rfl
  try simp only [Act.put, List.getElem_toArray, List.getElem_cons_succ, List.getElem_cons_zero, List.setIfInBounds_toArray, List.set_cons_zero, List.set_cons_succ]
  refine wpAnyH_take (i := 6) (v := ?val6x7) rfl (by kernel_rfl) (by kernel_rfl) (by kernel_rfl) (fun _ _ _ h => h) (Or.inl ⟨by rfl, fun w9 hS9 => ?yields6x7⟩) (by assumption) ?later6x7
  case yields6x7 =>
    dsimp only at hS9
    go_simp
    try with_reducible rfl
  try simp only [Act.put, List.getElem_toArray, List.getElem_cons_succ, List.getElem_cons_zero, List.setIfInBounds_toArray, List.set_cons_zero, List.set_cons_succ]
  refine wpAnyH_take (i := 7) (v := ?val7x8) rfl (by kernel_rfl) (by kernel_rfl) (by kernel_rfl) (fun _ _ _ h => h) (Or.inl ⟨by rfl, fun w9 hS9 => ?yields7x8⟩) (by assumption) ?later7x8
  case yields7x8 =>
    dsimp only at hS9
    go_simp
    try with_reducible rfl
  try simp only [Act.put, List.getElem_toArray, List.getElem_cons_succ, List.getElem_cons_zero, List.setIfInBounds_toArray, List.set_cons_zero, List.set_cons_succ]
  refine wpAnyH_take (i := 8) (v := ?val8x9) rfl (by kernel_rfl) (by kernel_rfl) (by kernel_rfl) (fun _ _ _ h => h) (Or.inl ⟨by rfl, fun w9 hS9 => ?yields8x9⟩) (by assumption) ?later8x9
  case yields8x9 =>
    dsimp only at hS9
    go_simp
    try with_reducible rfl
  try simp only [Act.put, List.getElem_toArray, List.getElem_cons_succ, List.getElem_cons_zero, List.setIfInBounds_toArray, List.set_cons_zero, List.set_cons_succ]
  refine wpAnyH_take (i := 9) (v := ?val9x10) rfl (by kernel_rfl) (by kernel_rfl) (by kernel_rfl) (fun _ _ _ h => h) (Or.inl ⟨by rfl, fun w9 hS9 => ?yields9x10⟩) (by assumption) ?later9x10
  case yields9x10 =>
    dsimp only at hS9
    go_simp
    try with_reducible rfl
  try simp only [Act.put, List.getElem_toArray, List.getElem_cons_succ, List.getElem_cons_zero, List.setIfInBounds_toArray, List.set_cons_zero, List.set_cons_succ]
  refine wpAnyH_ready (rs := [10]) (by kernel_rfl) (by simp) ?_
  refine AllReadyH.cons rfl (fun K hK => ?_) AllReadyH.nil
  go_simp
  refine hK.out _ _ ?_ (fun hHeld => ?_)
  · (try dsimp only)
    (go_split_ands; exact MK.out _ (Below.alloc (Hid.out (by assumption)) (Hid.out (by assumption) : Below w.heap.size w _).size _))
  clear hK K
  try simp only [Act.put, List.getElem_toArray, List.getElem_cons_succ, List.getElem_cons_zero, List.setIfInBounds_toArray, List.set_cons_zero, List.set_cons_succ]
  refine wpAnyH_ready (rs := [11]) (by kernel_rfl) (by simp) ?_
  refine AllReadyH.cons rfl (fun K hK => ?_) AllReadyH.nil
  go_simp
  go_at_call 78
  go_split_ands
  refine (xAreNames_any [(lMrk l k).key, (lMrk l k).val] _ _ _ ((strs2New _ _ _ _).keep (Keep.drew _))).mono ?_
  rintro e' w5 ⟨rfl, hb1⟩
  go_wp2_with fail
  refine hK.out _ _ ?_ (fun hHeld => ?_)
  · (try dsimp only)
    (go_split_ands; exact MK.out _ (Below.trans (Hid.out (by assumption)) (hb1.mono (Hid.out (by assumption) : Below w.heap.size w _).size)))
  clear hK K
  try simp only [Act.put, List.getElem_toArray, List.getElem_cons_succ, List.getElem_cons_zero, List.setIfInBounds_toArray, List.set_cons_zero, List.set_cons_succ]
  refine wpAnyH_take (i := 12) (v := ?val12x11) rfl (by kernel_rfl) (by kernel_rfl) (by kernel_rfl) (fun _ _ _ h => h) (Or.inl ⟨by rfl, fun w9 hS9 => ?yields12x11⟩) (by assumption) ?later12x11
  case yields12x11 =>
    dsimp only at hS9
    go_simp
    try with_reducible rfl
  try simp only [Act.put, List.getElem_toArray, List.getElem_cons_succ, List.getElem_cons_zero, List.setIfInBounds_toArray, List.set_cons_zero, List.set_cons_succ]
  refine wpAnyH_take (i := 13) (v := ?val13x12) rfl (by kernel_rfl) (by kernel_rfl) (by kernel_rfl) (fun _ _ _ h => h) (Or.inl ⟨by rfl, fun w9 hS9 => ?yields13x12⟩) (by assumption) ?later13x12
  case yields13x12 =>
    dsimp only at hS9
    go_simp
    try with_reducible rfl
  try simp only [Act.put, List.getElem_toArray, List.getElem_cons_succ, List.getElem_cons_zero, List.setIfInBounds_toArray, List.set_cons_zero, List.set_cons_succ]
  refine wpAnyH_done (by kernel_rfl) ?_ _
  obtain ⟨-, -, -, HB⟩ := hHeld
  clear HBd MK
  rw [areN_two]
  generalize hwe : w5 = we at *
  have HW := HB
  clear HB
  cases h1 : isName (lMrk l k).key && isName (lMrk l k).val with
  | false =>
    have F : Hid (mrkErr l k = 4) := Lib.hid (by
      unfold mrkErr
      rw [if_pos]
      cases ha : isName (lMrk l k).key with
      | false => exact Or.inl rfl
      | true => rw [ha] at h1; exact Or.inr (by simpa using h1))
    clear h1
    go_wp2_with fail
    go_ret
    exact ⟨ret_int F.out.symm, HW.out⟩
  | true =>
    have hn : ¬ (isName (lMrk l k).key = false ∨ isName (lMrk l k).val = false) := by
      rw [Bool.and_eq_true] at h1
      rw [h1.1, h1.2]; decide
    have F0 := Lib.hid (show mrkErr l k = if 0 < k ∧ leB (lMrk l k).key (lMrk l (k - 1)).key = true then 9 else 0 by unfold mrkErr; rw [if_neg hn])
    clear hn h1
    by_cases hk0 : 0 < k
    · have d3 : decide ((k : Int) > 0) = true := decide_eq_true (by omega)
      have d4 : decide (0 < (k : Int)) = true := decide_eq_true (by omega)
      have d6 : decide (0 < k) = true := decide_eq_true hk0
      have cB := Keep.below HW.out _ _ HB0.out
      obtain ⟨b', o', e', r, q⟩ := (HA.out.keep (Keep.below HW.out)).two (i := k - 1) (by omega) hlt
      obtain ⟨rfl, rfl⟩ : b = b' ∧ o = o' := by simpa using e'
      clear e'
      obtain ⟨j, hj⟩ : ∃ j, k = j + 1 := ⟨k - 1, by omega⟩
      have hkj : k - 1 = j := by omega
      have hk1 : (j : Int) < (l.length : Int) := by omega
      rw [hkj] at r
      have hkp : (k : Int) - 1 = (j : Int) := by omega
      have hwj : IntKind.i64.wrap (j : Int) = (j : Int) := by rw [IntKind.wrap_i64]; omega
      obtain ⟨q0, q1⟩ := q
      obtain ⟨r0, r1⟩ := r
      cases hq : leB (lMrk l k).key (lMrk l j).key with
      | false =>
        have F := Lib.hid (F0.out.trans (if_neg (fun hh => by rw [hkj, hq] at hh; exact absurd hh.2 (by decide))))
        have e1 : (Go.Op.bytesLess (lMrk l k).key.toList (lMrk l j).key.toList || ((lMrk l k).key.toList == (lMrk l j).key.toList)) = false := hq
        clear hq hj hk0 hkj
        go_wp2_with fail
        go_quiet (fail)
        go_wp2_with fail
        go_ret
        exact ⟨ret_int F.out.symm, bdrewN HW.out _⟩
      | true =>
        have F := Lib.hid (F0.out.trans (if_pos ⟨hk0, by rw [hkj]; exact hq⟩))
        have e1 : (Go.Op.bytesLess (lMrk l k).key.toList (lMrk l j).key.toList || ((lMrk l k).key.toList == (lMrk l j).key.toList)) = true := hq
        clear hq hj hk0 hkj
        go_wp2_with fail
        go_quiet (fail)
        go_wp2_with fail
        go_ret
        exact ⟨ret_int F.out.symm, bdrewN HW.out _⟩
    · obtain rfl : k = 0 := by omega
      have F := Lib.hid (F0.out.trans (if_neg (fun hh => hk0 hh.1)))
      clear hk0
      go_wp2_with fail
      go_quiet (fail)
      go_wp2_with fail
      go_ret
      exact ⟨ret_int F.out.symm, bdrewN HW.out _⟩
set_option linter.unusedSimpArgs false in
set_option maxHeartbeats 12800000 in
set_option maxRecDepth 100000 in
theorem xCheckMarks_any (l : List Mrk) (A : Option Addr) (c : Nat) (w : World) (h : ArrMk w A l c) :
    Calls Tryz.prog 18 #[.slice A l.length c] w fun e w' => e = .returned (.tuple #[.int .i64 (marksAt l : Nat), .int .i64 (marksErr l)]) ∧ Below w.heap.size w w' := by
  have b1 := h.le.1
  have b2 := h.le.2
  have HA := Lib.hid (h.keep (Keep.alloc w (.cells #[.slice A l.length c] 22)))
  clear h
  have c0 := cellNew w #[.slice A l.length c] 22 0
  have HC := Lib.hid c0
  go_enter Tryz.func18, Tryz.ntmps18
  go_wp2_with fail
  refine (xListG_any 77 (.pointer (some ⟨w.heap.size, 0, none⟩)) l.length 8 (mrkErr l) _ (by omega) (by omega) (fun args w => by kernel_rfl) (fun w' hb i hi => xMarkBad_any l A c _ i w' (Keep.below hb _ _ HC.out) (HA.out.keep (Keep.below hb)) hi)).mono ?_
  rintro e w1 ⟨rfl, hb1⟩
  go_wp2_with fail
  go_ret2
  exact ⟨rfl, ((Below.refl _ _).alloc (Nat.le_refl _) _).trans (hb1.mono (by simp))⟩
set_option maxHeartbeats 400000 in
theorem xMarksErr_any (l : List Mrk) (A : Option Addr) (c : Nat) (w : World) (h : ArrMk w A l c) :
    Calls Tryz.prog 83 #[.slice A l.length c] w fun e w' => e = .returned (.int .i64 (marksErr l)) ∧ Below w.heap.size w w' := by
  go_enter Tryz.func83, Tryz.ntmps83
  go_wp2_with fail
  refine (xCheckMarks_any l A c _ h).mono ?_
  rintro e w1 ⟨rfl, hb1⟩
  go_wp2_with fail
  go_ret
  exact ⟨rfl, hb1⟩

/-! ### things -/
set_option maxHeartbeats 400000 in
theorem xItemname_any (x : Thg) (p : Option Addr) (pc : Nat) (w : World) : Calls Tryz.prog 234 #[thgV x p pc] w fun e w' => e = .returned (.string x.name) ∧ Below w.heap.size w w' := by
  have c0 := cellNew w #[.string x.name, .int .i64 x.day, .string x.who, .slice p x.marks.length pc] 123 0
  go_enter Tryz.func234, Tryz.ntmps234
  go_wp2_with fail
  go_ret
  exact ⟨rfl, (Below.refl _ _).alloc (Nat.le_refl _) _⟩
set_option maxHeartbeats 400000 in
theorem xItemday_any (x : Thg) (p : Option Addr) (pc : Nat) (w : World) : Calls Tryz.prog 232 #[thgV x p pc] w fun e w' => e = .returned (.int .i64 x.day) ∧ Below w.heap.size w w' := by
  have c0 := cellNew w #[.string x.name, .int .i64 x.day, .string x.who, .slice p x.marks.length pc] 123 1
  go_enter Tryz.func232, Tryz.ntmps232
  go_wp2_with fail
  go_ret
  exact ⟨rfl, (Below.refl _ _).alloc (Nat.le_refl _) _⟩
set_option maxHeartbeats 400000 in
theorem xItemperson_any (x : Thg) (p : Option Addr) (pc : Nat) (w : World) : Calls Tryz.prog 235 #[thgV x p pc] w fun e w' => e = .returned (.string x.who) ∧ Below w.heap.size w w' := by
  have c0 := cellNew w #[.string x.name, .int .i64 x.day, .string x.who, .slice p x.marks.length pc] 123 2
  go_enter Tryz.func235, Tryz.ntmps235
  go_wp2_with fail
  go_ret
  exact ⟨rfl, (Below.refl _ _).alloc (Nat.le_refl _) _⟩
set_option maxHeartbeats 400000 in
theorem xItemmarks_any (x : Thg) (p : Option Addr) (pc : Nat) (w : World) : Calls Tryz.prog 233 #[thgV x p pc] w fun e w' => e = .returned (.slice p x.marks.length pc) ∧ Below w.heap.size w w' := by
  have c0 := cellNew w #[.string x.name, .int .i64 x.day, .string x.who, .slice p x.marks.length pc] 123 3
  go_enter Tryz.func233, Tryz.ntmps233
  go_wp2_with fail
  go_ret
  exact ⟨rfl, (Below.refl _ _).alloc (Nat.le_refl _) _⟩
set_option linter.unusedSimpArgs false in
set_option maxHeartbeats 12800000 in
set_option maxRecDepth 100000 in
theorem xThingItem_any (x : Thg) (v : Value) (w : World) (hv : RdThg w v x) :
    Calls Tryz.prog 80 #[.iface 123 v] w fun e w' => e = .returned (.int .i64 (thgErr x)) ∧ Below w.heap.size w w' := by
  obtain ⟨p, pc, rfl, m⟩ := hv
  have M := Lib.hid m
  clear m
  have m0 : ∀ w : World, (method 169 123 (thgV x p pc) "fiacre/found.name").run Tryz.prog w = .ok (234, thgV x p pc) w := fun _ => by kernel_rfl
  have m1 : ∀ w : World, (method 169 123 (thgV x p pc) "fiacre/found.day").run Tryz.prog w = .ok (232, thgV x p pc) w := fun _ => by kernel_rfl
  have m2 : ∀ w : World, (method 169 123 (thgV x p pc) "fiacre/found.person").run Tryz.prog w = .ok (235, thgV x p pc) w := fun _ => by kernel_rfl
  have m3 : ∀ w : World, (method 169 123 (thgV x p pc) "fiacre/found.marks").run Tryz.prog w = .ok (233, thgV x p pc) w := fun _ => by kernel_rfl
  go_enter Tryz.func80, Tryz.ntmps80
  go_wp2_with fail
  refine (xItemname_any _ _ _ _).mono ?_
  rintro e w1 ⟨rfl, hb1⟩
  have HW := Lib.hid hb1
  clear hb1
  go_wp2_with fail
  refine (xItemperson_any _ _ _ _).mono ?_
  rintro e w2 ⟨rfl, hb1⟩
  replace HW := Lib.hid (HW.out.trans (hb1.mono HW.out.size))
  clear hb1
  have HN := Lib.hid (strs2New w2 x.name x.who 9)
  replace HW := Lib.hid (HW.out.alloc HW.out.size (.cells #[.string x.name, .string x.who] 9))
  go_wp2_with fail
  refine (xAreNames_any [x.name, x.who] _ _ _ HN.out).mono ?_
  rintro e w3 ⟨rfl, hb1⟩
  replace HW := Lib.hid (HW.out.trans (hb1.mono HW.out.size))
  clear hb1 HN
  rw [areN_two]
  cases h1 : isName x.name && isName x.who with
  | false =>
    have F : Hid (thgErr x = 4) := Lib.hid (by
      unfold thgErr
      rw [if_pos]
      cases ha : isName x.name with
      | false => exact Or.inl rfl
      | true => rw [ha] at h1; exact Or.inr (by simpa using h1))
    clear h1
    go_wp2_with fail
    go_ret
    exact ⟨ret_int F.out.symm, HW.out⟩
  | true =>
    have hn : ¬ (isName x.name = false ∨ isName x.who = false) := by
      rw [Bool.and_eq_true] at h1
      rw [h1.1, h1.2]; decide
    have F := Lib.hid (show thgErr x = fst (listI [dayErr x.day 0, marksErr x.marks]) 2 by
      unfold thgErr
      rw [if_neg hn, gfst_two]
      unfold dayErr isDay
      cases within x.day 0 100000 <;> rfl)
    clear hn h1
    go_wp2_with fail
    refine (xItemday_any _ _ _ _).mono ?_
    rintro e w4 ⟨rfl, hb1⟩
    replace HW := Lib.hid (HW.out.trans (hb1.mono HW.out.size))
    clear hb1
    go_wp2_with fail
    refine (xDayErr_any _ _ _).mono ?_
    rintro e wx ⟨rfl, rfl⟩
    go_wp2_with fail
    refine (xItemmarks_any _ _ _ _).mono ?_
    rintro e w5 ⟨rfl, hb1⟩
    replace HW := Lib.hid (HW.out.trans (hb1.mono HW.out.size))
    clear hb1
    go_wp2_with fail
    refine (xMarksErr_any x.marks _ _ _ (M.out.keep (Keep.below HW.out))).mono ?_
    rintro e w6 ⟨rfl, hb1⟩
    replace HW := Lib.hid (HW.out.trans (hb1.mono HW.out.size))
    clear hb1
    have HN := Lib.hid (gints2New w6 (dayErr x.day 0) (marksErr x.marks) 30)
    replace HW := Lib.hid (HW.out.alloc HW.out.size (.cells #[.int .i64 (dayErr x.day 0), .int .i64 (marksErr x.marks)] 30))
    go_wp2_with fail
    refine (xFirst_any [dayErr x.day 0, marksErr x.marks] _ _ _ HN.out).mono ?_
    rintro e wx ⟨rfl, rfl⟩
    go_wp2_with fail
    go_ret
    exact ⟨ret_int F.out.symm, HW.out⟩
set_option linter.unusedSimpArgs false in
set_option maxHeartbeats 12800000 in
set_option maxRecDepth 100000 in
theorem xCheckItem_any (x : Thg) (v : Value) (w : World) (hv : RdThg w v x) :
    Calls Tryz.prog 21 #[v] w fun e w' => e = .returned (.int .i64 (thgErr x)) ∧ Below w.heap.size w w' := by
  obtain ⟨p, pc, rfl, m⟩ := hv
  have M := Lib.hid (m.keep (Keep.alloc w (.cells #[.string x.name, .int .i64 x.day, .string x.who, .slice p x.marks.length pc] 24)))
  obtain ⟨q0, q1, q2, q3⟩ := ThgAt.new w x p pc 24
  clear m
  go_enter Tryz.func21, Tryz.ntmps21
  go_wp2_with fail
  refine (xThingItem_any x _ _ ⟨_, _, rfl, M.out⟩).mono ?_
  rintro e w1 ⟨rfl, hb1⟩
  go_wp2_with fail
  go_ret
  exact ⟨rfl, ((Below.refl _ _).alloc (Nat.le_refl _) _).trans (hb1.mono (by simp))⟩
set_option maxHeartbeats 400000 in
theorem xClaimname_any (x : Thg) (p : Option Addr) (pc : Nat) (w : World) : Calls Tryz.prog 238 #[thgV x p pc] w fun e w' => e = .returned (.string x.name) ∧ Below w.heap.size w w' := by
  have c0 := cellNew w #[.string x.name, .int .i64 x.day, .string x.who, .slice p x.marks.length pc] 125 0
  go_enter Tryz.func238, Tryz.ntmps238
  go_wp2_with fail
  go_ret
  exact ⟨rfl, (Below.refl _ _).alloc (Nat.le_refl _) _⟩
set_option maxHeartbeats 400000 in
theorem xClaimday_any (x : Thg) (p : Option Addr) (pc : Nat) (w : World) : Calls Tryz.prog 236 #[thgV x p pc] w fun e w' => e = .returned (.int .i64 x.day) ∧ Below w.heap.size w w' := by
  have c0 := cellNew w #[.string x.name, .int .i64 x.day, .string x.who, .slice p x.marks.length pc] 125 1
  go_enter Tryz.func236, Tryz.ntmps236
  go_wp2_with fail
  go_ret
  exact ⟨rfl, (Below.refl _ _).alloc (Nat.le_refl _) _⟩
set_option maxHeartbeats 400000 in
theorem xClaimperson_any (x : Thg) (p : Option Addr) (pc : Nat) (w : World) : Calls Tryz.prog 239 #[thgV x p pc] w fun e w' => e = .returned (.string x.who) ∧ Below w.heap.size w w' := by
  have c0 := cellNew w #[.string x.name, .int .i64 x.day, .string x.who, .slice p x.marks.length pc] 125 2
  go_enter Tryz.func239, Tryz.ntmps239
  go_wp2_with fail
  go_ret
  exact ⟨rfl, (Below.refl _ _).alloc (Nat.le_refl _) _⟩
set_option maxHeartbeats 400000 in
theorem xClaimmarks_any (x : Thg) (p : Option Addr) (pc : Nat) (w : World) : Calls Tryz.prog 237 #[thgV x p pc] w fun e w' => e = .returned (.slice p x.marks.length pc) ∧ Below w.heap.size w w' := by
  have c0 := cellNew w #[.string x.name, .int .i64 x.day, .string x.who, .slice p x.marks.length pc] 125 3
  go_enter Tryz.func237, Tryz.ntmps237
  go_wp2_with fail
  go_ret
  exact ⟨rfl, (Below.refl _ _).alloc (Nat.le_refl _) _⟩
set_option linter.unusedSimpArgs false in
set_option maxHeartbeats 12800000 in
set_option maxRecDepth 100000 in
theorem xThingClaim_any (x : Thg) (v : Value) (w : World) (hv : RdThg w v x) :
    Calls Tryz.prog 80 #[.iface 125 v] w fun e w' => e = .returned (.int .i64 (thgErr x)) ∧ Below w.heap.size w w' := by
  obtain ⟨p, pc, rfl, m⟩ := hv
  have M := Lib.hid m
  clear m
  have m0 : ∀ w : World, (method 169 125 (thgV x p pc) "fiacre/found.name").run Tryz.prog w = .ok (238, thgV x p pc) w := fun _ => by kernel_rfl
  have m1 : ∀ w : World, (method 169 125 (thgV x p pc) "fiacre/found.day").run Tryz.prog w = .ok (236, thgV x p pc) w := fun _ => by kernel_rfl
  have m2 : ∀ w : World, (method 169 125 (thgV x p pc) "fiacre/found.person").run Tryz.prog w = .ok (239, thgV x p pc) w := fun _ => by kernel_rfl
  have m3 : ∀ w : World, (method 169 125 (thgV x p pc) "fiacre/found.marks").run Tryz.prog w = .ok (237, thgV x p pc) w := fun _ => by kernel_rfl
  go_enter Tryz.func80, Tryz.ntmps80
  go_wp2_with fail
  refine (xClaimname_any _ _ _ _).mono ?_
  rintro e w1 ⟨rfl, hb1⟩
  have HW := Lib.hid hb1
  clear hb1
  go_wp2_with fail
  refine (xClaimperson_any _ _ _ _).mono ?_
  rintro e w2 ⟨rfl, hb1⟩
  replace HW := Lib.hid (HW.out.trans (hb1.mono HW.out.size))
  clear hb1
  have HN := Lib.hid (strs2New w2 x.name x.who 9)
  replace HW := Lib.hid (HW.out.alloc HW.out.size (.cells #[.string x.name, .string x.who] 9))
  go_wp2_with fail
  refine (xAreNames_any [x.name, x.who] _ _ _ HN.out).mono ?_
  rintro e w3 ⟨rfl, hb1⟩
  replace HW := Lib.hid (HW.out.trans (hb1.mono HW.out.size))
  clear hb1 HN
  rw [areN_two]
  cases h1 : isName x.name && isName x.who with
  | false =>
    have F : Hid (thgErr x = 4) := Lib.hid (by
      unfold thgErr
      rw [if_pos]
      cases ha : isName x.name with
      | false => exact Or.inl rfl
      | true => rw [ha] at h1; exact Or.inr (by simpa using h1))
    clear h1
    go_wp2_with fail
    go_ret
    exact ⟨ret_int F.out.symm, HW.out⟩
  | true =>
    have hn : ¬ (isName x.name = false ∨ isName x.who = false) := by
      rw [Bool.and_eq_true] at h1
      rw [h1.1, h1.2]; decide
    have F := Lib.hid (show thgErr x = fst (listI [dayErr x.day 0, marksErr x.marks]) 2 by
      unfold thgErr
      rw [if_neg hn, gfst_two]
      unfold dayErr isDay
      cases within x.day 0 100000 <;> rfl)
    clear hn h1
    go_wp2_with fail
    refine (xClaimday_any _ _ _ _).mono ?_
    rintro e w4 ⟨rfl, hb1⟩
    replace HW := Lib.hid (HW.out.trans (hb1.mono HW.out.size))
    clear hb1
    go_wp2_with fail
    refine (xDayErr_any _ _ _).mono ?_
    rintro e wx ⟨rfl, rfl⟩
    go_wp2_with fail
    refine (xClaimmarks_any _ _ _ _).mono ?_
    rintro e w5 ⟨rfl, hb1⟩
    replace HW := Lib.hid (HW.out.trans (hb1.mono HW.out.size))
    clear hb1
    go_wp2_with fail
    refine (xMarksErr_any x.marks _ _ _ (M.out.keep (Keep.below HW.out))).mono ?_
    rintro e w6 ⟨rfl, hb1⟩
    replace HW := Lib.hid (HW.out.trans (hb1.mono HW.out.size))
    clear hb1
    have HN := Lib.hid (gints2New w6 (dayErr x.day 0) (marksErr x.marks) 30)
    replace HW := Lib.hid (HW.out.alloc HW.out.size (.cells #[.int .i64 (dayErr x.day 0), .int .i64 (marksErr x.marks)] 30))
    go_wp2_with fail
    refine (xFirst_any [dayErr x.day 0, marksErr x.marks] _ _ _ HN.out).mono ?_
    rintro e wx ⟨rfl, rfl⟩
    go_wp2_with fail
    go_ret
    exact ⟨ret_int F.out.symm, HW.out⟩
set_option linter.unusedSimpArgs false in
set_option maxHeartbeats 12800000 in
set_option maxRecDepth 100000 in
theorem xCheckClaim_any (x : Thg) (v : Value) (w : World) (hv : RdThg w v x) :
    Calls Tryz.prog 24 #[v] w fun e w' => e = .returned (.int .i64 (thgErr x)) ∧ Below w.heap.size w w' := by
  obtain ⟨p, pc, rfl, m⟩ := hv
  have M := Lib.hid (m.keep (Keep.alloc w (.cells #[.string x.name, .int .i64 x.day, .string x.who, .slice p x.marks.length pc] 26)))
  obtain ⟨q0, q1, q2, q3⟩ := ThgAt.new w x p pc 26
  clear m
  go_enter Tryz.func24, Tryz.ntmps24
  go_wp2_with fail
  refine (xThingClaim_any x _ _ ⟨_, _, rfl, M.out⟩).mono ?_
  rintro e w1 ⟨rfl, hb1⟩
  go_wp2_with fail
  go_ret
  exact ⟨rfl, ((Below.refl _ _).alloc (Nat.le_refl _) _).trans (hb1.mono (by simp))⟩
end Go.Proofs.YtfjdnbnalihjiaaGreatDoor

/- The best candidate: what the program answers. No condition. -/
import Derived.Test.YtfjdnbnalihjiaaGreatDoorK6
import Derived.Test.YtfjdnbnalihjiaaGreatDoorG18
namespace Go.Proofs.YtfjdnbnalihjiaaGreatDoor
open Go.RowKit Fs

def Fs.cmpI (a b : Int) : Int := if a < b then -1 else if b < a then 1 else 0
set_option maxHeartbeats 400000 in
theorem xIsNaN_any (n : Int) (w : World) : Calls Tryz.prog 157 #[.int .i64 n] w fun e w' => e = .returned (.bool false) ∧ w = w' := by
  have e1 : (n != n) = false := by simp
  have e2 : (n == n) = true := by simp
  go_enter Tryz.func157, Tryz.ntmps157
  go_wp2_with fail
  go_ret
  exact ⟨rfl, rfl⟩
set_option maxHeartbeats 800000 in
theorem xCompare_any (a b : Int) (w : World) : Calls Tryz.prog 132 #[.int .i64 a, .int .i64 b] w fun e w' => e = .returned (.int .i64 (cmpI a b)) ∧ w = w' := by
  go_enter Tryz.func132, Tryz.ntmps132
  go_wp2_with fail
  refine (xIsNaN_any _ _).mono ?_
  rintro e w' ⟨rfl, rfl⟩
  go_wp2_with fail
  refine (xIsNaN_any _ _).mono ?_
  rintro e w' ⟨rfl, rfl⟩
  by_cases h1 : a < b
  · have F := Lib.hid (show cmpI a b = -1 from if_pos h1)
    have d1 := decide_eq_true h1
    clear h1
    go_wp2_with fail
    go_ret
    exact ⟨ret_int F.out.symm, rfl⟩
  · by_cases h2 : b < a
    · have F := Lib.hid (show cmpI a b = 1 by unfold cmpI; rw [if_neg h1, if_pos h2])
      have d1 := decide_eq_false h1
      have d2 := decide_eq_true h2
      have d3 : decide (a > b) = true := decide_eq_true h2
      clear h1 h2
      go_wp2_with fail
      go_ret
      exact ⟨ret_int F.out.symm, rfl⟩
    · have F := Lib.hid (show cmpI a b = 0 by unfold cmpI; rw [if_neg h1, if_neg h2])
      have d1 := decide_eq_false h1
      have d2 := decide_eq_false h2
      have d3 : decide (a > b) = false := decide_eq_false h2
      clear h1 h2
      go_wp2_with fail
      go_ret
      exact ⟨ret_int F.out.symm, rfl⟩
set_option maxHeartbeats 800000 in
theorem xApart_any (a b : Int) (w : World) (ha : 0 ≤ a ∧ a ≤ 100000) (hb : 0 ≤ b ∧ b ≤ 100000) : Calls Tryz.prog 133 #[.int .i64 a, .int .i64 b] w fun e w' => e = .returned (.int .i64 (size (a - b))) ∧ w = w' := by
  obtain ⟨a0, a1⟩ := ha
  obtain ⟨c0, c1⟩ := hb
  go_enter Tryz.func133, Tryz.ntmps133
  go_wp2_with fail
  all_goals
    go_ret
    exact ⟨ret_int (by unfold size; split <;> omega), rfl⟩
set_option maxHeartbeats 800000 in
theorem xOr_any (l : List Int) (A : Option Addr) (c : Nat) (w : World) (h : ArrI w A l c) :
    Calls Tryz.prog 131 #[.slice A l.length c] w fun e w' => e = .returned (.int .i64 (fst (listI l) l.length)) ∧ w = w' := by
  have b1 := h.le.1
  have b2 := h.le.2
  go_enter Tryz.func131, Tryz.ntmps131
  go_wp2
  go_loop [8] (fun i => ∃ k : Nat, k ≤ l.length ∧ i = .int .i64 k ∧ Hid (∀ j, j < k → listI l j = 0)) (fun i => l.length - (intOf i).toNat)
  case atStart => exact ⟨0, Nat.zero_le _, rfl, fun j hj => absurd hj (Nat.not_lt_zero _)⟩
  case round =>
    obtain ⟨k, hk, rfl, Hn⟩ := hrel
    by_cases hlt : k < l.length
    · obtain ⟨b, o, rfl, hc⟩ := h.at_ hlt
      by_cases h0 : listI l k = 0
      · have F : Hid (∀ j, j < k + 1 → listI l j = 0) := fun j hj => by
          by_cases e : j = k
          · subst e; exact h0
          · exact Hn.out j (by omega)
        have d0 : (listI l k == 0) = true := by simpa using h0
        clear h0
        go_wp2
        go_round
        case rel => exact ⟨k + 1, by omega, by go_num, F⟩
        case measure => simp [intOf]; omega
      · have F := Lib.hid (fst_hit hlt Hn.out h0).1
        have d0 : (listI l k == 0) = false := by simpa using h0
        clear h0
        go_wp2
        go_ret
        exact ⟨ret_int F.out.symm, rfl⟩
    · have F := Lib.hid (show fst (listI l) l.length = 0 from fst_none fun j hj => Hn.out j (by omega))
      go_wp2
      go_ret
      exact ⟨ret_int F.out.symm, rfl⟩
def Fs.cmpFor (c x y : Thg) : Int := if cmpI (agrees y.marks c.marks) (agrees x.marks c.marks) ≠ 0 then cmpI (agrees y.marks c.marks) (agrees x.marks c.marks) else cmpI (size (x.day - c.day)) (size (y.day - c.day))
theorem Fs.cmpI_lt {a b : Int} : cmpI a b < 0 ↔ a < b := by
  unfold cmpI
  split
  · omega
  · split <;> omega
theorem Fs.cmpI_zero {a b : Int} : cmpI a b = 0 ↔ a = b := by
  unfold cmpI
  split
  · omega
  · split <;> omega
theorem Fs.cmpFor_is (l : List Thg) (c : Thg) (i b : Nat) : decide (cmpFor c (lThg l i) (lThg l b) < 0) = better l c i b := by
  rw [Bool.eq_iff_iff]
  unfold cmpFor better
  simp only [decide_eq_true_eq, Bool.or_eq_true, Bool.and_eq_true]
  by_cases h : cmpI (agrees (lThg l b).marks c.marks) (agrees (lThg l i).marks c.marks) = 0
  · rw [if_neg (fun hh => hh h), cmpI_lt]
    have := cmpI_zero.1 h
    omega
  · rw [if_pos h, cmpI_lt]
    have : ¬ agrees (lThg l b).marks c.marks = agrees (lThg l i).marks c.marks := fun e => h (cmpI_zero.2 e)
    omega
set_option linter.unusedSimpArgs false in
set_option maxHeartbeats 12800000 in
set_option maxRecDepth 100000 in
theorem xComparedFor_any (c x y : Thg) (vc vx vy : Value) (w : World) (hc : RdThg w vc c) (hx : RdThg w vx x) (hy : RdThg w vy y) (oc : thgErr c = 0) (ox : thgErr x = 0) (oy : thgErr y = 0) :
    Calls Tryz.prog 89 #[vc, vx, vy] w fun e w' => e = .returned (.int .i64 (cmpFor c x y)) ∧ Below w.heap.size w w' := by
  obtain ⟨q, qc, rfl, m⟩ := hc
  obtain ⟨p, pc, rfl, m2⟩ := hx
  obtain ⟨r, rc, rfl, m3⟩ := hy
  have KK := Lib.hid (((Keep.alloc w (.cells #[.string c.name, .int .i64 c.day, .string c.who, .slice q c.marks.length qc] 26)).trans (Keep.alloc _ (.cells #[.string x.name, .int .i64 x.day, .string x.who, .slice p x.marks.length pc] 24))).trans (Keep.alloc _ (.cells #[.string y.name, .int .i64 y.day, .string y.who, .slice r y.marks.length rc] 24)))
  have M1 := Lib.hid (m.keep KK.out)
  have M2 := Lib.hid (m2.keep KK.out)
  have M3 := Lib.hid (m3.keep KK.out)
  have BC := Lib.hid ((ThgAt.new w c q qc 26).keep ((Keep.alloc _ (.cells #[.string x.name, .int .i64 x.day, .string x.who, .slice p x.marks.length pc] 24)).trans (Keep.alloc _ (.cells #[.string y.name, .int .i64 y.day, .string y.who, .slice r y.marks.length rc] 24))))
  have BX := Lib.hid (ThgAt.keep (Keep.alloc _ (.cells #[.string y.name, .int .i64 y.day, .string y.who, .slice r y.marks.length rc] 24)) (show ThgAt ((w.alloc (.cells #[.string c.name, .int .i64 c.day, .string c.who, .slice q c.marks.length qc] 26)).alloc (.cells #[.string x.name, .int .i64 x.day, .string x.who, .slice p x.marks.length pc] 24)) (w.heap.size + 1) 0 x p pc from ⟨cellNew1 _ _ _ _ 0, cellNew1 _ _ _ _ 1, cellNew1 _ _ _ _ 2, cellNew1 _ _ _ _ 3⟩))
  have BY := Lib.hid (show ThgAt (((w.alloc (.cells #[.string c.name, .int .i64 c.day, .string c.who, .slice q c.marks.length qc] 26)).alloc (.cells #[.string x.name, .int .i64 x.day, .string x.who, .slice p x.marks.length pc] 24)).alloc (.cells #[.string y.name, .int .i64 y.day, .string y.who, .slice r y.marks.length rc] 24)) (w.heap.size + 1 + 1) 0 y r rc by
    have := ThgAt.new ((w.alloc (.cells #[.string c.name, .int .i64 c.day, .string c.who, .slice q c.marks.length qc] 26)).alloc (.cells #[.string x.name, .int .i64 x.day, .string x.who, .slice p x.marks.length pc] 24)) y r rc 24
    rw [show ((w.alloc (.cells #[.string c.name, .int .i64 c.day, .string c.who, .slice q c.marks.length qc] 26)).alloc (.cells #[.string x.name, .int .i64 x.day, .string x.who, .slice p x.marks.length pc] 24)).heap.size = w.heap.size + 1 + 1 by simp] at this
    exact this)
  have HW := Lib.hid ((((Below.refl w.heap.size w).alloc (Nat.le_refl _) (.cells #[.string c.name, .int .i64 c.day, .string c.who, .slice q c.marks.length qc] 26)).alloc (by simp) (.cells #[.string x.name, .int .i64 x.day, .string x.who, .slice p x.marks.length pc] 24)).alloc (by simp; omega) (.cells #[.string y.name, .int .i64 y.day, .string y.who, .slice r y.marks.length rc] 24))
  have K1 := Lib.hid (thg_marks oc)
  have K2 := Lib.hid (thg_marks ox)
  have K3 := Lib.hid (thg_marks oy)
  have O1 := Lib.hid (thg_ok oc).1
  have O2 := Lib.hid (thg_ok ox).1
  have O3 := Lib.hid (thg_ok oy).1
  have F0 := Lib.hid (show cmpFor c x y = fst (listI [cmpI (agrees y.marks c.marks) (agrees x.marks c.marks), cmpI (size (x.day - c.day)) (size (y.day - c.day))]) 2 by rw [gfst_two]; rfl)
  clear m m2 m3 oc ox oy KK
  go_enter Tryz.func89, Tryz.ntmps89
  go_upto_region 1 with fail
  generalize ((w.alloc _).alloc _).alloc _ = wb at *
  obtain ⟨q0, q1, q2, q3⟩ := BX.out
  obtain ⟨r0, r1, r2, r3⟩ := BC.out
  go_wp2_with fail
  refine (xCompared_any x.marks c.marks _ _ _ _ _ M2.out M1.out K2.out K1.out).mono ?_
  rintro e w1 ⟨rfl, hb1⟩
  replace HW := Lib.hid (HW.out.trans (hb1.mono HW.out.size))
  replace M1 := Lib.hid (M1.out.keep (Keep.below hb1))
  replace M3 := Lib.hid (M3.out.keep (Keep.below hb1))
  replace BX := Lib.hid (BX.out.keep (Keep.below hb1))
  replace BY := Lib.hid (BY.out.keep (Keep.below hb1))
  replace BC := Lib.hid (BC.out.keep (Keep.below hb1))
  clear q0 q1 q2 q3 r0 r1 r2 r3 hb1
  obtain ⟨q0, q1, q2, q3⟩ := BY.out
  obtain ⟨r0, r1, r2, r3⟩ := BC.out
  go_wp2_with fail
  refine (xCompared_any y.marks c.marks _ _ _ _ _ M3.out M1.out K3.out K1.out).mono ?_
  rintro e w2 ⟨rfl, hb1⟩
  replace HW := Lib.hid (HW.out.trans (hb1.mono HW.out.size))
  replace BX := Lib.hid (BX.out.keep (Keep.below hb1))
  replace BY := Lib.hid (BY.out.keep (Keep.below hb1))
  replace BC := Lib.hid (BC.out.keep (Keep.below hb1))
  clear q0 q1 q2 q3 r0 r1 r2 r3 hb1
  have q1 := BX.out.c1
  have r1 := BC.out.c1
  have s1 := BY.out.c1
  go_wp2_with fail
  have HBd : Hid (Below w2.heap.size w2 w2.drew) := Lib.hid (Below.refl _ _).drew
  have MK : Hid (∀ w', Below w2.heap.size w2 w' → w'.cell? ⟨w.heap.size + 1, 1, none⟩ = some (.int .i64 x.day) ∧ w'.cell? ⟨w.heap.size, 1, none⟩ = some (.int .i64 c.day) ∧ w'.cell? ⟨w.heap.size + 1 + 1, 1, none⟩ = some (.int .i64 y.day) ∧ Hid (Below w2.heap.size w2 w')) :=
    Lib.hid fun w' hw => ⟨Keep.below hw _ _ q1, Keep.below hw _ _ r1, Keep.below hw _ _ s1, Lib.hid hw⟩
  refine wp_region_held_drew (S := fun w' => w'.cell? ⟨w.heap.size + 1, 1, none⟩ = some (.int .i64 x.day) ∧ w'.cell? ⟨w.heap.size, 1, none⟩ = some (.int .i64 c.day) ∧ w'.cell? ⟨w.heap.size + 1 + 1, 1, none⟩ = some (.int .i64 y.day) ∧ Hid (Below w2.heap.size w2 w')) (by kernel_rfl) (MK.out _ HBd.out) (fun hHeld => ?_)
  refine wpAnyH_take (i := 0) (v := ?val0x7) rfl (by kernel_rfl) (by kernel_rfl) (by kernel_rfl) (fun _ _ _ h => h) (Or.inl ⟨by rfl, fun w9 hS9 => ?yields0x7⟩) (by assumption) ?later0x7
  case yields0x7 =>
    dsimp only at hS9
    go_simp
    try with_reducible rfl
  try simp only [Act.put, List.getElem_toArray, List.getElem_cons_succ, List.getElem_cons_zero, List.setIfInBounds_toArray, List.set_cons_zero, List.set_cons_succ]
  refine wpAnyH_take (i := 1) (v := ?val1x8) rfl (by kernel_rfl) (by kernel_rfl) (by kernel_rfl) (fun _ _ _ h => h) (Or.inl ⟨by rfl, fun w9 hS9 => ?yields1x8⟩) (by assumption) ?later1x8
  case yields1x8 =>
    dsimp only at hS9
    go_simp
    try with_reducible rfl
  try simp only [Act.put, List.getElem_toArray, List.getElem_cons_succ, List.getElem_cons_zero, List.setIfInBounds_toArray, List.set_cons_zero, List.set_cons_succ]
  refine wpAnyH_take (i := 3) (v := ?val3x9) rfl (by kernel_rfl) (by kernel_rfl) (by kernel_rfl) (fun _ _ _ h => h) (Or.inl ⟨by rfl, fun w9 hS9 => ?yields3x9⟩) (by assumption) ?later3x9
  case yields3x9 =>
    dsimp only at hS9
    go_simp
    try with_reducible rfl
  try simp only [Act.put, List.getElem_toArray, List.getElem_cons_succ, List.getElem_cons_zero, List.setIfInBounds_toArray, List.set_cons_zero, List.set_cons_succ]
  refine wpAnyH_take (i := 4) (v := ?val4x10) rfl (by kernel_rfl) (by kernel_rfl) (by kernel_rfl) (fun _ _ _ h => h) (Or.inl ⟨by rfl, fun w9 hS9 => ?yields4x10⟩) (by assumption) ?later4x10
  case yields4x10 =>
    dsimp only at hS9
    go_simp
    try with_reducible rfl
  try simp only [Act.put, List.getElem_toArray, List.getElem_cons_succ, List.getElem_cons_zero, List.setIfInBounds_toArray, List.set_cons_zero, List.set_cons_succ]
  refine wpAnyH_take (i := 5) (v := ?val5x11) rfl (by kernel_rfl) (by kernel_rfl) (by kernel_rfl) (fun _ _ _ h => h) (Or.inl ⟨by rfl, fun w9 hS9 => ?yields5x11⟩) (by assumption) ?later5x11
  case yields5x11 =>
    dsimp only at hS9
    go_simp
    try with_reducible rfl
  try simp only [Act.put, List.getElem_toArray, List.getElem_cons_succ, List.getElem_cons_zero, List.setIfInBounds_toArray, List.set_cons_zero, List.set_cons_succ]
  refine wpAnyH_take (i := 6) (v := ?val6x12) rfl (by kernel_rfl) (by kernel_rfl) (by kernel_rfl) (fun _ _ _ h => h) (Or.inl ⟨by rfl, fun w9 hS9 => ?yields6x12⟩) (by assumption) ?later6x12
  case yields6x12 =>
    dsimp only at hS9
    go_simp
    try with_reducible rfl
  try simp only [Act.put, List.getElem_toArray, List.getElem_cons_succ, List.getElem_cons_zero, List.setIfInBounds_toArray, List.set_cons_zero, List.set_cons_succ]
  refine wpAnyH_take (i := 8) (v := ?val8x13) rfl (by kernel_rfl) (by kernel_rfl) (by kernel_rfl) (fun _ _ _ h => h) (Or.inl ⟨by rfl, fun w9 hS9 => ?yields8x13⟩) (by assumption) ?later8x13
  case yields8x13 =>
    dsimp only at hS9
    go_simp
    try with_reducible rfl
  try simp only [Act.put, List.getElem_toArray, List.getElem_cons_succ, List.getElem_cons_zero, List.setIfInBounds_toArray, List.set_cons_zero, List.set_cons_succ]
  refine wpAnyH_take (i := 9) (v := ?val9x14) rfl (by kernel_rfl) (by kernel_rfl) (by kernel_rfl) (fun _ _ _ h => h) (Or.inl ⟨by rfl, fun w9 hS9 => ?yields9x14⟩) (by assumption) ?later9x14
  case yields9x14 =>
    dsimp only at hS9
    go_simp
    try with_reducible rfl
  try simp only [Act.put, List.getElem_toArray, List.getElem_cons_succ, List.getElem_cons_zero, List.setIfInBounds_toArray, List.set_cons_zero, List.set_cons_succ]
  refine wpAnyH_take (i := 10) (v := ?val10x15) rfl (by kernel_rfl) (by kernel_rfl) (by kernel_rfl) (fun _ _ _ h => h) (Or.inl ⟨by rfl, fun w9 hS9 => ?yields10x15⟩) (by assumption) ?later10x15
  case yields10x15 =>
    dsimp only at hS9
    go_simp
    try with_reducible rfl
  try simp only [Act.put, List.getElem_toArray, List.getElem_cons_succ, List.getElem_cons_zero, List.setIfInBounds_toArray, List.set_cons_zero, List.set_cons_succ]
  refine wpAnyH_take (i := 11) (v := ?val11x16) rfl (by kernel_rfl) (by kernel_rfl) (by kernel_rfl) (fun _ _ _ h => h) (Or.inl ⟨by rfl, fun w9 hS9 => ?yields11x16⟩) (by assumption) ?later11x16
  case yields11x16 =>
    dsimp only at hS9
    go_simp
    try with_reducible rfl
  try simp only [Act.put, List.getElem_toArray, List.getElem_cons_succ, List.getElem_cons_zero, List.setIfInBounds_toArray, List.set_cons_zero, List.set_cons_succ]
  refine wpAnyH_ready (rs := [2]) (by kernel_rfl) (by simp) ?_
  refine AllReadyH.cons rfl (fun K hK => ?_) AllReadyH.nil
  go_simp
  go_at_call 132
  go_split_ands
  refine (xCompare_any _ _ _).mono ?_
  rintro e' wx7 ⟨rfl, rfl⟩
  go_wp2_with fail
  refine hK.out _ _ ?_ (fun hHeld => ?_)
  · (try dsimp only)
    (go_split_ands; exact MK.out _ (Hid.out (by assumption)))
  clear hK K
  try simp only [Act.put, List.getElem_toArray, List.getElem_cons_succ, List.getElem_cons_zero, List.setIfInBounds_toArray, List.set_cons_zero, List.set_cons_succ]
  refine wpAnyH_ready (rs := [7]) (by kernel_rfl) (by simp) ?_
  refine AllReadyH.cons rfl (fun K hK => ?_) AllReadyH.nil
  go_simp
  go_at_call 133
  go_split_ands
  refine (xApart_any _ _ _ ⟨O2.out.day0, O2.out.day1⟩ ⟨O1.out.day0, O1.out.day1⟩).mono ?_
  rintro e' wx7 ⟨rfl, rfl⟩
  go_wp2_with fail
  refine hK.out _ _ ?_ (fun hHeld => ?_)
  · (try dsimp only)
    (go_split_ands; exact MK.out _ (Hid.out (by assumption)))
  clear hK K
  try simp only [Act.put, List.getElem_toArray, List.getElem_cons_succ, List.getElem_cons_zero, List.setIfInBounds_toArray, List.set_cons_zero, List.set_cons_succ]
  refine wpAnyH_ready (rs := [12]) (by kernel_rfl) (by simp) ?_
  refine AllReadyH.cons rfl (fun K hK => ?_) AllReadyH.nil
  go_simp
  go_at_call 133
  go_split_ands
  refine (xApart_any _ _ _ ⟨O3.out.day0, O3.out.day1⟩ ⟨O1.out.day0, O1.out.day1⟩).mono ?_
  rintro e' wx7 ⟨rfl, rfl⟩
  go_wp2_with fail
  refine hK.out _ _ ?_ (fun hHeld => ?_)
  · (try dsimp only)
    (go_split_ands; exact MK.out _ (Hid.out (by assumption)))
  clear hK K
  try simp only [Act.put, List.getElem_toArray, List.getElem_cons_succ, List.getElem_cons_zero, List.setIfInBounds_toArray, List.set_cons_zero, List.set_cons_succ]
  refine wpAnyH_ready (rs := [13]) (by kernel_rfl) (by simp) ?_
  refine AllReadyH.cons rfl (fun K hK => ?_) AllReadyH.nil
  go_simp
  go_at_call 132
  go_split_ands
  refine (xCompare_any _ _ _).mono ?_
  rintro e' wx7 ⟨rfl, rfl⟩
  go_wp2_with fail
  refine hK.out _ _ ?_ (fun hHeld => ?_)
  · (try dsimp only)
    (go_split_ands; exact MK.out _ (Hid.out (by assumption)))
  clear hK K
  try simp only [Act.put, List.getElem_toArray, List.getElem_cons_succ, List.getElem_cons_zero, List.setIfInBounds_toArray, List.set_cons_zero, List.set_cons_succ]
  refine wpAnyH_ready (rs := [14]) (by kernel_rfl) (by simp) ?_
  refine AllReadyH.cons rfl (fun K hK => ?_) AllReadyH.nil
  go_simp
  refine hK.out _ _ ?_ (fun hHeld => ?_)
  · (try dsimp only)
    (go_split_ands; exact MK.out _ (Below.alloc (Hid.out (by assumption)) (Hid.out (by assumption) : Below w2.heap.size w2 _).size _))
  clear hK K
  try simp only [Act.put, List.getElem_toArray, List.getElem_cons_succ, List.getElem_cons_zero, List.setIfInBounds_toArray, List.set_cons_zero, List.set_cons_succ]
  refine wpAnyH_ready (rs := [15]) (by kernel_rfl) (by simp) ?_
  refine AllReadyH.cons rfl (fun K hK => ?_) AllReadyH.nil
  go_simp
  go_at_call 131
  go_split_ands
  refine (xOr_any [cmpI (agrees y.marks c.marks) (agrees x.marks c.marks), cmpI (size (x.day - c.day)) (size (y.day - c.day))] _ _ _ (by first | exact gints2New _ _ _ _ | exact (gints2New _ _ _ _).keep (Keep.drew _))).mono ?_
  rintro e' wx9 ⟨rfl, rfl⟩
  go_wp2_with fail
  refine hK.out _ _ ?_ (fun hHeld => ?_)
  · (try dsimp only)
    (go_split_ands; exact MK.out _ (Hid.out (by assumption)))
  clear hK K
  try simp only [Act.put, List.getElem_toArray, List.getElem_cons_succ, List.getElem_cons_zero, List.setIfInBounds_toArray, List.set_cons_zero, List.set_cons_succ]
  refine wpAnyH_take (i := 16) (v := ?val16x17) rfl (by kernel_rfl) (by kernel_rfl) (by kernel_rfl) (fun _ _ _ h => h) (Or.inl ⟨by rfl, fun w9 hS9 => ?yields16x17⟩) (by assumption) ?later16x17
  case yields16x17 =>
    dsimp only at hS9
    go_simp
    try with_reducible rfl
  try simp only [Act.put, List.getElem_toArray, List.getElem_cons_succ, List.getElem_cons_zero, List.setIfInBounds_toArray, List.set_cons_zero, List.set_cons_succ]
  refine wpAnyH_done (by kernel_rfl) ?_ _
  obtain ⟨-, -, -, HB⟩ := hHeld
  clear HBd MK
  go_wp2_with fail
  go_ret
  exact ⟨ret_int F0.out.symm, HW.out.trans (HB.out.mono HW.out.size)⟩
set_option linter.unusedSimpArgs false in
set_option maxHeartbeats 12800000 in
set_option maxRecDepth 100000 in
theorem xBest1_any (l : List Thg) (x : Thg) (A : Option Addr) (c : Nat) (a : GA) (p : Option Addr) (pc i j g2 g3 : Nat) (w : World) (h : ArrTh w A l c a) (hi : i < l.length) (hj : j < l.length) (h2 : w.cell? ⟨g2, 0, none⟩ = some (.slice A l.length c)) (h3 : ThgAt w g3 0 x p pc) (hm : ArrMk w p x.marks pc)
    (ho : ∀ i, i < l.length → thgErr (lThg l i) = 0) (hx : thgErr x = 0) :
    Calls Tryz.prog 88 #[.int .i64 i, .int .i64 j, .pointer (some ⟨g3, 0, none⟩), .pointer (some ⟨g2, 0, none⟩)] w fun e w' => e = .returned (.int .i64 (cmpFor x (lThg l i) (lThg l j))) ∧ Below w.heap.size w w' := by
  have b1 := h.le.1
  have b2 := h.le.2
  have hin : (i : Int) < (l.length : Int) := by omega
  have hjn : (j : Int) < (l.length : Int) := by omega
  obtain ⟨b, o, rfl, ⟨q0, q1, q2, q3⟩, ⟨s0, s1, s2, s3⟩⟩ := h.two hi hj
  obtain ⟨r0, r1, r2, r3⟩ := h3
  have MI := Lib.hid (h.2 i hi)
  have MJ := Lib.hid (h.2 j hj)
  have MX := Lib.hid hm
  have HO := Lib.hid ho
  have HX := Lib.hid hx
  clear h hm ho hx
  go_enter Tryz.func88, Tryz.ntmps88
  go_wp2_with fail
  have HBd : Hid (Below w.heap.size w w.drew) := Lib.hid (Below.refl _ _).drew
  have MK : Hid (∀ w', Below w.heap.size w w' → w'.cell? ⟨g2, 0, none⟩ = some (.slice (some ⟨b, o, none⟩) l.length c) ∧ w'.cell? ⟨g3, 0, none⟩ = some (.string x.name) ∧ w'.cell? ⟨g3, 1, none⟩ = some (.int .i64 x.day) ∧ w'.cell? ⟨g3, 2, none⟩ = some (.string x.who) ∧ w'.cell? ⟨g3, 3, none⟩ = some (.slice p x.marks.length pc) ∧ w'.cell? ⟨b, o + i * 4, none⟩ = some (.string (lThg l i).name) ∧ w'.cell? ⟨b, o + i * 4 + 1, none⟩ = some (.int .i64 (lThg l i).day) ∧ w'.cell? ⟨b, o + i * 4 + 2, none⟩ = some (.string (lThg l i).who) ∧ w'.cell? ⟨b, o + i * 4 + 3, none⟩ = some (.slice (a.p i) (lThg l i).marks.length (a.pc i)) ∧ w'.cell? ⟨b, o + j * 4, none⟩ = some (.string (lThg l j).name) ∧ w'.cell? ⟨b, o + j * 4 + 1, none⟩ = some (.int .i64 (lThg l j).day) ∧ w'.cell? ⟨b, o + j * 4 + 2, none⟩ = some (.string (lThg l j).who) ∧ w'.cell? ⟨b, o + j * 4 + 3, none⟩ = some (.slice (a.p j) (lThg l j).marks.length (a.pc j)) ∧ Hid (Below w.heap.size w w')) :=
    Lib.hid fun w' hw => ⟨Keep.below hw _ _ h2, Keep.below hw _ _ r0, Keep.below hw _ _ r1, Keep.below hw _ _ r2, Keep.below hw _ _ r3, Keep.below hw _ _ q0, Keep.below hw _ _ q1, Keep.below hw _ _ q2, Keep.below hw _ _ q3, Keep.below hw _ _ s0, Keep.below hw _ _ s1, Keep.below hw _ _ s2, Keep.below hw _ _ s3, Lib.hid hw⟩
  have KX : Hid (∀ w', Below w.heap.size w w' → ArrMk w' p x.marks pc) := Lib.hid fun w' hw => (MX.out.keep (Keep.below hw))
  have KI : Hid (∀ w', Below w.heap.size w w' → ArrMk w' (a.p i) (lThg l i).marks (a.pc i)) := Lib.hid fun w' hw => (MI.out.keep (Keep.below hw))
  have KJ : Hid (∀ w', Below w.heap.size w w' → ArrMk w' (a.p j) (lThg l j).marks (a.pc j)) := Lib.hid fun w' hw => (MJ.out.keep (Keep.below hw))
  refine wp_region_held_drew (S := fun w' => w'.cell? ⟨g2, 0, none⟩ = some (.slice (some ⟨b, o, none⟩) l.length c) ∧ w'.cell? ⟨g3, 0, none⟩ = some (.string x.name) ∧ w'.cell? ⟨g3, 1, none⟩ = some (.int .i64 x.day) ∧ w'.cell? ⟨g3, 2, none⟩ = some (.string x.who) ∧ w'.cell? ⟨g3, 3, none⟩ = some (.slice p x.marks.length pc) ∧ w'.cell? ⟨b, o + i * 4, none⟩ = some (.string (lThg l i).name) ∧ w'.cell? ⟨b, o + i * 4 + 1, none⟩ = some (.int .i64 (lThg l i).day) ∧ w'.cell? ⟨b, o + i * 4 + 2, none⟩ = some (.string (lThg l i).who) ∧ w'.cell? ⟨b, o + i * 4 + 3, none⟩ = some (.slice (a.p i) (lThg l i).marks.length (a.pc i)) ∧ w'.cell? ⟨b, o + j * 4, none⟩ = some (.string (lThg l j).name) ∧ w'.cell? ⟨b, o + j * 4 + 1, none⟩ = some (.int .i64 (lThg l j).day) ∧ w'.cell? ⟨b, o + j * 4 + 2, none⟩ = some (.string (lThg l j).who) ∧ w'.cell? ⟨b, o + j * 4 + 3, none⟩ = some (.slice (a.p j) (lThg l j).marks.length (a.pc j)) ∧ Hid (Below w.heap.size w w')) (by kernel_rfl) (MK.out _ HBd.out) (fun hHeld => ?_)
  refine wpAnyH_take (i := 0) (v := ?val0x18) rfl (by kernel_rfl) (by kernel_rfl) (by kernel_rfl) (fun _ _ _ h => h) (Or.inl ⟨by rfl, fun w9 hS9 => ?yields0x18⟩) (by assumption) ?later0x18
  case yields0x18 =>
    dsimp only at hS9
    go_simp
    try with_reducible rfl
  try simp only [Act.put, List.getElem_toArray, List.getElem_cons_succ, List.getElem_cons_zero, List.setIfInBounds_toArray, List.set_cons_zero, List.set_cons_succ]
  refine wpAnyH_take (i := 1) (v := ?val1x19) rfl (by kernel_rfl) (by kernel_rfl) (by kernel_rfl) (fun _ _ _ h => h) (Or.inl ⟨by rfl, fun w9 hS9 => ?yields1x19⟩) (by assumption) ?later1x19
  case yields1x19 =>
    dsimp only at hS9
    go_simp
    try with_reducible rfl
  try simp only [Act.put, List.getElem_toArray, List.getElem_cons_succ, List.getElem_cons_zero, List.setIfInBounds_toArray, List.set_cons_zero, List.set_cons_succ]
  refine wpAnyH_take (i := 2) (v := ?val2x20) rfl (by kernel_rfl) (by kernel_rfl) (by kernel_rfl) (fun _ _ _ h => h) (Or.inl ⟨by rfl, fun w9 hS9 => ?yields2x20⟩) (by assumption) ?later2x20
  case yields2x20 =>
    dsimp only at hS9
    go_simp
    try with_reducible rfl
  try simp only [Act.put, List.getElem_toArray, List.getElem_cons_succ, List.getElem_cons_zero, List.setIfInBounds_toArray, List.set_cons_zero, List.set_cons_succ]
  refine wpAnyH_take (i := 3) (v := ?val3x21) rfl (by kernel_rfl) (by kernel_rfl) (by kernel_rfl) (fun _ _ _ h => h) (Or.inl ⟨by rfl, fun w9 hS9 => ?yields3x21⟩) (by assumption) ?later3x21
  case yields3x21 =>
    dsimp only at hS9
    go_simp
    try with_reducible rfl
  try simp only [Act.put, List.getElem_toArray, List.getElem_cons_succ, List.getElem_cons_zero, List.setIfInBounds_toArray, List.set_cons_zero, List.set_cons_succ]
  refine wpAnyH_take (i := 4) (v := ?val4x22) rfl (by kernel_rfl) (by kernel_rfl) (by kernel_rfl) (fun _ _ _ h => h) (Or.inl ⟨by rfl, fun w9 hS9 => ?yields4x22⟩) (by assumption) ?later4x22
  case yields4x22 =>
    dsimp only at hS9
    go_simp
    try with_reducible rfl
  try simp only [Act.put, List.getElem_toArray, List.getElem_cons_succ, List.getElem_cons_zero, List.setIfInBounds_toArray, List.set_cons_zero, List.set_cons_succ]
  refine wpAnyH_take (i := 5) (v := ?val5x23) rfl (by kernel_rfl) (by kernel_rfl) (by kernel_rfl) (fun _ _ _ h => h) (Or.inl ⟨by rfl, fun w9 hS9 => ?yields5x23⟩) (by assumption) ?later5x23
  case yields5x23 =>
    dsimp only at hS9
    go_simp
    try with_reducible rfl
  try simp only [Act.put, List.getElem_toArray, List.getElem_cons_succ, List.getElem_cons_zero, List.setIfInBounds_toArray, List.set_cons_zero, List.set_cons_succ]
  refine wpAnyH_take (i := 6) (v := ?val6x24) rfl (by kernel_rfl) (by kernel_rfl) (by kernel_rfl) (fun _ _ _ h => h) (Or.inl ⟨by rfl, fun w9 hS9 => ?yields6x24⟩) (by assumption) ?later6x24
  case yields6x24 =>
    dsimp only at hS9
    go_simp
    try with_reducible rfl
  try simp only [Act.put, List.getElem_toArray, List.getElem_cons_succ, List.getElem_cons_zero, List.setIfInBounds_toArray, List.set_cons_zero, List.set_cons_succ]
  refine wpAnyH_take (i := 7) (v := ?val7x25) rfl (by kernel_rfl) (by kernel_rfl) (by kernel_rfl) (fun _ _ _ h => h) (Or.inl ⟨by rfl, fun w9 hS9 => ?yields7x25⟩) (by assumption) ?later7x25
  case yields7x25 =>
    dsimp only at hS9
    go_simp
    try with_reducible rfl
  try simp only [Act.put, List.getElem_toArray, List.getElem_cons_succ, List.getElem_cons_zero, List.setIfInBounds_toArray, List.set_cons_zero, List.set_cons_succ]
  refine wpAnyH_take (i := 8) (v := ?val8x26) rfl (by kernel_rfl) (by kernel_rfl) (by kernel_rfl) (fun _ _ _ h => h) (Or.inl ⟨by rfl, fun w9 hS9 => ?yields8x26⟩) (by assumption) ?later8x26
  case yields8x26 =>
    dsimp only at hS9
    go_simp
    try with_reducible rfl
  try simp only [Act.put, List.getElem_toArray, List.getElem_cons_succ, List.getElem_cons_zero, List.setIfInBounds_toArray, List.set_cons_zero, List.set_cons_succ]
  refine wpAnyH_ready (rs := [9]) (by kernel_rfl) (by simp) ?_
  refine AllReadyH.cons rfl (fun K hK => ?_) AllReadyH.nil
  go_simp
  go_at_call 89
  go_split_ands
  refine (xComparedFor_any x (lThg l i) (lThg l j) _ _ _ _ ⟨_, _, rfl, KX.out _ (Hid.out (by assumption))⟩ ⟨_, _, rfl, KI.out _ (Hid.out (by assumption))⟩ ⟨_, _, rfl, KJ.out _ (Hid.out (by assumption))⟩ HX.out (HO.out i hi) (HO.out j hj)).mono ?_
  rintro e' w5 ⟨rfl, hb1⟩
  go_wp2_with fail
  refine hK.out _ _ ?_ (fun hHeld => ?_)
  · (try dsimp only)
    (go_split_ands; exact MK.out _ (Below.trans (Hid.out (by assumption)) (hb1.mono (Hid.out (by assumption) : Below w.heap.size w _).size)))
  clear hK K
  try simp only [Act.put, List.getElem_toArray, List.getElem_cons_succ, List.getElem_cons_zero, List.setIfInBounds_toArray, List.set_cons_zero, List.set_cons_succ]
  refine wpAnyH_take (i := 10) (v := ?val10x27) rfl (by kernel_rfl) (by kernel_rfl) (by kernel_rfl) (fun _ _ _ h => h) (Or.inl ⟨by rfl, fun w9 hS9 => ?yields10x27⟩) (by assumption) ?later10x27
  case yields10x27 =>
    dsimp only at hS9
    go_simp
    try with_reducible rfl
  try simp only [Act.put, List.getElem_toArray, List.getElem_cons_succ, List.getElem_cons_zero, List.setIfInBounds_toArray, List.set_cons_zero, List.set_cons_succ]
  refine wpAnyH_done (by kernel_rfl) ?_ _
  obtain ⟨-, -, -, -, -, -, -, -, -, -, -, -, -, HB⟩ := hHeld
  clear HBd MK
  go_wp2_with fail
  go_ret
  exact ⟨rfl, HB.out⟩
/-- The least of a list's first k + 1 numbers, by g. -/
def Fs.minTo (g : Nat → Nat → Int) (L : List Int) : Nat → Int
  | 0 => listI L 0
  | k + 1 => if g (listI L (k + 1)).toNat (minTo g L k).toNat < 0 then listI L (k + 1) else minTo g L k
theorem Fs.minTo_in {g : Nat → Nat → Int} {L : List Int} {n : Nat} (h : ∀ k, k < L.length → ∃ i : Nat, i < n ∧ listI L k = i) : ∀ {k}, k < L.length → ∃ i : Nat, i < n ∧ minTo g L k = i
  | 0, hk => h 0 hk
  | k + 1, hk => by
    rw [minTo]
    split
    · exact h _ hk
    · exact minTo_in h (by omega)
theorem Fs.minTo_best (l : List Thg) (x : Thg) (L : List Int) : ∀ k, minTo (fun i j => cmpFor x (lThg l i) (lThg l j)) L k = bstTo l x L k
  | 0 => rfl
  | k + 1 => by
    rw [minTo, bstTo, minTo_best l x L k, ← cmpFor_is]
    by_cases h : cmpFor x (lThg l (listI L (k + 1)).toNat) (lThg l (bstTo l x L k).toNat) < 0
    · rw [if_pos h, if_pos (decide_eq_true h)]
    · rw [if_neg h, if_neg (by rw [decide_eq_false h]; decide)]
set_option linter.unusedSimpArgs false in
set_option maxHeartbeats 12800000 in
set_option maxRecDepth 100000 in
theorem xMinFunc_any (K : Nat) (p q : Value) (g : Nat → Nat → Int) (L : List Int) (n : Nat) (A : Option Addr) (c : Nat) (w : World) (h : ArrI w A L c) (h0 : 0 < L.length) (hL : L.length ≤ 1000) (hin : ∀ k, k < L.length → ∃ i : Nat, i < n ∧ listI L k = i) (hcall : ∀ (args : Array Value) (w : World), (callFunc K args).run Tryz.prog w = .ok (.enter K args) w)
    (hf : ∀ w', Below w.heap.size w w' → ∀ i j : Nat, i < n → j < n → Calls Tryz.prog K #[.int .i64 i, .int .i64 j, p, q] w' fun e w'' => e = .returned (.int .i64 (g i j)) ∧ Below w'.heap.size w' w'') :
    Calls Tryz.prog 87 #[.slice A L.length c, .func (.func K) #[] #[p, q]] w fun e w' => e = .returned (.int .i64 (minTo g L (L.length - 1))) ∧ Below w.heap.size w w' := by
  have b1 := h.le.1
  have b2 := h.le.2
  have HA := Lib.hid h
  have HCALL := Lib.hid hcall
  have HF := Lib.hid hf
  have HIN := Lib.hid hin
  clear hcall hf h hin
  obtain ⟨m, hm⟩ : ∃ m, m = L.length := ⟨_, rfl⟩
  rw [← hm] at b1 h0 hL ⊢
  have HM := Lib.hid hm
  have hz : (0 : Nat) < L.length := by omega
  obtain ⟨b, o, rfl, z0⟩ := HA.out.at_ hz
  rw [Nat.add_zero] at z0
  have dz : decide ((m : Int) < 1) = false := decide_eq_false (by omega)
  have dm : (0 : Int) < (m : Int) := by omega
  clear hm hz
  go_enter Tryz.func87, Tryz.ntmps87
  go_wp2_with fail
  go_loopw [5, 6] (fun v i wr => ∃ k : Nat, k < m ∧ i = .int .i64 ((k + 1 : Nat) : Int) ∧ v = .int .i64 (minTo g L k) ∧ Hid (Below w.heap.size w wr)) (fun _ i _ => m - (intOf i).toNat)
  case atStart => exact ⟨0, h0, rfl, rfl, Lib.hid (Below.refl _ _)⟩
  case round =>
    obtain ⟨k, hk, rfl, rfl, HB⟩ := hrel
    by_cases hlt : k + 1 < m
    · have hkn : ((k + 1 : Nat) : Int) < (m : Int) := by omega
      have hkl : k + 1 < L.length := by rw [← HM.out]; exact hlt
      obtain ⟨b', o', e', q0⟩ := (HA.out.keep (Keep.below HB.out)).at_ hkl
      obtain ⟨rfl, rfl⟩ : b = b' ∧ o = o' := by simpa using e'
      clear e'
      obtain ⟨i, hi, hiL⟩ := HIN.out (k + 1) hkl
      obtain ⟨j, hj, hjL⟩ := minTo_in (g := g) HIN.out (show k < L.length by omega)
      have HC := Lib.hid (HF.out wr HB.out i j hi hj)
      have hcall := HCALL.out
      have F0 := Lib.hid (show minTo g L (k + 1) = if g i j < 0 then (i : Int) else (j : Int) by rw [minTo, hiL, hjL]; rfl)
      have q1 : wr.cell? ⟨b, o + (k + 1), none⟩ = some (.int .i64 (i : Int)) := by rw [q0, hiL]
      rw [hjL]
      obtain ⟨K1, hK1⟩ : ∃ z, z = k + 1 := ⟨_, rfl⟩
      rw [← hK1] at hkn q1 hlt F0 ⊢
      have HK1 := Lib.hid hK1
      clear hiL hjL hkl hi hj q0 hK1
      by_cases hg : g i j < 0
      · have F := Lib.hid (F0.out.trans (if_pos hg))
        have d1 := decide_eq_true hg
        clear hg
        go_wp2_with fail
        refine HC.out.mono ?_
        rintro e w2 ⟨rfl, hb2⟩
        have q2 := Keep.below hb2 _ _ q1
        go_wp2_with fail
        go_roundw
        case rel => exact ⟨k + 1, by rw [← HK1.out]; exact hlt, by rw [HK1.out]; go_num, by rw [← HK1.out, F.out], Lib.hid (HB.out.trans (hb2.mono HB.out.size))⟩
        case measure => simp [intOf]; omega
      · have F := Lib.hid (F0.out.trans (if_neg hg))
        have d1 := decide_eq_false hg
        clear hg
        go_wp2_with fail
        refine HC.out.mono ?_
        rintro e w2 ⟨rfl, hb2⟩
        go_wp2_with fail
        go_roundw
        case rel => exact ⟨k + 1, by rw [← HK1.out]; exact hlt, by rw [HK1.out]; go_num, by rw [← HK1.out, F.out], Lib.hid (HB.out.trans (hb2.mono HB.out.size))⟩
        case measure => simp [intOf]; omega
    · have HKM := Lib.hid (show m - 1 = k by omega)
      obtain ⟨K1, hK1⟩ : ∃ z, z = k + 1 := ⟨_, rfl⟩
      rw [← hK1]
      have hKm : K1 = m := by omega
      rw [hKm]
      clear hK1 hKm
      go_wp2_with fail
      go_ret
      exact ⟨by rw [HKM.out]; rfl, HB.out⟩
set_option linter.unusedSimpArgs false in
set_option maxHeartbeats 12800000 in
set_option maxRecDepth 100000 in
theorem xBestFor_any (l : List Thg) (x : Thg) (A : Option Addr) (c : Nat) (a : GA) (v : Value) (w : World) (h : ArrTh w A l c a) (hv : RdThg w v x) :
    Calls Tryz.prog 33 #[.slice A l.length c, v] w fun e w' => e = .returned (.tuple #[.int .i64 (bfOut l x), .int .i64 (bfErr l x)]) ∧ Below w.heap.size w w' := by
  obtain ⟨p, pc, rfl, m⟩ := hv
  have M1 := Lib.hid (m.keep ((Keep.alloc w (.cells #[.slice A l.length c] 48)).trans (Keep.alloc _ (.cells #[.string x.name, .int .i64 x.day, .string x.who, .slice p x.marks.length pc] 26))))
  have HA := Lib.hid (h.keep ((Keep.alloc w (.cells #[.slice A l.length c] 48)).trans (Keep.alloc _ (.cells #[.string x.name, .int .i64 x.day, .string x.who, .slice p x.marks.length pc] 26))))
  have c0 := Keep.alloc (w.alloc (.cells #[.slice A l.length c] 48)) (.cells #[.string x.name, .int .i64 x.day, .string x.who, .slice p x.marks.length pc] 26) _ _ (cellNew w #[.slice A l.length c] 48 0)
  have HS := Lib.hid c0
  have BX := Lib.hid (show ThgAt ((w.alloc (.cells #[.slice A l.length c] 48)).alloc (.cells #[.string x.name, .int .i64 x.day, .string x.who, .slice p x.marks.length pc] 26)) (w.heap.size + 1) 0 x p pc from ⟨cellNew1 _ _ _ _ 0, cellNew1 _ _ _ _ 1, cellNew1 _ _ _ _ 2, cellNew1 _ _ _ _ 3⟩)
  have HW := Lib.hid (((Below.refl w.heap.size w).alloc (Nat.le_refl _) (.cells #[.slice A l.length c] 48)).alloc (by simp) (.cells #[.string x.name, .int .i64 x.day, .string x.who, .slice p x.marks.length pc] 26))
  clear m h
  go_enter Tryz.func33, Tryz.ntmps33
  go_upto_region 1 with fail
  generalize (w.alloc _).alloc _ = wb at *
  obtain ⟨r0, r1, r2, r3⟩ := BX.out
  go_wp2_with fail
  refine (xCandidates_any l x A c a _ _ HA.out ⟨_, _, rfl, M1.out⟩).mono ?_
  rintro e w1 ⟨⟨A1, c1, rfl, h1⟩, hb1⟩
  have H1 := Lib.hid h1
  replace HA := Lib.hid (HA.out.keep (Keep.below hb1))
  replace M1 := Lib.hid (M1.out.keep (Keep.below hb1))
  replace BX := Lib.hid (BX.out.keep (Keep.below hb1))
  replace HS := Lib.hid (Keep.below hb1 _ _ HS.out)
  replace HW := Lib.hid (HW.out.trans (hb1.mono HW.out.size))
  clear h1 hb1 r0 r1 r2 r3 c0
  by_cases he : cdErr l x = 0
  · obtain ⟨hx, hc⟩ := two_zero he
    have hok := thgs_ok hx
    have HO := Lib.hid (fun i hi => (hok.2 i hi).1)
    have HC := Lib.hid hc
    have hl12 := hok.1
    have F := Lib.hid (show cdOut l x = cands l x from if_pos he)
    have F1 := Lib.hid (show bfOut l x = best l x from if_pos he)
    have F2 := Lib.hid (show bfErr l x = if (cands l x).length = 0 then 12 else 0 from if_neg (fun hh => hh he))
    rw [he]
    rw [F.out] at H1 ⊢
    have hcl := candTo_len l x l.length
    obtain ⟨L, hL⟩ : ∃ L, L = cands l x := ⟨_, rfl⟩
    have HL := Lib.hid hL
    have hLn : L.length ≤ 12 := by rw [hL]; unfold cands; omega
    rw [← hL] at H1 F2 ⊢
    clear he hx hc hok F hcl hL
    by_cases hz : L.length = 0
    · have G2 := Lib.hid (F2.out.trans (if_pos hz))
      have G1 := Lib.hid (show bfOut l x = 0 by rw [F1.out]; unfold best; rw [if_pos (by rw [← HL.out]; exact hz)])
      have d1 : ((L.length : Int) == 0) = true := by simp; exact List.length_eq_zero_iff.1 hz
      generalize hLL : L.length = N at *
      clear hz hLL
      go_wp2_with fail
      go_ret2
      exact ⟨by rw [G1.out, G2.out]; rfl, HW.out⟩
    · have G2 := Lib.hid (F2.out.trans (if_neg hz))
      have G1 := Lib.hid (show bfOut l x = minTo (fun i j => cmpFor x (lThg l i) (lThg l j)) L (L.length - 1) by rw [F1.out, minTo_best]; unfold best; rw [if_neg (by rw [← HL.out]; exact hz), HL.out])
      have d1 : ((L.length : Int) == 0) = false := by simp; intro e; rw [e] at hz; exact hz rfl
      have HMIN := Lib.hid (xMinFunc_any 88 (.pointer (some ⟨w.heap.size + 1, 0, none⟩)) (.pointer (some ⟨w.heap.size, 0, none⟩)) (fun i j => cmpFor x (lThg l i) (lThg l j)) L l.length A1 c1 w1 H1.out (by omega) (by omega) (fun k hk => by rw [HL.out] at hk ⊢; exact cands_in hk) (fun args w => by kernel_rfl)
        (fun w' hb i j hi hj => xBest1_any l x A c a p pc i j _ _ w' (HA.out.keep (Keep.below hb)) hi hj (Keep.below hb _ _ HS.out) (BX.out.keep (Keep.below hb)) (M1.out.keep (Keep.below hb)) HO.out HC.out))
      clear hz
      go_wp2_with fail
      refine HMIN.out.mono ?_
      rintro e w2 ⟨rfl, hb2⟩
      go_wp2_with fail
      go_ret2
      exact ⟨by rw [G1.out, G2.out]; rfl, HW.out.trans (hb2.mono HW.out.size)⟩
  · have F := Lib.hid (show bfErr l x = cdErr l x from if_pos he)
    have F1 := Lib.hid (show bfOut l x = 0 from if_neg he)
    have e2 : (cdErr l x != 0) = true := by simpa using he
    have e3 : (cdErr l x == 0) = false := by simpa using he
    clear he
    go_wp2_with fail
    go_ret2
    exact ⟨by rw [F.out, F1.out]; rfl, HW.out⟩
end Go.Proofs.YtfjdnbnalihjiaaGreatDoor

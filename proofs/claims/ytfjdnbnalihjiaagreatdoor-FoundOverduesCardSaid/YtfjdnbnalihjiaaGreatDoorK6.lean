/- Whether an item can be a claim, candidates, agreement, ambiguous claims: what the program answers. No condition. -/
import Derived.Test.YtfjdnbnalihjiaaGreatDoorK5
namespace Go.Proofs.YtfjdnbnalihjiaaGreatDoor
open Go.RowKit Fs

theorem Fs.two_zero {a b : Int} (h : (if a ≠ 0 then a else b) = 0) : a = 0 ∧ b = 0 := by
  by_cases ha : a = 0
  · rw [if_neg (fun hh => hh ha)] at h; exact ⟨ha, h⟩
  · rw [if_pos ha] at h; exact absurd h ha
set_option linter.unusedSimpArgs false in
set_option maxHeartbeats 12800000 in
set_option maxRecDepth 100000 in
theorem xCanBe_any (x c : Thg) (u v : Value) (w : World) (hu : RdThg w u x) (hv : RdThg w v c) :
    Calls Tryz.prog 34 #[u, v] w fun e w' => e = .returned (.tuple #[.bool (cbOut x c), .int .i64 (cbErr x c)]) ∧ Below w.heap.size w w' := by
  obtain ⟨p, pc, rfl, m⟩ := hu
  obtain ⟨q, qc, rfl, m2⟩ := hv
  have M1 := Lib.hid (m.keep ((Keep.alloc w (.cells #[.string x.name, .int .i64 x.day, .string x.who, .slice p x.marks.length pc] 24)).trans (Keep.alloc _ (.cells #[.string c.name, .int .i64 c.day, .string c.who, .slice q c.marks.length qc] 26))))
  have M2 := Lib.hid (m2.keep ((Keep.alloc w (.cells #[.string x.name, .int .i64 x.day, .string x.who, .slice p x.marks.length pc] 24)).trans (Keep.alloc _ (.cells #[.string c.name, .int .i64 c.day, .string c.who, .slice q c.marks.length qc] 26))))
  have BX := Lib.hid ((ThgAt.new w x p pc 24).keep (Keep.alloc _ (.cells #[.string c.name, .int .i64 c.day, .string c.who, .slice q c.marks.length qc] 26)))
  have BC := Lib.hid (show ThgAt ((w.alloc (.cells #[.string x.name, .int .i64 x.day, .string x.who, .slice p x.marks.length pc] 24)).alloc (.cells #[.string c.name, .int .i64 c.day, .string c.who, .slice q c.marks.length qc] 26)) (w.heap.size + 1) 0 c q qc from ⟨cellNew1 _ _ _ _ 0, cellNew1 _ _ _ _ 1, cellNew1 _ _ _ _ 2, cellNew1 _ _ _ _ 3⟩)
  have HW := Lib.hid (((Below.refl w.heap.size w).alloc (Nat.le_refl _) (.cells #[.string x.name, .int .i64 x.day, .string x.who, .slice p x.marks.length pc] 24)).alloc (by simp) (.cells #[.string c.name, .int .i64 c.day, .string c.who, .slice q c.marks.length qc] 26))
  have F0 := Lib.hid (show cbErr x c = fst (listI [thgErr x, thgErr c]) 2 by rw [gfst_two]; rfl)
  clear m m2
  go_enter Tryz.func34, Tryz.ntmps34
  go_upto_region 1 with fail
  generalize (w.alloc _).alloc _ = wb at *
  obtain ⟨q0, q1, q2, q3⟩ := BX.out
  obtain ⟨r0, r1, r2, r3⟩ := BC.out
  go_wp2_with fail
  have HBd : Hid (Below wb.heap.size wb wb.drew) := Lib.hid (Below.refl _ _).drew
  have MK : Hid (∀ w', Below wb.heap.size wb w' → w'.cell? ⟨w.heap.size, 0, none⟩ = some (.string x.name) ∧ w'.cell? ⟨w.heap.size, 1, none⟩ = some (.int .i64 x.day) ∧ w'.cell? ⟨w.heap.size, 2, none⟩ = some (.string x.who) ∧ w'.cell? ⟨w.heap.size, 3, none⟩ = some (.slice p x.marks.length pc) ∧ w'.cell? ⟨w.heap.size + 1, 0, none⟩ = some (.string c.name) ∧ w'.cell? ⟨w.heap.size + 1, 1, none⟩ = some (.int .i64 c.day) ∧ w'.cell? ⟨w.heap.size + 1, 2, none⟩ = some (.string c.who) ∧ w'.cell? ⟨w.heap.size + 1, 3, none⟩ = some (.slice q c.marks.length qc) ∧ Hid (Below wb.heap.size wb w')) :=
    Lib.hid fun w' hw => ⟨Keep.below hw _ _ q0, Keep.below hw _ _ q1, Keep.below hw _ _ q2, Keep.below hw _ _ q3, Keep.below hw _ _ r0, Keep.below hw _ _ r1, Keep.below hw _ _ r2, Keep.below hw _ _ r3, Lib.hid hw⟩
  have KX : Hid (∀ w', Below wb.heap.size wb w' → ArrMk w' p x.marks pc) := Lib.hid fun w' hw => (M1.out.keep (Keep.below hw))
  have KC : Hid (∀ w', Below wb.heap.size wb w' → ArrMk w' q c.marks qc) := Lib.hid fun w' hw => (M2.out.keep (Keep.below hw))
  refine wp_region_held_drew (S := fun w' => w'.cell? ⟨w.heap.size, 0, none⟩ = some (.string x.name) ∧ w'.cell? ⟨w.heap.size, 1, none⟩ = some (.int .i64 x.day) ∧ w'.cell? ⟨w.heap.size, 2, none⟩ = some (.string x.who) ∧ w'.cell? ⟨w.heap.size, 3, none⟩ = some (.slice p x.marks.length pc) ∧ w'.cell? ⟨w.heap.size + 1, 0, none⟩ = some (.string c.name) ∧ w'.cell? ⟨w.heap.size + 1, 1, none⟩ = some (.int .i64 c.day) ∧ w'.cell? ⟨w.heap.size + 1, 2, none⟩ = some (.string c.who) ∧ w'.cell? ⟨w.heap.size + 1, 3, none⟩ = some (.slice q c.marks.length qc) ∧ Hid (Below wb.heap.size wb w')) (by kernel_rfl) (MK.out _ HBd.out) (fun hHeld => ?_)
  refine wpAnyH_take (i := 0) (v := ?val0x1) rfl (by kernel_rfl) (by kernel_rfl) (by kernel_rfl) (fun _ _ _ h => h) (Or.inl ⟨by rfl, fun w9 hS9 => ?yields0x1⟩) (by assumption) ?later0x1
  case yields0x1 =>
    dsimp only at hS9
    go_simp
    try with_reducible rfl
  try simp only [Act.put, List.getElem_toArray, List.getElem_cons_succ, List.getElem_cons_zero, List.setIfInBounds_toArray, List.set_cons_zero, List.set_cons_succ]
  refine wpAnyH_take (i := 2) (v := ?val2x2) rfl (by kernel_rfl) (by kernel_rfl) (by kernel_rfl) (fun _ _ _ h => h) (Or.inl ⟨by rfl, fun w9 hS9 => ?yields2x2⟩) (by assumption) ?later2x2
  case yields2x2 =>
    dsimp only at hS9
    go_simp
    try with_reducible rfl
  try simp only [Act.put, List.getElem_toArray, List.getElem_cons_succ, List.getElem_cons_zero, List.setIfInBounds_toArray, List.set_cons_zero, List.set_cons_succ]
  refine wpAnyH_ready (rs := [1]) (by kernel_rfl) (by simp) ?_
  refine AllReadyH.cons rfl (fun K hK => ?_) AllReadyH.nil
  go_simp
  go_at_call 21
  go_split_ands
  refine (xCheckItem_any x _ _ ⟨_, _, rfl, KX.out _ (Hid.out (by assumption))⟩).mono ?_
  rintro e' w5 ⟨rfl, hb1⟩
  go_wp2_with fail
  refine hK.out _ _ ?_ (fun hHeld => ?_)
  · (try dsimp only)
    (go_split_ands; exact MK.out _ (Below.trans (Hid.out (by assumption)) (hb1.mono (Hid.out (by assumption) : Below wb.heap.size wb _).size)))
  clear hK K
  try simp only [Act.put, List.getElem_toArray, List.getElem_cons_succ, List.getElem_cons_zero, List.setIfInBounds_toArray, List.set_cons_zero, List.set_cons_succ]
  refine wpAnyH_ready (rs := [3]) (by kernel_rfl) (by simp) ?_
  refine AllReadyH.cons rfl (fun K hK => ?_) AllReadyH.nil
  go_simp
  go_at_call 24
  go_split_ands
  refine (xCheckClaim_any c _ _ ⟨_, _, rfl, KC.out _ (Hid.out (by assumption))⟩).mono ?_
  rintro e' w6 ⟨rfl, hb1⟩
  go_wp2_with fail
  refine hK.out _ _ ?_ (fun hHeld => ?_)
  · (try dsimp only)
    (go_split_ands; exact MK.out _ (Below.trans (Hid.out (by assumption)) (hb1.mono (Hid.out (by assumption) : Below wb.heap.size wb _).size)))
  clear hK K
  try simp only [Act.put, List.getElem_toArray, List.getElem_cons_succ, List.getElem_cons_zero, List.setIfInBounds_toArray, List.set_cons_zero, List.set_cons_succ]
  refine wpAnyH_ready (rs := [4]) (by kernel_rfl) (by simp) ?_
  refine AllReadyH.cons rfl (fun K hK => ?_) AllReadyH.nil
  go_simp
  refine hK.out _ _ ?_ (fun hHeld => ?_)
  · (try dsimp only)
    (go_split_ands; exact MK.out _ (Below.alloc (Hid.out (by assumption)) (Hid.out (by assumption) : Below wb.heap.size wb _).size _))
  clear hK K
  try simp only [Act.put, List.getElem_toArray, List.getElem_cons_succ, List.getElem_cons_zero, List.setIfInBounds_toArray, List.set_cons_zero, List.set_cons_succ]
  refine wpAnyH_ready (rs := [5]) (by kernel_rfl) (by simp) ?_
  refine AllReadyH.cons rfl (fun K hK => ?_) AllReadyH.nil
  go_simp
  go_at_call 82
  go_split_ands
  refine (xFirst_any [thgErr x, thgErr c] _ _ _ (by first | exact gints2New _ _ _ _ | exact (gints2New _ _ _ _).keep (Keep.drew _))).mono ?_
  rintro e' wx9 ⟨rfl, rfl⟩
  go_wp2_with fail
  refine hK.out _ _ ?_ (fun hHeld => ?_)
  · (try dsimp only)
    (go_split_ands; exact MK.out _ (Hid.out (by assumption)))
  clear hK K
  try simp only [Act.put, List.getElem_toArray, List.getElem_cons_succ, List.getElem_cons_zero, List.setIfInBounds_toArray, List.set_cons_zero, List.set_cons_succ]
  refine wpAnyH_take (i := 6) (v := ?val6x3) rfl (by kernel_rfl) (by kernel_rfl) (by kernel_rfl) (fun _ _ _ h => h) (Or.inl ⟨by rfl, fun w9 hS9 => ?yields6x3⟩) (by assumption) ?later6x3
  case yields6x3 =>
    dsimp only at hS9
    go_simp
    try with_reducible rfl
  try simp only [Act.put, List.getElem_toArray, List.getElem_cons_succ, List.getElem_cons_zero, List.setIfInBounds_toArray, List.set_cons_zero, List.set_cons_succ]
  refine wpAnyH_done (by kernel_rfl) ?_ _
  obtain ⟨-, -, -, -, -, -, -, -, HB⟩ := hHeld
  clear HBd MK
  rw [← F0.out]
  clear F0 KX KC q0 q1 q2 q3 r0 r1 r2 r3
  by_cases he : cbErr x c = 0
  · obtain ⟨hx, hc⟩ := two_zero he
    have HX := Lib.hid hx
    have HC := Lib.hid hc
    have F := Lib.hid (show cbOut x c = canBe x c from if_pos he)
    have HE := Lib.hid he
    rw [he]
    clear he hx hc
    obtain ⟨q0, q1, q2, q3⟩ := BX.out.keep (Keep.below HB.out)
    obtain ⟨r0, r1, r2, r3⟩ := BC.out.keep (Keep.below HB.out)
    go_wp2_with fail
    refine (xCanBe0_any x c _ _ _ ⟨_, _, rfl, M1.out.keep (Keep.below HB.out)⟩ ⟨_, _, rfl, M2.out.keep (Keep.below HB.out)⟩ HX.out HC.out).mono ?_
    rintro e w1 ⟨rfl, hb1⟩
    go_wp2_with fail
    go_ret2
    exact ⟨by rw [F.out, HE.out]; rfl, HW.out.trans ((HB.out.trans (hb1.mono HB.out.size)).mono HW.out.size)⟩
  · have F := Lib.hid (show cbOut x c = false from if_neg he)
    have e2 : (cbErr x c != 0) = true := by simpa using he
    have e3 : (cbErr x c == 0) = false := by simpa using he
    clear he
    go_wp2_with fail
    go_ret2
    exact ⟨by rw [F.out]; rfl, HW.out.trans (HB.out.mono HW.out.size)⟩
set_option linter.unusedSimpArgs false in
set_option maxHeartbeats 12800000 in
set_option maxRecDepth 100000 in
theorem xCandidates_any (l : List Thg) (x : Thg) (A : Option Addr) (c : Nat) (a : GA) (v : Value) (w : World) (h : ArrTh w A l c a) (hv : RdThg w v x) :
    Calls Tryz.prog 31 #[.slice A l.length c, v] w fun e w' => (∃ A' c', e = .returned (.tuple #[.slice A' (cdOut l x).length c', .int .i64 (cdErr l x)]) ∧ ArrI w' A' (cdOut l x) c') ∧ Below w.heap.size w w' := by
  obtain ⟨p, pc, rfl, m⟩ := hv
  have M1 := Lib.hid (m.keep (Keep.alloc w (.cells #[.string x.name, .int .i64 x.day, .string x.who, .slice p x.marks.length pc] 26)))
  have HA := Lib.hid (h.keep (Keep.alloc w (.cells #[.string x.name, .int .i64 x.day, .string x.who, .slice p x.marks.length pc] 26)))
  have BX := Lib.hid (ThgAt.new w x p pc 26)
  have HW := Lib.hid ((Below.refl w.heap.size w).alloc (Nat.le_refl _) (.cells #[.string x.name, .int .i64 x.day, .string x.who, .slice p x.marks.length pc] 26))
  have F0 := Lib.hid (show cdErr l x = fst (listI [thgsErr l, thgErr x]) 2 by rw [gfst_two]; rfl)
  clear m h
  go_enter Tryz.func31, Tryz.ntmps31
  go_upto_region 1 with fail
  generalize w.alloc _ = wb at *
  obtain ⟨q0, q1, q2, q3⟩ := BX.out
  go_wp2_with fail
  have HBd : Hid (Below wb.heap.size wb wb.drew) := Lib.hid (Below.refl _ _).drew
  have MK : Hid (∀ w', Below wb.heap.size wb w' → w'.cell? ⟨w.heap.size, 0, none⟩ = some (.string x.name) ∧ w'.cell? ⟨w.heap.size, 1, none⟩ = some (.int .i64 x.day) ∧ w'.cell? ⟨w.heap.size, 2, none⟩ = some (.string x.who) ∧ w'.cell? ⟨w.heap.size, 3, none⟩ = some (.slice p x.marks.length pc) ∧ Hid (Below wb.heap.size wb w')) :=
    Lib.hid fun w' hw => ⟨Keep.below hw _ _ q0, Keep.below hw _ _ q1, Keep.below hw _ _ q2, Keep.below hw _ _ q3, Lib.hid hw⟩
  have KX : Hid (∀ w', Below wb.heap.size wb w' → ArrMk w' p x.marks pc) := Lib.hid fun w' hw => (M1.out.keep (Keep.below hw))
  have KA : Hid (∀ w', Below wb.heap.size wb w' → ArrTh w' A l c a) := Lib.hid fun w' hw => (HA.out.keep (Keep.below hw))
  refine wp_region_held_drew (S := fun w' => w'.cell? ⟨w.heap.size, 0, none⟩ = some (.string x.name) ∧ w'.cell? ⟨w.heap.size, 1, none⟩ = some (.int .i64 x.day) ∧ w'.cell? ⟨w.heap.size, 2, none⟩ = some (.string x.who) ∧ w'.cell? ⟨w.heap.size, 3, none⟩ = some (.slice p x.marks.length pc) ∧ Hid (Below wb.heap.size wb w')) (by kernel_rfl) (MK.out _ HBd.out) (fun hHeld => ?_)
  refine wpAnyH_take (i := 0) (v := ?val0x4) rfl (by kernel_rfl) (by kernel_rfl) (by kernel_rfl) (fun _ _ _ h => h) (Or.inl ⟨by rfl, fun w9 hS9 => ?yields0x4⟩) (by assumption) ?later0x4
  case yields0x4 =>
    dsimp only at hS9
    go_simp
    try with_reducible rfl
  try simp only [Act.put, List.getElem_toArray, List.getElem_cons_succ, List.getElem_cons_zero, List.setIfInBounds_toArray, List.set_cons_zero, List.set_cons_succ]
  refine wpAnyH_take (i := 2) (v := ?val2x5) rfl (by kernel_rfl) (by kernel_rfl) (by kernel_rfl) (fun _ _ _ h => h) (Or.inl ⟨by rfl, fun w9 hS9 => ?yields2x5⟩) (by assumption) ?later2x5
  case yields2x5 =>
    dsimp only at hS9
    go_simp
    try with_reducible rfl
  try simp only [Act.put, List.getElem_toArray, List.getElem_cons_succ, List.getElem_cons_zero, List.setIfInBounds_toArray, List.set_cons_zero, List.set_cons_succ]
  refine wpAnyH_ready (rs := [1]) (by kernel_rfl) (by simp) ?_
  refine AllReadyH.cons rfl (fun K hK => ?_) AllReadyH.nil
  go_simp
  go_at_call 85
  go_split_ands
  refine (xItemsErr_any l A c a _ (KA.out _ (Hid.out (by assumption)))).mono ?_
  rintro e' w5 ⟨rfl, hb1⟩
  go_wp2_with fail
  refine hK.out _ _ ?_ (fun hHeld => ?_)
  · (try dsimp only)
    (go_split_ands; exact MK.out _ (Below.trans (Hid.out (by assumption)) (hb1.mono (Hid.out (by assumption) : Below wb.heap.size wb _).size)))
  clear hK K
  try simp only [Act.put, List.getElem_toArray, List.getElem_cons_succ, List.getElem_cons_zero, List.setIfInBounds_toArray, List.set_cons_zero, List.set_cons_succ]
  refine wpAnyH_ready (rs := [3]) (by kernel_rfl) (by simp) ?_
  refine AllReadyH.cons rfl (fun K hK => ?_) AllReadyH.nil
  go_simp
  go_at_call 24
  go_split_ands
  refine (xCheckClaim_any x _ _ ⟨_, _, rfl, KX.out _ (Hid.out (by assumption))⟩).mono ?_
  rintro e' w6 ⟨rfl, hb1⟩
  go_wp2_with fail
  refine hK.out _ _ ?_ (fun hHeld => ?_)
  · (try dsimp only)
    (go_split_ands; exact MK.out _ (Below.trans (Hid.out (by assumption)) (hb1.mono (Hid.out (by assumption) : Below wb.heap.size wb _).size)))
  clear hK K
  try simp only [Act.put, List.getElem_toArray, List.getElem_cons_succ, List.getElem_cons_zero, List.setIfInBounds_toArray, List.set_cons_zero, List.set_cons_succ]
  refine wpAnyH_ready (rs := [4]) (by kernel_rfl) (by simp) ?_
  refine AllReadyH.cons rfl (fun K hK => ?_) AllReadyH.nil
  go_simp
  refine hK.out _ _ ?_ (fun hHeld => ?_)
  · (try dsimp only)
    (go_split_ands; exact MK.out _ (Below.alloc (Hid.out (by assumption)) (Hid.out (by assumption) : Below wb.heap.size wb _).size _))
  clear hK K
  try simp only [Act.put, List.getElem_toArray, List.getElem_cons_succ, List.getElem_cons_zero, List.setIfInBounds_toArray, List.set_cons_zero, List.set_cons_succ]
  refine wpAnyH_ready (rs := [5]) (by kernel_rfl) (by simp) ?_
  refine AllReadyH.cons rfl (fun K hK => ?_) AllReadyH.nil
  go_simp
  go_at_call 82
  go_split_ands
  refine (xFirst_any [thgsErr l, thgErr x] _ _ _ (by first | exact gints2New _ _ _ _ | exact (gints2New _ _ _ _).keep (Keep.drew _))).mono ?_
  rintro e' wx9 ⟨rfl, rfl⟩
  go_wp2_with fail
  refine hK.out _ _ ?_ (fun hHeld => ?_)
  · (try dsimp only)
    (go_split_ands; exact MK.out _ (Hid.out (by assumption)))
  clear hK K
  try simp only [Act.put, List.getElem_toArray, List.getElem_cons_succ, List.getElem_cons_zero, List.setIfInBounds_toArray, List.set_cons_zero, List.set_cons_succ]
  refine wpAnyH_take (i := 6) (v := ?val6x6) rfl (by kernel_rfl) (by kernel_rfl) (by kernel_rfl) (fun _ _ _ h => h) (Or.inl ⟨by rfl, fun w9 hS9 => ?yields6x6⟩) (by assumption) ?later6x6
  case yields6x6 =>
    dsimp only at hS9
    go_simp
    try with_reducible rfl
  try simp only [Act.put, List.getElem_toArray, List.getElem_cons_succ, List.getElem_cons_zero, List.setIfInBounds_toArray, List.set_cons_zero, List.set_cons_succ]
  refine wpAnyH_done (by kernel_rfl) ?_ _
  obtain ⟨-, -, -, -, HB⟩ := hHeld
  clear HBd MK
  rw [← F0.out]
  clear F0 KX KA q0 q1 q2 q3
  by_cases he : cdErr l x = 0
  · obtain ⟨hx, hc⟩ := two_zero he
    have hok := thgs_ok hx
    have HX := Lib.hid (fun i hi => (hok.2 i hi).1)
    have HL := Lib.hid hok.1
    have HC := Lib.hid hc
    have F := Lib.hid (show cdOut l x = cands l x from if_pos he)
    have HE := Lib.hid he
    rw [he]
    clear he hx hc hok
    obtain ⟨q0, q1, q2, q3⟩ := BX.out.keep (Keep.below HB.out)
    go_wp2_with fail
    refine (xCandidates0_any l x A c a _ _ (HA.out.keep (Keep.below HB.out)) ⟨_, _, rfl, M1.out.keep (Keep.below HB.out)⟩ HX.out HC.out (by have := HL.out; omega)).mono ?_
    rintro e w1 ⟨⟨A', c', rfl, h1⟩, hb1⟩
    have H1 := Lib.hid h1
    clear h1
    go_wp2_with fail
    go_ret2
    exact ⟨⟨A', c', by rw [F.out, HE.out]; rfl, by rw [F.out]; exact H1.out⟩, HW.out.trans ((HB.out.trans (hb1.mono HB.out.size)).mono HW.out.size)⟩
  · have F := Lib.hid (show cdOut l x = [] from if_neg he)
    have e2 : (cdErr l x != 0) = true := by simpa using he
    have e3 : (cdErr l x == 0) = false := by simpa using he
    clear he
    go_wp2_with fail
    go_ret2
    exact ⟨⟨none, 0, by rw [F.out]; rfl, by rw [F.out]; exact ⟨Nat.le_refl _, by decide, fun hh => absurd hh (Nat.lt_irrefl _)⟩⟩, HW.out.trans (HB.out.mono HW.out.size)⟩
set_option linter.unusedSimpArgs false in
set_option maxHeartbeats 12800000 in
set_option maxRecDepth 100000 in
theorem xAgreement_any (a b : List Mrk) (A B : Option Addr) (c d : Nat) (w : World) (h : ArrMk w A a c) (h2 : ArrMk w B b d) :
    Calls Tryz.prog 27 #[.slice A a.length c, .slice B b.length d] w fun e w' => e = .returned (.tuple #[.agg #[.int .i64 (agOut a b).1, .int .i64 (agOut a b).2], .int .i64 (agErr a b)]) ∧ Below w.heap.size w w' := by
  have HA := Lib.hid (h.keep (Keep.alloc w (.cells #[.int .i64 0, .int .i64 0] 42)))
  have HB2 := Lib.hid (h2.keep (Keep.alloc w (.cells #[.int .i64 0, .int .i64 0] 42)))
  have BT := Lib.hid (TwoAt.new w (.int .i64 0) (.int .i64 0) 42)
  have HW := Lib.hid ((Below.refl w.heap.size w).alloc (Nat.le_refl _) (.cells #[.int .i64 0, .int .i64 0] 42))
  have F0 := Lib.hid (show agErr a b = fst (listI [marksErr a, marksErr b]) 2 by rw [gfst_two]; rfl)
  clear h h2
  go_enter Tryz.func27, Tryz.ntmps27
  go_upto_region 1 with fail
  generalize w.alloc _ = wb at *
  go_wp2_with fail
  refine (xMarksErr_any a A c _ HA.out).mono ?_
  rintro e w1 ⟨rfl, hb1⟩
  replace HA := Lib.hid (HA.out.keep (Keep.below hb1))
  replace HB2 := Lib.hid (HB2.out.keep (Keep.below hb1))
  replace BT := Lib.hid (BT.out.keep hb1)
  replace HW := Lib.hid (HW.out.trans (hb1.mono HW.out.size))
  clear hb1
  go_wp2_with fail
  refine (xMarksErr_any b B d _ HB2.out).mono ?_
  rintro e w2 ⟨rfl, hb1⟩
  replace HA := Lib.hid ((HA.out.keep (Keep.below hb1)).keep (Keep.alloc w2 (.cells #[.int .i64 (marksErr a), .int .i64 (marksErr b)] 30)))
  replace HB2 := Lib.hid ((HB2.out.keep (Keep.below hb1)).keep (Keep.alloc w2 (.cells #[.int .i64 (marksErr a), .int .i64 (marksErr b)] 30)))
  replace BT := Lib.hid ((BT.out.keep hb1).alloc (.cells #[.int .i64 (marksErr a), .int .i64 (marksErr b)] 30))
  replace HW := Lib.hid (HW.out.trans (hb1.mono HW.out.size))
  replace HW := Lib.hid (HW.out.alloc HW.out.size (.cells #[.int .i64 (marksErr a), .int .i64 (marksErr b)] 30))
  have HN := Lib.hid (gints2New w2 (marksErr a) (marksErr b) 30)
  clear hb1
  go_wp2_with fail
  refine (xFirst_any [marksErr a, marksErr b] _ _ _ HN.out).mono ?_
  rintro e wx ⟨rfl, rfl⟩
  rw [show [marksErr a, marksErr b].length = 2 from rfl, ← F0.out]
  generalize w2.alloc _ = wc at *
  clear F0 HN
  have hgw := Lib.hid (Nat.le_refl w.heap.size)
  by_cases he : agErr a b = 0
  · obtain ⟨hx, hc⟩ := two_zero he
    have F := Lib.hid (show agOut a b = (agrees a b, differs a b) from if_pos he)
    have HE := Lib.hid he
    rw [he]
    clear he
    go_wp2_with fail
    refine (xCompared_any a b _ _ _ _ _ HA.out HB2.out (marks_ok hx) (marks_ok hc)).mono ?_
    rintro e w3 ⟨rfl, hb1⟩
    replace BT := Lib.hid (BT.out.keep hb1)
    replace HW := Lib.hid (HW.out.trans (hb1.mono HW.out.size))
    obtain ⟨t0, t1, tf0, tf1⟩ := BT.out
    clear hb1 hx hc
    go_wp2_with fail
    obtain ⟨s0, s1, sf0, sf1⟩ := BT.out.set (.int .i64 (agrees a b)) (.int .i64 (differs a b))
    refine bodyPost_ret (v := .tuple #[.agg #[.int .i64 (agrees a b), .int .i64 (differs a b)], .int .i64 0]) (by simp [results, Tryz.results27, go_sem, s0, s1]) rfl ⟨by rw [F.out, HE.out], ?_⟩
    exact (HW.out.setCell (p := ⟨w.heap.size, 0, none⟩) (Nat.le_refl _) _).setCell (p := ⟨w.heap.size, 1, none⟩) (Nat.le_refl _) _
  · have F := Lib.hid (show agOut a b = (0, 0) from if_neg he)
    have e2 : (agErr a b != 0) = true := by simpa using he
    have e3 : (agErr a b == 0) = false := by simpa using he
    obtain ⟨t0, t1, tf0, tf1⟩ := BT.out
    clear he
    go_wp2_with fail
    obtain ⟨s0, s1, sf0, sf1⟩ := BT.out.set (.int .i64 0) (.int .i64 0)
    refine bodyPost_ret (v := .tuple #[.agg #[.int .i64 0, .int .i64 0], .int .i64 (agErr a b)]) (by simp [results, Tryz.results27, go_sem, s0, s1]) rfl ⟨by rw [F.out], ?_⟩
    exact (HW.out.setCell (p := ⟨w.heap.size, 0, none⟩) (Nat.le_refl _) _).setCell (p := ⟨w.heap.size, 1, none⟩) (Nat.le_refl _) _
set_option linter.unusedSimpArgs false in
set_option maxHeartbeats 12800000 in
set_option maxRecDepth 100000 in
theorem xAmbiguous_any (l d : List Thg) (A B : Option Addr) (c e : Nat) (a b : GA) (w : World) (h : ArrTh w A l c a) (h2 : ArrTh w B d e b) :
    Calls Tryz.prog 40 #[.slice A l.length c, .slice B d.length e] w fun x w' => (∃ A' c', x = .returned (.tuple #[.slice A' (amOut l d).length c', .int .i64 (pairErr l d)]) ∧ ArrI w' A' (amOut l d) c') ∧ Below w.heap.size w w' := by
  obtain ⟨i0, hi, hz0, hz1, hz2⟩ := info_parts Tryz.infoIntG
  have b1 := h2.le.1
  have b2 := h2.le.2
  have HA := Lib.hid h
  have HD := Lib.hid h2
  clear h h2
  go_enter Tryz.func40, Tryz.ntmps40
  go_wp2_with fail
  refine (xBothErr_any l d A B c e a b _ HA.out HD.out).mono ?_
  rintro e1 wb ⟨rfl, hb1⟩
  replace HA := Lib.hid (HA.out.keep (Keep.below hb1))
  replace HD := Lib.hid (HD.out.keep (Keep.below hb1))
  have HW := Lib.hid hb1
  clear hb1
  by_cases he : pairErr l d = 0
  · obtain ⟨hx, hc⟩ := two_zero he
    have hok := thgs_ok hx
    have hok2 := thgs_ok hc
    have HX := Lib.hid (fun i hi => (hok.2 i hi).1)
    have HC := Lib.hid (fun i hi => (hok2.2 i hi).1)
    have HL := Lib.hid hok.1
    have hdl := hok2.1
    have F := Lib.hid (show amOut l d = amb l d from if_pos he)
    have HE := Lib.hid he
    rw [he]
    clear he hx hc hok hok2
    go_wp2_with fail
    go_loopw [7, 18] (fun v i wr => ∃ k : Nat, k ≤ d.length ∧ i = .int .i64 k ∧ Hid (wr.ownsRow wb.heap.size 3 1 v (ambTo l d k).length (intVals (ambTo l d k))) ∧ Hid (Below wb.heap.size wb wr)) (fun _ i _ => d.length - (intOf i).toNat)
    case atStart => exact ⟨0, Nat.zero_le _, rfl, Lib.hid (World.ownsRow_nil _ _ _ _), Lib.hid (Below.refl _ _)⟩
    case round =>
      obtain ⟨k, hk, rfl, HO, HB⟩ := hrel
      have hgl := ambTo_len l d k
      by_cases hlt : k < d.length
      · have hkn : (k : Int) < (d.length : Int) := by omega
        obtain ⟨bb, o, rfl, q, qm⟩ := (HD.out.keep (Keep.below HB.out)).at_ hlt
        obtain ⟨q0, q1, q2, q3⟩ := q
        have TB := Lib.hid (ThgAt.new wr (lThg d k) (b.p k) (b.pc k) 26)
        have QM := Lib.hid (qm.keep (Keep.alloc wr (.cells #[.string (lThg d k).name, .int .i64 (lThg d k).day, .string (lThg d k).who, .slice (b.p k) (lThg d k).marks.length (b.pc k)] 26)))
        replace HO := Lib.hid (below_of_own HO.out ((Below.refl _ _).alloc (Nat.le_refl _) (.cells #[.string (lThg d k).name, .int .i64 (lThg d k).day, .string (lThg d k).who, .slice (b.p k) (lThg d k).marks.length (b.pc k)] 26)))
        replace HB := Lib.hid (HB.out.alloc HB.out.size (.cells #[.string (lThg d k).name, .int .i64 (lThg d k).day, .string (lThg d k).who, .slice (b.p k) (lThg d k).marks.length (b.pc k)] 26))
        clear qm
        go_upto_region 8 with fail
        generalize wr.alloc _ = wc at *
        clear q0 q1 q2 q3
        obtain ⟨q0, q1, q2, q3⟩ := TB.out
        go_wp2_with fail
        refine (xCandidates0_any l (lThg d k) A c a _ _ (HA.out.keep (Keep.below HB.out)) ⟨_, _, rfl, QM.out⟩ HX.out (HC.out k hlt) (by have := HL.out; omega)).mono ?_
        rintro e' w1 ⟨⟨A1, c1, rfl, h1⟩, hb1⟩
        have HBQ := Lib.hid (HB.out.trans (hb1.mono HB.out.size))
        have HO2 := Lib.hid (below_of_own HO.out hb1)
        have hcl := candTo_len l (lThg d k) l.length
        obtain ⟨N, hN⟩ : ∃ N, N = (cands l (lThg d k)).length := ⟨_, rfl⟩
        have HNN := Lib.hid hN
        have hNl : N ≤ 12 := by have := HL.out; unfold cands at hN; omega
        rw [← hN]
        clear q0 q1 q2 q3 hb1 HO HB TB QM h1 hN hcl
        by_cases hcb : 2 ≤ N
        · have HG := Lib.hid (show ambTo l d (k + 1) = ambTo l d k ++ [(k : Int)] by rw [ambTo, if_pos (by rw [← HNN.out]; exact hcb)])
          have d1 : decide ((N : Int) ≥ 2) = true := decide_eq_true (by omega)
          have d2 : decide ((2 : Int) ≤ (N : Int)) = true := decide_eq_true (by omega)
          clear hcb
          go_wp2_with (at_builtin
                       refine wpList_append_own _ rfl (.tmp 28) (.tmp 30) 51 rfl wb.heap.size 3 i0 _ 1 8 Tryz.underlying51 hi hz0 hz1 hz2 rfl (by decide) _ _ _ rfl (HO2.out.alloc _) ⟨_, 0, none⟩ 1 1 [.int .i64 k] rfl rfl ?c1 ?c2 ?c3 ?c4 ?c5 ?_)
          case c1 => exact news0 _ _ _
          case c2 => exact oneInt _
          case c3 => unfold maxLen; omega
          case c4 => omega
          case c5 => have := HBQ.out.size; simp; omega
          intro v9 w9 ho9 hg9 _
          go_wp2_with fail
          go_roundw
          case rel =>
            refine ⟨k + 1, by omega, by go_num, Lib.hid ?_, Lib.hid ?_⟩
            · rw [HG.out, intVals_snoc, List.length_append]
              exact ho9
            · exact (HBQ.out.alloc HBQ.out.size _).grown hg9 (by have := HBQ.out.size; simp; omega) (fun j hj => (HO2.out.lt j hj).1)
          case measure => simp [intOf]; omega
        · have HG := Lib.hid (show ambTo l d (k + 1) = ambTo l d k by rw [ambTo, if_neg (by rw [← HNN.out]; exact hcb)])
          have d1 : decide ((N : Int) ≥ 2) = false := decide_eq_false (by omega)
          have d2 : decide ((2 : Int) ≤ (N : Int)) = false := decide_eq_false (by omega)
          clear hcb
          go_wp2_with fail
          go_roundw
          case rel => exact ⟨k + 1, by omega, by go_num, by rw [HG.out]; exact HO2, HBQ⟩
          case measure => simp [intOf]; omega
      · obtain rfl : k = d.length := by omega
        obtain ⟨A2, c2, rfl, h2⟩ := own_arr HO.out
        have H2 := Lib.hid h2
        clear h2
        go_wp2_with fail
        go_ret2
        exact ⟨⟨A2, c2, by rw [F.out, HE.out]; rfl, by rw [F.out]; exact H2.out⟩, HW.out.trans (HB.out.mono HW.out.size)⟩
  · have F := Lib.hid (show amOut l d = [] from if_neg he)
    have e2 : (pairErr l d != 0) = true := by simpa using he
    have e3 : (pairErr l d == 0) = false := by simpa using he
    clear he
    go_wp2_with fail
    go_ret2
    exact ⟨⟨none, 0, by rw [F.out]; rfl, by rw [F.out]; exact ⟨Nat.le_refl _, by decide, fun hh => absurd hh (Nat.lt_irrefl _)⟩⟩, HW.out⟩
end Go.Proofs.YtfjdnbnalihjiaaGreatDoor

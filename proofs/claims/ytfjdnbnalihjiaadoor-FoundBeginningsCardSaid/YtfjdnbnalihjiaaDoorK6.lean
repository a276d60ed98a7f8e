/- Whether an item can be a claim, candidates, agreement, ambiguous claims: what the program answers. No condition. -/
import Derived.Test.YtfjdnbnalihjiaaDoorK5
namespace Go.Proofs.YtfjdnbnalihjiaaDoor
open Go.RowKit Fs

theorem Fs.two_zero {a b : Int} (h : (if a ≠ 0 then a else b) = 0) : a = 0 ∧ b = 0 := by
  by_cases ha : a = 0
  · rw [if_neg (fun hh => hh ha)] at h; exact ⟨ha, h⟩
  · rw [if_pos ha] at h; exact absurd h ha
set_option linter.unusedSimpArgs false in
set_option maxHeartbeats 12800000 in
set_option maxRecDepth 100000 in
theorem xCandidates_any (l : List Thg) (x : Thg) (A : Option Addr) (c : Nat) (a : GA) (v : Value) (w : World) (h : ArrTh w A l c a) (hv : RdThg w v x) :
    Calls Tryd.prog 35 #[.slice A l.length c, v] w fun e w' => (∃ A' c', e = .returned (.tuple #[.slice A' (cdOut l x).length c', .int .i64 (cdErr l x)]) ∧ ArrI w' A' (cdOut l x) c') ∧ Below w.heap.size w w' := by
  obtain ⟨p, pc, rfl, m⟩ := hv
  have M1 := Lib.hid (m.keep (Keep.alloc w (.cells #[.string x.name, .int .i64 x.day, .string x.who, .slice p x.marks.length pc] 50)))
  have HA := Lib.hid (h.keep (Keep.alloc w (.cells #[.string x.name, .int .i64 x.day, .string x.who, .slice p x.marks.length pc] 50)))
  have BX := Lib.hid (ThgAt.new w x p pc 50)
  have HW := Lib.hid ((Below.refl w.heap.size w).alloc (Nat.le_refl _) (.cells #[.string x.name, .int .i64 x.day, .string x.who, .slice p x.marks.length pc] 50))
  have F0 := Lib.hid (show cdErr l x = fst (listI [thgsErr l, thgErr x]) 2 by rw [gfst_two]; rfl)
  clear m h
  go_enter Tryd.func35, Tryd.ntmps35
  go_upto_region 1 with fail
  generalize w.alloc _ = wb at *
  obtain ⟨q0, q1, q2, q3⟩ := BX.out
  go_wp2_with fail
  have HBd : Hid (Below wb.heap.size wb wb.drew) := Lib.hid (Below.refl _ _).drew
  have MK : Hid (∀ w', Below wb.heap.size wb w' → w'.cell? ⟨w.heap.size, 0, none⟩ = some (.string x.name) ∧ w'.cell? ⟨w.heap.size, 1, none⟩ = some (.int .i64 x.day) ∧ w'.cell? ⟨w.heap.size, 2, none⟩ = some (.string x.who) ∧ w'.cell? ⟨w.heap.size, 3, none⟩ = some (.slice p x.marks.length pc) ∧ Hid (Below wb.heap.size wb w')) :=
    Lib.hid fun w' hw => ⟨Keep.below hw _ _ q0, Keep.below hw _ _ q1, Keep.below hw _ _ q2, Keep.below hw _ _ q3, Lib.hid hw⟩
  have KX : Hid (∀ w', Below wb.heap.size wb w' → ArrMk w' p x.marks pc) := Lib.hid fun w' hw => (M1.out.keep (Keep.below hw))
  have KA : Hid (∀ w', Below wb.heap.size wb w' → ArrTh w' A l c a) := Lib.hid fun w' hw => (HA.out.keep (Keep.below hw))
  refine wp_region_held_drew (S := fun w' => w'.cell? ⟨w.heap.size, 0, none⟩ = some (.string x.name) ∧ w'.cell? ⟨w.heap.size, 1, none⟩ = some (.int .i64 x.day) ∧ w'.cell? ⟨w.heap.size, 2, none⟩ = some (.string x.who) ∧ w'.cell? ⟨w.heap.size, 3, none⟩ = some (.slice p x.marks.length pc) ∧ Hid (Below wb.heap.size wb w')) (by kernel_rfl) (MK.out _ HBd.out) (fun hHeld => ?_)
  refine wpAnyH_take (i := 0) (v := ?val0x4) rfl (by kernel_rfl) (by kernel_rfl) (by kernel_rfl) (fun _ _ _ h => h) (Or.inl ⟨by rfl, fun w9 hS9 => ?yields0x4⟩) (by assumption) ?later0x4
  case yields0x4 =>
    dsimp only at hS9
    go_simp
    try with_reducible rfl
  try simp only [Act.put, List.getElem_toArray, List.getElem_cons_succ, List.getElem_cons_zero, List.setIfInBounds_toArray, List.set_cons_zero, List.set_cons_succ]
  refine wpAnyH_take (i := 2) (v := ?val2x5) rfl (by kernel_rfl) (by kernel_rfl) (by kernel_rfl) (fun _ _ _ h => h) (Or.inl ⟨by rfl, fun w9 hS9 => ?yields2x5⟩) (by assumption) ?later2x5
  case yields2x5 =>
    dsimp only at hS9
    go_simp
    try with_reducible rfl
  try simp only [Act.put, List.getElem_toArray, List.getElem_cons_succ, List.getElem_cons_zero, List.setIfInBounds_toArray, List.set_cons_zero, List.set_cons_succ]
  refine wpAnyH_ready (rs := [1]) (by kernel_rfl) (by simp) ?_
  refine AllReadyH.cons rfl (fun K hK => ?_) AllReadyH.nil
  go_simp
  go_at_call 49
  go_split_ands
  refine (xItemsErr_any l A c a _ (KA.out _ (Hid.out (by assumption)))).mono ?_
  rintro e' w5 ⟨rfl, hb1⟩
  go_wp2_with fail
  refine hK.out _ _ ?_ (fun hHeld => ?_)
  · (try dsimp only)
    (go_split_ands; exact MK.out _ (Below.trans (Hid.out (by assumption)) (hb1.mono (Hid.out (by assumption) : Below wb.heap.size wb _).size)))
  clear hK K
  try simp only [Act.put, List.getElem_toArray, List.getElem_cons_succ, List.getElem_cons_zero, List.setIfInBounds_toArray, List.set_cons_zero, List.set_cons_succ]
  refine wpAnyH_ready (rs := [3]) (by kernel_rfl) (by simp) ?_
  refine AllReadyH.cons rfl (fun K hK => ?_) AllReadyH.nil
  go_simp
  go_at_call 50
  go_split_ands
  refine (xCheckClaim_any x _ _ ⟨_, _, rfl, KX.out _ (Hid.out (by assumption))⟩).mono ?_
  rintro e' w6 ⟨rfl, hb1⟩
  go_wp2_with fail
  refine hK.out _ _ ?_ (fun hHeld => ?_)
  · (try dsimp only)
    (go_split_ands; exact MK.out _ (Below.trans (Hid.out (by assumption)) (hb1.mono (Hid.out (by assumption) : Below wb.heap.size wb _).size)))
  clear hK K
  try simp only [Act.put, List.getElem_toArray, List.getElem_cons_succ, List.getElem_cons_zero, List.setIfInBounds_toArray, List.set_cons_zero, List.set_cons_succ]
  refine wpAnyH_ready (rs := [4]) (by kernel_rfl) (by simp) ?_
  refine AllReadyH.cons rfl (fun K hK => ?_) AllReadyH.nil
  go_simp
  refine hK.out _ _ ?_ (fun hHeld => ?_)
  · (try dsimp only)
    (go_split_ands; exact MK.out _ (Below.alloc (Hid.out (by assumption)) (Hid.out (by assumption) : Below wb.heap.size wb _).size _))
  clear hK K
  try simp only [Act.put, List.getElem_toArray, List.getElem_cons_succ, List.getElem_cons_zero, List.setIfInBounds_toArray, List.set_cons_zero, List.set_cons_succ]
  refine wpAnyH_ready (rs := [5]) (by kernel_rfl) (by simp) ?_
  refine AllReadyH.cons rfl (fun K hK => ?_) AllReadyH.nil
  go_simp
  go_at_call 26
  go_split_ands
  refine (xFirst_any [thgsErr l, thgErr x] _ _ _ (by first | exact gints2New _ _ _ _ | exact (gints2New _ _ _ _).keep (Keep.drew _))).mono ?_
  rintro e' wx9 ⟨rfl, rfl⟩
  go_wp2_with fail
  refine hK.out _ _ ?_ (fun hHeld => ?_)
  · (try dsimp only)
    (go_split_ands; exact MK.out _ (Hid.out (by assumption)))
  clear hK K
  try simp only [Act.put, List.getElem_toArray, List.getElem_cons_succ, List.getElem_cons_zero, List.setIfInBounds_toArray, List.set_cons_zero, List.set_cons_succ]
  refine wpAnyH_take (i := 6) (v := ?val6x6) rfl (by kernel_rfl) (by kernel_rfl) (by kernel_rfl) (fun _ _ _ h => h) (Or.inl ⟨by rfl, fun w9 hS9 => ?yields6x6⟩) (by assumption) ?later6x6
  case yields6x6 =>
    dsimp only at hS9
    go_simp
    try with_reducible rfl
  try simp only [Act.put, List.getElem_toArray, List.getElem_cons_succ, List.getElem_cons_zero, List.setIfInBounds_toArray, List.set_cons_zero, List.set_cons_succ]
  refine wpAnyH_done (by kernel_rfl) ?_ _
  obtain ⟨-, -, -, -, HB⟩ := hHeld
  clear HBd MK
  rw [← F0.out]
  clear F0 KX KA q0 q1 q2 q3
  by_cases he : cdErr l x = 0
  · obtain ⟨hx, hc⟩ := two_zero he
    have hok := thgs_ok hx
    have HX := Lib.hid (fun i hi => (hok.2 i hi).1)
    have HL := Lib.hid hok.1
    have HC := Lib.hid hc
    have F := Lib.hid (show cdOut l x = cands l x from if_pos he)
    have HE := Lib.hid he
    rw [he]
    clear he hx hc hok
    obtain ⟨q0, q1, q2, q3⟩ := BX.out.keep (Keep.below HB.out)
    go_wp2_with fail
    refine (xCandidates0_any l x A c a _ _ (HA.out.keep (Keep.below HB.out)) ⟨_, _, rfl, M1.out.keep (Keep.below HB.out)⟩ HX.out HC.out (by have := HL.out; omega)).mono ?_
    rintro e w1 ⟨⟨A', c', rfl, h1⟩, hb1⟩
    have H1 := Lib.hid h1
    clear h1
    go_wp2_with fail
    go_ret2
    exact ⟨⟨A', c', by rw [F.out, HE.out]; rfl, by rw [F.out]; exact H1.out⟩, HW.out.trans ((HB.out.trans (hb1.mono HB.out.size)).mono HW.out.size)⟩
  · have F := Lib.hid (show cdOut l x = [] from if_neg he)
    have e2 : (cdErr l x != 0) = true := by simpa using he
    have e3 : (cdErr l x == 0) = false := by simpa using he
    clear he
    go_wp2_with fail
    go_ret2
    exact ⟨⟨none, 0, by rw [F.out]; rfl, by rw [F.out]; exact ⟨Nat.le_refl _, by decide, fun hh => absurd hh (Nat.lt_irrefl _)⟩⟩, HW.out.trans (HB.out.mono HW.out.size)⟩
end Go.Proofs.YtfjdnbnalihjiaaDoor

/- The groups of a book; its end, its last group, the work of its last week. Conditions: records are in order, of small numbers. -/
import Derived.Test.YtjmaankkbdpikaaX4
import Derived.Test.YtjmaankkbdpikaaD9
namespace Go.Proofs.Ytjmaankkbdpikaa
open Go.RowKit Fs

theorem ArrW.drop {w : World} {b o c : Nat} {l : List WRec} (h : ArrW w (some ⟨b, o, none⟩) l c) {f : Nat} (hf : f < l.length) : ArrW w (some ⟨b, o + f * 3, none⟩) (l.drop f) (c - f) := by
  have h1 := h.le
  refine ⟨by rw [List.length_drop]; omega, by omega, fun _ => ⟨b, o + f * 3, rfl, fun i j hi hj => ?_⟩⟩
  rw [List.length_drop] at hi
  obtain ⟨b', o', e, hc⟩ := h.2.2 (by omega)
  obtain ⟨rfl, rfl⟩ : b = b' ∧ o = o' := by simpa using e
  have := hc (f + i) j (by omega) hj
  show _ = some (recCells (listW (l.drop f) i) j)
  rw [listW_drop, show recCells (listW l (f + i)) j = (fun i j => recCells (listW l i) j) (f + i) j from rfl, ← this]
  congr 2
  omega
/-! ### the end -/
set_option linter.unusedSimpArgs false in
set_option maxHeartbeats 1600000 in
theorem xEnd_any (R : DRules) (l : List WRec) (A : Option Addr) (c n : Nat) (w : World) (h : ArrW w A l c) (hn : n < l.length) (hn2 : l.length ≤ n + 1) :
    Calls Try.prog 45 #[bookV R A l.length c] w fun e w' => e = .returned (.int .i64 (listW l n).fin) ∧ Below w.heap.size w w' := by
  have b1 := h.le.1
  have b2 := h.le.2
  have HA := Lib.hid h
  clear h
  obtain ⟨N, hN⟩ : ∃ N, N = l.length := ⟨_, rfl⟩
  rw [← hN] at b1 hn hn2 ⊢
  have HN := Lib.hid hN
  clear hN
  have BB := Lib.hid (BookIn.new w R A N c 74)
  go_enter Try.func45, Try.ntmps45
  go_upto_region 1 with fail
  generalize hwb : w.alloc _ = wb at *
  have HW : Hid (Below w.heap.size w wb) := by rw [← hwb]; exact Lib.hid ((Below.refl _ _).alloc (Nat.le_refl _) _)
  clear hwb
  obtain ⟨b, o, rfl, q⟩ := (HA.out.keep (Keep.below HW.out)).at_ (k := n) (by rw [← HN.out]; exact hn)
  obtain ⟨q0, q1, q2⟩ := q
  obtain ⟨k0, k1, k2, k3, k4, k5⟩ := BB.out
  have hw0 : (N : Int) - 1 = (n : Int) := by omega
  have hw1 : IntKind.i64.wrap ((N : Int) - 1) = (n : Int) := by rw [IntKind.wrap_i64]; omega
  have hw2 : IntKind.i64.wrap (n : Int) = (n : Int) := by rw [IntKind.wrap_i64]; omega
  have hnN : (n : Int) < (N : Int) := by omega
  go_wp2_with fail
  go_ret
  exact ⟨rfl, HW.out⟩

/-! ### the last group -/
theorem Fs.groups_end (l : List WRec) (gap : Int) {n : Nat} (hn : l.length = n + 1) : ∃ m, (groups l gap).length = m + 1 ∧ (listJ (groups l gap) m).1 = ((firstIn l gap n : Nat) : Int) := by
  have h1 := groups_last l gap n
  have h2 := groupsTo_pos l gap n
  unfold groups
  rw [hn]
  generalize groupsTo l gap (n + 1) = L at *
  rcases List.eq_nil_or_concat L with e | ⟨M, p, e⟩
  · exact absurd e h2
  · rw [List.concat_eq_append] at e
    subst e
    refine ⟨M.length, by simp, ?_⟩
    rw [List.getLastD_concat] at h1
    rw [← h1]
    unfold listJ
    rw [List.getD_eq_getElem?_getD, List.getElem?_append_right (Nat.le_refl _)]
    simp
set_option linter.unusedSimpArgs false in
set_option maxHeartbeats 12800000 in
set_option maxRecDepth 100000 in
theorem xLastGroup_any (R : DRules) (l : List WRec) (A : Option Addr) (c n : Nat) (gap : Int) (w : World) (h : ArrW w A l c) (hF : Fit l) (hn : l.length = n + 1) :
    Calls Try.prog 69 #[bookV R A l.length c, .int .i64 gap] w fun e w' => (∃ A' c', e = .returned (.slice A' (l.drop (firstIn l gap n)).length c') ∧ ArrW w' A' (l.drop (firstIn l gap n)) c') ∧ Below w.heap.size w w' := by
  have b1 := h.le.1
  have b2 := h.le.2
  have HA := Lib.hid h
  have HF := Lib.hid hF
  have HN := Lib.hid hn
  have hlen := hF.len
  clear h hF hn
  have BB := Lib.hid (BookIn.new w R A l.length c 74)
  go_enter Try.func69, Try.ntmps69
  go_upto_region 1 with fail
  generalize hwb : w.alloc _ = wb at *
  have HW : Hid (Below w.heap.size w wb) := by rw [← hwb]; exact Lib.hid ((Below.refl _ _).alloc (Nat.le_refl _) _)
  clear hwb
  obtain ⟨k0, k1, k2, k3, k4, k5⟩ := BB.out
  go_wp2_with fail
  have HBd : Hid (Below wb.heap.size wb wb.drew) := Lib.hid (Below.refl _ _).drew
  have MK : Hid (∀ w', Below wb.heap.size wb w' → w'.cell? ⟨w.heap.size, 5, none⟩ = some (.slice A l.length c) ∧ Hid (Below wb.heap.size wb w')) :=
    Lib.hid fun w' hw => ⟨Keep.below hw _ _ k5, Lib.hid hw⟩
  have KA : Hid (∀ w', Below wb.heap.size wb w' → ArrW w' A l c) := Lib.hid fun w' hw => (HA.out.keep (Keep.below (HW.out.trans (hw.mono HW.out.size))))
  refine wp_region_held_drew (S := fun w' => w'.cell? ⟨w.heap.size, 5, none⟩ = some (.slice A l.length c) ∧ Hid (Below wb.heap.size wb w')) (by kernel_rfl) (MK.out _ HBd.out) (fun hHeld => ?_)
  refine wpAnyH_take (i := 0) (v := ?val0x15) rfl (by kernel_rfl) (by kernel_rfl) (by kernel_rfl) (fun _ _ _ h => h) (Or.inl ⟨by rfl, fun w9 hS9 => ?yields0x15⟩) (by assumption) ?later0x15
  case yields0x15 =>
    dsimp only at hS9
    go_simp
    try with_reducible rfl
  try simp only [Act.put, List.getElem_toArray, List.getElem_cons_succ, List.getElem_cons_zero, List.setIfInBounds_toArray, List.set_cons_zero, List.set_cons_succ]
  refine wpAnyH_take (i := 1) (v := ?val1x16) rfl (by kernel_rfl) (by kernel_rfl) (by kernel_rfl) (fun _ _ _ h => h) (Or.inl ⟨by rfl, fun w9 hS9 => ?yields1x16⟩) (by assumption) ?later1x16
  case yields1x16 =>
    dsimp only at hS9
    go_simp
    try with_reducible rfl
  try simp only [Act.put, List.getElem_toArray, List.getElem_cons_succ, List.getElem_cons_zero, List.setIfInBounds_toArray, List.set_cons_zero, List.set_cons_succ]
  refine wpAnyH_take (i := 2) (v := ?val2x17) rfl (by kernel_rfl) (by kernel_rfl) (by kernel_rfl) (fun _ _ _ h => h) (Or.inl ⟨by rfl, fun w9 hS9 => ?yields2x17⟩) (by assumption) ?later2x17
  case yields2x17 =>
    dsimp only at hS9
    go_simp
    try with_reducible rfl
  try simp only [Act.put, List.getElem_toArray, List.getElem_cons_succ, List.getElem_cons_zero, List.setIfInBounds_toArray, List.set_cons_zero, List.set_cons_succ]
  refine wpAnyH_ready (rs := [3]) (by kernel_rfl) (by simp) ?_
  refine AllReadyH.cons rfl (fun K hK => ?_) AllReadyH.nil
  go_simp
  go_at_call 82
  go_split_ands
  refine (xEndedBy_any gap _).mono ?_
  rintro e' w5 ⟨⟨q, rfl, hq⟩, hb1⟩
  have HQ := Lib.hid hq
  clear hq
  go_wp2_with fail
  refine hK.out _ _ ?_ (fun hHeld => ?_)
  · (try dsimp only)
    (go_split_ands; exact MK.out _ (Below.trans (Hid.out (by assumption)) (hb1.mono (Hid.out (by assumption) : Below wb.heap.size wb _).size)))
  clear hK K
  try simp only [Act.put, List.getElem_toArray, List.getElem_cons_succ, List.getElem_cons_zero, List.setIfInBounds_toArray, List.set_cons_zero, List.set_cons_succ]
  refine wpAnyH_ready (rs := [4]) (by kernel_rfl) (by simp) ?_
  refine AllReadyH.cons rfl (fun K hK => ?_) AllReadyH.nil
  go_simp
  go_at_call 81
  go_split_ands
  refine (xGroupsE_any l A c q gap _ (KA.out _ (Hid.out (by assumption))) HF.out HQ.out).mono ?_
  rintro e' w7 ⟨⟨v7, rfl, ho⟩, hb1⟩
  rw [← groupsBy_is] at ho
  obtain ⟨A7, c7, rfl, hj⟩ := own_pairs ho
  have HJ := Lib.hid hj
  clear ho hj
  go_wp2_with fail
  refine hK.out _ _ ?_ (fun hHeld => ?_)
  · (try dsimp only)
    (go_split_ands; exact MK.out _ (Below.trans (Hid.out (by assumption)) (hb1.mono (Hid.out (by assumption) : Below wb.heap.size wb _).size)))
  clear hK K
  try simp only [Act.put, List.getElem_toArray, List.getElem_cons_succ, List.getElem_cons_zero, List.setIfInBounds_toArray, List.set_cons_zero, List.set_cons_succ]
  refine wpAnyH_take (i := 5) (v := ?val5x18) rfl (by kernel_rfl) (by kernel_rfl) (by kernel_rfl) (fun _ _ _ h => h) (Or.inl ⟨by rfl, fun w9 hS9 => ?yields5x18⟩) (by assumption) ?later5x18
  case yields5x18 =>
    dsimp only at hS9
    go_simp
    try with_reducible rfl
  try simp only [Act.put, List.getElem_toArray, List.getElem_cons_succ, List.getElem_cons_zero, List.setIfInBounds_toArray, List.set_cons_zero, List.set_cons_succ]
  refine wpAnyH_done (by kernel_rfl) ?_ _
  obtain ⟨-, HB⟩ := hHeld
  clear HBd MK
  clear k0 k1 k2 k3 k4 k5 KA HQ
  replace BB := Lib.hid (BB.out.keep (Keep.below HB.out))
  replace HW := Lib.hid (HW.out.trans (HB.out.mono HW.out.size))
  clear HB
  obtain ⟨m, hm1, hm2⟩ := groups_end l gap HN.out
  have HJ2 := HJ.out
  rw [show groupsTo l gap l.length = groups l gap from rfl] at HJ2 ⊢
  obtain ⟨b7, o7, rfl, p0, p1⟩ := HJ2.at_ (k := m) (by omega)
  have hc7 := HJ2.le
  rw [hm2] at p0
  obtain ⟨f, hf⟩ : ∃ f, f = firstIn l gap n := ⟨_, rfl⟩
  have hfn : f ≤ n := by rw [hf]; exact firstIn_le l gap n
  rw [← hf] at p0
  have HFf := Lib.hid hf
  obtain ⟨M, hM⟩ : ∃ M, M = (groups l gap).length := ⟨_, rfl⟩
  rw [← hM] at hm1 hc7 ⊢
  have hMm : (m : Int) < (M : Int) := by omega
  have hMl : M ≤ 42 := by
    have := groupsTo_len l gap l.length
    rw [hM]
    have e : groups l gap = groupsTo l gap l.length := rfl
    rw [e]
    omega
  have hw0 : (M : Int) - 1 = (m : Int) := by omega
  have hw1 : IntKind.i64.wrap ((M : Int) - 1) = (m : Int) := by rw [IntKind.wrap_i64]; omega
  have hw2 : IntKind.i64.wrap (m : Int) = (m : Int) := by rw [IntKind.wrap_i64]; omega
  have HNl := HN.out
  have hfl : (f : Int) ≤ (l.length : Int) := by omega
  have hfl2 : (f : Int) < (l.length : Int) := by omega
  have hfw : IntKind.i64.wrap (f : Int) = (f : Int) := by rw [IntKind.wrap_i64]; omega
  obtain ⟨b, o, rfl, -⟩ := (HA.out).at_ (k := n) (by omega)
  have HD := Lib.hid ((HA.out.keep (Keep.below HW.out)).drop (f := f) (by omega))
  obtain ⟨L, hL⟩ : ∃ L, L = l.length := ⟨_, rfl⟩
  have HFL := Lib.hid (show (l.drop f).length = L - f by rw [List.length_drop, hL])
  rw [← hL] at b1 hlen HNl hfl hfl2 BB
  have HLl := Lib.hid hL
  obtain ⟨k0, k1, k2, k3, k4, k5⟩ := BB.out
  have hfL : f ≤ L := by omega
  clear hm1 hm2 hf hM HN HNl HJ2 HJ HF HA hL p1
  go_wp2_with fail
  go_quiet (fail)
  go_wp2_with fail
  go_ret
  exact ⟨⟨some ⟨b, o + f * 3, none⟩, c - f, by rw [← HFf.out, HFL.out]; rfl, by rw [← HFf.out]; exact HD.out.keep (Keep.below (bdrewN (Below.refl _ _) _))⟩, bdrewN HW.out _⟩
end Go.Proofs.Ytjmaankkbdpikaa

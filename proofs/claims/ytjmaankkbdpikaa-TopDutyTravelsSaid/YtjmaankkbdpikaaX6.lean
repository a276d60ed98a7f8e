/- Which rule is broken at the last record of a book, and first of all. Conditions: records are in order, of small numbers. -/
import Derived.Test.YtjmaankkbdpikaaX5
namespace Go.Proofs.Ytjmaankkbdpikaa
open Go.RowKit Fs

set_option linter.unusedSimpArgs false in
set_option maxHeartbeats 12800000 in
set_option maxRecDepth 100000 in
theorem xWeek_any (R : DRules) (l : List WRec) (A : Option Addr) (c n : Nat) (w : World) (h : ArrW w A l c) (hM : Mild l) (hn : n < l.length) (hn2 : l.length ≤ n + 1) :
    Calls Try.prog 71 #[bookV R A l.length c] w fun e w' => e = .returned (.bool (decide (R.week < workTo l ((listW l n).fin - 604800) (listW l n).fin l.length))) ∧ Below w.heap.size w w' := by
  have b1 := h.le.1
  have b2 := h.le.2
  have HA := Lib.hid h
  have HM := Lib.hid hM
  have HN1 := Lib.hid hn
  have HN2 := Lib.hid hn2
  have x1 := hM.one n hn
  have x0 := hM.len
  have x2 := workTo_mild hM ((listW l n).fin - 604800) (listW l n).fin l.length (Nat.le_refl _)
  have hw1 : IntKind.i64.wrap ((listW l n).fin - 604800) = (listW l n).fin - 604800 := by rw [IntKind.wrap_i64]; omega
  have y1 : -1000000 ≤ (listW l n).fin - 604800 ∧ (listW l n).fin - 604800 ≤ 9000000000 := by omega
  have y2 : -1000000 ≤ (listW l n).fin ∧ (listW l n).fin ≤ 9000000000 := by omega
  have HY1 := Lib.hid y1
  have HY2 := Lib.hid y2
  clear h hM hn hn2 y1 y2
  have BB := Lib.hid (BookIn.new w R A l.length c 74)
  go_enter Try.func71, Try.ntmps71
  go_upto_region 1 with fail
  generalize hwb : w.alloc _ = wb at *
  have HW : Hid (Below w.heap.size w wb) := by rw [← hwb]; exact Lib.hid ((Below.refl _ _).alloc (Nat.le_refl _) _)
  clear hwb
  obtain ⟨k0, k1, k2, k3, k4, k5⟩ := BB.out
  go_wp2_with fail
  have HBd : Hid (Below wb.heap.size wb wb.drew) := Lib.hid (Below.refl _ _).drew
  have MK : Hid (∀ w', Below wb.heap.size wb w' → w'.cell? ⟨w.heap.size, 0, none⟩ = some (.int .i64 R.brk) ∧ w'.cell? ⟨w.heap.size, 1, none⟩ = some (.int .i64 R.rest) ∧ w'.cell? ⟨w.heap.size, 2, none⟩ = some (.int .i64 R.stint) ∧ w'.cell? ⟨w.heap.size, 3, none⟩ = some (.int .i64 R.shift) ∧ w'.cell? ⟨w.heap.size, 4, none⟩ = some (.int .i64 R.week) ∧ w'.cell? ⟨w.heap.size, 5, none⟩ = some (.slice A l.length c) ∧ Hid (Below wb.heap.size wb w')) :=
    Lib.hid fun w' hw => ⟨Keep.below hw _ _ k0, Keep.below hw _ _ k1, Keep.below hw _ _ k2, Keep.below hw _ _ k3, Keep.below hw _ _ k4, Keep.below hw _ _ k5, Lib.hid hw⟩
  have KA : Hid (∀ w', Below wb.heap.size wb w' → ArrW w' A l c) := Lib.hid fun w' hw => (HA.out.keep (Keep.below (HW.out.trans (hw.mono HW.out.size))))
  refine wp_region_held_drew (S := fun w' => w'.cell? ⟨w.heap.size, 0, none⟩ = some (.int .i64 R.brk) ∧ w'.cell? ⟨w.heap.size, 1, none⟩ = some (.int .i64 R.rest) ∧ w'.cell? ⟨w.heap.size, 2, none⟩ = some (.int .i64 R.stint) ∧ w'.cell? ⟨w.heap.size, 3, none⟩ = some (.int .i64 R.shift) ∧ w'.cell? ⟨w.heap.size, 4, none⟩ = some (.int .i64 R.week) ∧ w'.cell? ⟨w.heap.size, 5, none⟩ = some (.slice A l.length c) ∧ Hid (Below wb.heap.size wb w')) (by kernel_rfl) (MK.out _ HBd.out) (fun hHeld => ?_)
  refine wpAnyH_take (i := 0) (v := ?val0x19) rfl (by kernel_rfl) (by kernel_rfl) (by kernel_rfl) (fun _ _ _ h => h) (Or.inl ⟨by rfl, fun w9 hS9 => ?yields0x19⟩) (by assumption) ?later0x19
  case yields0x19 =>
    dsimp only at hS9
    go_simp
    try with_reducible rfl
  try simp only [Act.put, List.getElem_toArray, List.getElem_cons_succ, List.getElem_cons_zero, List.setIfInBounds_toArray, List.set_cons_zero, List.set_cons_succ]
  refine wpAnyH_take (i := 1) (v := ?val1x20) rfl (by kernel_rfl) (by kernel_rfl) (by kernel_rfl) (fun _ _ _ h => h) (Or.inl ⟨by rfl, fun w9 hS9 => ?yields1x20⟩) (by assumption) ?later1x20
  case yields1x20 =>
    dsimp only at hS9
    go_simp
    try with_reducible rfl
  try simp only [Act.put, List.getElem_toArray, List.getElem_cons_succ, List.getElem_cons_zero, List.setIfInBounds_toArray, List.set_cons_zero, List.set_cons_succ]
  refine wpAnyH_take (i := 2) (v := ?val2x21) rfl (by kernel_rfl) (by kernel_rfl) (by kernel_rfl) (fun _ _ _ h => h) (Or.inl ⟨by rfl, fun w9 hS9 => ?yields2x21⟩) (by assumption) ?later2x21
  case yields2x21 =>
    dsimp only at hS9
    go_simp
    try with_reducible rfl
  try simp only [Act.put, List.getElem_toArray, List.getElem_cons_succ, List.getElem_cons_zero, List.setIfInBounds_toArray, List.set_cons_zero, List.set_cons_succ]
  refine wpAnyH_take (i := 5) (v := ?val5x22) rfl (by kernel_rfl) (by kernel_rfl) (by kernel_rfl) (fun _ _ _ h => h) (Or.inl ⟨by rfl, fun w9 hS9 => ?yields5x22⟩) (by assumption) ?later5x22
  case yields5x22 =>
    dsimp only at hS9
    go_simp
    try with_reducible rfl
  try simp only [Act.put, List.getElem_toArray, List.getElem_cons_succ, List.getElem_cons_zero, List.setIfInBounds_toArray, List.set_cons_zero, List.set_cons_succ]
  refine wpAnyH_take (i := 8) (v := ?val8x23) rfl (by kernel_rfl) (by kernel_rfl) (by kernel_rfl) (fun _ _ _ h => h) (Or.inl ⟨by rfl, fun w9 hS9 => ?yields8x23⟩) (by assumption) ?later8x23
  case yields8x23 =>
    dsimp only at hS9
    go_simp
    try with_reducible rfl
  try simp only [Act.put, List.getElem_toArray, List.getElem_cons_succ, List.getElem_cons_zero, List.setIfInBounds_toArray, List.set_cons_zero, List.set_cons_succ]
  refine wpAnyH_take (i := 9) (v := ?val9x24) rfl (by kernel_rfl) (by kernel_rfl) (by kernel_rfl) (fun _ _ _ h => h) (Or.inl ⟨by rfl, fun w9 hS9 => ?yields9x24⟩) (by assumption) ?later9x24
  case yields9x24 =>
    dsimp only at hS9
    go_simp
    try with_reducible rfl
  try simp only [Act.put, List.getElem_toArray, List.getElem_cons_succ, List.getElem_cons_zero, List.setIfInBounds_toArray, List.set_cons_zero, List.set_cons_succ]
  refine wpAnyH_take (i := 10) (v := ?val10x25) rfl (by kernel_rfl) (by kernel_rfl) (by kernel_rfl) (fun _ _ _ h => h) (Or.inl ⟨by rfl, fun w9 hS9 => ?yields10x25⟩) (by assumption) ?later10x25
  case yields10x25 =>
    dsimp only at hS9
    go_simp
    try with_reducible rfl
  try simp only [Act.put, List.getElem_toArray, List.getElem_cons_succ, List.getElem_cons_zero, List.setIfInBounds_toArray, List.set_cons_zero, List.set_cons_succ]
  refine wpAnyH_ready (rs := [3]) (by kernel_rfl) (by simp) ?_
  refine AllReadyH.cons rfl (fun K hK => ?_) AllReadyH.nil
  go_simp
  go_at_call 45
  go_split_ands
  refine (xEnd_any R l A c n _ (KA.out _ (Hid.out (by assumption))) HN1.out HN2.out).mono ?_
  rintro e' w5 ⟨rfl, hb1⟩
  go_wp2_with fail
  refine hK.out _ _ ?_ (fun hHeld => ?_)
  · (try dsimp only)
    (go_split_ands; exact MK.out _ (Below.trans (Hid.out (by assumption)) (hb1.mono (Hid.out (by assumption) : Below wb.heap.size wb _).size)))
  clear hK K
  try simp only [Act.put, List.getElem_toArray, List.getElem_cons_succ, List.getElem_cons_zero, List.setIfInBounds_toArray, List.set_cons_zero, List.set_cons_succ]
  refine wpAnyH_take (i := 4) (v := ?val4x26) rfl (by kernel_rfl) (by kernel_rfl) (by kernel_rfl) (fun _ _ _ h => h) (Or.inl ⟨by rfl, fun w9 hS9 => ?yields4x26⟩) (by assumption) ?later4x26
  case yields4x26 =>
    dsimp only at hS9
    go_simp
    try with_reducible rfl
  try simp only [Act.put, List.getElem_toArray, List.getElem_cons_succ, List.getElem_cons_zero, List.setIfInBounds_toArray, List.set_cons_zero, List.set_cons_succ]
  refine wpAnyH_ready (rs := [6]) (by kernel_rfl) (by simp) ?_
  refine AllReadyH.cons rfl (fun K hK => ?_) AllReadyH.nil
  go_simp
  go_at_call 45
  go_split_ands
  refine (xEnd_any R l A c n _ (KA.out _ (Hid.out (by assumption))) HN1.out HN2.out).mono ?_
  rintro e' w6 ⟨rfl, hb1⟩
  go_wp2_with fail
  refine hK.out _ _ ?_ (fun hHeld => ?_)
  · (try dsimp only)
    (go_split_ands; exact MK.out _ (Below.trans (Hid.out (by assumption)) (hb1.mono (Hid.out (by assumption) : Below wb.heap.size wb _).size)))
  clear hK K
  try simp only [Act.put, List.getElem_toArray, List.getElem_cons_succ, List.getElem_cons_zero, List.setIfInBounds_toArray, List.set_cons_zero, List.set_cons_succ]
  refine wpAnyH_ready (rs := [7]) (by kernel_rfl) (by simp) ?_
  refine AllReadyH.cons rfl (fun K hK => ?_) AllReadyH.nil
  go_simp
  go_at_call 70
  go_split_ands
  refine (xWorkTo_any l A c _ _ _ (KA.out _ (Hid.out (by assumption))) HM.out HY1.out HY2.out).mono ?_
  rintro e' w7 ⟨rfl, hb1⟩
  go_wp2_with fail
  refine hK.out _ _ ?_ (fun hHeld => ?_)
  · (try dsimp only)
    (go_split_ands; exact MK.out _ (Below.trans (Hid.out (by assumption)) (hb1.mono (Hid.out (by assumption) : Below wb.heap.size wb _).size)))
  clear hK K
  try simp only [Act.put, List.getElem_toArray, List.getElem_cons_succ, List.getElem_cons_zero, List.setIfInBounds_toArray, List.set_cons_zero, List.set_cons_succ]
  refine wpAnyH_take (i := 11) (v := ?val11x27) rfl (by kernel_rfl) (by kernel_rfl) (by kernel_rfl) (fun _ _ _ h => h) (Or.inl ⟨by rfl, fun w9 hS9 => ?yields11x27⟩) (by assumption) ?later11x27
  case yields11x27 =>
    dsimp only at hS9
    go_simp
    try with_reducible rfl
  try simp only [Act.put, List.getElem_toArray, List.getElem_cons_succ, List.getElem_cons_zero, List.setIfInBounds_toArray, List.set_cons_zero, List.set_cons_succ]
  refine wpAnyH_take (i := 12) (v := ?val12x28) rfl (by kernel_rfl) (by kernel_rfl) (by kernel_rfl) (fun _ _ _ h => h) (Or.inl ⟨by rfl, fun w9 hS9 => ?yields12x28⟩) (by assumption) ?later12x28
  case yields12x28 =>
    dsimp only at hS9
    go_simp
    try with_reducible rfl
  try simp only [Act.put, List.getElem_toArray, List.getElem_cons_succ, List.getElem_cons_zero, List.setIfInBounds_toArray, List.set_cons_zero, List.set_cons_succ]
  refine wpAnyH_done (by kernel_rfl) ?_ _
  obtain ⟨-, -, -, -, -, -, HB⟩ := hHeld
  clear HBd MK
  go_wp2_with fail
  go_ret
  exact ⟨ret_bool (by simp), HW.out.trans (HB.out.mono HW.out.size)⟩
theorem Six.put5 {w : World} {g : Nat} {v0 v1 v2 v3 v4 v5 : Value} (m : Six w g v0 v1 v2 v3 v4 v5) (u : Value) : Six (w.setCell ⟨g, 5, none⟩ u) g v0 v1 v2 v3 v4 u :=
  ⟨(World.cell?_setCell_other _ _ _ _ (by simp)).trans m.c0, (World.cell?_setCell_other _ _ _ _ (by simp)).trans m.c1, (World.cell?_setCell_other _ _ _ _ (by simp)).trans m.c2, (World.cell?_setCell_other _ _ _ _ (by simp)).trans m.c3, (World.cell?_setCell_other _ _ _ _ (by simp)).trans m.c4, World.cell?_setCell_same _ _ _ m.c5, (World.frozen?_setCell _ _ _ _).trans m.f0, (World.frozen?_setCell _ _ _ _).trans m.f1, (World.frozen?_setCell _ _ _ _).trans m.f2, (World.frozen?_setCell _ _ _ _).trans m.f3, (World.frozen?_setCell _ _ _ _).trans m.f4, (World.frozen?_setCell _ _ _ _).trans m.f5⟩
theorem Six.other {w : World} {g : Nat} {v0 v1 v2 v3 v4 v5 : Value} (m : Six w g v0 v1 v2 v3 v4 v5) {p : Addr} (hp : p.block ≠ g) (u : Value) : Six (w.setCell p u) g v0 v1 v2 v3 v4 v5 :=
  ⟨(World.cell?_setCell_other _ _ _ _ (fun e => hp (by rw [e]))).trans m.c0, (World.cell?_setCell_other _ _ _ _ (fun e => hp (by rw [e]))).trans m.c1, (World.cell?_setCell_other _ _ _ _ (fun e => hp (by rw [e]))).trans m.c2, (World.cell?_setCell_other _ _ _ _ (fun e => hp (by rw [e]))).trans m.c3, (World.cell?_setCell_other _ _ _ _ (fun e => hp (by rw [e]))).trans m.c4, (World.cell?_setCell_other _ _ _ _ (fun e => hp (by rw [e]))).trans m.c5, (World.frozen?_setCell _ _ _ _).trans m.f0, (World.frozen?_setCell _ _ _ _).trans m.f1, (World.frozen?_setCell _ _ _ _).trans m.f2, (World.frozen?_setCell _ _ _ _).trans m.f3, (World.frozen?_setCell _ _ _ _).trans m.f4, (World.frozen?_setCell _ _ _ _).trans m.f5⟩
set_option linter.unusedSimpArgs false in
set_option maxHeartbeats 1600000 in
set_option maxRecDepth 100000 in
theorem xUpTo_any (R : DRules) (A : Option Addr) (N c k : Nat) (w : World) (hk : k < N) (hN : N ≤ c) (hc : N ≤ 1000000) (hA : 0 < N → ∃ b o, A = some ⟨b, o, none⟩) (hc2 : c ≤ 9223372036854775807) :
    Calls Try.prog 67 #[bookV R A N c, .int .i64 k] w fun e w' => e = .returned (bookV R A (k + 1) c) ∧ Below w.heap.size w w' := by
  obtain ⟨b, o, rfl⟩ := hA (by omega)
  have BB := Lib.hid ((BookIn.new w R (some ⟨b, o, none⟩) N c 74).keep (Keep.alloc _ (.cells #[.int .i64 0, .int .i64 0, .int .i64 0, .int .i64 0, .int .i64 0, .slice none 0 0] 74)))
  have B2 := Lib.hid (Six.new w (.int .i64 R.brk) (.int .i64 R.rest) (.int .i64 R.stint) (.int .i64 R.shift) (.int .i64 R.week) (.slice (some ⟨b, o, none⟩) N c) 74)
  have B3 := Lib.hid (B2.out.keep ((Below.refl _ _).alloc (Nat.le_refl _) (.cells #[.int .i64 0, .int .i64 0, .int .i64 0, .int .i64 0, .int .i64 0, .slice none 0 0] 74)))
  have BT := Lib.hid (Six.new (w.alloc (.cells #[.int .i64 R.brk, .int .i64 R.rest, .int .i64 R.stint, .int .i64 R.shift, .int .i64 R.week, .slice (some ⟨b, o, none⟩) N c] 74)) (.int .i64 0) (.int .i64 0) (.int .i64 0) (.int .i64 0) (.int .i64 0) (.slice none 0 0) 74)
  have hsz : (w.alloc (.cells #[.int .i64 R.brk, .int .i64 R.rest, .int .i64 R.stint, .int .i64 R.shift, .int .i64 R.week, .slice (some ⟨b, o, none⟩) N c] 74)).heap.size = w.heap.size + 1 := by simp
  rw [hsz] at BT
  clear BB B2 hsz
  go_enter Try.func67, Try.ntmps67
  go_upto_region 1 with fail
  generalize hwb : (w.alloc _).alloc _ = wb at *
  have HW : Hid (Below w.heap.size w wb) := by rw [← hwb]; exact Lib.hid (((Below.refl _ _).alloc (Nat.le_refl _) _).alloc (by simp) _)
  clear hwb
  obtain ⟨k0, k1, k2, k3, k4, k5, g0, g1, g2, g3, g4, g5⟩ := B3.out
  obtain ⟨t0, t1, t2, t3, t4, t5, f0, f1, f2, f3, f4, f5⟩ := BT.out
  have hkN : (k : Int) + 1 ≤ (N : Int) := by omega
  have hkc : (k : Int) + 1 ≤ (c : Int) := by omega
  have hkw : IntKind.i64.wrap ((k : Int) + 1) = ((k + 1 : Nat) : Int) := by rw [IntKind.wrap_i64]; omega
  have hkz : (k : Int) + 1 = ((k + 1 : Nat) : Int) := by omega
  obtain ⟨K, hK⟩ : ∃ K, K = k + 1 := ⟨_, rfl⟩
  rw [← hK] at hkz hkw
  have hKc : K ≤ c := by omega
  have HK := Lib.hid hK
  clear hK hk hkN hkc
  go_upto_region 2 with fail
  have S3 := Lib.hid (B3.out.put5 (.slice (some ⟨b, o, none⟩) K c))
  have ST := Lib.hid (BT.out.other (p := ⟨w.heap.size, 5, none⟩) (by simp) (.slice (some ⟨b, o, none⟩) K c))
  have HW2 := Lib.hid (HW.out.setCell (p := ⟨w.heap.size, 5, none⟩) (Nat.le_refl _) (.slice (some ⟨b, o, none⟩) K c))
  clear k0 k1 k2 k3 k4 k5 g0 g1 g2 g3 g4 g5 t0 t1 t2 t3 t4 t5 f0 f1 f2 f3 f4 f5 B3 BT HW
  generalize hwc : wb.setCell _ _ = wc at *
  clear hwc
  obtain ⟨k0, k1, k2, k3, k4, k5, -, -, -, -, -, -⟩ := S3.out
  obtain ⟨t0, t1, t2, t3, t4, t5, f0, f1, f2, f3, f4, f5⟩ := ST.out
  go_wp2_with fail
  obtain ⟨s0, s1, s2, s3, s4, s5, -, -, -, -, -, -⟩ := ST.out.set (.int .i64 R.brk) (.int .i64 R.rest) (.int .i64 R.stint) (.int .i64 R.shift) (.int .i64 R.week) (.slice (some ⟨b, o, none⟩) K c)
  refine bodyPost_ret (v := bookV R (some ⟨b, o, none⟩) K c) (by simp [results, Try.results67, go_sem, s0, s1, s2, s3, s4, s5]) rfl ⟨by rw [HK.out], ?_⟩
  exact below_six HW2.out (by omega) _ _ _ _ _ _
theorem ArrW.upTo {w : World} {A : Option Addr} {l : List WRec} {c n : Nat} (h : ArrW w A l c) (hn : n ≤ l.length) : ArrW w A (l.take n) c := by
  have h1 := h.le
  refine ⟨by rw [xtake_len hn]; omega, h1.2, fun hp => ?_⟩
  rw [xtake_len hn] at hp
  obtain ⟨b, o, e, hc⟩ := h.2.2 (by omega)
  refine ⟨b, o, e, fun i j hi hj => ?_⟩
  rw [xtake_len hn] at hi
  have := hc i j (by omega) hj
  show _ = some (recCells (listW (l.take n) i) j)
  rw [xtake_at hi]
  exact this
theorem xLastGroupL_any (R : DRules) (l P : List WRec) (A : Option Addr) (c n : Nat) (gap : Int) (w : World) (h : ArrW w A l c) (hF : Fit l) (hn : l.length = n + 1) (hP : l.drop (firstIn l gap n) = P) :
    Calls Try.prog 69 #[bookV R A l.length c, .int .i64 gap] w fun e w' => (∃ A' c', e = .returned (.slice A' P.length c') ∧ ArrW w' A' P c') ∧ Below w.heap.size w w' := by
  subst hP
  exact xLastGroup_any R l A c n gap w h hF hn
set_option linter.unusedSimpArgs false in
set_option maxHeartbeats 12800000 in
set_option maxRecDepth 100000 in
theorem xBrokenLast_any (R : DRules) (l : List WRec) (A : Option Addr) (c n : Nat) (w : World) (h : ArrW w A l c) (hF : Fit l) (hn : l.length = n + 1) :
    Calls Try.prog 48 #[bookV R A l.length c] w fun e w' => e = .returned (.int .i64 (brokenAt R l n)) ∧ Below w.heap.size w w' := by
  have b1 := h.le.1
  have b2 := h.le.2
  have HA := Lib.hid h
  have HF := Lib.hid hF
  have HN := Lib.hid hn
  have HN1 := Lib.hid (show n < l.length by omega)
  have HN2 := Lib.hid (show l.length ≤ n + 1 by omega)
  have x0 := hF.len
  have x1 := hF.one n (by omega)
  have hf1 := firstIn_le l R.brk n
  have hf2 := firstIn_le l R.rest n
  have y1 := hF.one (firstIn l R.brk n) (by omega)
  have y2 := hF.one (firstIn l R.rest n) (by omega)
  obtain ⟨P, hP⟩ : ∃ P, P = l.drop (firstIn l R.brk n) := ⟨_, rfl⟩
  obtain ⟨Q, hQ⟩ : ∃ Q, Q = l.drop (firstIn l R.rest n) := ⟨_, rfl⟩
  have HP := Lib.hid hP.symm
  have HQ := Lib.hid hQ.symm
  have eP : listW P 0 = listW l (firstIn l R.brk n) := by rw [hP, listW_drop]; rfl
  have eQ : listW Q 0 = listW l (firstIn l R.rest n) := by rw [hQ, listW_drop]; rfl
  have lP : 0 < P.length := by rw [hP, List.length_drop]; omega
  have lQ : 0 < Q.length := by rw [hQ, List.length_drop]; omega
  have HMP := Lib.hid (show Mild P by rw [hP]; exact hF.mild.drop _)
  have HS := Lib.hid (show workTo P (listW P 0).beg (listW l n).fin P.length = stintOf l R.brk n by rw [eP, hP]; exact stint_tail hF hn.symm)
  rw [← eP] at y1
  have HEQ := Lib.hid eQ
  rw [← eQ] at y2
  have HY1 := Lib.hid (show -1000000 ≤ (listW P 0).beg ∧ (listW P 0).beg ≤ 9000000000 by omega)
  have HY2 := Lib.hid (show -1000000 ≤ (listW l n).fin ∧ (listW l n).fin ≤ 9000000000 by omega)
  have hwq : IntKind.i64.wrap ((listW l n).fin - (listW Q 0).beg) = (listW l n).fin - (listW Q 0).beg := by rw [IntKind.wrap_i64]; omega
  clear h hF hn hP hQ eP eQ hf1 hf2 y1 y2 x1
  have BB := Lib.hid (BookIn.new w R A l.length c 74)
  go_enter Try.func48, Try.ntmps48
  go_upto_region 1 with fail
  generalize hwb : w.alloc _ = wb at *
  have HW : Hid (Below w.heap.size w wb) := by rw [← hwb]; exact Lib.hid ((Below.refl _ _).alloc (Nat.le_refl _) _)
  clear hwb
  obtain ⟨k0, k1, k2, k3, k4, k5⟩ := BB.out
  go_wp2_with fail
  have HBd : Hid (Below wb.heap.size wb wb.drew) := Lib.hid (Below.refl _ _).drew
  have MK : Hid (∀ w', Below wb.heap.size wb w' → w'.cell? ⟨w.heap.size, 0, none⟩ = some (.int .i64 R.brk) ∧ w'.cell? ⟨w.heap.size, 1, none⟩ = some (.int .i64 R.rest) ∧ w'.cell? ⟨w.heap.size, 2, none⟩ = some (.int .i64 R.stint) ∧ w'.cell? ⟨w.heap.size, 3, none⟩ = some (.int .i64 R.shift) ∧ w'.cell? ⟨w.heap.size, 4, none⟩ = some (.int .i64 R.week) ∧ w'.cell? ⟨w.heap.size, 5, none⟩ = some (.slice A l.length c) ∧ Hid (Below wb.heap.size wb w')) :=
    Lib.hid fun w' hw => ⟨Keep.below hw _ _ k0, Keep.below hw _ _ k1, Keep.below hw _ _ k2, Keep.below hw _ _ k3, Keep.below hw _ _ k4, Keep.below hw _ _ k5, Lib.hid hw⟩
  have KA : Hid (∀ w', Below wb.heap.size wb w' → ArrW w' A l c) := Lib.hid fun w' hw => (HA.out.keep (Keep.below (HW.out.trans (hw.mono HW.out.size))))
  refine wp_region_held_drew (S := fun w' => w'.cell? ⟨w.heap.size, 0, none⟩ = some (.int .i64 R.brk) ∧ w'.cell? ⟨w.heap.size, 1, none⟩ = some (.int .i64 R.rest) ∧ w'.cell? ⟨w.heap.size, 2, none⟩ = some (.int .i64 R.stint) ∧ w'.cell? ⟨w.heap.size, 3, none⟩ = some (.int .i64 R.shift) ∧ w'.cell? ⟨w.heap.size, 4, none⟩ = some (.int .i64 R.week) ∧ w'.cell? ⟨w.heap.size, 5, none⟩ = some (.slice A l.length c) ∧ Hid (Below wb.heap.size wb w')) (by kernel_rfl) (MK.out _ HBd.out) (fun hHeld => ?_)
  refine wpAnyH_take (i := 0) (v := ?val0x29) rfl (by kernel_rfl) (by kernel_rfl) (by kernel_rfl) (fun _ _ _ h => h) (Or.inl ⟨by rfl, fun w9 hS9 => ?yields0x29⟩) (by assumption) ?later0x29
  case yields0x29 =>
    dsimp only at hS9
    go_simp
    try with_reducible rfl
  try simp only [Act.put, List.getElem_toArray, List.getElem_cons_succ, List.getElem_cons_zero, List.setIfInBounds_toArray, List.set_cons_zero, List.set_cons_succ]
  refine wpAnyH_take (i := 1) (v := ?val1x30) rfl (by kernel_rfl) (by kernel_rfl) (by kernel_rfl) (fun _ _ _ h => h) (Or.inl ⟨by rfl, fun w9 hS9 => ?yields1x30⟩) (by assumption) ?later1x30
  case yields1x30 =>
    dsimp only at hS9
    go_simp
    try with_reducible rfl
  try simp only [Act.put, List.getElem_toArray, List.getElem_cons_succ, List.getElem_cons_zero, List.setIfInBounds_toArray, List.set_cons_zero, List.set_cons_succ]
  refine wpAnyH_take (i := 2) (v := ?val2x31) rfl (by kernel_rfl) (by kernel_rfl) (by kernel_rfl) (fun _ _ _ h => h) (Or.inl ⟨by rfl, fun w9 hS9 => ?yields2x31⟩) (by assumption) ?later2x31
  case yields2x31 =>
    dsimp only at hS9
    go_simp
    try with_reducible rfl
  try simp only [Act.put, List.getElem_toArray, List.getElem_cons_succ, List.getElem_cons_zero, List.setIfInBounds_toArray, List.set_cons_zero, List.set_cons_succ]
  refine wpAnyH_take (i := 3) (v := ?val3x32) rfl (by kernel_rfl) (by kernel_rfl) (by kernel_rfl) (fun _ _ _ h => h) (Or.inl ⟨by rfl, fun w9 hS9 => ?yields3x32⟩) (by assumption) ?later3x32
  case yields3x32 =>
    dsimp only at hS9
    go_simp
    try with_reducible rfl
  try simp only [Act.put, List.getElem_toArray, List.getElem_cons_succ, List.getElem_cons_zero, List.setIfInBounds_toArray, List.set_cons_zero, List.set_cons_succ]
  refine wpAnyH_take (i := 5) (v := ?val5x33) rfl (by kernel_rfl) (by kernel_rfl) (by kernel_rfl) (fun _ _ _ h => h) (Or.inl ⟨by rfl, fun w9 hS9 => ?yields5x33⟩) (by assumption) ?later5x33
  case yields5x33 =>
    dsimp only at hS9
    go_simp
    try with_reducible rfl
  try simp only [Act.put, List.getElem_toArray, List.getElem_cons_succ, List.getElem_cons_zero, List.setIfInBounds_toArray, List.set_cons_zero, List.set_cons_succ]
  refine wpAnyH_take (i := 6) (v := ?val6x34) rfl (by kernel_rfl) (by kernel_rfl) (by kernel_rfl) (fun _ _ _ h => h) (Or.inl ⟨by rfl, fun w9 hS9 => ?yields6x34⟩) (by assumption) ?later6x34
  case yields6x34 =>
    dsimp only at hS9
    go_simp
    try with_reducible rfl
  try simp only [Act.put, List.getElem_toArray, List.getElem_cons_succ, List.getElem_cons_zero, List.setIfInBounds_toArray, List.set_cons_zero, List.set_cons_succ]
  refine wpAnyH_take (i := 7) (v := ?val7x35) rfl (by kernel_rfl) (by kernel_rfl) (by kernel_rfl) (fun _ _ _ h => h) (Or.inl ⟨by rfl, fun w9 hS9 => ?yields7x35⟩) (by assumption) ?later7x35
  case yields7x35 =>
    dsimp only at hS9
    go_simp
    try with_reducible rfl
  try simp only [Act.put, List.getElem_toArray, List.getElem_cons_succ, List.getElem_cons_zero, List.setIfInBounds_toArray, List.set_cons_zero, List.set_cons_succ]
  refine wpAnyH_take (i := 8) (v := ?val8x36) rfl (by kernel_rfl) (by kernel_rfl) (by kernel_rfl) (fun _ _ _ h => h) (Or.inl ⟨by rfl, fun w9 hS9 => ?yields8x36⟩) (by assumption) ?later8x36
  case yields8x36 =>
    dsimp only at hS9
    go_simp
    try with_reducible rfl
  try simp only [Act.put, List.getElem_toArray, List.getElem_cons_succ, List.getElem_cons_zero, List.setIfInBounds_toArray, List.set_cons_zero, List.set_cons_succ]
  refine wpAnyH_ready (rs := [4]) (by kernel_rfl) (by simp) ?_
  refine AllReadyH.cons rfl (fun K hK => ?_) AllReadyH.nil
  go_simp
  go_at_call 69
  go_split_ands
  refine (xLastGroupL_any R l P A c n R.brk _ (KA.out _ (Hid.out (by assumption))) HF.out HN.out HP.out).mono ?_
  rintro e' w5 ⟨⟨A5, c5, rfl, h5⟩, hb1⟩
  have H5 := Lib.hid h5
  clear h5
  go_wp2_with fail
  refine hK.out _ _ ?_ (fun hHeld => ?_)
  · (try dsimp only)
    (go_split_ands; exact MK.out _ (Below.trans (Hid.out (by assumption)) (hb1.mono (Hid.out (by assumption) : Below wb.heap.size wb _).size)))
  clear hK K
  try simp only [Act.put, List.getElem_toArray, List.getElem_cons_succ, List.getElem_cons_zero, List.setIfInBounds_toArray, List.set_cons_zero, List.set_cons_succ]
  refine wpAnyH_ready (rs := [9]) (by kernel_rfl) (by simp) ?_
  refine AllReadyH.cons rfl (fun K hK => ?_) AllReadyH.nil
  go_simp
  go_at_call 69
  go_split_ands
  refine (xLastGroupL_any R l Q A c n R.rest _ (KA.out _ (Hid.out (by assumption))) HF.out HN.out HQ.out).mono ?_
  rintro e' w6 ⟨⟨A6, c6, rfl, h5⟩, hb1⟩
  have H6 := Lib.hid h5
  clear h5
  replace H5 := Lib.hid (H5.out.keep (Keep.below hb1))
  go_wp2_with fail
  refine hK.out _ _ ?_ (fun hHeld => ?_)
  · (try dsimp only)
    (go_split_ands; exact MK.out _ (Below.trans (Hid.out (by assumption)) (hb1.mono (Hid.out (by assumption) : Below wb.heap.size wb _).size)))
  clear hK K
  try simp only [Act.put, List.getElem_toArray, List.getElem_cons_succ, List.getElem_cons_zero, List.setIfInBounds_toArray, List.set_cons_zero, List.set_cons_succ]
  refine wpAnyH_take (i := 10) (v := ?val10x37) rfl (by kernel_rfl) (by kernel_rfl) (by kernel_rfl) (fun _ _ _ h => h) (Or.inl ⟨by rfl, fun w9 hS9 => ?yields10x37⟩) (by assumption) ?later10x37
  case yields10x37 =>
    dsimp only at hS9
    go_simp
    try with_reducible rfl
  try simp only [Act.put, List.getElem_toArray, List.getElem_cons_succ, List.getElem_cons_zero, List.setIfInBounds_toArray, List.set_cons_zero, List.set_cons_succ]
  refine wpAnyH_take (i := 11) (v := ?val11x38) rfl (by kernel_rfl) (by kernel_rfl) (by kernel_rfl) (fun _ _ _ h => h) (Or.inl ⟨by rfl, fun w9 hS9 => ?yields11x38⟩) (by assumption) ?later11x38
  case yields11x38 =>
    dsimp only at hS9
    go_simp
    try with_reducible rfl
  try simp only [Act.put, List.getElem_toArray, List.getElem_cons_succ, List.getElem_cons_zero, List.setIfInBounds_toArray, List.set_cons_zero, List.set_cons_succ]
  refine wpAnyH_done (by kernel_rfl) ?_ _
  obtain ⟨-, -, -, -, -, -, HB⟩ := hHeld
  clear HBd MK
  clear k0 k1 k2 k3 k4 k5 KA
  replace BB := Lib.hid (BB.out.keep (Keep.below HB.out))
  replace HW := Lib.hid (HW.out.trans (HB.out.mono HW.out.size))
  clear HB
  obtain ⟨b5, o5, rfl, -, p1, -⟩ := H5.out.at_ lP
  obtain ⟨b6, o6, rfl, -, -, -⟩ := H6.out.at_ lQ
  rw [Nat.zero_mul, Nat.add_zero] at p1
  have lP' : (0 : Int) < (P.length : Int) := by omega
  have lQ' : (0 : Int) < (Q.length : Int) := by omega
  have z5 := H5.out.le
  have z6 := H6.out.le
  obtain ⟨k0, k1, k2, k3, k4, k5⟩ := BB.out
  obtain ⟨wx, hwx⟩ : ∃ wz, wz = w6 := ⟨_, rfl⟩
  subst hwx
  go_wp2_with fail
  have HBd : Hid (Below wx.heap.size wx wx.drew) := Lib.hid (Below.refl _ _).drew
  have MK : Hid (∀ w', Below wx.heap.size wx w' → w'.cell? ⟨w.heap.size, 0, none⟩ = some (.int .i64 R.brk) ∧ w'.cell? ⟨w.heap.size, 1, none⟩ = some (.int .i64 R.rest) ∧ w'.cell? ⟨w.heap.size, 2, none⟩ = some (.int .i64 R.stint) ∧ w'.cell? ⟨w.heap.size, 3, none⟩ = some (.int .i64 R.shift) ∧ w'.cell? ⟨w.heap.size, 4, none⟩ = some (.int .i64 R.week) ∧ w'.cell? ⟨w.heap.size, 5, none⟩ = some (.slice A l.length c) ∧ w'.cell? ⟨b5, o5 + 1, none⟩ = some (.int .i64 (listW P 0).beg) ∧ Hid (Below wx.heap.size wx w')) :=
    Lib.hid fun w' hw => ⟨Keep.below hw _ _ k0, Keep.below hw _ _ k1, Keep.below hw _ _ k2, Keep.below hw _ _ k3, Keep.below hw _ _ k4, Keep.below hw _ _ k5, Keep.below hw _ _ p1, Lib.hid hw⟩
  have KA : Hid (∀ w', Below wx.heap.size wx w' → ArrW w' A l c) := Lib.hid fun w' hw => (HA.out.keep (Keep.below (HW.out.trans (hw.mono HW.out.size))))
  have KP : Hid (∀ w', Below wx.heap.size wx w' → ArrW w' (some ⟨b5, o5, none⟩) P c5) := Lib.hid fun w' hw => (H5.out.keep (Keep.below hw))
  refine wp_region_held_drew (S := fun w' => w'.cell? ⟨w.heap.size, 0, none⟩ = some (.int .i64 R.brk) ∧ w'.cell? ⟨w.heap.size, 1, none⟩ = some (.int .i64 R.rest) ∧ w'.cell? ⟨w.heap.size, 2, none⟩ = some (.int .i64 R.stint) ∧ w'.cell? ⟨w.heap.size, 3, none⟩ = some (.int .i64 R.shift) ∧ w'.cell? ⟨w.heap.size, 4, none⟩ = some (.int .i64 R.week) ∧ w'.cell? ⟨w.heap.size, 5, none⟩ = some (.slice A l.length c) ∧ w'.cell? ⟨b5, o5 + 1, none⟩ = some (.int .i64 (listW P 0).beg) ∧ Hid (Below wx.heap.size wx w')) (by kernel_rfl) (MK.out _ HBd.out) (fun hHeld => ?_)
  refine wpAnyH_take (i := 0) (v := ?val0x39) rfl (by kernel_rfl) (by kernel_rfl) (by kernel_rfl) (fun _ _ _ h => h) (Or.inl ⟨by rfl, fun w9 hS9 => ?yields0x39⟩) (by assumption) ?later0x39
  case yields0x39 =>
    dsimp only at hS9
    go_simp
    try with_reducible rfl
  try simp only [Act.put, List.getElem_toArray, List.getElem_cons_succ, List.getElem_cons_zero, List.setIfInBounds_toArray, List.set_cons_zero, List.set_cons_succ]
  refine wpAnyH_take (i := 1) (v := ?val1x40) rfl (by kernel_rfl) (by kernel_rfl) (by kernel_rfl) (fun _ _ _ h => h) (Or.inl ⟨by rfl, fun w9 hS9 => ?yields1x40⟩) (by assumption) ?later1x40
  case yields1x40 =>
    dsimp only at hS9
    go_simp
    try with_reducible rfl
  try simp only [Act.put, List.getElem_toArray, List.getElem_cons_succ, List.getElem_cons_zero, List.setIfInBounds_toArray, List.set_cons_zero, List.set_cons_succ]
  refine wpAnyH_take (i := 2) (v := ?val2x41) rfl (by kernel_rfl) (by kernel_rfl) (by kernel_rfl) (fun _ _ _ h => h) (Or.inl ⟨by rfl, fun w9 hS9 => ?yields2x41⟩) (by assumption) ?later2x41
  case yields2x41 =>
    dsimp only at hS9
    go_simp
    try with_reducible rfl
  try simp only [Act.put, List.getElem_toArray, List.getElem_cons_succ, List.getElem_cons_zero, List.setIfInBounds_toArray, List.set_cons_zero, List.set_cons_succ]
  refine wpAnyH_take (i := 3) (v := ?val3x42) rfl (by kernel_rfl) (by kernel_rfl) (by kernel_rfl) (fun _ _ _ h => h) (Or.inl ⟨by rfl, fun w9 hS9 => ?yields3x42⟩) (by assumption) ?later3x42
  case yields3x42 =>
    dsimp only at hS9
    go_simp
    try with_reducible rfl
  try simp only [Act.put, List.getElem_toArray, List.getElem_cons_succ, List.getElem_cons_zero, List.setIfInBounds_toArray, List.set_cons_zero, List.set_cons_succ]
  refine wpAnyH_take (i := 4) (v := ?val4x43) rfl (by kernel_rfl) (by kernel_rfl) (by kernel_rfl) (fun _ _ _ h => h) (Or.inl ⟨by rfl, fun w9 hS9 => ?yields4x43⟩) (by assumption) ?later4x43
  case yields4x43 =>
    dsimp only at hS9
    go_simp
    try with_reducible rfl
  try simp only [Act.put, List.getElem_toArray, List.getElem_cons_succ, List.getElem_cons_zero, List.setIfInBounds_toArray, List.set_cons_zero, List.set_cons_succ]
  refine wpAnyH_take (i := 5) (v := ?val5x44) rfl (by kernel_rfl) (by kernel_rfl) (by kernel_rfl) (fun _ _ _ h => h) (Or.inl ⟨by rfl, fun w9 hS9 => ?yields5x44⟩) (by assumption) ?later5x44
  case yields5x44 =>
    dsimp only at hS9
    go_simp
    try with_reducible rfl
  try simp only [Act.put, List.getElem_toArray, List.getElem_cons_succ, List.getElem_cons_zero, List.setIfInBounds_toArray, List.set_cons_zero, List.set_cons_succ]
  refine wpAnyH_take (i := 8) (v := ?val8x45) rfl (by kernel_rfl) (by kernel_rfl) (by kernel_rfl) (fun _ _ _ h => h) (Or.inl ⟨by rfl, fun w9 hS9 => ?yields8x45⟩) (by assumption) ?later8x45
  case yields8x45 =>
    dsimp only at hS9
    go_simp
    try with_reducible rfl
  try simp only [Act.put, List.getElem_toArray, List.getElem_cons_succ, List.getElem_cons_zero, List.setIfInBounds_toArray, List.set_cons_zero, List.set_cons_succ]
  refine wpAnyH_take (i := 9) (v := ?val9x46) rfl (by kernel_rfl) (by kernel_rfl) (by kernel_rfl) (fun _ _ _ h => h) (Or.inl ⟨by rfl, fun w9 hS9 => ?yields9x46⟩) (by assumption) ?later9x46
  case yields9x46 =>
    dsimp only at hS9
    go_simp
    try with_reducible rfl
  try simp only [Act.put, List.getElem_toArray, List.getElem_cons_succ, List.getElem_cons_zero, List.setIfInBounds_toArray, List.set_cons_zero, List.set_cons_succ]
  refine wpAnyH_take (i := 10) (v := ?val10x47) rfl (by kernel_rfl) (by kernel_rfl) (by kernel_rfl) (fun _ _ _ h => h) (Or.inl ⟨by rfl, fun w9 hS9 => ?yields10x47⟩) (by assumption) ?later10x47
  case yields10x47 =>
    dsimp only at hS9
    go_simp
    try with_reducible rfl
  try simp only [Act.put, List.getElem_toArray, List.getElem_cons_succ, List.getElem_cons_zero, List.setIfInBounds_toArray, List.set_cons_zero, List.set_cons_succ]
  refine wpAnyH_ready (rs := [6]) (by kernel_rfl) (by simp) ?_
  refine AllReadyH.cons rfl (fun K hK => ?_) AllReadyH.nil
  go_simp
  go_at_call 45
  go_split_ands
  refine (xEnd_any R l A c n _ (KA.out _ (Hid.out (by assumption))) HN1.out HN2.out).mono ?_
  rintro e' w5 ⟨rfl, hb1⟩
  go_wp2_with fail
  refine hK.out _ _ ?_ (fun hHeld => ?_)
  · (try dsimp only)
    (go_split_ands; exact MK.out _ (Below.trans (Hid.out (by assumption)) (hb1.mono (Hid.out (by assumption) : Below wx.heap.size wx _).size)))
  clear hK K
  try simp only [Act.put, List.getElem_toArray, List.getElem_cons_succ, List.getElem_cons_zero, List.setIfInBounds_toArray, List.set_cons_zero, List.set_cons_succ]
  refine wpAnyH_ready (rs := [7]) (by kernel_rfl) (by simp) ?_
  refine AllReadyH.cons rfl (fun K hK => ?_) AllReadyH.nil
  go_simp
  go_at_call 70
  go_split_ands
  refine (xWorkTo_any P (some ⟨b5, o5, none⟩) c5 _ _ _ (KP.out _ (Hid.out (by assumption))) HMP.out HY1.out HY2.out).mono ?_
  rintro e' w6 ⟨rfl, hb1⟩
  rw [HS.out]
  go_wp2_with fail
  refine hK.out _ _ ?_ (fun hHeld => ?_)
  · (try dsimp only)
    (go_split_ands; exact MK.out _ (Below.trans (Hid.out (by assumption)) (hb1.mono (Hid.out (by assumption) : Below wx.heap.size wx _).size)))
  clear hK K
  try simp only [Act.put, List.getElem_toArray, List.getElem_cons_succ, List.getElem_cons_zero, List.setIfInBounds_toArray, List.set_cons_zero, List.set_cons_succ]
  refine wpAnyH_take (i := 11) (v := ?val11x48) rfl (by kernel_rfl) (by kernel_rfl) (by kernel_rfl) (fun _ _ _ h => h) (Or.inl ⟨by rfl, fun w9 hS9 => ?yields11x48⟩) (by assumption) ?later11x48
  case yields11x48 =>
    dsimp only at hS9
    go_simp
    try with_reducible rfl
  try simp only [Act.put, List.getElem_toArray, List.getElem_cons_succ, List.getElem_cons_zero, List.setIfInBounds_toArray, List.set_cons_zero, List.set_cons_succ]
  refine wpAnyH_take (i := 12) (v := ?val12x49) rfl (by kernel_rfl) (by kernel_rfl) (by kernel_rfl) (fun _ _ _ h => h) (Or.inl ⟨by rfl, fun w9 hS9 => ?yields12x49⟩) (by assumption) ?later12x49
  case yields12x49 =>
    dsimp only at hS9
    go_simp
    try with_reducible rfl
  try simp only [Act.put, List.getElem_toArray, List.getElem_cons_succ, List.getElem_cons_zero, List.setIfInBounds_toArray, List.set_cons_zero, List.set_cons_succ]
  refine wpAnyH_done (by kernel_rfl) ?_ _
  obtain ⟨-, -, -, -, -, -, -, HB⟩ := hHeld
  clear HBd MK
  clear k0 k1 k2 k3 k4 k5 KA KP p1
  replace BB := Lib.hid (BB.out.keep (Keep.below HB.out))
  replace H6 := Lib.hid (H6.out.keep (Keep.below HB.out))
  replace HW := Lib.hid (HW.out.trans (HB.out.mono HW.out.size))
  clear HB
  obtain ⟨b', o', e', -, p1, -⟩ := H6.out.at_ lQ
  obtain ⟨rfl, rfl⟩ : b6 = b' ∧ o6 = o' := by simpa using e'
  clear e' H5
  rw [Nat.zero_mul, Nat.add_zero] at p1
  obtain ⟨k0, k1, k2, k3, k4, k5⟩ := BB.out
  obtain ⟨wy, hwy⟩ : ∃ wz, wz = w6 := ⟨_, rfl⟩
  subst hwy
  by_cases h1 : R.stint < stintOf l R.brk n
  · have F := Lib.hid (show brokenAt R l n = 1 from if_pos h1)
    have d1 := decide_eq_true h1
    go_wp2_with fail
    go_ret
    exact ⟨ret_int F.out.symm, HW.out⟩
  · have F1 := Lib.hid (show brokenAt R l n = if R.shift < (listW l n).fin - (listW l (firstIn l R.rest n)).beg then 2 else if R.week < workTo l ((listW l n).fin - 604800) (listW l n).fin (n + 1) then 3 else 0 from if_neg h1)
    have d1 := decide_eq_false h1
    go_wp2_with fail
    have HBd : Hid (Below wy.heap.size wy wy.drew) := Lib.hid (Below.refl _ _).drew
    have MK : Hid (∀ w', Below wy.heap.size wy w' → w'.cell? ⟨w.heap.size, 0, none⟩ = some (.int .i64 R.brk) ∧ w'.cell? ⟨w.heap.size, 1, none⟩ = some (.int .i64 R.rest) ∧ w'.cell? ⟨w.heap.size, 2, none⟩ = some (.int .i64 R.stint) ∧ w'.cell? ⟨w.heap.size, 3, none⟩ = some (.int .i64 R.shift) ∧ w'.cell? ⟨w.heap.size, 4, none⟩ = some (.int .i64 R.week) ∧ w'.cell? ⟨w.heap.size, 5, none⟩ = some (.slice A l.length c) ∧ w'.cell? ⟨b6, o6 + 1, none⟩ = some (.int .i64 (listW Q 0).beg) ∧ Hid (Below wy.heap.size wy w')) :=
      Lib.hid fun w' hw => ⟨Keep.below hw _ _ k0, Keep.below hw _ _ k1, Keep.below hw _ _ k2, Keep.below hw _ _ k3, Keep.below hw _ _ k4, Keep.below hw _ _ k5, Keep.below hw _ _ p1, Lib.hid hw⟩
    have KA : Hid (∀ w', Below wy.heap.size wy w' → ArrW w' A l c) := Lib.hid fun w' hw => (HA.out.keep (Keep.below (HW.out.trans (hw.mono HW.out.size))))
    refine wp_region_held_drew (S := fun w' => w'.cell? ⟨w.heap.size, 0, none⟩ = some (.int .i64 R.brk) ∧ w'.cell? ⟨w.heap.size, 1, none⟩ = some (.int .i64 R.rest) ∧ w'.cell? ⟨w.heap.size, 2, none⟩ = some (.int .i64 R.stint) ∧ w'.cell? ⟨w.heap.size, 3, none⟩ = some (.int .i64 R.shift) ∧ w'.cell? ⟨w.heap.size, 4, none⟩ = some (.int .i64 R.week) ∧ w'.cell? ⟨w.heap.size, 5, none⟩ = some (.slice A l.length c) ∧ w'.cell? ⟨b6, o6 + 1, none⟩ = some (.int .i64 (listW Q 0).beg) ∧ Hid (Below wy.heap.size wy w')) (by kernel_rfl) (MK.out _ HBd.out) (fun hHeld => ?_)
    refine wpAnyH_take (i := 0) (v := ?val0x50) rfl (by kernel_rfl) (by kernel_rfl) (by kernel_rfl) (fun _ _ _ h => h) (Or.inl ⟨by rfl, fun w9 hS9 => ?yields0x50⟩) (by assumption) ?later0x50
    case yields0x50 =>
      dsimp only at hS9
      go_simp
      try with_reducible rfl
    try simp only [Act.put, List.getElem_toArray, List.getElem_cons_succ, List.getElem_cons_zero, List.setIfInBounds_toArray, List.set_cons_zero, List.set_cons_succ]
    refine wpAnyH_take (i := 2) (v := ?val2x51) rfl (by kernel_rfl) (by kernel_rfl) (by kernel_rfl) (fun _ _ _ h => h) (Or.inl ⟨by rfl, fun w9 hS9 => ?yields2x51⟩) (by assumption) ?later2x51
    case yields2x51 =>
      dsimp only at hS9
      go_simp
      try with_reducible rfl
    try simp only [Act.put, List.getElem_toArray, List.getElem_cons_succ, List.getElem_cons_zero, List.setIfInBounds_toArray, List.set_cons_zero, List.set_cons_succ]
    refine wpAnyH_take (i := 3) (v := ?val3x52) rfl (by kernel_rfl) (by kernel_rfl) (by kernel_rfl) (fun _ _ _ h => h) (Or.inl ⟨by rfl, fun w9 hS9 => ?yields3x52⟩) (by assumption) ?later3x52
    case yields3x52 =>
      dsimp only at hS9
      go_simp
      try with_reducible rfl
    try simp only [Act.put, List.getElem_toArray, List.getElem_cons_succ, List.getElem_cons_zero, List.setIfInBounds_toArray, List.set_cons_zero, List.set_cons_succ]
    refine wpAnyH_take (i := 4) (v := ?val4x53) rfl (by kernel_rfl) (by kernel_rfl) (by kernel_rfl) (fun _ _ _ h => h) (Or.inl ⟨by rfl, fun w9 hS9 => ?yields4x53⟩) (by assumption) ?later4x53
    case yields4x53 =>
      dsimp only at hS9
      go_simp
      try with_reducible rfl
    try simp only [Act.put, List.getElem_toArray, List.getElem_cons_succ, List.getElem_cons_zero, List.setIfInBounds_toArray, List.set_cons_zero, List.set_cons_succ]
    refine wpAnyH_take (i := 5) (v := ?val5x54) rfl (by kernel_rfl) (by kernel_rfl) (by kernel_rfl) (fun _ _ _ h => h) (Or.inl ⟨by rfl, fun w9 hS9 => ?yields5x54⟩) (by assumption) ?later5x54
    case yields5x54 =>
      dsimp only at hS9
      go_simp
      try with_reducible rfl
    try simp only [Act.put, List.getElem_toArray, List.getElem_cons_succ, List.getElem_cons_zero, List.setIfInBounds_toArray, List.set_cons_zero, List.set_cons_succ]
    refine wpAnyH_take (i := 7) (v := ?val7x55) rfl (by kernel_rfl) (by kernel_rfl) (by kernel_rfl) (fun _ _ _ h => h) (Or.inl ⟨by rfl, fun w9 hS9 => ?yields7x55⟩) (by assumption) ?later7x55
    case yields7x55 =>
      dsimp only at hS9
      go_simp
      try with_reducible rfl
    try simp only [Act.put, List.getElem_toArray, List.getElem_cons_succ, List.getElem_cons_zero, List.setIfInBounds_toArray, List.set_cons_zero, List.set_cons_succ]
    refine wpAnyH_take (i := 8) (v := ?val8x56) rfl (by kernel_rfl) (by kernel_rfl) (by kernel_rfl) (fun _ _ _ h => h) (Or.inl ⟨by rfl, fun w9 hS9 => ?yields8x56⟩) (by assumption) ?later8x56
    case yields8x56 =>
      dsimp only at hS9
      go_simp
      try with_reducible rfl
    try simp only [Act.put, List.getElem_toArray, List.getElem_cons_succ, List.getElem_cons_zero, List.setIfInBounds_toArray, List.set_cons_zero, List.set_cons_succ]
    refine wpAnyH_take (i := 9) (v := ?val9x57) rfl (by kernel_rfl) (by kernel_rfl) (by kernel_rfl) (fun _ _ _ h => h) (Or.inl ⟨by rfl, fun w9 hS9 => ?yields9x57⟩) (by assumption) ?later9x57
    case yields9x57 =>
      dsimp only at hS9
      go_simp
      try with_reducible rfl
    try simp only [Act.put, List.getElem_toArray, List.getElem_cons_succ, List.getElem_cons_zero, List.setIfInBounds_toArray, List.set_cons_zero, List.set_cons_succ]
    refine wpAnyH_ready (rs := [1]) (by kernel_rfl) (by simp) ?_
    refine AllReadyH.cons rfl (fun K hK => ?_) AllReadyH.nil
    go_simp
    go_at_call 45
    go_split_ands
    refine (xEnd_any R l A c n _ (KA.out _ (Hid.out (by assumption))) HN1.out HN2.out).mono ?_
    rintro e' w5 ⟨rfl, hb1⟩
    go_wp2_with fail
    refine hK.out _ _ ?_ (fun hHeld => ?_)
    · (try dsimp only)
      (go_split_ands; exact MK.out _ (Below.trans (Hid.out (by assumption)) (hb1.mono (Hid.out (by assumption) : Below wy.heap.size wy _).size)))
    clear hK K
    try simp only [Act.put, List.getElem_toArray, List.getElem_cons_succ, List.getElem_cons_zero, List.setIfInBounds_toArray, List.set_cons_zero, List.set_cons_succ]
    refine wpAnyH_take (i := 6) (v := ?val6x58) rfl (by kernel_rfl) (by kernel_rfl) (by kernel_rfl) (fun _ _ _ h => h) (Or.inl ⟨by rfl, fun w9 hS9 => ?yields6x58⟩) (by assumption) ?later6x58
    case yields6x58 =>
      dsimp only at hS9
      go_simp
      try with_reducible rfl
    try simp only [Act.put, List.getElem_toArray, List.getElem_cons_succ, List.getElem_cons_zero, List.setIfInBounds_toArray, List.set_cons_zero, List.set_cons_succ]
    refine wpAnyH_take (i := 10) (v := ?val10x59) rfl (by kernel_rfl) (by kernel_rfl) (by kernel_rfl) (fun _ _ _ h => h) (Or.inl ⟨by rfl, fun w9 hS9 => ?yields10x59⟩) (by assumption) ?later10x59
    case yields10x59 =>
      dsimp only at hS9
      go_simp
      try with_reducible rfl
    try simp only [Act.put, List.getElem_toArray, List.getElem_cons_succ, List.getElem_cons_zero, List.setIfInBounds_toArray, List.set_cons_zero, List.set_cons_succ]
    refine wpAnyH_take (i := 11) (v := ?val11x60) rfl (by kernel_rfl) (by kernel_rfl) (by kernel_rfl) (fun _ _ _ h => h) (Or.inl ⟨by rfl, fun w9 hS9 => ?yields11x60⟩) (by assumption) ?later11x60
    case yields11x60 =>
      dsimp only at hS9
      go_simp
      try with_reducible rfl
    try simp only [Act.put, List.getElem_toArray, List.getElem_cons_succ, List.getElem_cons_zero, List.setIfInBounds_toArray, List.set_cons_zero, List.set_cons_succ]
    refine wpAnyH_done (by kernel_rfl) ?_ _
    obtain ⟨-, -, -, -, -, -, -, HB⟩ := hHeld
    clear HBd MK
    clear k0 k1 k2 k3 k4 k5 KA p1
    replace BB := Lib.hid (BB.out.keep (Keep.below HB.out))
    replace HW := Lib.hid (HW.out.trans (HB.out.mono HW.out.size))
    clear HB
    obtain ⟨k0, k1, k2, k3, k4, k5⟩ := BB.out
    rw [← HEQ.out] at F1
    by_cases h2 : R.shift < (listW l n).fin - (listW Q 0).beg
    · have F := Lib.hid (F1.out.trans (if_pos h2))
      have d2 := decide_eq_true h2
      go_wp2_with fail
      go_ret
      exact ⟨ret_int F.out.symm, HW.out⟩
    · have F2 := Lib.hid (F1.out.trans (if_neg h2))
      have d2 := decide_eq_false h2
      go_wp2_with fail
      refine (xWeek_any R l A c n _ (HA.out.keep (Keep.below HW.out)) HF.out.mild HN1.out HN2.out).mono ?_
      rintro e' w6 ⟨rfl, hb1⟩
      rw [HN.out]
      by_cases h3 : R.week < workTo l ((listW l n).fin - 604800) (listW l n).fin (n + 1)
      · have F := Lib.hid (F2.out.trans (if_pos h3))
        rw [decide_eq_true h3]
        go_wp2_with fail
        go_ret
        exact ⟨ret_int F.out.symm, HW.out.trans (hb1.mono HW.out.size)⟩
      · have F := Lib.hid (F2.out.trans (if_neg h3))
        rw [decide_eq_false h3]
        go_wp2_with fail
        go_ret
        exact ⟨ret_int F.out.symm, HW.out.trans (hb1.mono HW.out.size)⟩
end Go.Proofs.Ytjmaankkbdpikaa

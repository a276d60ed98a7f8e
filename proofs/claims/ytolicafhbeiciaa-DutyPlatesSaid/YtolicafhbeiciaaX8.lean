/- A book with a record more, in memory of its own. Condition: records can be read, there are not many. -/
import Derived.Test.YtolicafhbeiciaaX7
import Derived.Test.YtolicafhbeiciaaD5
import Derived.Deep.AppendLies
import Derived.Lib.SliceRun
import Derived.Test.YtolicafhbeiciaaD25
import Derived.Test.YtolicafhbeiciaaT12
import Derived.Deep.LoopGhost
namespace Go.Proofs.Ytolicafhbeiciaa
open Go.RowKit Fs

set_option maxHeartbeats 800000 in
set_option maxRecDepth 100000 in
theorem xClone_any (l : List WRec) (A : Option Addr) (c : Nat) (w : World) (h : ArrW w A l c) (hn : l.length ≤ 1000000) :
    Calls Try.prog 163 #[.slice A l.length c] w fun e w' => (∃ v, e = .returned v ∧ w'.ownsRow w.heap.size 39 3 v l.length (recFlat l)) ∧ Below w.heap.size w w' := by
  obtain ⟨i0, hi, hz0, hz1, hz2⟩ := info_parts Try.infoDRec
  have q22 : ∀ (w : World) (a : Option Addr) (n c n' c' : Nat), (binOp .eql 24 (.slice a n c) (.slice none n' c')).run Try.prog w = .ok (.bool a.isNone) w := fun w a n c n' c' => Lib.run_eql_slice_nil w _ _ a n c n' c' Try.underlying24
  cases A with
  | none =>
    have hl : l.length = 0 := by
      rcases Nat.eq_zero_or_pos l.length with h0 | h0
      · exact h0
      · obtain ⟨_, _, e, -⟩ := h.2.2 h0
        cases e
    have hL : l = [] := List.eq_nil_of_length_eq_zero hl
    subst hL
    clear h hl hn
    go_enter Try.func163, Try.ntmps163
    go_wp2_with fail
    go_ret
    exact ⟨⟨_, rfl, World.ownsRow_nil _ _ _ _⟩, Below.refl _ _⟩
  | some ad =>
    go_enter Try.func163, Try.ntmps163
    go_wp2_with (at_builtin
                 refine wpList_copy rfl (.tmp 5) (.tmp 6) 24 rfl 39 i0 _ 3 32 Try.underlying24 hi hz0 hz1 hz2 rfl (by decide) w.heap.size w.heap.size rfl (Nat.le_refl _) (heap_alloc_new _ _) (some ad) l.length c _ rfl (Arr.keep (Keep.alloc w _) h) (by intro i j; unfold recCells; split <;> rfl) (by unfold maxLen; omega) (by omega) ?_
                 intro A1 c1 w1 ha hb)
    go_ret
    exact ⟨⟨_, rfl, ha⟩, ((Below.refl _ _).alloc (Nat.le_refl _) _).trans hb⟩
theorem ArrW.far {w : World} {b o c : Nat} {l : List WRec} (h : ArrW w (some ⟨b, o, none⟩) l c) {p : Addr} (hp : p.block ≠ b) (v : Value) : ArrW (w.setCell p v) (some ⟨b, o, none⟩) l c := by
  refine ⟨h.1, h.2.1, fun hh => ?_⟩
  obtain ⟨b', o', e, hc⟩ := h.2.2 hh
  obtain ⟨rfl, rfl⟩ : b = b' ∧ o = o' := by simpa using e
  exact ⟨b, o, rfl, fun i j hi hj => (World.cell?_setCell_other _ _ _ _ (fun e' => hp (by rw [e']))).trans (hc i j hi hj)⟩
theorem xOneRec (w : World) (x : WRec) : Arr (w.alloc (.cells #[.string x.who, .int .i64 x.beg, .int .i64 x.fin] 39)) (some ⟨w.heap.size, 0, none⟩) 1 1 3 (fun _ j => recCells x j) := by
  refine ⟨Nat.le_refl _, by omega, fun _ => ⟨w.heap.size, 0, rfl, fun i j hi hj => ?_⟩⟩
  obtain rfl : i = 0 := by omega
  obtain rfl | rfl | rfl : j = 0 ∨ j = 1 ∨ j = 2 := by omega
  · exact cellNew _ _ _ 0
  · exact cellNew _ _ _ 1
  · exact cellNew _ _ _ 2
theorem xMoreFlat {l W : List WRec} {x : WRec} (h : W = l ++ [x]) : recFlat l ++ flat 1 3 (fun _ j => recCells x j) = flat (l.length + 1) 3 fun i j => recCells (listW W i) j := by
  subst h
  refine flat_join (by decide) (fun i j hi hj => ?_) (fun i j hi hj => ?_)
  · rw [listW_left hi]
  · obtain rfl : i = 0 := by omega
    rw [Nat.add_zero, listW_last]
set_option linter.unusedSimpArgs false in
set_option maxHeartbeats 12800000 in
set_option maxRecDepth 100000 in
theorem xWith_any (R : DRules) (l : List WRec) (x : WRec) (A : Option Addr) (c : Nat) (w : World) (h : ArrW w A l c) (hl : l.length ≤ 1000) :
    Calls Try.prog 137 #[bookV R A l.length c, recV x] w fun e w' => (∃ A' c', e = .returned (bookV R A' (l ++ [x]).length c') ∧ ArrW w' A' (l ++ [x]) c') ∧ Below w.heap.size w w' := by
  have b1 := h.le.1
  have b2 := h.le.2
  have HA := Lib.hid h
  clear h
  obtain ⟨V, hV⟩ : ∃ V, V = l ++ [x] := ⟨_, rfl⟩
  have hVl : V.length = l.length + 1 := by rw [hV]; simp
  have HV := Lib.hid hV
  rw [← hV]
  clear hV
  obtain ⟨i0, hi, hz0, hz1, hz2⟩ := info_parts Try.infoDRec
  have B1 := Lib.hid (Six.new w (.int .i64 R.brk) (.int .i64 R.rest) (.int .i64 R.stint) (.int .i64 R.shift) (.int .i64 R.week) (.slice A l.length c) 127)
  have B2 := Lib.hid (B1.out.keep ((Below.refl _ _).alloc (Nat.le_refl _) (.cells #[.string x.who, .int .i64 x.beg, .int .i64 x.fin] 39)))
  have BB := Lib.hid (B2.out.keep ((Below.refl _ _).alloc (Nat.le_refl _) (.cells #[.int .i64 0, .int .i64 0, .int .i64 0, .int .i64 0, .int .i64 0, .slice none 0 0] 127)))
  have X1 := Lib.hid (show RecAt (w.alloc (.cells #[.int .i64 R.brk, .int .i64 R.rest, .int .i64 R.stint, .int .i64 R.shift, .int .i64 R.week, .slice A l.length c] 127) |>.alloc (.cells #[.string x.who, .int .i64 x.beg, .int .i64 x.fin] 39)) (w.heap.size + 1) 0 x from ⟨cellNew1 _ _ _ _ 0, cellNew1 _ _ _ _ 1, cellNew1 _ _ _ _ 2⟩)
  have XR := Lib.hid (X1.out.keep (Keep.alloc _ (.cells #[.int .i64 0, .int .i64 0, .int .i64 0, .int .i64 0, .int .i64 0, .slice none 0 0] 127)))
  have BT := Lib.hid (Six.new (w.alloc (.cells #[.int .i64 R.brk, .int .i64 R.rest, .int .i64 R.stint, .int .i64 R.shift, .int .i64 R.week, .slice A l.length c] 127) |>.alloc (.cells #[.string x.who, .int .i64 x.beg, .int .i64 x.fin] 39)) (.int .i64 0) (.int .i64 0) (.int .i64 0) (.int .i64 0) (.int .i64 0) (.slice none 0 0) 127)
  have hsz : ((w.alloc (.cells #[.int .i64 R.brk, .int .i64 R.rest, .int .i64 R.stint, .int .i64 R.shift, .int .i64 R.week, .slice A l.length c] 127)).alloc (.cells #[.string x.who, .int .i64 x.beg, .int .i64 x.fin] 39)).heap.size = w.heap.size + 1 + 1 := by simp
  rw [hsz] at BT
  clear B1 B2 X1 hsz
  go_enter Try.func137, Try.ntmps137
  go_upto_region 1 with fail
  generalize hwb : ((w.alloc _).alloc _).alloc _ = wb at *
  have HW : Hid (Below w.heap.size w wb) := by rw [← hwb]; exact Lib.hid ((((Below.refl _ _).alloc (Nat.le_refl _) _).alloc (by simp) _).alloc (by simp; omega) _)
  have HSZ : Hid (w.heap.size + 1 + 1 < wb.heap.size) := by rw [← hwb]; exact Lib.hid (by simp)
  clear hwb
  obtain ⟨x0, x1, x2⟩ := XR.out
  have k5 := BB.out.c5
  have KA : Hid (∀ w', Below wb.heap.size wb w' → ArrW w' A l c) := Lib.hid fun w' hw => HA.out.keep (Keep.below (HW.out.trans (hw.mono HW.out.size)))
  have HBd : Hid (Below wb.heap.size wb wb.drew) := Lib.hid (Below.refl _ _).drew
  have MK : Hid (∀ w', Below wb.heap.size wb w' → w'.cell? ⟨w.heap.size, 5, none⟩ = some (.slice A l.length c) ∧ w'.cell? ⟨w.heap.size + 1, 0, none⟩ = some (.string x.who) ∧ w'.cell? ⟨w.heap.size + 1, 1, none⟩ = some (.int .i64 x.beg) ∧ w'.cell? ⟨w.heap.size + 1, 2, none⟩ = some (.int .i64 x.fin) ∧ Hid (Below wb.heap.size wb w')) :=
    Lib.hid fun w' hw => ⟨Keep.below hw _ _ k5, Keep.below hw _ _ x0, Keep.below hw _ _ x1, Keep.below hw _ _ x2, Lib.hid hw⟩
  refine heldPeel (S := fun w' => w'.cell? ⟨w.heap.size, 5, none⟩ = some (.slice A l.length c) ∧ w'.cell? ⟨w.heap.size + 1, 0, none⟩ = some (.string x.who) ∧ w'.cell? ⟨w.heap.size + 1, 1, none⟩ = some (.int .i64 x.beg) ∧ w'.cell? ⟨w.heap.size + 1, 2, none⟩ = some (.int .i64 x.fin) ∧ Hid (Below wb.heap.size wb w')) (l := [_, _, _, _, _, _, _]) (by kernel_rfl) (by kernel_rfl) (MK.out _ HBd.out) (fun hHeld => ?_)
  refine wpAnyH_take (i := 0) (v := ?val0x19) rfl (by kernel_rfl) (by kernel_rfl) (by kernel_rfl) (fun _ _ _ h => h) (Or.inl ⟨by rfl, fun w9 hS9 => ?yields0x19⟩) (by assumption) ?later0x19
  case yields0x19 =>
    dsimp only at hS9
    go_simp
    try with_reducible rfl
  try simp only [Act.put, List.getElem_toArray, List.getElem_cons_succ, List.getElem_cons_zero, List.setIfInBounds_toArray, List.set_cons_zero, List.set_cons_succ]
  refine wpAnyH_take (i := 1) (v := ?val1x20) rfl (by kernel_rfl) (by kernel_rfl) (by kernel_rfl) (fun _ _ _ h => h) (Or.inl ⟨by rfl, fun w9 hS9 => ?yields1x20⟩) (by assumption) ?later1x20
  case yields1x20 =>
    dsimp only at hS9
    go_simp
    try with_reducible rfl
  try simp only [Act.put, List.getElem_toArray, List.getElem_cons_succ, List.getElem_cons_zero, List.setIfInBounds_toArray, List.set_cons_zero, List.set_cons_succ]
  refine wpAnyH_take (i := 3) (v := ?val3x21) rfl (by kernel_rfl) (by kernel_rfl) (by kernel_rfl) (fun _ _ _ h => h) (Or.inl ⟨by rfl, fun w9 hS9 => ?yields3x21⟩) (by assumption) ?later3x21
  case yields3x21 =>
    dsimp only at hS9
    go_simp
    try with_reducible rfl
  try simp only [Act.put, List.getElem_toArray, List.getElem_cons_succ, List.getElem_cons_zero, List.setIfInBounds_toArray, List.set_cons_zero, List.set_cons_succ]
  generalize hyy : World.drew wb = y0 at *
  clear hyy
  refine wpAnyH_ready (rs := [2, 4]) (by kernel_rfl) (by simp) ?_
  refine AllReadyH.cons rfl (fun K hK => ?_) (AllReadyH.cons rfl (fun K hK => ?_) (AllReadyH.nil))
  · go_simp
    obtain ⟨-, -, -, -, HBX⟩ := hHeld
    go_at_call 163
    refine (xClone_any l A c _ (KA.out _ HBX.out) (by omega)).mono ?_
    rintro e' y1 ⟨⟨vc, rfl, ho⟩, hb1⟩
    have HO := Lib.hid (own_low ho HBX.out.size)
    go_wp2_with fail
    refine hK.out _ _ (MK.out _ (HBX.out.trans (hb1.mono HBX.out.size))) (fun hHeld => ?_)
    try simp only [Act.put, List.getElem_toArray, List.getElem_cons_succ, List.getElem_cons_zero, List.setIfInBounds_toArray, List.set_cons_zero, List.set_cons_succ]
    clear ho hb1 HBX hK K
    refine wpAnyH_ready (rs := [4]) (by kernel_rfl) (by simp) ?_
    refine AllReadyH.cons rfl (fun K hK => ?_) (AllReadyH.nil)
    · go_simp
      obtain ⟨-, -, -, -, HBX⟩ := hHeld
      have HL := Lib.hid (xOneRec y1 x)
      have HO := Lib.hid (below_of_own HO.out ((Below.refl _ _).alloc (Nat.le_refl _) (.cells #[.string x.who, .int .i64 x.beg, .int .i64 x.fin] 39)))
      refine hK.out _ _ (MK.out _ (HBX.out.alloc HBX.out.size _)) (fun hHeld => ?_)
      try simp only [Act.put, List.getElem_toArray, List.getElem_cons_succ, List.getElem_cons_zero, List.setIfInBounds_toArray, List.set_cons_zero, List.set_cons_succ]
      clear HBX hK K
      generalize hyy : World.alloc y1 _ = y2 at *
      clear hyy
      refine wpAnyH_ready (rs := [5]) (by kernel_rfl) (by simp) ?_
      refine AllReadyH.cons rfl (fun K hK => ?_) AllReadyH.nil
      obtain ⟨-, -, -, -, HBX⟩ := hHeld
      refine step_append_lies _ rfl (.tmp 7) (.tmp 9) 24 rfl wb.heap.size 39 i0 _ 3 32 Try.underlying24 hi hz0 hz1 hz2 rfl (by decide) _ l.length _ rfl HO.out _ 1 1 (flat 1 3 fun _ j => recCells x j) rfl (by simp [flat]) (news_of_arr (by decide) HL.out) (recCells_one _) (by decide) (by unfold maxLen; omega) (by omega) HBX.out.size _ rfl ?_
      rintro g9 c9 y9 ho9 hg9 - -
      have hb9 := (Below.refl _ _).grown hg9 HBX.out.size (fun k hk => (HO.out.lt k hk).1)
      rw [xMoreFlat HV.out] at ho9
      have HG9 := Lib.hid (show wb.heap.size ≤ g9 from by
        rcases ho9.2 with ⟨hv, -⟩ | ⟨g, cap, cur, hv, hb, -⟩
        · cases hv
        · injection hv with hv _ _; injection hv with hv; injection hv with hv _ _; rw [hv]; exact hb)
      have H9 := Lib.hid (show ArrW y9 _ V c9 from (by have := own_arrN ho9; rw [← hVl] at this; exact this))
      refine hK.out _ _ (MK.out _ (HBX.out.trans hb9)) (fun hHeld => ?_)
      try simp only [Act.put, List.getElem_toArray, List.getElem_cons_succ, List.getElem_cons_zero, List.setIfInBounds_toArray, List.set_cons_zero, List.set_cons_succ]
      clear ho9 hb9 hg9 HBX hK K
      refine wpAnyH_take (i := 6) (v := ?val6x22) rfl (by kernel_rfl) (by kernel_rfl) (by kernel_rfl) (fun _ _ _ h => h) (Or.inl ⟨by rfl, fun w9 hS9 => ?yields6x22⟩) (by assumption) ?later6x22
      case yields6x22 =>
        dsimp only at hS9
        go_simp
        try with_reducible rfl
      try simp only [Act.put, List.getElem_toArray, List.getElem_cons_succ, List.getElem_cons_zero, List.setIfInBounds_toArray, List.set_cons_zero, List.set_cons_succ]
      refine wpAnyH_done (by kernel_rfl) ?_ _
      unfold Peeled
      dsimp only
      obtain ⟨-, -, -, -, HB⟩ := hHeld
      replace BB := Lib.hid (BB.out.keep HB.out)
      replace BT := Lib.hid (BT.out.keep HB.out)
      replace HW := Lib.hid (HW.out.trans (HB.out.mono HW.out.size))
      clear HB MK HBd HO HL KA k5 x0 x1 x2 XR
      obtain ⟨k0, k1, k2, k3, k4, k5, g0, g1, g2, g3, g4, g5⟩ := BB.out
      go_upto_region 2 with fail
      have HS1 := Lib.hid (show w.heap.size + 1 + 1 < wb.heap.size from HSZ.out)
      have H10 := Lib.hid (H9.out.far (p := ⟨w.heap.size, 5, none⟩) (by have := HS1.out; have := HG9.out; dsimp only; omega) (.slice (some ⟨g9, 0, none⟩) (l.length + 1) c9))
      have S3 := Lib.hid (BB.out.put5 (.slice (some ⟨g9, 0, none⟩) (l.length + 1) c9))
      have ST := Lib.hid (BT.out.other (p := ⟨w.heap.size, 5, none⟩) (by simp; omega) (.slice (some ⟨g9, 0, none⟩) (l.length + 1) c9))
      have HW2 := Lib.hid (HW.out.setCell (p := ⟨w.heap.size, 5, none⟩) (Nat.le_refl _) (.slice (some ⟨g9, 0, none⟩) (l.length + 1) c9))
      clear k0 k1 k2 k3 k4 k5 g0 g1 g2 g3 g4 g5 BB BT HW H9
      generalize hwc : World.setCell _ _ _ = wc at *
      clear hwc
      obtain ⟨k0, k1, k2, k3, k4, k5, -, -, -, -, -, -⟩ := S3.out
      obtain ⟨t0, t1, t2, t3, t4, t5, f0, f1, f2, f3, f4, f5⟩ := ST.out
      go_wp2_with fail
      obtain ⟨s0, s1, s2, s3, s4, s5, -, -, -, -, -, -⟩ := ST.out.set (.int .i64 R.brk) (.int .i64 R.rest) (.int .i64 R.stint) (.int .i64 R.shift) (.int .i64 R.week) (.slice (some ⟨g9, 0, none⟩) (l.length + 1) c9)
      refine bodyPost_ret (v := bookV R (some ⟨g9, 0, none⟩) (l.length + 1) c9) (by simp [results, Try.results137, go_sem, s0, s1, s2, s3, s4, s5]) rfl ⟨⟨some ⟨g9, 0, none⟩, c9, by rw [hVl], ?_⟩, ?_⟩
      · have hne : w.heap.size + 1 + 1 ≠ g9 := by have := HS1.out; have := HG9.out; omega
        exact (((((H10.out.far hne _).far hne _).far hne _).far hne _).far hne _).far hne _
      · exact below_six HW2.out (by omega) _ _ _ _ _ _
  · go_simp
    obtain ⟨-, -, -, -, HBX⟩ := hHeld
    have HL := Lib.hid (xOneRec y0 x)
    refine hK.out _ _ (MK.out _ (HBX.out.alloc HBX.out.size _)) (fun hHeld => ?_)
    try simp only [Act.put, List.getElem_toArray, List.getElem_cons_succ, List.getElem_cons_zero, List.setIfInBounds_toArray, List.set_cons_zero, List.set_cons_succ]
    clear HBX hK K
    generalize hyy : World.alloc y0 _ = y3 at *
    clear hyy
    refine wpAnyH_ready (rs := [2]) (by kernel_rfl) (by simp) ?_
    refine AllReadyH.cons rfl (fun K hK => ?_) (AllReadyH.nil)
    · go_simp
      obtain ⟨-, -, -, -, HBX⟩ := hHeld
      go_at_call 163
      refine (xClone_any l A c _ (KA.out _ HBX.out) (by omega)).mono ?_
      rintro e' y4 ⟨⟨vc, rfl, ho⟩, hb1⟩
      have HO := Lib.hid (own_low ho HBX.out.size)
      have HL := Lib.hid (Arr.keep (Keep.below hb1) HL.out)
      go_wp2_with fail
      refine hK.out _ _ (MK.out _ (HBX.out.trans (hb1.mono HBX.out.size))) (fun hHeld => ?_)
      try simp only [Act.put, List.getElem_toArray, List.getElem_cons_succ, List.getElem_cons_zero, List.setIfInBounds_toArray, List.set_cons_zero, List.set_cons_succ]
      clear ho hb1 HBX hK K
      refine wpAnyH_ready (rs := [5]) (by kernel_rfl) (by simp) ?_
      refine AllReadyH.cons rfl (fun K hK => ?_) AllReadyH.nil
      obtain ⟨-, -, -, -, HBX⟩ := hHeld
      refine step_append_lies _ rfl (.tmp 7) (.tmp 9) 24 rfl wb.heap.size 39 i0 _ 3 32 Try.underlying24 hi hz0 hz1 hz2 rfl (by decide) _ l.length _ rfl HO.out _ 1 1 (flat 1 3 fun _ j => recCells x j) rfl (by simp [flat]) (news_of_arr (by decide) HL.out) (recCells_one _) (by decide) (by unfold maxLen; omega) (by omega) HBX.out.size _ rfl ?_
      rintro g9 c9 y9 ho9 hg9 - -
      have hb9 := (Below.refl _ _).grown hg9 HBX.out.size (fun k hk => (HO.out.lt k hk).1)
      rw [xMoreFlat HV.out] at ho9
      have HG9 := Lib.hid (show wb.heap.size ≤ g9 from by
        rcases ho9.2 with ⟨hv, -⟩ | ⟨g, cap, cur, hv, hb, -⟩
        · cases hv
        · injection hv with hv _ _; injection hv with hv; injection hv with hv _ _; rw [hv]; exact hb)
      have H9 := Lib.hid (show ArrW y9 _ V c9 from (by have := own_arrN ho9; rw [← hVl] at this; exact this))
      refine hK.out _ _ (MK.out _ (HBX.out.trans hb9)) (fun hHeld => ?_)
      try simp only [Act.put, List.getElem_toArray, List.getElem_cons_succ, List.getElem_cons_zero, List.setIfInBounds_toArray, List.set_cons_zero, List.set_cons_succ]
      clear ho9 hb9 hg9 HBX hK K
      refine wpAnyH_take (i := 6) (v := ?val6x23) rfl (by kernel_rfl) (by kernel_rfl) (by kernel_rfl) (fun _ _ _ h => h) (Or.inl ⟨by rfl, fun w9 hS9 => ?yields6x23⟩) (by assumption) ?later6x23
      case yields6x23 =>
        dsimp only at hS9
        go_simp
        try with_reducible rfl
      try simp only [Act.put, List.getElem_toArray, List.getElem_cons_succ, List.getElem_cons_zero, List.setIfInBounds_toArray, List.set_cons_zero, List.set_cons_succ]
      refine wpAnyH_done (by kernel_rfl) ?_ _
      unfold Peeled
      dsimp only
      obtain ⟨-, -, -, -, HB⟩ := hHeld
      replace BB := Lib.hid (BB.out.keep HB.out)
      replace BT := Lib.hid (BT.out.keep HB.out)
      replace HW := Lib.hid (HW.out.trans (HB.out.mono HW.out.size))
      clear HB MK HBd HO HL KA k5 x0 x1 x2 XR
      obtain ⟨k0, k1, k2, k3, k4, k5, g0, g1, g2, g3, g4, g5⟩ := BB.out
      go_upto_region 2 with fail
      have HS1 := Lib.hid (show w.heap.size + 1 + 1 < wb.heap.size from HSZ.out)
      have H10 := Lib.hid (H9.out.far (p := ⟨w.heap.size, 5, none⟩) (by have := HS1.out; have := HG9.out; dsimp only; omega) (.slice (some ⟨g9, 0, none⟩) (l.length + 1) c9))
      have S3 := Lib.hid (BB.out.put5 (.slice (some ⟨g9, 0, none⟩) (l.length + 1) c9))
      have ST := Lib.hid (BT.out.other (p := ⟨w.heap.size, 5, none⟩) (by simp; omega) (.slice (some ⟨g9, 0, none⟩) (l.length + 1) c9))
      have HW2 := Lib.hid (HW.out.setCell (p := ⟨w.heap.size, 5, none⟩) (Nat.le_refl _) (.slice (some ⟨g9, 0, none⟩) (l.length + 1) c9))
      clear k0 k1 k2 k3 k4 k5 g0 g1 g2 g3 g4 g5 BB BT HW H9
      generalize hwc : World.setCell _ _ _ = wc at *
      clear hwc
      obtain ⟨k0, k1, k2, k3, k4, k5, -, -, -, -, -, -⟩ := S3.out
      obtain ⟨t0, t1, t2, t3, t4, t5, f0, f1, f2, f3, f4, f5⟩ := ST.out
      go_wp2_with fail
      obtain ⟨s0, s1, s2, s3, s4, s5, -, -, -, -, -, -⟩ := ST.out.set (.int .i64 R.brk) (.int .i64 R.rest) (.int .i64 R.stint) (.int .i64 R.shift) (.int .i64 R.week) (.slice (some ⟨g9, 0, none⟩) (l.length + 1) c9)
      refine bodyPost_ret (v := bookV R (some ⟨g9, 0, none⟩) (l.length + 1) c9) (by simp [results, Try.results137, go_sem, s0, s1, s2, s3, s4, s5]) rfl ⟨⟨some ⟨g9, 0, none⟩, c9, by rw [hVl], ?_⟩, ?_⟩
      · have hne : w.heap.size + 1 + 1 ≠ g9 := by have := HS1.out; have := HG9.out; omega
        exact (((((H10.out.far hne _).far hne _).far hne _).far hne _).far hne _).far hne _
      · exact below_six HW2.out (by omega) _ _ _ _ _ _
end Go.Proofs.Ytolicafhbeiciaa
/- Trips: what a trip breaks; the check of a trip; rules, records and a trip in one. Conditions where a function asks them: the trip is right. -/
namespace Go.Proofs.Ytolicafhbeiciaa
open Go.RowKit Fs

theorem xBrokenMore_any (R : DRules) (l V : List WRec) (who : ByteArray) (s n : Int) (A : Option Addr) (c : Nat) (w : World) (hV : V = l ++ [⟨who, s, s + n⟩]) (h : ArrW w A V c) (hF : Fit V) :
    Calls Try.prog 133 #[bookV R A V.length c] w fun e w' => e = .returned (.int .i64 (brokenAt R (withTrip l s n) l.length)) ∧ Below w.heap.size w w' := by
  have e := xBrokenLast_any R V A c l.length w h hF (by rw [hV]; simp)
  rw [show brokenAt R V l.length = brokenAt R (withTrip l s n) l.length by rw [hV, with_who]] at e
  exact e
theorem xWithV_any (R : DRules) (l V : List WRec) (x : WRec) (A : Option Addr) (c : Nat) (w : World) (hV : V = l ++ [x]) (h : ArrW w A l c) (hl : l.length ≤ 1000) :
    Calls Try.prog 137 #[bookV R A l.length c, recV x] w fun e w' => (∃ A' c', e = .returned (bookV R A' V.length c') ∧ ArrW w' A' V c') ∧ Below w.heap.size w w' := by
  subst hV
  exact xWith_any R l x A c w h hl
set_option linter.unusedSimpArgs false in
set_option maxHeartbeats 12800000 in
set_option maxRecDepth 100000 in
theorem xBrokenBy_any (R : DRules) (l : List WRec) (t : DTrip) (len : Int) (A : Option Addr) (c : Nat) (w : World) (h : ArrW w A l c) (hR : Right l) (hT : Behind l t) (hn : 0 ≤ len ∧ len ≤ 200000) :
    Calls Try.prog 86 #[bookV R A l.length c, dtripV t, .int .i64 len] w fun e w' => e = .returned (.int .i64 (breaks R l t len)) ∧ Below w.heap.size w w' := by
  have b1 := h.le.1
  have b2 := h.le.2
  have HA := Lib.hid h
  clear h
  have hl40 := hT.len
  have hs0 := hT.from0
  have hs1 := hT.from1
  have hx0 := hT.next0
  have hx1 := hT.next1
  have HLT := Lib.hid hT.last
  have HRT := Lib.hid hR
  clear hT hR
  obtain ⟨hn0, hn1⟩ := hn
  have BB := Lib.hid ((BookIn.new w R A l.length c 127).keep (Keep.alloc _ (.cells #[.int .i64 t.start, .int .i64 t.lo, .int .i64 t.hi, .int .i64 t.next] 54)))
  have BT := Lib.hid (show TripIn ((w.alloc (.cells #[.int .i64 R.brk, .int .i64 R.rest, .int .i64 R.stint, .int .i64 R.shift, .int .i64 R.week, .slice A l.length c] 127)).alloc (.cells #[.int .i64 t.start, .int .i64 t.lo, .int .i64 t.hi, .int .i64 t.next] 54)) (w.heap.size + 1) t from ⟨cellNew1 _ _ _ _ 0, cellNew1 _ _ _ _ 1, cellNew1 _ _ _ _ 2, cellNew1 _ _ _ _ 3⟩)
  go_enter Try.func86, Try.ntmps86
  go_upto_region 1 with fail
  generalize hwb : (w.alloc _).alloc _ = wb at *
  have HW : Hid (Below w.heap.size w wb) := by rw [← hwb]; exact Lib.hid (((Below.refl _ _).alloc (Nat.le_refl _) _).alloc (by simp) _)
  clear hwb
  obtain ⟨t0, t1, t2, t3⟩ := BT.out
  obtain ⟨k0, k1, k2, k3, k4, k5⟩ := BB.out
  have hw2 : IntKind.i64.wrap (t.start + len) = t.start + len := by rw [IntKind.wrap_i64]; omega
  have hw3 : IntKind.i64.wrap (t.next - (t.start + len)) = t.next - (t.start + len) := by rw [IntKind.wrap_i64]; omega
  by_cases hp : 0 < len
  · have d1 : decide (len > 0) = true := decide_eq_true hp
    have d2 : decide (0 < len) = true := decide_eq_true hp
    obtain ⟨V, hV⟩ : ∃ V : List WRec, V = l ++ [⟨⟨#[]⟩, t.start, t.start + len⟩] := ⟨_, rfl⟩
    have HFW := Lib.hid (show Fit V by rw [hV]; exact more_fit (who := ⟨#[]⟩) HRT.out (by omega) hs0 hs1 hp hn1 HLT.out)
    have HV := Lib.hid hV
    clear hV
    have HP := Lib.hid hp
    go_wp2_with fail
    refine (xWithV_any R l V ⟨⟨#[]⟩, t.start, t.start + len⟩ A c _ HV.out (HA.out.keep (Keep.below HW.out)) (by omega)).mono ?_
    rintro e' w1 ⟨⟨A1, c1, rfl, h1⟩, hb1⟩
    replace BB := Lib.hid (BB.out.keep (Keep.below hb1))
    replace BT := Lib.hid (BT.out.keep (Keep.below hb1))
    replace HW := Lib.hid (HW.out.trans (hb1.mono HW.out.size))
    have H1 := Lib.hid h1
    clear h1 hb1 t0 t1 t2 t3 k0 k1 k2 k3 k4 k5
    go_wp2_with fail
    refine (xBrokenMore_any R l V ⟨#[]⟩ t.start len A1 c1 _ HV.out H1.out HFW.out).mono ?_
    rintro e' w2 ⟨rfl, hb1⟩
    replace BB := Lib.hid (BB.out.keep (Keep.below hb1))
    replace BT := Lib.hid (BT.out.keep (Keep.below hb1))
    replace HW := Lib.hid (HW.out.trans (hb1.mono HW.out.size))
    clear hb1 H1
    obtain ⟨t0, t1, t2, t3⟩ := BT.out
    obtain ⟨k0, k1, k2, k3, k4, k5⟩ := BB.out
    by_cases hb : brokenAt R (withTrip l t.start len) l.length = 0
    · have HB0 := Lib.hid hb
      rw [hb]
      clear hb
      have H6 : Hid (breaks R l t len = if t.next ≠ -1 ∧ t.next - (t.start + len) < R.rest then 4 else 0) := Lib.hid (if_neg (fun hh => hh.2 HB0.out))
      by_cases hx : t.next = -1
      · have G := Lib.hid (H6.out.trans (if_neg (fun hh => hh.1 hx)))
        have e3 : (t.next == -1) = true := by simpa using hx
        have e4 : (t.next != -1) = false := by simpa using hx
        go_wp2_with fail
        go_ret
        exact ⟨ret_int G.out.symm, HW.out⟩
      · have e3 : (t.next == -1) = false := by simpa using hx
        have e4 : (t.next != -1) = true := by simpa using hx
        by_cases hr : t.next - (t.start + len) < R.rest
        · have G := Lib.hid (H6.out.trans (if_pos ⟨hx, hr⟩))
          have e5 : decide (t.next - (t.start + len) < R.rest) = true := decide_eq_true hr
          clear hx
          go_wp2_with fail
          go_ret
          exact ⟨ret_int G.out.symm, HW.out⟩
        · have G := Lib.hid (H6.out.trans (if_neg (fun hh => hr hh.2)))
          have e5 : decide (t.next - (t.start + len) < R.rest) = false := decide_eq_false hr
          clear hx
          go_wp2_with fail
          go_ret
          exact ⟨ret_int G.out.symm, HW.out⟩
    · have G := Lib.hid (show breaks R l t len = brokenAt R (withTrip l t.start len) l.length from if_pos ⟨hp, hb⟩)
      generalize brokenAt R (withTrip l t.start len) l.length = X at *
      have e1 : (X == 0) = false := by simpa using hb
      have e2 : (X != 0) = true := by simpa using hb
      clear hb
      go_wp2_with fail
      go_ret
      exact ⟨ret_int G.out.symm, HW.out⟩
  · have d1 : decide (len > 0) = false := decide_eq_false hp
    have d2 : decide (0 < len) = false := decide_eq_false hp
    have HP := Lib.hid hp
    have H6 : Hid (breaks R l t len = if t.next ≠ -1 ∧ t.next - (t.start + len) < R.rest then 4 else 0) := Lib.hid (if_neg (fun hh => HP.out hh.1))
    by_cases hx : t.next = -1
    · have G := Lib.hid (H6.out.trans (if_neg (fun hh => hh.1 hx)))
      have e3 : (t.next == -1) = true := by simpa using hx
      have e4 : (t.next != -1) = false := by simpa using hx
      go_wp2_with fail
      go_ret
      exact ⟨ret_int G.out.symm, HW.out⟩
    · have e3 : (t.next == -1) = false := by simpa using hx
      have e4 : (t.next != -1) = true := by simpa using hx
      by_cases hr : t.next - (t.start + len) < R.rest
      · have G := Lib.hid (H6.out.trans (if_pos ⟨hx, hr⟩))
        have e5 : decide (t.next - (t.start + len) < R.rest) = true := decide_eq_true hr
        clear hx
        go_wp2_with fail
        go_ret
        exact ⟨ret_int G.out.symm, HW.out⟩
      · have G := Lib.hid (H6.out.trans (if_neg (fun hh => hr hh.2)))
        have e5 : decide (t.next - (t.start + len) < R.rest) = false := decide_eq_false hr
        clear hx
        go_wp2_with fail
        go_ret
        exact ⟨ret_int G.out.symm, HW.out⟩
end Go.Proofs.Ytolicafhbeiciaa
/- The check of a trip. No condition. -/
namespace Go.Proofs.Ytolicafhbeiciaa
open Go.RowKit Fs

set_option maxHeartbeats 400000 in
theorem xIsTakes_any (n : Int) (w : World) : Calls Try.prog 162 #[.int .i64 n] w fun e w' => e = .returned (.bool (within n 0 200000)) ∧ w = w' := by
  go_enter Try.func162, Try.ntmps162
  go_wp2_with (go_at_call 93; refine (within_any _ _ _ _).mono ?_; rintro e w' ⟨rfl, rfl⟩)
  go_ret
  exact ⟨rfl, rfl⟩
def Fs.ownTripErr (t : DTrip) : Int :=
  if !(isClock t.start && within t.lo 0 200000 && within t.hi 0 200000) then 2
  else if t.hi < t.lo then 9
  else if t.next ≠ -1 ∧ isClock t.next = false then 2 else 0
set_option linter.unusedSimpArgs false in
set_option maxHeartbeats 12800000 in
set_option maxRecDepth 100000 in
theorem xTripErr_any (t : DTrip) (w : World) :
    Calls Try.prog 135 #[dtripV t] w fun e w' => e = .returned (.int .i64 (ownTripErr t)) ∧ Below w.heap.size w w' := by
  have BT := Lib.hid (TripIn.new w t 54)
  go_enter Try.func135, Try.ntmps135
  go_upto_region 1 with fail
  generalize hwb : w.alloc _ = wb at *
  have HW : Hid (Below w.heap.size w wb) := by rw [← hwb]; exact Lib.hid ((Below.refl _ _).alloc (Nat.le_refl _) _)
  clear hwb
  obtain ⟨t0, t1, t2, t3⟩ := BT.out
  cases h1 : isClock t.start with
  | false =>
    have F := Lib.hid (show ownTripErr t = 2 by unfold ownTripErr; rw [h1]; simp)
    go_wp2_with fail
    refine (xIsTime_any _ _).mono ?_
    rintro e wx ⟨rfl, rfl⟩
    rw [h1]
    go_wp2_with fail
    go_ret
    exact ⟨ret_int F.out.symm, HW.out⟩
  | true =>
    cases h2 : within t.lo 0 200000 with
    | false =>
      have F := Lib.hid (show ownTripErr t = 2 by unfold ownTripErr; rw [h1, h2]; simp)
      go_wp2_with fail
      refine (xIsTime_any _ _).mono ?_
      rintro e wx ⟨rfl, rfl⟩
      rw [h1]
      go_wp2_with fail
      refine (xIsTakes_any _ _).mono ?_
      rintro e wx ⟨rfl, rfl⟩
      rw [h2]
      go_wp2_with fail
      go_ret
      exact ⟨ret_int F.out.symm, HW.out⟩
    | true =>
      cases h3 : within t.hi 0 200000 with
      | false =>
        have F := Lib.hid (show ownTripErr t = 2 by unfold ownTripErr; rw [h1, h2, h3]; simp)
        go_wp2_with fail
        refine (xIsTime_any _ _).mono ?_
        rintro e wx ⟨rfl, rfl⟩
        rw [h1]
        go_wp2_with fail
        refine (xIsTakes_any _ _).mono ?_
        rintro e wx ⟨rfl, rfl⟩
        rw [h2]
        go_wp2_with fail
        refine (xIsTakes_any _ _).mono ?_
        rintro e wx ⟨rfl, rfl⟩
        rw [h3]
        go_wp2_with fail
        go_ret
        exact ⟨ret_int F.out.symm, HW.out⟩
      | true =>
        have F0 := Lib.hid (show ownTripErr t = if t.hi < t.lo then 9 else if t.next ≠ -1 ∧ isClock t.next = false then 2 else 0 by unfold ownTripErr; rw [h1, h2, h3]; rfl)
        go_wp2_with fail
        refine (xIsTime_any _ _).mono ?_
        rintro e wx ⟨rfl, rfl⟩
        rw [h1]
        go_wp2_with fail
        refine (xIsTakes_any _ _).mono ?_
        rintro e wx ⟨rfl, rfl⟩
        rw [h2]
        go_wp2_with fail
        refine (xIsTakes_any _ _).mono ?_
        rintro e wx ⟨rfl, rfl⟩
        rw [h3]
        by_cases h4 : t.hi < t.lo
        · have F := Lib.hid (F0.out.trans (if_pos h4))
          have d1 : decide (t.lo > t.hi) = true := decide_eq_true h4
          have d2 : decide (t.hi < t.lo) = true := decide_eq_true h4
          clear h1 h2 h3
          go_wp2_with fail
          go_ret
          exact ⟨ret_int F.out.symm, HW.out⟩
        · have F1 := Lib.hid (F0.out.trans (if_neg h4))
          have d1 : decide (t.lo > t.hi) = false := decide_eq_false h4
          have d2 : decide (t.hi < t.lo) = false := decide_eq_false h4
          clear h1 h2 h3
          by_cases hx : t.next = -1
          · have F := Lib.hid (F1.out.trans (if_neg (fun hh => hh.1 hx)))
            have e3 : (t.next == -1) = true := by simpa using hx
            have e4 : (t.next != -1) = false := by simpa using hx
            go_wp2_with fail
            go_ret
            exact ⟨ret_int F.out.symm, HW.out⟩
          · have e3 : (t.next == -1) = false := by simpa using hx
            have e4 : (t.next != -1) = true := by simpa using hx
            cases h5 : isClock t.next with
            | false =>
              have F := Lib.hid (F1.out.trans (if_pos ⟨hx, h5⟩))
              clear hx
              go_wp2_with fail
              refine (xIsTime_any _ _).mono ?_
              rintro e wx ⟨rfl, rfl⟩
              rw [h5]
              go_wp2_with fail
              go_ret
              exact ⟨ret_int F.out.symm, HW.out⟩
            | true =>
              have F := Lib.hid (F1.out.trans (if_neg (fun hh => by rw [h5] at hh; exact absurd hh.2 (by decide))))
              clear hx
              go_wp2_with fail
              refine (xIsTime_any _ _).mono ?_
              rintro e wx ⟨rfl, rfl⟩
              rw [h5]
              go_wp2_with fail
              go_ret
              exact ⟨ret_int F.out.symm, HW.out⟩
end Go.Proofs.Ytolicafhbeiciaa
/- sort.Search: the first number from which on a function says yes. Condition: who said yes says yes for all later ones. -/
namespace Go.Proofs.Ytolicafhbeiciaa
open Go.RowKit Fs

set_option maxHeartbeats 1600000 in
set_option maxRecDepth 100000 in
theorem sortSearch_any (K : Nat) (p1 p2 : Value) (n : Nat) (p : Nat → Bool) (w : World) (hn : n ≤ 1000000000) (hcall : ∀ (args : Array Value) (w : World), (callFunc K args).run Try.prog w = .ok (.enter K args) w)
    (hf : ∀ w', Below w.heap.size w w' → ∀ i : Nat, i < n → Calls Try.prog K #[.int .i64 i, p1, p2] w' fun e w'' => e = .returned (.bool (p i)) ∧ Below w'.heap.size w' w'')
    (hmono : ∀ a b, a ≤ b → b < n → p a = true → p b = true) :
    Calls Try.prog 89 #[.int .i64 n, .func (.func K) #[] #[p1, p2]] w fun e w' => ∃ k : Nat, k ≤ n ∧ e = .returned (.int .i64 k) ∧ (∀ t, t < k → p t = false) ∧ (∀ t, k ≤ t → t < n → p t = true) ∧ Below w.heap.size w w' := by
  have HCALL := Lib.hid hcall
  have HF := Lib.hid hf
  have HM := Lib.hid hmono
  clear hcall hf hmono
  go_enter Try.func89, Try.ntmps89
  go_wp2_with fail
  go_loopw [5, 6] (fun s5 s6 wr => ∃ lo hi : Nat, s5 = .int .i64 lo ∧ s6 = .int .i64 hi ∧ lo ≤ hi ∧ hi ≤ n ∧ Hid ((∀ t, t < lo → p t = false) ∧ (∀ t, hi ≤ t → t < n → p t = true)) ∧ Hid (Below w.heap.size w wr)) (fun s5 s6 _ => (intOf s6).toNat - (intOf s5).toNat)
  case atStart => exact ⟨0, n, rfl, rfl, Nat.zero_le _, Nat.le_refl _, Lib.hid ⟨fun t ht => absurd ht (Nat.not_lt_zero _), fun t h1 h2 => by omega⟩, Lib.hid (Below.refl _ _)⟩
  case round =>
    obtain ⟨lo, hi, rfl, rfl, hlh, hin, I, HB⟩ := hrel
    by_cases hlt : lo < hi
    · obtain ⟨mid, hmid⟩ : ∃ mid : Nat, mid = (lo + hi) / 2 := ⟨_, rfl⟩
      have hm1 : lo ≤ mid := by omega
      have hm2 : mid < hi := by omega
      have hme : ((lo : Int) + (hi : Int)) / 2 = (mid : Int) := by omega
      have hc := HF.out wr HB.out mid (by omega)
      have HC := Lib.hid hc
      have hcall := HCALL.out
      clear hc hmid
      cases hp : p mid with
      | false =>
        have HP := Lib.hid hp
        clear hp
        go_wp2_with fail
        refine HC.out.mono ?_
        rintro e w2 ⟨rfl, hb2⟩
        rw [HP.out]
        go_wp2_with fail
        go_roundw
        case rel =>
          refine ⟨mid + 1, hi, by go_num, rfl, by omega, hin, Lib.hid ⟨fun t ht => ?_, I.out.2⟩, Lib.hid (HB.out.trans (hb2.mono HB.out.size))⟩
          cases h : p t with
          | false => rfl
          | true =>
            have := HM.out t mid (by omega) (by omega) h
            rw [HP.out] at this
            cases this
        case measure => simp [intOf]; omega
      | true =>
        have HP := Lib.hid hp
        clear hp
        go_wp2_with fail
        refine HC.out.mono ?_
        rintro e w2 ⟨rfl, hb2⟩
        rw [HP.out]
        go_wp2_with fail
        go_roundw
        case rel =>
          exact ⟨lo, mid, rfl, rfl, hm1, by omega, Lib.hid ⟨I.out.1, fun t ht htn => HM.out mid t ht htn HP.out⟩, Lib.hid (HB.out.trans (hb2.mono HB.out.size))⟩
        case measure => simp [intOf]; omega
    · obtain rfl : hi = lo := by omega
      clear hlt
      go_wp2_with fail
      go_ret
      exact ⟨hi, hin, rfl, I.out.1, I.out.2, HB.out⟩
end Go.Proofs.Ytolicafhbeiciaa

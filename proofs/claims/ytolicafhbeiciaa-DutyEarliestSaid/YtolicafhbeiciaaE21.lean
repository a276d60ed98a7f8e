/- The law of the earliest start: as specified; from no other time before is the trip surely allowed. No condition. -/
import Derived.Test.YtolicafhbeiciaaX16
import Derived.Test.YtolicafhbeiciaaE9
import Derived.Test.YtolicafhbeiciaaD26
import Derived.Test.YtolicafhbeiciaaX7
namespace Go.Proofs.Ytolicafhbeiciaa
open Go.RowKit Fs

def Fs.pmodD (n b : Int) : Int := if n.tmod b < 0 then n.tmod b + b else n.tmod b
theorem Fs.pmodD_in (n : Int) : 0 ≤ pmodD n 10000001 ∧ pmodD n 10000001 ≤ 10000000 := by
  unfold pmodD
  have h1 : n.tmod 10000001 < 10000001 := Int.tmod_lt_of_pos _ (by decide)
  have h2 : -10000001 < n.tmod 10000001 := Int.lt_tmod_of_pos _ (by decide)
  split <;> omega
set_option maxHeartbeats 1600000 in
theorem modD_any (n : Int) (w : World) :
    Calls Try.prog 39 #[.int .i64 n, .int .i64 10000001] w fun e w' => e = .returned (.int .i64 (pmodD n 10000001)) ∧ w = w' := by
  have h1 : n.tmod 10000001 < 10000001 := Int.tmod_lt_of_pos _ (by decide)
  have h2 : -10000001 < n.tmod 10000001 := Int.lt_tmod_of_pos _ (by decide)
  have HP := Lib.hid (show pmodD n 10000001 = if n.tmod 10000001 < 0 then n.tmod 10000001 + 10000001 else n.tmod 10000001 from rfl)
  have w2 : IntKind.i64.wrap (n.tmod 10000001 + 10000001) = n.tmod 10000001 + 10000001 := by rw [IntKind.wrap_i64]; omega
  by_cases hz : n.tmod 10000001 < 0
  · have F := Lib.hid (HP.out.trans (if_pos hz))
    have e1 : decide (n.tmod 10000001 < 0) = true := decide_eq_true hz
    clear hz
    go_enter Try.func39, Try.ntmps39
    go_wp2_with fail
    go_ret
    exact ⟨ret_int F.out.symm, rfl⟩
  · have F := Lib.hid (HP.out.trans (if_neg hz))
    have e1 : decide (n.tmod 10000001 < 0) = false := decide_eq_false hz
    clear hz
    go_enter Try.func39, Try.ntmps39
    go_wp2_with fail
    go_ret
    exact ⟨ret_int F.out.symm, rfl⟩
theorem RulesIn.under {B : Nat} {w w' : World} (h : Below B w w') {g : Nat} {R : DRules} (hg : g < B) (m : RulesIn w g R) : RulesIn w' g R :=
  ⟨(h.cell (p := ⟨g, 0, none⟩) hg).trans m.c0, (h.cell (p := ⟨g, 1, none⟩) hg).trans m.c1, (h.cell (p := ⟨g, 2, none⟩) hg).trans m.c2, (h.cell (p := ⟨g, 3, none⟩) hg).trans m.c3, (h.cell (p := ⟨g, 4, none⟩) hg).trans m.c4⟩
theorem Fs.early_ok {R : DRules} {l : List WRec} {t : DTrip} {z : Int} (hE : lawTripErr R l t = 0) (h0 : t.start ≤ z) (h1 : z ≤ 8640000000) : lawTripErr R l (fromAt t z) = 0 := by
  obtain ⟨a, b⟩ := lawTrip_ok hE
  obtain ⟨c1, c2, c3, c4, c5⟩ := dtrip_ok b
  exact lawTrip_zero a (dtrip_zero (t := fromAt t z) ⟨c1.len, by have := c1.from0; show 0 ≤ z; omega, h1, c1.next0, c1.next1, fun h => by have := c1.last h; show _ ≤ z; omega⟩ c2.1 c4 c3.2 c5)
set_option linter.unusedSimpArgs false in
set_option maxHeartbeats 12800000 in
set_option maxRecDepth 100000 in
theorem lawEarliest_any (R : DRules) (l : List WRec) (t : DTrip) (n : Int) (A : Option Addr) (c : Nat) (w : World) (h : ArrW w A l c) :
    Calls Try.prog 9 #[drulesV R, .slice A l.length c, caseV t n] w fun e w' => e = .returned (.bool true) ∧ Below w.heap.size w w' := by
  have b1 := h.le.1
  have b2 := h.le.2
  have HA := Lib.hid h
  clear h
  have BR := Lib.hid ((RulesIn.new w R 23).keep (Keep.alloc _ (.cells #[.int .i64 t.start, .int .i64 t.lo, .int .i64 t.hi, .int .i64 t.next, .int .i64 n] 62)))
  have BC := Lib.hid (show CaseIn ((w.alloc (.cells #[.int .i64 R.brk, .int .i64 R.rest, .int .i64 R.stint, .int .i64 R.shift, .int .i64 R.week] 23)).alloc (.cells #[.int .i64 t.start, .int .i64 t.lo, .int .i64 t.hi, .int .i64 t.next, .int .i64 n] 62)) (w.heap.size + 1) t n from ⟨cellNew1 _ _ _ _ 0, cellNew1 _ _ _ _ 1, cellNew1 _ _ _ _ 2, cellNew1 _ _ _ _ 3, cellNew1 _ _ _ _ 4⟩)
  go_enter Try.func9, Try.ntmps9
  go_upto_region 1 with fail
  generalize hwb : (w.alloc _).alloc _ = wb at *
  have HW : Hid (Below w.heap.size w wb) := by rw [← hwb]; exact Lib.hid (((Below.refl _ _).alloc (Nat.le_refl _) _).alloc (by simp) _)
  clear hwb
  obtain ⟨x0, x1, x2, x3, x4⟩ := BC.out
  obtain ⟨a0, a1, a2, a3, a4⟩ := BR.out
  go_wp2_with fail
  refine (lawAwake_any _).mono ?_
  rintro e' w1 ⟨rfl, hb1⟩
  replace HW := Lib.hid (HW.out.trans (hb1.mono HW.out.size))
  replace BC := Lib.hid (BC.out.keep (Keep.below hb1))
  replace BR := Lib.hid (BR.out.keep (Keep.below hb1))
  clear x0 x1 x2 x3 x4 a0 a1 a2 a3 a4
  clear hb1
  go_wp2_with fail
  refine (lawFew_any l A c _ (HA.out.keep (Keep.below HW.out))).mono ?_
  rintro e' wA ⟨rfl, rfl⟩
  cases hf : fewR l with
  | false =>
    go_wp2_with fail
    go_ret
    exact ⟨rfl, HW.out⟩
  | true =>
    have hl := (fewR_is hf).1
    have hl : l.length ≤ 42 := by omega
    clear hf
    obtain ⟨wA, hwA⟩ : ∃ wz, wz = w1 := ⟨_, rfl⟩
    subst hwA
    obtain ⟨x0, x1, x2, x3, x4⟩ := BC.out
    go_wp2_with fail
    clear x0 x1 x2 x3 x4
    have BT := Lib.hid (TripIn.new wA t 54)
    have hb8 : Below wA.heap.size wA (wA.alloc (.cells #[.int .i64 t.start, .int .i64 t.lo, .int .i64 t.hi, .int .i64 t.next] 54)) := (Below.refl _ _).alloc (Nat.le_refl _) _
    replace HW := Lib.hid (HW.out.trans (hb8.mono HW.out.size))
    replace BC := Lib.hid (BC.out.keep (Keep.below hb8))
    replace BR := Lib.hid (BR.out.keep (Keep.below hb8))
    clear hb8
    obtain ⟨gt, hgt⟩ : ∃ gt, gt = wA.heap.size := ⟨_, rfl⟩
    rw [← hgt] at BT
    rw [← hgt]
    generalize hwB : wA.alloc _ = wB at *
    clear hwB hgt
    obtain ⟨a0, a1, a2, a3, a4⟩ := BR.out
    obtain ⟨t0, t1, t2, t3⟩ := BT.out
    have HBd : Hid (Below wB.heap.size wB wB.drew) := Lib.hid (Below.refl _ _).drew
    have MK : Hid (∀ w', Below wB.heap.size wB w' → w'.cell? ⟨w.heap.size, 0, none⟩ = some (.int .i64 R.brk) ∧ w'.cell? ⟨w.heap.size, 1, none⟩ = some (.int .i64 R.rest) ∧ w'.cell? ⟨w.heap.size, 2, none⟩ = some (.int .i64 R.stint) ∧ w'.cell? ⟨w.heap.size, 3, none⟩ = some (.int .i64 R.shift) ∧ w'.cell? ⟨w.heap.size, 4, none⟩ = some (.int .i64 R.week) ∧ w'.cell? ⟨gt, 0, none⟩ = some (.int .i64 t.start) ∧ w'.cell? ⟨gt, 1, none⟩ = some (.int .i64 t.lo) ∧ w'.cell? ⟨gt, 2, none⟩ = some (.int .i64 t.hi) ∧ w'.cell? ⟨gt, 3, none⟩ = some (.int .i64 t.next) ∧ Hid (Below wB.heap.size wB w')) :=
      Lib.hid fun w' hw => ⟨Keep.below hw _ _ a0, Keep.below hw _ _ a1, Keep.below hw _ _ a2, Keep.below hw _ _ a3, Keep.below hw _ _ a4, Keep.below hw _ _ t0, Keep.below hw _ _ t1, Keep.below hw _ _ t2, Keep.below hw _ _ t3, Lib.hid hw⟩
    have KA : Hid (∀ w', Below wB.heap.size wB w' → ArrW w' A l c) := Lib.hid fun w' hw => (HA.out.keep (Keep.below (HW.out.trans (hw.mono HW.out.size))))
    refine wp_region_held_drew (S := fun w' => w'.cell? ⟨w.heap.size, 0, none⟩ = some (.int .i64 R.brk) ∧ w'.cell? ⟨w.heap.size, 1, none⟩ = some (.int .i64 R.rest) ∧ w'.cell? ⟨w.heap.size, 2, none⟩ = some (.int .i64 R.stint) ∧ w'.cell? ⟨w.heap.size, 3, none⟩ = some (.int .i64 R.shift) ∧ w'.cell? ⟨w.heap.size, 4, none⟩ = some (.int .i64 R.week) ∧ w'.cell? ⟨gt, 0, none⟩ = some (.int .i64 t.start) ∧ w'.cell? ⟨gt, 1, none⟩ = some (.int .i64 t.lo) ∧ w'.cell? ⟨gt, 2, none⟩ = some (.int .i64 t.hi) ∧ w'.cell? ⟨gt, 3, none⟩ = some (.int .i64 t.next) ∧ Hid (Below wB.heap.size wB w')) (by kernel_rfl) (MK.out _ HBd.out) (fun hHeld => ?_)
    refine wpAnyH_take (i := 0) (v := ?val0x1) rfl (by kernel_rfl) (by kernel_rfl) (by kernel_rfl) (fun _ _ _ h => h) (Or.inl ⟨by rfl, fun w9 hS9 => ?yields0x1⟩) (by assumption) ?later0x1
    case yields0x1 =>
      dsimp only at hS9
      go_simp
      try with_reducible rfl
    try simp only [Act.put, List.getElem_toArray, List.getElem_cons_succ, List.getElem_cons_zero, List.setIfInBounds_toArray, List.set_cons_zero, List.set_cons_succ]
    refine wpAnyH_take (i := 1) (v := ?val1x2) rfl (by kernel_rfl) (by kernel_rfl) (by kernel_rfl) (fun _ _ _ h => h) (Or.inl ⟨by rfl, fun w9 hS9 => ?yields1x2⟩) (by assumption) ?later1x2
    case yields1x2 =>
      dsimp only at hS9
      go_simp
      try with_reducible rfl
    try simp only [Act.put, List.getElem_toArray, List.getElem_cons_succ, List.getElem_cons_zero, List.setIfInBounds_toArray, List.set_cons_zero, List.set_cons_succ]
    refine wpAnyH_take (i := 3) (v := ?val3x3) rfl (by kernel_rfl) (by kernel_rfl) (by kernel_rfl) (fun _ _ _ h => h) (Or.inl ⟨by rfl, fun w9 hS9 => ?yields3x3⟩) (by assumption) ?later3x3
    case yields3x3 =>
      dsimp only at hS9
      go_simp
      try with_reducible rfl
    try simp only [Act.put, List.getElem_toArray, List.getElem_cons_succ, List.getElem_cons_zero, List.setIfInBounds_toArray, List.set_cons_zero, List.set_cons_succ]
    refine wpAnyH_ready (rs := [2]) (by kernel_rfl) (by simp) ?_
    refine AllReadyH.cons rfl (fun K hK => ?_) AllReadyH.nil
    go_simp
    go_at_call 20
    go_split_ands
    refine (rCopyRecords_any l A c _ (KA.out _ (Hid.out (by assumption))) (by omega)).mono ?_
    rintro e' wz5 ⟨v5, rfl, h5, hb1⟩
    obtain ⟨A5, c5, rfl, h6⟩ := own_recs h5
    have H5 := Lib.hid h6
    clear h5 h6
    go_wp2_with fail
    refine hK.out _ _ ?_ (fun hHeld => ?_)
    · (try dsimp only)
      (go_split_ands; exact MK.out _ (Below.trans (Hid.out (by assumption)) (hb1.mono (Hid.out (by assumption) : Below wB.heap.size wB _).size)))
    clear hK K
    try simp only [Act.put, List.getElem_toArray, List.getElem_cons_succ, List.getElem_cons_zero, List.setIfInBounds_toArray, List.set_cons_zero, List.set_cons_succ]
    refine wpAnyH_ready (rs := [4]) (by kernel_rfl) (by simp) ?_
    refine AllReadyH.cons rfl (fun K hK => ?_) AllReadyH.nil
    go_simp
    go_at_call 37
    go_split_ands
    refine (xEarliest_any R l A5 c5 t _ H5.out).mono ?_
    rintro e' wz7 ⟨⟨n1, z, rfl, hm⟩, hb1⟩
    have HM := Lib.hid hm
    clear H5 hm
    go_wp2_with fail
    refine hK.out _ _ ?_ (fun hHeld => ?_)
    · (try dsimp only)
      (go_split_ands; exact MK.out _ (Below.trans (Hid.out (by assumption)) (hb1.mono (Hid.out (by assumption) : Below wB.heap.size wB _).size)))
    clear hK K
    try simp only [Act.put, List.getElem_toArray, List.getElem_cons_succ, List.getElem_cons_zero, List.setIfInBounds_toArray, List.set_cons_zero, List.set_cons_succ]
    refine wpAnyH_take (i := 5) (v := ?val5x4) rfl (by kernel_rfl) (by kernel_rfl) (by kernel_rfl) (fun _ _ _ h => h) (Or.inl ⟨by rfl, fun w9 hS9 => ?yields5x4⟩) (by assumption) ?later5x4
    case yields5x4 =>
      dsimp only at hS9
      go_simp
      try with_reducible rfl
    try simp only [Act.put, List.getElem_toArray, List.getElem_cons_succ, List.getElem_cons_zero, List.setIfInBounds_toArray, List.set_cons_zero, List.set_cons_succ]
    refine wpAnyH_take (i := 6) (v := ?val6x5) rfl (by kernel_rfl) (by kernel_rfl) (by kernel_rfl) (fun _ _ _ h => h) (Or.inl ⟨by rfl, fun w9 hS9 => ?yields6x5⟩) (by assumption) ?later6x5
    case yields6x5 =>
      dsimp only at hS9
      go_simp
      try with_reducible rfl
    try simp only [Act.put, List.getElem_toArray, List.getElem_cons_succ, List.getElem_cons_zero, List.setIfInBounds_toArray, List.set_cons_zero, List.set_cons_succ]
    refine wpAnyH_take (i := 7) (v := ?val7x6) rfl (by kernel_rfl) (by kernel_rfl) (by kernel_rfl) (fun _ _ _ h => h) (Or.inl ⟨by rfl, fun w9 hS9 => ?yields7x6⟩) (by assumption) ?later7x6
    case yields7x6 =>
      dsimp only at hS9
      go_simp
      try with_reducible rfl
    try simp only [Act.put, List.getElem_toArray, List.getElem_cons_succ, List.getElem_cons_zero, List.setIfInBounds_toArray, List.set_cons_zero, List.set_cons_succ]
    refine wpAnyH_take (i := 8) (v := ?val8x7) rfl (by kernel_rfl) (by kernel_rfl) (by kernel_rfl) (fun _ _ _ h => h) (Or.inl ⟨by rfl, fun w9 hS9 => ?yields8x7⟩) (by assumption) ?later8x7
    case yields8x7 =>
      dsimp only at hS9
      go_simp
      try with_reducible rfl
    try simp only [Act.put, List.getElem_toArray, List.getElem_cons_succ, List.getElem_cons_zero, List.setIfInBounds_toArray, List.set_cons_zero, List.set_cons_succ]
    refine wpAnyH_take (i := 9) (v := ?val9x8) rfl (by kernel_rfl) (by kernel_rfl) (by kernel_rfl) (fun _ _ _ h => h) (Or.inl ⟨by rfl, fun w9 hS9 => ?yields9x8⟩) (by assumption) ?later9x8
    case yields9x8 =>
      dsimp only at hS9
      go_simp
      try with_reducible rfl
    try simp only [Act.put, List.getElem_toArray, List.getElem_cons_succ, List.getElem_cons_zero, List.setIfInBounds_toArray, List.set_cons_zero, List.set_cons_succ]
    refine wpAnyH_done (by kernel_rfl) ?_ _
    obtain ⟨-, -, -, -, -, -, -, -, -, HB⟩ := hHeld
    clear HBd MK
    clear KA
    replace HW := Lib.hid (HW.out.trans (HB.out.mono HW.out.size))
    replace BC := Lib.hid (BC.out.keep (Keep.below HB.out))
    replace BR := Lib.hid (BR.out.keep (Keep.below HB.out))
    replace BT := Lib.hid (BT.out.keep (Keep.below HB.out))
    clear HB
    clear a0 a1 a2 a3 a4 t0 t1 t2 t3
    obtain ⟨wC, hwC⟩ : ∃ wz, wz = wz7 := ⟨_, rfl⟩
    subst hwC
    obtain ⟨a0, a1, a2, a3, a4⟩ := BR.out
    obtain ⟨t0, t1, t2, t3⟩ := BT.out
    go_wp2_with fail
    refine (lawTripErr_any R l t A c _ (HA.out.keep (Keep.below HW.out))).mono ?_
    rintro e' w3 ⟨rfl, hb1⟩
    replace HW := Lib.hid (HW.out.trans (hb1.mono HW.out.size))
    replace BC := Lib.hid (BC.out.keep (Keep.below hb1))
    replace BR := Lib.hid (BR.out.keep (Keep.below hb1))
    replace BT := Lib.hid (BT.out.keep (Keep.below hb1))
    clear a0 a1 a2 a3 a4 t0 t1 t2 t3
    clear hb1
    by_cases he : lawTripErr R l t = 0
    · have HE := Lib.hid he
      have HT := Lib.hid (dtrip_ok (lawTrip_ok he).2)
      have HY := Lib.hid (ready_of (lawTrip_ok he).1 (lawTrip_ok he).2)
      have hrr := drules_is (both_ok (lawTrip_ok he).1).1
      obtain ⟨m, hea, hrest⟩ := HM.out.good he
      have HEA := Lib.hid hea
      rw [he]
      clear he HM hea
      obtain ⟨a0, a1, a2, a3, a4⟩ := BR.out
      obtain ⟨t0, t1, t2, t3⟩ := BT.out
      go_wp2_with fail
      refine (rEarliest_any R l t A c _ (HA.out.keep (Keep.below HW.out)) HY.out hrr.2.2.1 hrr.2.2.2).mono ?_
      rintro e' w4 ⟨⟨m', rfl, hm'⟩, hb1⟩
      replace HW := Lib.hid (HW.out.trans (hb1.mono HW.out.size))
      replace BC := Lib.hid (BC.out.keep (Keep.below hb1))
      replace BR := Lib.hid (BR.out.keep (Keep.below hb1))
      replace BT := Lib.hid (BT.out.keep (Keep.below hb1))
      obtain rfl := HEA.out.same hm'
      clear hm'
      clear a0 a1 a2 a3 a4 t0 t1 t2 t3
      clear hb1
      have hst := HT.out.1.from0
      have hst1 := HT.out.1.from1
      have HYS := Lib.hid HEA.out.yes
      rcases hrest with ⟨hm1, rfl, rfl⟩ | ⟨hm1, hn1, rfl⟩
      · have y8 : decide (m < 0) = true := decide_eq_true (by omega)
        have y9 : decide (m ≥ 0) = false := decide_eq_false (by omega)
        have y7 : decide (0 ≤ m) = false := decide_eq_false (by omega)
        obtain ⟨t0, t1, t2, t3⟩ := BT.out
        go_wp2_with fail
        clear t0 t1 t2 t3
        have p0 := cellNew w4 #[.int .i64 t.start, .int .i64 t.lo, .int .i64 t.hi, .int .i64 t.next] 54 0
        have p1 := cellNew w4 #[.int .i64 t.start, .int .i64 t.lo, .int .i64 t.hi, .int .i64 t.next] 54 1
        have p2 := cellNew w4 #[.int .i64 t.start, .int .i64 t.lo, .int .i64 t.hi, .int .i64 t.next] 54 2
        have p3 := cellNew w4 #[.int .i64 t.start, .int .i64 t.lo, .int .i64 t.hi, .int .i64 t.next] 54 3
        have pf := frozenNew w4 #[.int .i64 t.start, .int .i64 t.lo, .int .i64 t.hi, .int .i64 t.next] 54 0
        have HGB := Lib.hid (show w.heap.size < w4.heap.size from World.block_lt_of_cell? w4 _ BR.out.c0)
        have hb8 : Below w4.heap.size w4 (w4.alloc (.cells #[.int .i64 t.start, .int .i64 t.lo, .int .i64 t.hi, .int .i64 t.next] 54)) := (Below.refl _ _).alloc (Nat.le_refl _) _
        replace HW := Lib.hid (HW.out.trans (hb8.mono HW.out.size))
        replace BC := Lib.hid (BC.out.keep (Keep.below hb8))
        replace BR := Lib.hid (BR.out.keep (Keep.below hb8))
        replace BT := Lib.hid (BT.out.keep (Keep.below hb8))
        clear hb8
        obtain ⟨gb, hgb⟩ : ∃ gb, gb = w4.heap.size := ⟨_, rfl⟩
        rw [← hgb] at HGB
        rw [← hgb] at p0 p1 p2 p3 pf
        rw [← hgb]
        have HGL := Lib.hid (show gb < (w4.alloc (.cells #[.int .i64 t.start, .int .i64 t.lo, .int .i64 t.hi, .int .i64 t.next] 54)).heap.size by rw [hgb]; simp)
        generalize hwD : w4.alloc _ = wD at *
        clear hwD hgb
        obtain ⟨t0, t1, t2, t3⟩ := BT.out
        obtain ⟨x0, x1, x2, x3, x4⟩ := BC.out
        have HBd : Hid (Below wD.heap.size wD wD.drew) := Lib.hid (Below.refl _ _).drew
        have MK : Hid (∀ w', Below wD.heap.size wD w' → w'.cell? ⟨gt, 0, none⟩ = some (.int .i64 t.start) ∧ w'.cell? ⟨w.heap.size + 1, 4, none⟩ = some (.int .i64 n) ∧ Hid (Below wD.heap.size wD w')) :=
          Lib.hid fun w' hw => ⟨Keep.below hw _ _ t0, Keep.below hw _ _ x4, Lib.hid hw⟩
        have hpm := pmodD_in n
        obtain ⟨d, hd⟩ : ∃ d, d = pmodD n 10000001 := ⟨_, rfl⟩
        have HD := Lib.hid hd
        rw [← hd] at hpm
        clear hd
        obtain ⟨z', hz'⟩ : ∃ z', z' = t.start + d := ⟨_, rfl⟩
        have hw5 : IntKind.i64.wrap (t.start + d) = z' := by rw [hz', IntKind.wrap_i64]; omega
        have HZ' := Lib.hid hz'
        have hzs : t.start ≤ z' := by omega
        clear hz'
        refine heldPeel (S := fun w' => w'.cell? ⟨gt, 0, none⟩ = some (.int .i64 t.start) ∧ w'.cell? ⟨w.heap.size + 1, 4, none⟩ = some (.int .i64 n) ∧ Hid (Below wD.heap.size wD w')) (l := [_, _, _, _, _, _, _]) (by kernel_rfl) (by kernel_rfl) (MK.out _ HBd.out) (fun hHeld => ?_)
        refine wpAnyH_take (i := 0) (v := ?val0x9) rfl (by kernel_rfl) (by kernel_rfl) (by kernel_rfl) (fun _ _ _ h => h) (Or.inl ⟨by rfl, fun w9 hS9 => ?yields0x9⟩) (by assumption) ?later0x9
        case yields0x9 =>
          dsimp only at hS9
          go_simp
          try with_reducible rfl
        try simp only [Act.put, List.getElem_toArray, List.getElem_cons_succ, List.getElem_cons_zero, List.setIfInBounds_toArray, List.set_cons_zero, List.set_cons_succ]
        refine wpAnyH_take (i := 1) (v := ?val1x10) rfl (by kernel_rfl) (by kernel_rfl) (by kernel_rfl) (fun _ _ _ h => h) (Or.inl ⟨by rfl, fun w9 hS9 => ?yields1x10⟩) (by assumption) ?later1x10
        case yields1x10 =>
          dsimp only at hS9
          go_simp
          try with_reducible rfl
        try simp only [Act.put, List.getElem_toArray, List.getElem_cons_succ, List.getElem_cons_zero, List.setIfInBounds_toArray, List.set_cons_zero, List.set_cons_succ]
        refine wpAnyH_take (i := 2) (v := ?val2x11) rfl (by kernel_rfl) (by kernel_rfl) (by kernel_rfl) (fun _ _ _ h => h) (Or.inl ⟨by rfl, fun w9 hS9 => ?yields2x11⟩) (by assumption) ?later2x11
        case yields2x11 =>
          dsimp only at hS9
          go_simp
          try with_reducible rfl
        try simp only [Act.put, List.getElem_toArray, List.getElem_cons_succ, List.getElem_cons_zero, List.setIfInBounds_toArray, List.set_cons_zero, List.set_cons_succ]
        refine wpAnyH_take (i := 3) (v := ?val3x12) rfl (by kernel_rfl) (by kernel_rfl) (by kernel_rfl) (fun _ _ _ h => h) (Or.inl ⟨by rfl, fun w9 hS9 => ?yields3x12⟩) (by assumption) ?later3x12
        case yields3x12 =>
          dsimp only at hS9
          go_simp
          try with_reducible rfl
        try simp only [Act.put, List.getElem_toArray, List.getElem_cons_succ, List.getElem_cons_zero, List.setIfInBounds_toArray, List.set_cons_zero, List.set_cons_succ]
        refine wpAnyH_ready (rs := [4]) (by kernel_rfl) (by simp) ?_
        refine AllReadyH.cons rfl (fun K hK => ?_) AllReadyH.nil
        go_simp
        go_at_call 39
        go_split_ands
        refine (modD_any n _).mono ?_
        rintro e' wz5 ⟨rfl, rfl⟩
        rw [← HD.out]
        go_wp2_with fail
        refine hK.out _ _ ?_ (fun hHeld => ?_)
        · (try dsimp only)
          exact MK.out _ HBd.out
        clear hK K
        try simp only [Act.put, List.getElem_toArray, List.getElem_cons_succ, List.getElem_cons_zero, List.setIfInBounds_toArray, List.set_cons_zero, List.set_cons_succ]
        refine wpAnyH_take (i := 5) (v := ?val5x13) rfl (by kernel_rfl) (by kernel_rfl) (by kernel_rfl) (fun _ _ _ h => h) (Or.inl ⟨by rfl, fun w9 hS9 => ?yields5x13⟩) (by assumption) ?later5x13
        case yields5x13 =>
          dsimp only at hS9
          go_simp
          try with_reducible rfl
        try simp only [Act.put, List.getElem_toArray, List.getElem_cons_succ, List.getElem_cons_zero, List.setIfInBounds_toArray, List.set_cons_zero, List.set_cons_succ]
        refine wpAnyH_take (i := 6) (v := ?val6x14) rfl (by kernel_rfl) (by kernel_rfl) (by kernel_rfl) (fun _ _ _ h => h) (Or.inl ⟨by rfl, fun w9 hS9 => ?yields6x14⟩) (by assumption) ?later6x14
        case yields6x14 =>
          dsimp only at hS9
          go_simp
          try with_reducible rfl
        try simp only [Act.put, List.getElem_toArray, List.getElem_cons_succ, List.getElem_cons_zero, List.setIfInBounds_toArray, List.set_cons_zero, List.set_cons_succ]
        refine wpAnyH_done (by kernel_rfl) ?_ _
        unfold Peeled
        dsimp only
        clear hHeld MK HBd t0 t1 t2 t3 x0 x1 x2 x3 x4 hw5
        have q0 : (wD.setCell ⟨gb, 0, none⟩ (.int .i64 z')).drew.cell? ⟨gb, 0, none⟩ = some (.int .i64 z') := World.cell?_setCell_same _ _ _ p0
        have q1 : (wD.setCell ⟨gb, 0, none⟩ (.int .i64 z')).drew.cell? ⟨gb, 1, none⟩ = some (.int .i64 t.lo) := (World.cell?_setCell_other _ _ _ _ (by simp)).trans p1
        have q2 : (wD.setCell ⟨gb, 0, none⟩ (.int .i64 z')).drew.cell? ⟨gb, 2, none⟩ = some (.int .i64 t.hi) := (World.cell?_setCell_other _ _ _ _ (by simp)).trans p2
        have q3 : (wD.setCell ⟨gb, 0, none⟩ (.int .i64 z')).drew.cell? ⟨gb, 3, none⟩ = some (.int .i64 t.next) := (World.cell?_setCell_other _ _ _ _ (by simp)).trans p3
        have HUN : Hid (Below gb wD (wD.setCell ⟨gb, 0, none⟩ (.int .i64 z')).drew) := Lib.hid ((Below.refl gb wD).setCell (p := ⟨gb, 0, none⟩) (Nat.le_refl _) _).drew
        replace BR := Lib.hid (BR.out.under HUN.out HGB.out)
        replace HW := Lib.hid (HW.out.trans (HUN.out.mono (by have := HGB.out; omega)))
        clear HUN p1 p2 p3 BC BT HGL
        by_cases hz : z' ≤ 8640000000
        · have e1 : decide (z' > 8640000000) = false := decide_eq_false (by omega)
          have e2 : decide (8640000000 < z') = false := decide_eq_false (by omega)
          have HQ := Lib.hid (early_ok HE.out hzs hz)
          go_wp2_with fail
          generalize hwE : World.drew (World.setCell _ _ _) = wE at *
          clear hwE p0 pf
          obtain ⟨a0, a1, a2, a3, a4⟩ := BR.out
          have HBd : Hid (Below wE.heap.size wE wE.drew) := Lib.hid (Below.refl _ _).drew
          have MK : Hid (∀ w', Below wE.heap.size wE w' → w'.cell? ⟨w.heap.size, 0, none⟩ = some (.int .i64 R.brk) ∧ w'.cell? ⟨w.heap.size, 1, none⟩ = some (.int .i64 R.rest) ∧ w'.cell? ⟨w.heap.size, 2, none⟩ = some (.int .i64 R.stint) ∧ w'.cell? ⟨w.heap.size, 3, none⟩ = some (.int .i64 R.shift) ∧ w'.cell? ⟨w.heap.size, 4, none⟩ = some (.int .i64 R.week) ∧ w'.cell? ⟨gb, 0, none⟩ = some (.int .i64 z') ∧ w'.cell? ⟨gb, 1, none⟩ = some (.int .i64 t.lo) ∧ w'.cell? ⟨gb, 2, none⟩ = some (.int .i64 t.hi) ∧ w'.cell? ⟨gb, 3, none⟩ = some (.int .i64 t.next) ∧ Hid (Below wE.heap.size wE w')) :=
            Lib.hid fun w' hw => ⟨Keep.below hw _ _ a0, Keep.below hw _ _ a1, Keep.below hw _ _ a2, Keep.below hw _ _ a3, Keep.below hw _ _ a4, Keep.below hw _ _ q0, Keep.below hw _ _ q1, Keep.below hw _ _ q2, Keep.below hw _ _ q3, Lib.hid hw⟩
          have KA : Hid (∀ w', Below wE.heap.size wE w' → ArrW w' A l c) := Lib.hid fun w' hw => (HA.out.keep (Keep.below (HW.out.trans (hw.mono HW.out.size))))
          refine wp_region_held_drew (S := fun w' => w'.cell? ⟨w.heap.size, 0, none⟩ = some (.int .i64 R.brk) ∧ w'.cell? ⟨w.heap.size, 1, none⟩ = some (.int .i64 R.rest) ∧ w'.cell? ⟨w.heap.size, 2, none⟩ = some (.int .i64 R.stint) ∧ w'.cell? ⟨w.heap.size, 3, none⟩ = some (.int .i64 R.shift) ∧ w'.cell? ⟨w.heap.size, 4, none⟩ = some (.int .i64 R.week) ∧ w'.cell? ⟨gb, 0, none⟩ = some (.int .i64 z') ∧ w'.cell? ⟨gb, 1, none⟩ = some (.int .i64 t.lo) ∧ w'.cell? ⟨gb, 2, none⟩ = some (.int .i64 t.hi) ∧ w'.cell? ⟨gb, 3, none⟩ = some (.int .i64 t.next) ∧ Hid (Below wE.heap.size wE w')) (by kernel_rfl) (MK.out _ HBd.out) (fun hHeld => ?_)
          refine wpAnyH_take (i := 0) (v := ?val0x15) rfl (by kernel_rfl) (by kernel_rfl) (by kernel_rfl) (fun _ _ _ h => h) (Or.inl ⟨by rfl, fun w9 hS9 => ?yields0x15⟩) (by assumption) ?later0x15
          case yields0x15 =>
            dsimp only at hS9
            go_simp
            try with_reducible rfl
          try simp only [Act.put, List.getElem_toArray, List.getElem_cons_succ, List.getElem_cons_zero, List.setIfInBounds_toArray, List.set_cons_zero, List.set_cons_succ]
          refine wpAnyH_take (i := 1) (v := ?val1x16) rfl (by kernel_rfl) (by kernel_rfl) (by kernel_rfl) (fun _ _ _ h => h) (Or.inl ⟨by rfl, fun w9 hS9 => ?yields1x16⟩) (by assumption) ?later1x16
          case yields1x16 =>
            dsimp only at hS9
            go_simp
            try with_reducible rfl
          try simp only [Act.put, List.getElem_toArray, List.getElem_cons_succ, List.getElem_cons_zero, List.setIfInBounds_toArray, List.set_cons_zero, List.set_cons_succ]
          refine wpAnyH_take (i := 3) (v := ?val3x17) rfl (by kernel_rfl) (by kernel_rfl) (by kernel_rfl) (fun _ _ _ h => h) (Or.inl ⟨by rfl, fun w9 hS9 => ?yields3x17⟩) (by assumption) ?later3x17
          case yields3x17 =>
            dsimp only at hS9
            go_simp
            try with_reducible rfl
          try simp only [Act.put, List.getElem_toArray, List.getElem_cons_succ, List.getElem_cons_zero, List.setIfInBounds_toArray, List.set_cons_zero, List.set_cons_succ]
          refine wpAnyH_ready (rs := [2]) (by kernel_rfl) (by simp) ?_
          refine AllReadyH.cons rfl (fun K hK => ?_) AllReadyH.nil
          go_simp
          go_at_call 20
          go_split_ands
          refine (rCopyRecords_any l A c _ (KA.out _ (Hid.out (by assumption))) (by omega)).mono ?_
          rintro e' wz5 ⟨v5, rfl, h5, hb1⟩
          obtain ⟨A5, c5, rfl, h6⟩ := own_recs h5
          have H5 := Lib.hid h6
          clear h5 h6
          go_wp2_with fail
          refine hK.out _ _ ?_ (fun hHeld => ?_)
          · (try dsimp only)
            (go_split_ands; exact MK.out _ (Below.trans (Hid.out (by assumption)) (hb1.mono (Hid.out (by assumption) : Below wE.heap.size wE _).size)))
          clear hK K
          try simp only [Act.put, List.getElem_toArray, List.getElem_cons_succ, List.getElem_cons_zero, List.setIfInBounds_toArray, List.set_cons_zero, List.set_cons_succ]
          refine wpAnyH_ready (rs := [4]) (by kernel_rfl) (by simp) ?_
          refine AllReadyH.cons rfl (fun K hK => ?_) AllReadyH.nil
          go_simp
          go_at_call 31
          go_split_ands
          refine (xAllowed_any R l A5 c5 (fromAt t z') _ H5.out).mono ?_
          rintro e' wz7 ⟨rfl, hb1⟩
          clear H5
          go_wp2_with fail
          refine hK.out _ _ ?_ (fun hHeld => ?_)
          · (try dsimp only)
            (go_split_ands; exact MK.out _ (Below.trans (Hid.out (by assumption)) (hb1.mono (Hid.out (by assumption) : Below wE.heap.size wE _).size)))
          clear hK K
          try simp only [Act.put, List.getElem_toArray, List.getElem_cons_succ, List.getElem_cons_zero, List.setIfInBounds_toArray, List.set_cons_zero, List.set_cons_succ]
          refine wpAnyH_take (i := 5) (v := ?val5x18) rfl (by kernel_rfl) (by kernel_rfl) (by kernel_rfl) (fun _ _ _ h => h) (Or.inl ⟨by rfl, fun w9 hS9 => ?yields5x18⟩) (by assumption) ?later5x18
          case yields5x18 =>
            dsimp only at hS9
            go_simp
            try with_reducible rfl
          try simp only [Act.put, List.getElem_toArray, List.getElem_cons_succ, List.getElem_cons_zero, List.setIfInBounds_toArray, List.set_cons_zero, List.set_cons_succ]
          refine wpAnyH_take (i := 6) (v := ?val6x19) rfl (by kernel_rfl) (by kernel_rfl) (by kernel_rfl) (fun _ _ _ h => h) (Or.inl ⟨by rfl, fun w9 hS9 => ?yields6x19⟩) (by assumption) ?later6x19
          case yields6x19 =>
            dsimp only at hS9
            go_simp
            try with_reducible rfl
          try simp only [Act.put, List.getElem_toArray, List.getElem_cons_succ, List.getElem_cons_zero, List.setIfInBounds_toArray, List.set_cons_zero, List.set_cons_succ]
          refine wpAnyH_take (i := 7) (v := ?val7x20) rfl (by kernel_rfl) (by kernel_rfl) (by kernel_rfl) (fun _ _ _ h => h) (Or.inl ⟨by rfl, fun w9 hS9 => ?yields7x20⟩) (by assumption) ?later7x20
          case yields7x20 =>
            dsimp only at hS9
            go_simp
            try with_reducible rfl
          try simp only [Act.put, List.getElem_toArray, List.getElem_cons_succ, List.getElem_cons_zero, List.setIfInBounds_toArray, List.set_cons_zero, List.set_cons_succ]
          refine wpAnyH_take (i := 8) (v := ?val8x21) rfl (by kernel_rfl) (by kernel_rfl) (by kernel_rfl) (fun _ _ _ h => h) (Or.inl ⟨by rfl, fun w9 hS9 => ?yields8x21⟩) (by assumption) ?later8x21
          case yields8x21 =>
            dsimp only at hS9
            go_simp
            try with_reducible rfl
          try simp only [Act.put, List.getElem_toArray, List.getElem_cons_succ, List.getElem_cons_zero, List.setIfInBounds_toArray, List.set_cons_zero, List.set_cons_succ]
          refine wpAnyH_take (i := 9) (v := ?val9x22) rfl (by kernel_rfl) (by kernel_rfl) (by kernel_rfl) (fun _ _ _ h => h) (Or.inl ⟨by rfl, fun w9 hS9 => ?yields9x22⟩) (by assumption) ?later9x22
          case yields9x22 =>
            dsimp only at hS9
            go_simp
            try with_reducible rfl
          try simp only [Act.put, List.getElem_toArray, List.getElem_cons_succ, List.getElem_cons_zero, List.setIfInBounds_toArray, List.set_cons_zero, List.set_cons_succ]
          refine wpAnyH_take (i := 10) (v := ?val10x23) rfl (by kernel_rfl) (by kernel_rfl) (by kernel_rfl) (fun _ _ _ h => h) (Or.inl ⟨by rfl, fun w9 hS9 => ?yields10x23⟩) (by assumption) ?later10x23
          case yields10x23 =>
            dsimp only at hS9
            go_simp
            try with_reducible rfl
          try simp only [Act.put, List.getElem_toArray, List.getElem_cons_succ, List.getElem_cons_zero, List.setIfInBounds_toArray, List.set_cons_zero, List.set_cons_succ]
          refine wpAnyH_take (i := 11) (v := ?val11x24) rfl (by kernel_rfl) (by kernel_rfl) (by kernel_rfl) (fun _ _ _ h => h) (Or.inl ⟨by rfl, fun w9 hS9 => ?yields11x24⟩) (by assumption) ?later11x24
          case yields11x24 =>
            dsimp only at hS9
            go_simp
            try with_reducible rfl
          try simp only [Act.put, List.getElem_toArray, List.getElem_cons_succ, List.getElem_cons_zero, List.setIfInBounds_toArray, List.set_cons_zero, List.set_cons_succ]
          refine wpAnyH_done (by kernel_rfl) ?_ _
          obtain ⟨-, -, -, -, -, -, -, -, -, HB⟩ := hHeld
          clear HBd MK
          clear KA
          have r0 := Keep.below HB.out _ _ q0
          replace HW := Lib.hid (HW.out.trans (HB.out.mono HW.out.size))
          replace BR := Lib.hid (BR.out.keep (Keep.below HB.out))
          clear HB q0 q1 q2 q3
          clear a0 a1 a2 a3 a4
          rw [allowed_good HQ.out, HQ.out]
          have HTW := Lib.hid (allowed_two (R := R) (l := l) (t := fromAt t z'))
          obtain ⟨a, ha⟩ : ∃ a, a = (allowed R l (fromAt t z')).1 := ⟨_, rfl⟩
          rw [← ha] at HTW
          rw [← ha]
          clear ha
          by_cases h2 : a = 2
          · have hbr := HTW.out.1 h2
            have hin : m ≠ -1 ∧ m ≤ z' := by
              have hno := HEA.out.no z' hzs (by unfold endOf; have := HZ'.out; omega)
              refine ⟨fun e => hno (.inl e) hbr, Int.not_lt.1 fun e => hno (.inr e) hbr⟩
            exact absurd hm1 hin.1
          · have y1 : (a == 2) = false := by simpa using h2
            have y2 : (a != 2) = true := by simpa using h2
            clear h2
            go_wp2_with fail
            go_ret
            exact ⟨rfl, HW.out⟩
        · have e1 : decide (z' > 8640000000) = true := decide_eq_true (by omega)
          have e2 : decide (8640000000 < z') = true := decide_eq_true (by omega)
          go_wp2_with fail
          go_ret
          exact ⟨rfl, HW.out⟩
      · have hn2 := hn1.symm
        subst hn2
        clear hn1
        have hm2 := (HYS.out hm1).1
        have y8 : decide (m < 0) = false := decide_eq_false (by omega)
        have y9 : decide (m ≥ 0) = true := decide_eq_true (by omega)
        have y7 : decide (0 ≤ m) = true := decide_eq_true (by omega)
        obtain ⟨t0, t1, t2, t3⟩ := BT.out
        go_wp2_with fail
        clear t0 t1 t2 t3
        have p0 := cellNew w4 #[.int .i64 t.start, .int .i64 t.lo, .int .i64 t.hi, .int .i64 t.next] 54 0
        have p1 := cellNew w4 #[.int .i64 t.start, .int .i64 t.lo, .int .i64 t.hi, .int .i64 t.next] 54 1
        have p2 := cellNew w4 #[.int .i64 t.start, .int .i64 t.lo, .int .i64 t.hi, .int .i64 t.next] 54 2
        have p3 := cellNew w4 #[.int .i64 t.start, .int .i64 t.lo, .int .i64 t.hi, .int .i64 t.next] 54 3
        have pf := frozenNew w4 #[.int .i64 t.start, .int .i64 t.lo, .int .i64 t.hi, .int .i64 t.next] 54 0
        have HGB := Lib.hid (show w.heap.size < w4.heap.size from World.block_lt_of_cell? w4 _ BR.out.c0)
        have hb8 : Below w4.heap.size w4 (w4.alloc (.cells #[.int .i64 t.start, .int .i64 t.lo, .int .i64 t.hi, .int .i64 t.next] 54)) := (Below.refl _ _).alloc (Nat.le_refl _) _
        replace HW := Lib.hid (HW.out.trans (hb8.mono HW.out.size))
        replace BC := Lib.hid (BC.out.keep (Keep.below hb8))
        replace BR := Lib.hid (BR.out.keep (Keep.below hb8))
        replace BT := Lib.hid (BT.out.keep (Keep.below hb8))
        clear hb8
        obtain ⟨gb, hgb⟩ : ∃ gb, gb = w4.heap.size := ⟨_, rfl⟩
        rw [← hgb] at HGB
        rw [← hgb] at p0 p1 p2 p3 pf
        rw [← hgb]
        have HGL := Lib.hid (show gb < (w4.alloc (.cells #[.int .i64 t.start, .int .i64 t.lo, .int .i64 t.hi, .int .i64 t.next] 54)).heap.size by rw [hgb]; simp)
        generalize hwD : w4.alloc _ = wD at *
        clear hwD hgb
        obtain ⟨t0, t1, t2, t3⟩ := BT.out
        obtain ⟨x0, x1, x2, x3, x4⟩ := BC.out
        have HBd : Hid (Below wD.heap.size wD wD.drew) := Lib.hid (Below.refl _ _).drew
        have MK : Hid (∀ w', Below wD.heap.size wD w' → w'.cell? ⟨gt, 0, none⟩ = some (.int .i64 t.start) ∧ w'.cell? ⟨w.heap.size + 1, 4, none⟩ = some (.int .i64 n) ∧ Hid (Below wD.heap.size wD w')) :=
          Lib.hid fun w' hw => ⟨Keep.below hw _ _ t0, Keep.below hw _ _ x4, Lib.hid hw⟩
        have hpm := pmodD_in n
        obtain ⟨d, hd⟩ : ∃ d, d = pmodD n 10000001 := ⟨_, rfl⟩
        have HD := Lib.hid hd
        rw [← hd] at hpm
        clear hd
        obtain ⟨z', hz'⟩ : ∃ z', z' = t.start + d := ⟨_, rfl⟩
        have hw5 : IntKind.i64.wrap (t.start + d) = z' := by rw [hz', IntKind.wrap_i64]; omega
        have HZ' := Lib.hid hz'
        have hzs : t.start ≤ z' := by omega
        clear hz'
        refine heldPeel (S := fun w' => w'.cell? ⟨gt, 0, none⟩ = some (.int .i64 t.start) ∧ w'.cell? ⟨w.heap.size + 1, 4, none⟩ = some (.int .i64 n) ∧ Hid (Below wD.heap.size wD w')) (l := [_, _, _, _, _, _, _]) (by kernel_rfl) (by kernel_rfl) (MK.out _ HBd.out) (fun hHeld => ?_)
        refine wpAnyH_take (i := 0) (v := ?val0x25) rfl (by kernel_rfl) (by kernel_rfl) (by kernel_rfl) (fun _ _ _ h => h) (Or.inl ⟨by rfl, fun w9 hS9 => ?yields0x25⟩) (by assumption) ?later0x25
        case yields0x25 =>
          dsimp only at hS9
          go_simp
          try with_reducible rfl
        try simp only [Act.put, List.getElem_toArray, List.getElem_cons_succ, List.getElem_cons_zero, List.setIfInBounds_toArray, List.set_cons_zero, List.set_cons_succ]
        refine wpAnyH_take (i := 1) (v := ?val1x26) rfl (by kernel_rfl) (by kernel_rfl) (by kernel_rfl) (fun _ _ _ h => h) (Or.inl ⟨by rfl, fun w9 hS9 => ?yields1x26⟩) (by assumption) ?later1x26
        case yields1x26 =>
          dsimp only at hS9
          go_simp
          try with_reducible rfl
        try simp only [Act.put, List.getElem_toArray, List.getElem_cons_succ, List.getElem_cons_zero, List.setIfInBounds_toArray, List.set_cons_zero, List.set_cons_succ]
        refine wpAnyH_take (i := 2) (v := ?val2x27) rfl (by kernel_rfl) (by kernel_rfl) (by kernel_rfl) (fun _ _ _ h => h) (Or.inl ⟨by rfl, fun w9 hS9 => ?yields2x27⟩) (by assumption) ?later2x27
        case yields2x27 =>
          dsimp only at hS9
          go_simp
          try with_reducible rfl
        try simp only [Act.put, List.getElem_toArray, List.getElem_cons_succ, List.getElem_cons_zero, List.setIfInBounds_toArray, List.set_cons_zero, List.set_cons_succ]
        refine wpAnyH_take (i := 3) (v := ?val3x28) rfl (by kernel_rfl) (by kernel_rfl) (by kernel_rfl) (fun _ _ _ h => h) (Or.inl ⟨by rfl, fun w9 hS9 => ?yields3x28⟩) (by assumption) ?later3x28
        case yields3x28 =>
          dsimp only at hS9
          go_simp
          try with_reducible rfl
        try simp only [Act.put, List.getElem_toArray, List.getElem_cons_succ, List.getElem_cons_zero, List.setIfInBounds_toArray, List.set_cons_zero, List.set_cons_succ]
        refine wpAnyH_ready (rs := [4]) (by kernel_rfl) (by simp) ?_
        refine AllReadyH.cons rfl (fun K hK => ?_) AllReadyH.nil
        go_simp
        go_at_call 39
        go_split_ands
        refine (modD_any n _).mono ?_
        rintro e' wz5 ⟨rfl, rfl⟩
        rw [← HD.out]
        go_wp2_with fail
        refine hK.out _ _ ?_ (fun hHeld => ?_)
        · (try dsimp only)
          exact MK.out _ HBd.out
        clear hK K
        try simp only [Act.put, List.getElem_toArray, List.getElem_cons_succ, List.getElem_cons_zero, List.setIfInBounds_toArray, List.set_cons_zero, List.set_cons_succ]
        refine wpAnyH_take (i := 5) (v := ?val5x29) rfl (by kernel_rfl) (by kernel_rfl) (by kernel_rfl) (fun _ _ _ h => h) (Or.inl ⟨by rfl, fun w9 hS9 => ?yields5x29⟩) (by assumption) ?later5x29
        case yields5x29 =>
          dsimp only at hS9
          go_simp
          try with_reducible rfl
        try simp only [Act.put, List.getElem_toArray, List.getElem_cons_succ, List.getElem_cons_zero, List.setIfInBounds_toArray, List.set_cons_zero, List.set_cons_succ]
        refine wpAnyH_take (i := 6) (v := ?val6x30) rfl (by kernel_rfl) (by kernel_rfl) (by kernel_rfl) (fun _ _ _ h => h) (Or.inl ⟨by rfl, fun w9 hS9 => ?yields6x30⟩) (by assumption) ?later6x30
        case yields6x30 =>
          dsimp only at hS9
          go_simp
          try with_reducible rfl
        try simp only [Act.put, List.getElem_toArray, List.getElem_cons_succ, List.getElem_cons_zero, List.setIfInBounds_toArray, List.set_cons_zero, List.set_cons_succ]
        refine wpAnyH_done (by kernel_rfl) ?_ _
        unfold Peeled
        dsimp only
        clear hHeld MK HBd t0 t1 t2 t3 x0 x1 x2 x3 x4 hw5
        have q0 : (wD.setCell ⟨gb, 0, none⟩ (.int .i64 z')).drew.cell? ⟨gb, 0, none⟩ = some (.int .i64 z') := World.cell?_setCell_same _ _ _ p0
        have q1 : (wD.setCell ⟨gb, 0, none⟩ (.int .i64 z')).drew.cell? ⟨gb, 1, none⟩ = some (.int .i64 t.lo) := (World.cell?_setCell_other _ _ _ _ (by simp)).trans p1
        have q2 : (wD.setCell ⟨gb, 0, none⟩ (.int .i64 z')).drew.cell? ⟨gb, 2, none⟩ = some (.int .i64 t.hi) := (World.cell?_setCell_other _ _ _ _ (by simp)).trans p2
        have q3 : (wD.setCell ⟨gb, 0, none⟩ (.int .i64 z')).drew.cell? ⟨gb, 3, none⟩ = some (.int .i64 t.next) := (World.cell?_setCell_other _ _ _ _ (by simp)).trans p3
        have HUN : Hid (Below gb wD (wD.setCell ⟨gb, 0, none⟩ (.int .i64 z')).drew) := Lib.hid ((Below.refl gb wD).setCell (p := ⟨gb, 0, none⟩) (Nat.le_refl _) _).drew
        replace BR := Lib.hid (BR.out.under HUN.out HGB.out)
        replace HW := Lib.hid (HW.out.trans (HUN.out.mono (by have := HGB.out; omega)))
        clear HUN p1 p2 p3 BC BT HGL
        by_cases hz : z' ≤ 8640000000
        · have e1 : decide (z' > 8640000000) = false := decide_eq_false (by omega)
          have e2 : decide (8640000000 < z') = false := decide_eq_false (by omega)
          have HQ := Lib.hid (early_ok HE.out hzs hz)
          go_wp2_with fail
          generalize hwE : World.drew (World.setCell _ _ _) = wE at *
          clear hwE p0 pf
          obtain ⟨a0, a1, a2, a3, a4⟩ := BR.out
          have HBd : Hid (Below wE.heap.size wE wE.drew) := Lib.hid (Below.refl _ _).drew
          have MK : Hid (∀ w', Below wE.heap.size wE w' → w'.cell? ⟨w.heap.size, 0, none⟩ = some (.int .i64 R.brk) ∧ w'.cell? ⟨w.heap.size, 1, none⟩ = some (.int .i64 R.rest) ∧ w'.cell? ⟨w.heap.size, 2, none⟩ = some (.int .i64 R.stint) ∧ w'.cell? ⟨w.heap.size, 3, none⟩ = some (.int .i64 R.shift) ∧ w'.cell? ⟨w.heap.size, 4, none⟩ = some (.int .i64 R.week) ∧ w'.cell? ⟨gb, 0, none⟩ = some (.int .i64 z') ∧ w'.cell? ⟨gb, 1, none⟩ = some (.int .i64 t.lo) ∧ w'.cell? ⟨gb, 2, none⟩ = some (.int .i64 t.hi) ∧ w'.cell? ⟨gb, 3, none⟩ = some (.int .i64 t.next) ∧ Hid (Below wE.heap.size wE w')) :=
            Lib.hid fun w' hw => ⟨Keep.below hw _ _ a0, Keep.below hw _ _ a1, Keep.below hw _ _ a2, Keep.below hw _ _ a3, Keep.below hw _ _ a4, Keep.below hw _ _ q0, Keep.below hw _ _ q1, Keep.below hw _ _ q2, Keep.below hw _ _ q3, Lib.hid hw⟩
          have KA : Hid (∀ w', Below wE.heap.size wE w' → ArrW w' A l c) := Lib.hid fun w' hw => (HA.out.keep (Keep.below (HW.out.trans (hw.mono HW.out.size))))
          refine wp_region_held_drew (S := fun w' => w'.cell? ⟨w.heap.size, 0, none⟩ = some (.int .i64 R.brk) ∧ w'.cell? ⟨w.heap.size, 1, none⟩ = some (.int .i64 R.rest) ∧ w'.cell? ⟨w.heap.size, 2, none⟩ = some (.int .i64 R.stint) ∧ w'.cell? ⟨w.heap.size, 3, none⟩ = some (.int .i64 R.shift) ∧ w'.cell? ⟨w.heap.size, 4, none⟩ = some (.int .i64 R.week) ∧ w'.cell? ⟨gb, 0, none⟩ = some (.int .i64 z') ∧ w'.cell? ⟨gb, 1, none⟩ = some (.int .i64 t.lo) ∧ w'.cell? ⟨gb, 2, none⟩ = some (.int .i64 t.hi) ∧ w'.cell? ⟨gb, 3, none⟩ = some (.int .i64 t.next) ∧ Hid (Below wE.heap.size wE w')) (by kernel_rfl) (MK.out _ HBd.out) (fun hHeld => ?_)
          refine wpAnyH_take (i := 0) (v := ?val0x31) rfl (by kernel_rfl) (by kernel_rfl) (by kernel_rfl) (fun _ _ _ h => h) (Or.inl ⟨by rfl, fun w9 hS9 => ?yields0x31⟩) (by assumption) ?later0x31
          case yields0x31 =>
            dsimp only at hS9
            go_simp
            try with_reducible rfl
          try simp only [Act.put, List.getElem_toArray, List.getElem_cons_succ, List.getElem_cons_zero, List.setIfInBounds_toArray, List.set_cons_zero, List.set_cons_succ]
          refine wpAnyH_take (i := 1) (v := ?val1x32) rfl (by kernel_rfl) (by kernel_rfl) (by kernel_rfl) (fun _ _ _ h => h) (Or.inl ⟨by rfl, fun w9 hS9 => ?yields1x32⟩) (by assumption) ?later1x32
          case yields1x32 =>
            dsimp only at hS9
            go_simp
            try with_reducible rfl
          try simp only [Act.put, List.getElem_toArray, List.getElem_cons_succ, List.getElem_cons_zero, List.setIfInBounds_toArray, List.set_cons_zero, List.set_cons_succ]
          refine wpAnyH_take (i := 3) (v := ?val3x33) rfl (by kernel_rfl) (by kernel_rfl) (by kernel_rfl) (fun _ _ _ h => h) (Or.inl ⟨by rfl, fun w9 hS9 => ?yields3x33⟩) (by assumption) ?later3x33
          case yields3x33 =>
            dsimp only at hS9
            go_simp
            try with_reducible rfl
          try simp only [Act.put, List.getElem_toArray, List.getElem_cons_succ, List.getElem_cons_zero, List.setIfInBounds_toArray, List.set_cons_zero, List.set_cons_succ]
          refine wpAnyH_ready (rs := [2]) (by kernel_rfl) (by simp) ?_
          refine AllReadyH.cons rfl (fun K hK => ?_) AllReadyH.nil
          go_simp
          go_at_call 20
          go_split_ands
          refine (rCopyRecords_any l A c _ (KA.out _ (Hid.out (by assumption))) (by omega)).mono ?_
          rintro e' wz5 ⟨v5, rfl, h5, hb1⟩
          obtain ⟨A5, c5, rfl, h6⟩ := own_recs h5
          have H5 := Lib.hid h6
          clear h5 h6
          go_wp2_with fail
          refine hK.out _ _ ?_ (fun hHeld => ?_)
          · (try dsimp only)
            (go_split_ands; exact MK.out _ (Below.trans (Hid.out (by assumption)) (hb1.mono (Hid.out (by assumption) : Below wE.heap.size wE _).size)))
          clear hK K
          try simp only [Act.put, List.getElem_toArray, List.getElem_cons_succ, List.getElem_cons_zero, List.setIfInBounds_toArray, List.set_cons_zero, List.set_cons_succ]
          refine wpAnyH_ready (rs := [4]) (by kernel_rfl) (by simp) ?_
          refine AllReadyH.cons rfl (fun K hK => ?_) AllReadyH.nil
          go_simp
          go_at_call 31
          go_split_ands
          refine (xAllowed_any R l A5 c5 (fromAt t z') _ H5.out).mono ?_
          rintro e' wz7 ⟨rfl, hb1⟩
          clear H5
          go_wp2_with fail
          refine hK.out _ _ ?_ (fun hHeld => ?_)
          · (try dsimp only)
            (go_split_ands; exact MK.out _ (Below.trans (Hid.out (by assumption)) (hb1.mono (Hid.out (by assumption) : Below wE.heap.size wE _).size)))
          clear hK K
          try simp only [Act.put, List.getElem_toArray, List.getElem_cons_succ, List.getElem_cons_zero, List.setIfInBounds_toArray, List.set_cons_zero, List.set_cons_succ]
          refine wpAnyH_take (i := 5) (v := ?val5x34) rfl (by kernel_rfl) (by kernel_rfl) (by kernel_rfl) (fun _ _ _ h => h) (Or.inl ⟨by rfl, fun w9 hS9 => ?yields5x34⟩) (by assumption) ?later5x34
          case yields5x34 =>
            dsimp only at hS9
            go_simp
            try with_reducible rfl
          try simp only [Act.put, List.getElem_toArray, List.getElem_cons_succ, List.getElem_cons_zero, List.setIfInBounds_toArray, List.set_cons_zero, List.set_cons_succ]
          refine wpAnyH_take (i := 6) (v := ?val6x35) rfl (by kernel_rfl) (by kernel_rfl) (by kernel_rfl) (fun _ _ _ h => h) (Or.inl ⟨by rfl, fun w9 hS9 => ?yields6x35⟩) (by assumption) ?later6x35
          case yields6x35 =>
            dsimp only at hS9
            go_simp
            try with_reducible rfl
          try simp only [Act.put, List.getElem_toArray, List.getElem_cons_succ, List.getElem_cons_zero, List.setIfInBounds_toArray, List.set_cons_zero, List.set_cons_succ]
          refine wpAnyH_take (i := 7) (v := ?val7x36) rfl (by kernel_rfl) (by kernel_rfl) (by kernel_rfl) (fun _ _ _ h => h) (Or.inl ⟨by rfl, fun w9 hS9 => ?yields7x36⟩) (by assumption) ?later7x36
          case yields7x36 =>
            dsimp only at hS9
            go_simp
            try with_reducible rfl
          try simp only [Act.put, List.getElem_toArray, List.getElem_cons_succ, List.getElem_cons_zero, List.setIfInBounds_toArray, List.set_cons_zero, List.set_cons_succ]
          refine wpAnyH_take (i := 8) (v := ?val8x37) rfl (by kernel_rfl) (by kernel_rfl) (by kernel_rfl) (fun _ _ _ h => h) (Or.inl ⟨by rfl, fun w9 hS9 => ?yields8x37⟩) (by assumption) ?later8x37
          case yields8x37 =>
            dsimp only at hS9
            go_simp
            try with_reducible rfl
          try simp only [Act.put, List.getElem_toArray, List.getElem_cons_succ, List.getElem_cons_zero, List.setIfInBounds_toArray, List.set_cons_zero, List.set_cons_succ]
          refine wpAnyH_take (i := 9) (v := ?val9x38) rfl (by kernel_rfl) (by kernel_rfl) (by kernel_rfl) (fun _ _ _ h => h) (Or.inl ⟨by rfl, fun w9 hS9 => ?yields9x38⟩) (by assumption) ?later9x38
          case yields9x38 =>
            dsimp only at hS9
            go_simp
            try with_reducible rfl
          try simp only [Act.put, List.getElem_toArray, List.getElem_cons_succ, List.getElem_cons_zero, List.setIfInBounds_toArray, List.set_cons_zero, List.set_cons_succ]
          refine wpAnyH_take (i := 10) (v := ?val10x39) rfl (by kernel_rfl) (by kernel_rfl) (by kernel_rfl) (fun _ _ _ h => h) (Or.inl ⟨by rfl, fun w9 hS9 => ?yields10x39⟩) (by assumption) ?later10x39
          case yields10x39 =>
            dsimp only at hS9
            go_simp
            try with_reducible rfl
          try simp only [Act.put, List.getElem_toArray, List.getElem_cons_succ, List.getElem_cons_zero, List.setIfInBounds_toArray, List.set_cons_zero, List.set_cons_succ]
          refine wpAnyH_take (i := 11) (v := ?val11x40) rfl (by kernel_rfl) (by kernel_rfl) (by kernel_rfl) (fun _ _ _ h => h) (Or.inl ⟨by rfl, fun w9 hS9 => ?yields11x40⟩) (by assumption) ?later11x40
          case yields11x40 =>
            dsimp only at hS9
            go_simp
            try with_reducible rfl
          try simp only [Act.put, List.getElem_toArray, List.getElem_cons_succ, List.getElem_cons_zero, List.setIfInBounds_toArray, List.set_cons_zero, List.set_cons_succ]
          refine wpAnyH_done (by kernel_rfl) ?_ _
          obtain ⟨-, -, -, -, -, -, -, -, -, HB⟩ := hHeld
          clear HBd MK
          clear KA
          have r0 := Keep.below HB.out _ _ q0
          replace HW := Lib.hid (HW.out.trans (HB.out.mono HW.out.size))
          replace BR := Lib.hid (BR.out.keep (Keep.below HB.out))
          clear HB q0 q1 q2 q3
          clear a0 a1 a2 a3 a4
          rw [allowed_good HQ.out, HQ.out]
          have HTW := Lib.hid (allowed_two (R := R) (l := l) (t := fromAt t z'))
          obtain ⟨a, ha⟩ : ∃ a, a = (allowed R l (fromAt t z')).1 := ⟨_, rfl⟩
          rw [← ha] at HTW
          rw [← ha]
          clear ha
          by_cases h2 : a = 2
          · have hbr := HTW.out.1 h2
            have hin : m ≠ -1 ∧ m ≤ z' := by
              have hno := HEA.out.no z' hzs (by unfold endOf; have := HZ'.out; omega)
              refine ⟨fun e => hno (.inl e) hbr, Int.not_lt.1 fun e => hno (.inr e) hbr⟩
            have y1 : (a == 2) = true := by simpa using h2
            have y2 : (a != 2) = false := by simpa using h2
            have y3 : decide (m ≤ z') = true := decide_eq_true hin.2
            have y4 : decide (m ≥ 0) = true := decide_eq_true (by have := (HYS.out hin.1).1; omega)
            have y5 : decide (0 ≤ m) = true := decide_eq_true (by have := (HYS.out hin.1).1; omega)
            clear hbr hin h2
            go_wp2_with fail
            go_ret
            exact ⟨rfl, HW.out⟩
          · have y1 : (a == 2) = false := by simpa using h2
            have y2 : (a != 2) = true := by simpa using h2
            clear h2
            go_wp2_with fail
            go_ret
            exact ⟨rfl, HW.out⟩
        · have e1 : decide (z' > 8640000000) = true := decide_eq_true (by omega)
          have e2 : decide (8640000000 < z') = true := decide_eq_true (by omega)
          go_wp2_with fail
          go_ret
          exact ⟨rfl, HW.out⟩
    · have e1 : (lawTripErr R l t == 0) = false := by simpa using he
      have e2 : (lawTripErr R l t != 0) = true := by simpa using he
      obtain ⟨rfl, rfl⟩ := HM.out.bad he
      clear he HM
      go_wp2_with fail
      go_ret
      exact ⟨rfl, HW.out⟩
end Go.Proofs.Ytolicafhbeiciaa

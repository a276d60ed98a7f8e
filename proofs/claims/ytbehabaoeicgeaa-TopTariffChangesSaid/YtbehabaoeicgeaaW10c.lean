/- A copy of a tariff reads as the tariff. Condition: no list has more than a million elements. -/
import Derived.Test.YtbehabaoeicgeaaW10b
import Derived.Deep.RegionHeld3
import Derived.Deep.CutRange
import Derived.RegionTactic
namespace Go.Proofs.Ytbehabaoeicgeaa
open Go.RowKit Fs

theorem Try.infoRule3 : (Try.prog.info? 63).map (fun i => (i.zero, i.size, i.bytes)) = some (some (.agg #[.string ⟨#[]⟩, .int .i64 0, .int .i64 0, .slice none 0 0, .slice none 0 0, .int .i64 0, .int .i64 0, .int .i64 0, .int .i64 0, .int .i64 0]), 10, 120) := by kernel_rfl
theorem Try.infoExtra3 : (Try.prog.info? 65).map (fun i => (i.zero, i.size, i.bytes)) = some (some (.agg #[.string ⟨#[]⟩, .int .i64 0]), 2, 24) := by kernel_rfl
theorem Try.infoFix3 : (Try.prog.info? 82).map (fun i => (i.zero, i.size, i.bytes)) = some (some (.agg #[.int .i64 0, .int .i64 0, .int .i64 0]), 3, 24) := by kernel_rfl
/-- No list of the tariff has more than a million elements. -/
structure Fs.Lists (T : Tar) : Prop where
  zones : T.zones.length ≤ 1000000
  hols : T.hols.length ≤ 1000000
  rules : T.rules.length ≤ 1000000
  extras : T.extras.length ≤ 1000000
  fixed : T.fixed.length ≤ 1000000
  zonesOf : ∀ i, i < T.rules.length → (listR T.rules i).zones.length ≤ 1000000
  daysOf : ∀ i, i < T.rules.length → (listR T.rules i).days.length ≤ 1000000

set_option maxHeartbeats 1600000 in
set_option maxRecDepth 100000 in
theorem copy_any (T : Tar) (v : Value) (w : World) (hT : RdTar w v T) (hL : Lists T) :
    Calls Try.prog 11 #[v] w fun e w' => ∃ v', e = .returned v' ∧ RdTar w' v' T ∧ Below w.heap.size w w' := by
  obtain ⟨z, h, r, e, f, zc, hc, rc, ec, fc, a, rfl, m⟩ := hT
  have M := Lib.hid m
  have HL := Lib.hid hL
  have l1 := hL.zones
  have l2 := hL.hols
  have l3 := hL.rules
  have l4 := hL.extras
  have l5 := hL.fixed
  have CA := Lib.hid (CopyAt.start w T z h r e f zc hc rc ec fc 28 28)
  clear m hL
  go_enter Try.func11, Try.ntmps11
  go_upto_region 1 with fail
  generalize hwb : (w.alloc _).alloc _ = wb at *
  have hsz : wb.heap.size = w.heap.size + 1 + 1 := by rw [← hwb]; simp
  clear hwb
  go_cut [] from 4 to 12 (fun wx => ∃ z' h' zc' hc', Hid (CopyAt w wx w.heap.size T z' h' r e f zc' hc' rc ec fc) ∧ Hid (AwayS w.heap.size wx z' T.zones zc') ∧ Hid (AwayI w.heap.size wx h' T.hols hc'))
  case first =>
    obtain ⟨t0, t1, t2, t3, t4, t5, t6, t7⟩ := CA.out.box
    have HBd : Hid (Below w.heap.size w wb.drew) := Lib.hid CA.out.bel.drew
    go_region_with (first
      | (go_at_call 23
         refine (copyTexts_any T.zones _ _ _ (ArrS.keep (Keep.below HBd.out) M.out.zones) l1).mono ?_
         rintro e' w1 ⟨A1, c1, rfl, ha1, hab1, hb1⟩
         have CA1 := Lib.hid (CA.out.below ((Below.refl wb.heap.size wb).drew.trans hb1))
         have HZ1 := Lib.hid (Away.over (g := w.heap.size) ha1 hab1 (by show _ ≤ wb.heap.size; omega))
         obtain ⟨s0, s1, s2, s3, s4, s5, s6, s7⟩ := CA1.out.box)
      | (go_at_call 19
         refine (copyInts_any T.hols _ _ _ (ArrI.keep (Keep.below CA1.out.bel) M.out.hols) l2).mono ?_
         rintro e' w2 ⟨A2, c2, rfl, ha2, hab2, hb2⟩
         have CA2 := Lib.hid (CA1.out.below hb2)
         have HZ2 := Lib.hid (HZ1.out.keep (Keep.below hb2))
         have HH2 := Lib.hid (Away.over (g := w.heap.size) ha2 hab2 (by have := CA1.out.lt; omega))
         obtain ⟨r0, r1, r2, r3, r4, r5, r6, r7⟩ := CA2.out.box
         have fz := CA2.out.fz))
    all_goals
      have CA3 := Lib.hid ((CA2.out.set3 A1 c1).set4 A2 c2)
      have HZ3 := Lib.hid ((HZ2.out.box (p := ⟨w.heap.size, 3, none⟩) (.inl rfl) (.slice A1 T.zones.length c1)).box (p := ⟨w.heap.size, 4, none⟩) (.inl rfl) (.slice A2 T.hols.length c2))
      have HH3 := Lib.hid ((HH2.out.box (p := ⟨w.heap.size, 3, none⟩) (.inl rfl) (.slice A1 T.zones.length c1)).box (p := ⟨w.heap.size, 4, none⟩) (.inl rfl) (.slice A2 T.hols.length c2))
      clear t0 t1 t2 t3 t4 t5 t6 t7 s0 s1 s2 s3 s4 s5 s6 s7 r0 r1 r2 r3 r4 r5 r6 r7 fz ha1 ha2 hab1 hab2 hb1 hb2
      go_wp2_with fail
      go_meet
      exact ⟨A1, A2, c1, c2, CA3, HZ3, HH3⟩
  case rest =>
    obtain ⟨z', h', zc', hc', CB, HZ, HH⟩ := hcut
    have HAE := Lib.hid (Away.of M.out.extras (by decide))
    have HAF := Lib.hid (Away.of M.out.fixed (by decide))
    have HAR := Lib.hid (fun i (hi : i < T.rules.length) => And.intro (Away.of (M.out.rules.2 i hi).1 (by decide)) (Away.of (M.out.rules.2 i hi).2 (by decide)))
    have hgc := CB.out.lt
    obtain ⟨i0, hi, hz0, hz1, hz2⟩ := info_parts Try.infoRule3
    obtain ⟨j0, hj, jz0, jz1, jz2⟩ := info_parts Try.infoExtra3
    obtain ⟨f0, hfi, fz0, fz1, fz2⟩ := info_parts Try.infoFix3
    have CB1 := Lib.hid (CB.out.below ((Below.refl _ _).alloc (Nat.le_refl _) (.cells #[] 63)))
    obtain ⟨t0, t1, t2, t3, t4, t5, t6, t7⟩ := CB1.out.box
    clear CA hsz
    go_upto_region 3 with (at_builtin
                           refine wpList_copy rfl (.tmp 12) (.tmp 14) 24 rfl 63 i0 _ 10 120 Try.underlying24 hi hz0 hz1 hz2 rfl (by decide) wc.heap.size wc.heap.size rfl (Nat.le_refl _) (heap_alloc_new _ _) r T.rules.length rc _ rfl (Arr.keep (Keep.below CB1.out.bel) M.out.rules.1) (by intro i j; unfold ruleCells; split <;> rfl) (by unfold maxLen; omega) (by omega) ?_
                           intro A3 c3 w3 ha3 hb3
                           have CB2 := Lib.hid (CB.out.below (((Below.refl _ _).alloc (Nat.le_refl _) _).trans hb3))
                           clear t0 t1 t2 t3 t4 t5 t6 t7
                           obtain ⟨t0, t1, t2, t3, t4, t5, t6, t7⟩ := CB2.out.box
                           have fz := CB2.out.fz)
    have CB4 := Lib.hid (CB2.out.set5 A3 c3)
    have hl3 := own_arrN ha3
    have hc1 := hl3.1
    have hc2 := hl3.2.1
    have hg2 : w.heap.size + 2 ≤ wc.heap.size := by omega
    have hkw3 : Keep wc w3 := Keep.below (((Below.refl _ _).alloc (Nat.le_refl _) _).trans hb3)
    have HZ4 := Lib.hid ((HZ.out.keep hkw3).box (p := ⟨w.heap.size, 5, none⟩) (.inl rfl) (.slice A3 T.rules.length c3))
    have HH4 := Lib.hid ((HH.out.keep hkw3).box (p := ⟨w.heap.size, 5, none⟩) (.inl rfl) (.slice A3 T.rules.length c3))
    have HR4 := Lib.hid ((RowsAt.of_own (g := w.heap.size) ha3 hg2 (fun i hi => ⟨(HAR.out i hi).1.keep (Keep.below CB2.out.bel), (HAR.out i hi).2.keep (Keep.below CB2.out.bel)⟩)).box (p := ⟨w.heap.size, 5, none⟩) (.inl rfl) (.slice A3 T.rules.length c3))
    clear t0 t1 t2 t3 t4 t5 t6 t7 fz ha3 hb3 CB CB1 CB2 HZ HH hl3 hkw3 hg2 hgc
    generalize w3.setCell _ _ = w4 at *
    go_wp2_with fail
    clear hi hz0 hz1 hz2 i0
    go_loopw [3] (fun u wr => ∃ k : Nat, k ≤ T.rules.length ∧ u = .int .i64 k ∧ Hid (CopyAt w wr w.heap.size T z' h' A3 e f zc' hc' c3 ec fc) ∧ Hid (AwayS w.heap.size wr z' T.zones zc') ∧ Hid (AwayI w.heap.size wr h' T.hols hc') ∧ Hid (RowsAt w.heap.size wr A3 T.rules)) (fun u _ => T.rules.length - (intOf u).toNat)
    case atStart => exact ⟨0, Nat.zero_le _, rfl, CB4, HZ4, HH4, HR4⟩
    case round =>
      obtain ⟨k, hk, rfl, CR, HZ, HH, HR⟩ := hrel
      by_cases hlt : k < T.rules.length
      · rcases HR.out with hn | ⟨b, cap, fn, a', rfl, hgb, hrow, hcap, hf, hq⟩
        · omega
        have HROW := Lib.hid hrow
        have HFN := Lib.hid hf
        have HQ := Lib.hid hq
        have q3 : wr.cell? ⟨b, k * 10 + 3, none⟩ = some (.slice (a'.z k) (listR T.rules k).zones.length (a'.zc k)) := by rw [hrow.cell (by omega), hf k 3 hlt (by omega)]; rfl
        have q4 : wr.cell? ⟨b, k * 10 + 4, none⟩ = some (.slice (a'.d k) (listR T.rules k).days.length (a'.dc k)) := by rw [hrow.cell (by omega), hf k 4 hlt (by omega)]; rfl
        have hzl := HL.out.zonesOf k hlt
        have hdl := HL.out.daysOf k hlt
        have t5 := CR.out.box.c5
        have hbg : b ≠ w.heap.size := by omega
        have hkr : decide ((k : Int) < (T.rules.length : Int)) = true := decide_eq_true (by omega)
        have i0 : (0 : Int) ≤ (k : Int) := by omega
        have i1 : (k : Int) < (T.rules.length : Int) := by omega
        have hwr := CR.out.lt
        clear hrow hf hq HR
        go_wp2_with fail
        have t5d : wr.drew.cell? ⟨w.heap.size, 5, none⟩ = some (.slice (some ⟨b, 0, none⟩) T.rules.length c3) := t5
        have HWd : Hid (Keep wr wr.drew) := Lib.hid fun _ _ h => h
        refine wp_region_noPanic ?_
        refine wp_region_held_drew (S := fun w' => w'.cell? ⟨w.heap.size, 5, none⟩ = some (.slice (some ⟨b, 0, none⟩) T.rules.length c3)) (by kernel_rfl) t5d (fun hHeld => ?_)
        refine wpAnyH_take (i := 0) (oi := { dst := some 24, op := Op.fieldAddr 28 (Operand.tmp 1) 5, type := 0, pos := "ref.go:496", after := #[], guard := none }) (v := ?_) rfl (by kernel_rfl) (by kernel_rfl) (by kernel_rfl) (fun _ _ _ h => h) (Or.inl ⟨by rfl, ?_⟩) (by assumption) ?_
        rotate_left
        · (intro w0 hSw; go_simp; try (with_reducible rfl))
        simp only [Act.put, List.setIfInBounds_toArray, List.set_cons_zero, List.set_cons_succ]
        refine wpAnyH_take (i := 1) (oi := { dst := some 25, op := Op.load 24 (Operand.tmp 24), type := 24, pos := "ref.go:496", after := #[{ on := 0, ground := Ground.data }], guard := none }) (v := ?_) rfl (by kernel_rfl) (by kernel_rfl) (by kernel_rfl) (fun _ _ _ h => h) (Or.inl ⟨by rfl, ?_⟩) (by assumption) ?_
        rotate_left
        · (intro w0 hSw; go_simp; try (with_reducible rfl))
        simp only [Act.put, List.setIfInBounds_toArray, List.set_cons_zero, List.set_cons_succ]
        refine wpAnyH_take (i := 2) (oi := { dst := some 26, op := Op.move (Operand.tmp 3), type := 3, pos := "ref.go:496", after := #[], guard := none }) (v := ?_) rfl (by kernel_rfl) (by kernel_rfl) (by kernel_rfl) (fun _ _ _ h => h) (Or.inl ⟨by rfl, ?_⟩) (by assumption) ?_
        rotate_left
        · (intro w0 hSw; go_simp; try (with_reducible rfl))
        simp only [Act.put, List.setIfInBounds_toArray, List.set_cons_zero, List.set_cons_succ]
        refine wpAnyH_take (i := 3) (oi := { dst := some 27, op := Op.fieldAddr 28 (Operand.tmp 1) 5, type := 0, pos := "ref.go:496", after := #[{ on := 22, ground := Ground.gcOnly Departure.lateStores }], guard := none }) (v := ?_) rfl (by kernel_rfl) (by kernel_rfl) (by kernel_rfl) (fun _ _ _ h => h) (Or.inl ⟨by rfl, ?_⟩) (by assumption) ?_
        rotate_left
        · (intro w0 hSw; go_simp; try (with_reducible rfl))
        simp only [Act.put, List.setIfInBounds_toArray, List.set_cons_zero, List.set_cons_succ]
        refine wpAnyH_take (i := 4) (oi := { dst := some 28, op := Op.load 24 (Operand.tmp 27), type := 24, pos := "ref.go:496", after := #[{ on := 3, ground := Ground.data }, { on := 22, ground := Ground.gcOnly Departure.lateStores }], guard := none }) (v := ?_) rfl (by kernel_rfl) (by kernel_rfl) (by kernel_rfl) (fun _ _ _ h => h) (Or.inl ⟨by rfl, ?_⟩) (by assumption) ?_
        rotate_left
        · (intro w0 hSw; go_simp; try (with_reducible rfl))
        simp only [Act.put, List.setIfInBounds_toArray, List.set_cons_zero, List.set_cons_succ]
        refine wpAnyH_take (i := 5) (oi := { dst := some 29, op := Op.move (Operand.tmp 3), type := 3, pos := "ref.go:496", after := #[{ on := 22, ground := Ground.gcOnly Departure.lateStores }], guard := none }) (v := ?_) rfl (by kernel_rfl) (by kernel_rfl) (by kernel_rfl) (fun _ _ _ h => h) (Or.inl ⟨by rfl, ?_⟩) (by assumption) ?_
        rotate_left
        · (intro w0 hSw; go_simp; try (with_reducible rfl))
        simp only [Act.put, List.setIfInBounds_toArray, List.set_cons_zero, List.set_cons_succ]
        refine wpAnyH_take (i := 6) (oi := { dst := some 30, op := Op.fieldAddr 28 (Operand.tmp 1) 5, type := 0, pos := "ref.go:496", after := #[], guard := none }) (v := ?_) rfl (by kernel_rfl) (by kernel_rfl) (by kernel_rfl) (fun _ _ _ h => h) (Or.inl ⟨by rfl, ?_⟩) (by assumption) ?_
        rotate_left
        · (intro w0 hSw; go_simp; try (with_reducible rfl))
        simp only [Act.put, List.setIfInBounds_toArray, List.set_cons_zero, List.set_cons_succ]
        refine wpAnyH_take (i := 7) (oi := { dst := some 31, op := Op.load 24 (Operand.tmp 30), type := 24, pos := "ref.go:496", after := #[{ on := 6, ground := Ground.data }], guard := none }) (v := ?_) rfl (by kernel_rfl) (by kernel_rfl) (by kernel_rfl) (fun _ _ _ h => h) (Or.inl ⟨by rfl, ?_⟩) (by assumption) ?_
        rotate_left
        · (intro w0 hSw; go_simp; try (with_reducible rfl))
        simp only [Act.put, List.setIfInBounds_toArray, List.set_cons_zero, List.set_cons_succ]
        refine wpAnyH_take (i := 8) (oi := { dst := some 32, op := Op.move (Operand.tmp 3), type := 3, pos := "ref.go:496", after := #[], guard := none }) (v := ?_) rfl (by kernel_rfl) (by kernel_rfl) (by kernel_rfl) (fun _ _ _ h => h) (Or.inl ⟨by rfl, ?_⟩) (by assumption) ?_
        rotate_left
        · (intro w0 hSw; go_simp; try (with_reducible rfl))
        simp only [Act.put, List.setIfInBounds_toArray, List.set_cons_zero, List.set_cons_succ]
        refine wpAnyH_take (i := 9) (oi := { dst := some 33, op := Op.indexAddr 24 (Operand.tmp 31) (Operand.tmp 32), type := 0, pos := "ref.go:496", after := #[{ on := 7, ground := Ground.data }, { on := 8, ground := Ground.data }], guard := none }) (v := ?_) rfl (by kernel_rfl) (by kernel_rfl) (by kernel_rfl) (fun _ _ _ h => h) (Or.inl ⟨by rfl, ?_⟩) (by assumption) ?_
        rotate_left
        · (intro w0 hSw; go_simp; try (with_reducible rfl))
        simp only [Act.put, List.setIfInBounds_toArray, List.set_cons_zero, List.set_cons_succ]
        refine wpAnyH_take (i := 10) (oi := { dst := some 34, op := Op.fieldAddr 63 (Operand.tmp 33) 3, type := 0, pos := "ref.go:496", after := #[{ on := 9, ground := Ground.data }], guard := none }) (v := ?_) rfl (by kernel_rfl) (by kernel_rfl) (by kernel_rfl) (fun _ _ _ h => h) (Or.inl ⟨by rfl, ?_⟩) (by assumption) ?_
        rotate_left
        · (intro w0 hSw; go_simp; try (with_reducible rfl))
        simp only [Act.put, List.setIfInBounds_toArray, List.set_cons_zero, List.set_cons_succ]
        refine wpAnyH_take (i := 13) (oi := { dst := some 37, op := Op.fieldAddr 28 (Operand.tmp 1) 5, type := 0, pos := "ref.go:496", after := #[], guard := none }) (v := ?_) rfl (by kernel_rfl) (by kernel_rfl) (by kernel_rfl) (fun _ _ _ h => h) (Or.inl ⟨by rfl, ?_⟩) (by assumption) ?_
        rotate_left
        · (intro w0 hSw; go_simp; try (with_reducible rfl))
        simp only [Act.put, List.setIfInBounds_toArray, List.set_cons_zero, List.set_cons_succ]
        refine wpAnyH_take (i := 14) (oi := { dst := some 38, op := Op.load 24 (Operand.tmp 37), type := 24, pos := "ref.go:496", after := #[{ on := 13, ground := Ground.data }], guard := none }) (v := ?_) rfl (by kernel_rfl) (by kernel_rfl) (by kernel_rfl) (fun _ _ _ h => h) (Or.inl ⟨by rfl, ?_⟩) (by assumption) ?_
        rotate_left
        · (intro w0 hSw; go_simp; try (with_reducible rfl))
        simp only [Act.put, List.setIfInBounds_toArray, List.set_cons_zero, List.set_cons_succ]
        refine wpAnyH_take (i := 15) (oi := { dst := some 39, op := Op.move (Operand.tmp 3), type := 3, pos := "ref.go:496", after := #[], guard := none }) (v := ?_) rfl (by kernel_rfl) (by kernel_rfl) (by kernel_rfl) (fun _ _ _ h => h) (Or.inl ⟨by rfl, ?_⟩) (by assumption) ?_
        rotate_left
        · (intro w0 hSw; go_simp; try (with_reducible rfl))
        simp only [Act.put, List.setIfInBounds_toArray, List.set_cons_zero, List.set_cons_succ]
        refine wpAnyH_take (i := 16) (oi := { dst := some 40, op := Op.indexAddr 24 (Operand.tmp 38) (Operand.tmp 39), type := 0, pos := "ref.go:496", after := #[{ on := 14, ground := Ground.data }, { on := 15, ground := Ground.data }], guard := none }) (v := ?_) rfl (by kernel_rfl) (by kernel_rfl) (by kernel_rfl) (fun _ _ _ h => h) (Or.inl ⟨by rfl, ?_⟩) (by assumption) ?_
        rotate_left
        · (intro w0 hSw; go_simp; try (with_reducible rfl))
        simp only [Act.put, List.setIfInBounds_toArray, List.set_cons_zero, List.set_cons_succ]
        refine wpAnyH_take (i := 17) (oi := { dst := some 41, op := Op.fieldAddr 63 (Operand.tmp 40) 4, type := 0, pos := "ref.go:496", after := #[{ on := 16, ground := Ground.data }], guard := none }) (v := ?_) rfl (by kernel_rfl) (by kernel_rfl) (by kernel_rfl) (fun _ _ _ h => h) (Or.inl ⟨by rfl, ?_⟩) (by assumption) ?_
        rotate_left
        · (intro w0 hSw; go_simp; try (with_reducible rfl))
        simp only [Act.put, List.setIfInBounds_toArray, List.set_cons_zero, List.set_cons_succ]
        refine wpAnyH_ready (rs := [11, 18]) (by kernel_rfl) (by simp) ?_
        refine AllReadyH.cons (o := { dst := some 35, op := Op.load 23 (Operand.tmp 34), type := 23, pos := "ref.go:496", after := #[{ on := 10, ground := Ground.data }], guard := none }) rfl (fun K hK => ?_) ?_
        · go_simp
          refine hK.out _ _ (by assumption) (fun hHeld => ?_)
          clear hK K
          try simp only [Act.put, List.setIfInBounds_toArray, List.set_cons_zero, List.set_cons_succ]
          refine wpAnyH_ready (rs := [12, 18]) (by kernel_rfl) (by simp) ?_
          refine AllReadyH.cons (o := { dst := some 36, op := Op.call { callee := Callee.value (Operand.func 19), args := #[Operand.tmp 35], argTypes := #[23] }, type := 23, pos := "ref.go:496", after := #[{ on := 11, ground := Ground.data }], guard := none }) rfl (fun K hK => ?_) ?_
          · go_simp
            go_at_call 19
            refine (copyInts_any (listR T.rules k).zones (a'.z k) (a'.zc k) _ (ArrI.keep HWd.out (HQ.out k hlt).1.arr) hzl).mono ?_
            rintro e' w1 ⟨A4, c4, rfl, ha4, hab4, hb1⟩
            have HB1 := Lib.hid ((Below.refl wr.heap.size wr).drew.trans hb1)
            have HA4 := Lib.hid (Away.over (g := w.heap.size) ha4 hab4 (by show _ ≤ wr.heap.size; omega))
            have q3 := Keep.below HB1.out _ _ q3
            have q4 := Keep.below HB1.out _ _ q4
            have t5w : w1.cell? ⟨w.heap.size, 5, none⟩ = some (.slice (some ⟨b, 0, none⟩) T.rules.length c3) := Keep.below HB1.out _ _ t5
            try dsimp only
            refine hK.out _ _ (t5w) (fun hHeld => ?_)
            clear hK K
            try simp only [Act.put, List.setIfInBounds_toArray, List.set_cons_zero, List.set_cons_succ]
            refine wpAnyH_ready (rs := [18]) (by kernel_rfl) (by simp) ?_
            refine AllReadyH.cons (o := { dst := some 42, op := Op.load 23 (Operand.tmp 41), type := 23, pos := "ref.go:496", after := #[{ on := 17, ground := Ground.data }], guard := none }) rfl (fun K hK => ?_) ?_
            · go_simp
              refine hK.out _ _ (by assumption) (fun hHeld => ?_)
              clear hK K
              try simp only [Act.put, List.setIfInBounds_toArray, List.set_cons_zero, List.set_cons_succ]
              refine wpAnyH_ready (rs := [19]) (by kernel_rfl) (by simp) ?_
              refine AllReadyH.cons (o := { dst := some 43, op := Op.call { callee := Callee.value (Operand.func 19), args := #[Operand.tmp 42], argTypes := #[23] }, type := 23, pos := "ref.go:496", after := #[{ on := 18, ground := Ground.data }, { on := 12, ground := Ground.chain }], guard := none }) rfl (fun K hK => ?_) ?_
              · go_simp
                go_at_call 19
                refine (copyInts_any (listR T.rules k).days (a'.d k) (a'.dc k) _ (ArrI.keep (Keep.below HB1.out) (HQ.out k hlt).2.arr) hdl).mono ?_
                rintro e' w2 ⟨A5, c5, rfl, ha5, hab5, hb1⟩
                have HB2 := Lib.hid (HB1.out.trans (hb1.mono HB1.out.size))
                have HA5 := Lib.hid (Away.over (g := w.heap.size) ha5 hab5 (by have := HB1.out.size; omega))
                have HA4' := Lib.hid (HA4.out.keep (Keep.below hb1))
                have q3 := Keep.below hb1 _ _ q3
                have q4 := Keep.below hb1 _ _ q4
                have t5x : w2.cell? ⟨w.heap.size, 5, none⟩ = some (.slice (some ⟨b, 0, none⟩) T.rules.length c3) := Keep.below hb1 _ _ t5w
                have zf := (HROW.out.of_block (HB2.out.block b HROW.out.lt)).frozen
                try dsimp only
                refine hK.out _ _ (t5x) (fun hHeld => ?_)
                clear hK K
                try simp only [Act.put, List.setIfInBounds_toArray, List.set_cons_zero, List.set_cons_succ]
                refine wpAnyH_take (i := 20) (oi := { dst := some 44, op := Op.indexAddr 24 (Operand.tmp 25) (Operand.tmp 26), type := 0, pos := "ref.go:496", after := #[{ on := 1, ground := Ground.data }, { on := 2, ground := Ground.data }, { on := 0, ground := Ground.phase }, { on := 1, ground := Ground.phase }, { on := 2, ground := Ground.phase }, { on := 3, ground := Ground.textOnly Departure.lateStores }, { on := 4, ground := Ground.textOnly Departure.lateStores }, { on := 5, ground := Ground.textOnly Departure.lateStores }, { on := 6, ground := Ground.phase }, { on := 7, ground := Ground.phase }, { on := 8, ground := Ground.phase }, { on := 9, ground := Ground.phase }, { on := 10, ground := Ground.phase }, { on := 11, ground := Ground.phase }, { on := 12, ground := Ground.phase }, { on := 13, ground := Ground.textOnly Departure.lateStores }, { on := 14, ground := Ground.textOnly Departure.lateStores }, { on := 15, ground := Ground.textOnly Departure.lateStores }, { on := 16, ground := Ground.textOnly Departure.lateStoresUnsure }, { on := 17, ground := Ground.textOnly Departure.lateStoresUnsure }, { on := 18, ground := Ground.phase }, { on := 19, ground := Ground.phase }], guard := none }) (v := ?_) rfl (by kernel_rfl) (by kernel_rfl) (by kernel_rfl) (fun _ _ _ h => h) (Or.inl ⟨by rfl, ?_⟩) (by assumption) ?_
                rotate_left
                · (intro w0 hSw; go_simp; try (with_reducible rfl))
                simp only [Act.put, List.setIfInBounds_toArray, List.set_cons_zero, List.set_cons_succ]
                refine wpAnyH_take (i := 21) (oi := { dst := some 45, op := Op.fieldAddr 63 (Operand.tmp 44) 3, type := 0, pos := "ref.go:496", after := #[{ on := 20, ground := Ground.data }, { on := 0, ground := Ground.phase }, { on := 1, ground := Ground.phase }, { on := 2, ground := Ground.phase }, { on := 3, ground := Ground.textOnly Departure.lateStores }, { on := 4, ground := Ground.textOnly Departure.lateStores }, { on := 5, ground := Ground.textOnly Departure.lateStores }, { on := 6, ground := Ground.phase }, { on := 7, ground := Ground.phase }, { on := 8, ground := Ground.phase }, { on := 9, ground := Ground.phase }, { on := 10, ground := Ground.phase }, { on := 11, ground := Ground.phase }, { on := 12, ground := Ground.phase }, { on := 13, ground := Ground.textOnly Departure.lateStores }, { on := 14, ground := Ground.textOnly Departure.lateStores }, { on := 15, ground := Ground.textOnly Departure.lateStores }, { on := 16, ground := Ground.textOnly Departure.lateStoresUnsure }, { on := 17, ground := Ground.textOnly Departure.lateStoresUnsure }, { on := 18, ground := Ground.phase }, { on := 19, ground := Ground.phase }], guard := none }) (v := ?_) rfl (by kernel_rfl) (by kernel_rfl) (by kernel_rfl) (fun _ _ _ h => h) (Or.inl ⟨by rfl, ?_⟩) (by assumption) ?_
                rotate_left
                · (intro w0 hSw; go_simp; try (with_reducible rfl))
                simp only [Act.put, List.setIfInBounds_toArray, List.set_cons_zero, List.set_cons_succ]
                refine wpAnyH_ready (rs := [22]) (by kernel_rfl) (by simp) ?_
                refine AllReadyH.cons (o := { dst := none, op := Op.store 23 (Operand.tmp 45) (Operand.tmp 36), type := 0, pos := "ref.go:496", after := #[{ on := 21, ground := Ground.data }, { on := 12, ground := Ground.data }, { on := 19, ground := Ground.chain }, { on := 0, ground := Ground.phase }, { on := 1, ground := Ground.phase }, { on := 2, ground := Ground.phase }, { on := 3, ground := Ground.textOnly Departure.lateStores }, { on := 4, ground := Ground.textOnly Departure.lateStores }, { on := 5, ground := Ground.textOnly Departure.lateStores }, { on := 6, ground := Ground.phase }, { on := 7, ground := Ground.phase }, { on := 8, ground := Ground.phase }, { on := 9, ground := Ground.phase }, { on := 10, ground := Ground.phase }, { on := 11, ground := Ground.phase }, { on := 12, ground := Ground.phase }, { on := 13, ground := Ground.textOnly Departure.lateStores }, { on := 14, ground := Ground.textOnly Departure.lateStores }, { on := 15, ground := Ground.textOnly Departure.lateStores }, { on := 16, ground := Ground.textOnly Departure.lateStoresUnsure }, { on := 17, ground := Ground.textOnly Departure.lateStoresUnsure }, { on := 18, ground := Ground.phase }, { on := 19, ground := Ground.phase }], guard := none }) rfl (fun K hK => ?_) ?_
                · go_simp
                  refine hK.out _ _ ((World.cell?_setCell_far _ _ _ _ hbg).trans t5x) (fun hHeld => ?_)
                  clear hK K
                  try simp only [Act.put, List.setIfInBounds_toArray, List.set_cons_zero, List.set_cons_succ]
                  refine wpAnyH_take (i := 23) (oi := { dst := some 46, op := Op.indexAddr 24 (Operand.tmp 28) (Operand.tmp 29), type := 0, pos := "ref.go:496", after := #[{ on := 4, ground := Ground.data }, { on := 5, ground := Ground.data }, { on := 0, ground := Ground.phase }, { on := 1, ground := Ground.phase }, { on := 2, ground := Ground.phase }, { on := 3, ground := Ground.phase }, { on := 4, ground := Ground.phase }, { on := 5, ground := Ground.phase }, { on := 6, ground := Ground.phase }, { on := 7, ground := Ground.phase }, { on := 8, ground := Ground.phase }, { on := 9, ground := Ground.phase }, { on := 10, ground := Ground.phase }, { on := 11, ground := Ground.phase }, { on := 12, ground := Ground.phase }, { on := 13, ground := Ground.phase }, { on := 14, ground := Ground.phase }, { on := 15, ground := Ground.phase }, { on := 16, ground := Ground.phase }, { on := 17, ground := Ground.phase }, { on := 18, ground := Ground.phase }, { on := 19, ground := Ground.phase }, { on := 20, ground := Ground.phase }, { on := 21, ground := Ground.phase }, { on := 22, ground := Ground.phase }], guard := none }) (v := ?_) rfl (by kernel_rfl) (by kernel_rfl) (by kernel_rfl) (fun _ _ _ h => h) (Or.inl ⟨by rfl, ?_⟩) (by assumption) ?_
                  rotate_left
                  · (intro w0 hSw; go_simp; try (with_reducible rfl))
                  simp only [Act.put, List.setIfInBounds_toArray, List.set_cons_zero, List.set_cons_succ]
                  refine wpAnyH_take (i := 24) (oi := { dst := some 47, op := Op.fieldAddr 63 (Operand.tmp 46) 4, type := 0, pos := "ref.go:496", after := #[{ on := 23, ground := Ground.data }, { on := 0, ground := Ground.phase }, { on := 1, ground := Ground.phase }, { on := 2, ground := Ground.phase }, { on := 3, ground := Ground.phase }, { on := 4, ground := Ground.phase }, { on := 5, ground := Ground.phase }, { on := 6, ground := Ground.phase }, { on := 7, ground := Ground.phase }, { on := 8, ground := Ground.phase }, { on := 9, ground := Ground.phase }, { on := 10, ground := Ground.phase }, { on := 11, ground := Ground.phase }, { on := 12, ground := Ground.phase }, { on := 13, ground := Ground.phase }, { on := 14, ground := Ground.phase }, { on := 15, ground := Ground.phase }, { on := 16, ground := Ground.phase }, { on := 17, ground := Ground.phase }, { on := 18, ground := Ground.phase }, { on := 19, ground := Ground.phase }, { on := 20, ground := Ground.phase }, { on := 21, ground := Ground.phase }, { on := 22, ground := Ground.phase }], guard := none }) (v := ?_) rfl (by kernel_rfl) (by kernel_rfl) (by kernel_rfl) (fun _ _ _ h => h) (Or.inl ⟨by rfl, ?_⟩) (by assumption) ?_
                  rotate_left
                  · (intro w0 hSw; go_simp; try (with_reducible rfl))
                  simp only [Act.put, List.setIfInBounds_toArray, List.set_cons_zero, List.set_cons_succ]
                  refine wpAnyH_ready (rs := [25]) (by kernel_rfl) (by simp) ?_
                  refine AllReadyH.cons (o := { dst := none, op := Op.store 23 (Operand.tmp 47) (Operand.tmp 43), type := 0, pos := "ref.go:496", after := #[{ on := 24, ground := Ground.data }, { on := 19, ground := Ground.data }, { on := 22, ground := Ground.chain }, { on := 0, ground := Ground.phase }, { on := 1, ground := Ground.phase }, { on := 2, ground := Ground.phase }, { on := 3, ground := Ground.phase }, { on := 4, ground := Ground.phase }, { on := 5, ground := Ground.phase }, { on := 6, ground := Ground.phase }, { on := 7, ground := Ground.phase }, { on := 8, ground := Ground.phase }, { on := 9, ground := Ground.phase }, { on := 10, ground := Ground.phase }, { on := 11, ground := Ground.phase }, { on := 12, ground := Ground.phase }, { on := 13, ground := Ground.phase }, { on := 14, ground := Ground.phase }, { on := 15, ground := Ground.phase }, { on := 16, ground := Ground.phase }, { on := 17, ground := Ground.phase }, { on := 18, ground := Ground.phase }, { on := 19, ground := Ground.phase }, { on := 20, ground := Ground.phase }, { on := 21, ground := Ground.phase }, { on := 22, ground := Ground.phase }], guard := none }) rfl (fun K hK => ?_) ?_
                  · go_simp
                    refine hK.out _ _ ((World.cell?_setCell_far _ _ _ _ hbg).trans ((World.cell?_setCell_far _ _ _ _ hbg).trans t5x)) (fun hHeld => ?_)
                    clear hK K
                    try simp only [Act.put, List.setIfInBounds_toArray, List.set_cons_zero, List.set_cons_succ]
                    refine wpAnyH_done (by kernel_rfl) ?_ _
                    refine NoPanic.normal ?_
                    have p3 := HROW.out.of_block (HB2.out.block b HROW.out.lt)
                    have HR3 := Lib.hid (RowsAt.put (g := w.heap.size) hlt hgb p3 hcap HFN.out (fun i hi => ⟨(HQ.out i hi).1.keep (Keep.below HB2.out), (HQ.out i hi).2.keep (Keep.below HB2.out)⟩) HA4'.out HA5.out)
                    have CR3 := Lib.hid (((CR.out.below HB2.out).far (p := ⟨b, k * 10 + 3, none⟩) hgb (.slice A4 (listR T.rules k).zones.length c4)).far (p := ⟨b, k * 10 + 4, none⟩) hgb (.slice A5 (listR T.rules k).days.length c5))
                    have q4' : (w2.setCell ⟨b, k * 10 + 3, none⟩ (.slice A4 (listR T.rules k).zones.length c4)).cell? ⟨b, k * 10 + 4, none⟩ = some (.slice (a'.d k) (listR T.rules k).days.length (a'.dc k)) := by
                      rw [World.cell?_setCell_other _ _ _ _ (by intro e; injection e with _ e; omega)]; exact q4
                    have HZ3 := Lib.hid (((HZ.out.keep (Keep.below HB2.out)).row q3 rfl (fun _ _ => rfl) (.slice A4 (listR T.rules k).zones.length c4)).row q4' rfl (fun _ _ => rfl) (.slice A5 (listR T.rules k).days.length c5))
                    have HH3 := Lib.hid (((HH.out.keep (Keep.below HB2.out)).row q3 rfl (fun _ _ => rfl) (.slice A4 (listR T.rules k).zones.length c4)).row q4' rfl (fun _ _ => rfl) (.slice A5 (listR T.rules k).days.length c5))
                    clear q3 q4 q4' p3 zf t5 t5d ha4 ha5 hab4 hab5 hb1 hzl hdl
                    generalize (w2.setCell _ _).setCell _ _ = wz at *
                    go_wp2_with fail
                    go_roundw
                    case rel => exact ⟨k + 1, by omega, by go_num, CR3, HZ3, HH3, HR3⟩
                    case measure => simp [intOf]; omega
                  exact AllReadyH.nil
                exact AllReadyH.nil
              exact AllReadyH.nil
            exact AllReadyH.nil
          refine AllReadyH.cons (o := { dst := some 42, op := Op.load 23 (Operand.tmp 41), type := 23, pos := "ref.go:496", after := #[{ on := 17, ground := Ground.data }], guard := none }) rfl (fun K hK => ?_) ?_
          · go_simp
            refine hK.out _ _ (by assumption) (fun hHeld => ?_)
            clear hK K
            try simp only [Act.put, List.setIfInBounds_toArray, List.set_cons_zero, List.set_cons_succ]
            refine wpAnyH_ready (rs := [12]) (by kernel_rfl) (by simp) ?_
            refine AllReadyH.cons (o := { dst := some 36, op := Op.call { callee := Callee.value (Operand.func 19), args := #[Operand.tmp 35], argTypes := #[23] }, type := 23, pos := "ref.go:496", after := #[{ on := 11, ground := Ground.data }], guard := none }) rfl (fun K hK => ?_) ?_
            · go_simp
              go_at_call 19
              refine (copyInts_any (listR T.rules k).zones (a'.z k) (a'.zc k) _ (ArrI.keep HWd.out (HQ.out k hlt).1.arr) hzl).mono ?_
              rintro e' w1 ⟨A4, c4, rfl, ha4, hab4, hb1⟩
              have HB1 := Lib.hid ((Below.refl wr.heap.size wr).drew.trans hb1)
              have HA4 := Lib.hid (Away.over (g := w.heap.size) ha4 hab4 (by show _ ≤ wr.heap.size; omega))
              have q3 := Keep.below HB1.out _ _ q3
              have q4 := Keep.below HB1.out _ _ q4
              have t5w : w1.cell? ⟨w.heap.size, 5, none⟩ = some (.slice (some ⟨b, 0, none⟩) T.rules.length c3) := Keep.below HB1.out _ _ t5
              try dsimp only
              refine hK.out _ _ (t5w) (fun hHeld => ?_)
              clear hK K
              try simp only [Act.put, List.setIfInBounds_toArray, List.set_cons_zero, List.set_cons_succ]
              refine wpAnyH_ready (rs := [19]) (by kernel_rfl) (by simp) ?_
              refine AllReadyH.cons (o := { dst := some 43, op := Op.call { callee := Callee.value (Operand.func 19), args := #[Operand.tmp 42], argTypes := #[23] }, type := 23, pos := "ref.go:496", after := #[{ on := 18, ground := Ground.data }, { on := 12, ground := Ground.chain }], guard := none }) rfl (fun K hK => ?_) ?_
              · go_simp
                go_at_call 19
                refine (copyInts_any (listR T.rules k).days (a'.d k) (a'.dc k) _ (ArrI.keep (Keep.below HB1.out) (HQ.out k hlt).2.arr) hdl).mono ?_
                rintro e' w2 ⟨A5, c5, rfl, ha5, hab5, hb1⟩
                have HB2 := Lib.hid (HB1.out.trans (hb1.mono HB1.out.size))
                have HA5 := Lib.hid (Away.over (g := w.heap.size) ha5 hab5 (by have := HB1.out.size; omega))
                have HA4' := Lib.hid (HA4.out.keep (Keep.below hb1))
                have q3 := Keep.below hb1 _ _ q3
                have q4 := Keep.below hb1 _ _ q4
                have t5x : w2.cell? ⟨w.heap.size, 5, none⟩ = some (.slice (some ⟨b, 0, none⟩) T.rules.length c3) := Keep.below hb1 _ _ t5w
                have zf := (HROW.out.of_block (HB2.out.block b HROW.out.lt)).frozen
                try dsimp only
                refine hK.out _ _ (t5x) (fun hHeld => ?_)
                clear hK K
                try simp only [Act.put, List.setIfInBounds_toArray, List.set_cons_zero, List.set_cons_succ]
                refine wpAnyH_take (i := 20) (oi := { dst := some 44, op := Op.indexAddr 24 (Operand.tmp 25) (Operand.tmp 26), type := 0, pos := "ref.go:496", after := #[{ on := 1, ground := Ground.data }, { on := 2, ground := Ground.data }, { on := 0, ground := Ground.phase }, { on := 1, ground := Ground.phase }, { on := 2, ground := Ground.phase }, { on := 3, ground := Ground.textOnly Departure.lateStores }, { on := 4, ground := Ground.textOnly Departure.lateStores }, { on := 5, ground := Ground.textOnly Departure.lateStores }, { on := 6, ground := Ground.phase }, { on := 7, ground := Ground.phase }, { on := 8, ground := Ground.phase }, { on := 9, ground := Ground.phase }, { on := 10, ground := Ground.phase }, { on := 11, ground := Ground.phase }, { on := 12, ground := Ground.phase }, { on := 13, ground := Ground.textOnly Departure.lateStores }, { on := 14, ground := Ground.textOnly Departure.lateStores }, { on := 15, ground := Ground.textOnly Departure.lateStores }, { on := 16, ground := Ground.textOnly Departure.lateStoresUnsure }, { on := 17, ground := Ground.textOnly Departure.lateStoresUnsure }, { on := 18, ground := Ground.phase }, { on := 19, ground := Ground.phase }], guard := none }) (v := ?_) rfl (by kernel_rfl) (by kernel_rfl) (by kernel_rfl) (fun _ _ _ h => h) (Or.inl ⟨by rfl, ?_⟩) (by assumption) ?_
                rotate_left
                · (intro w0 hSw; go_simp; try (with_reducible rfl))
                simp only [Act.put, List.setIfInBounds_toArray, List.set_cons_zero, List.set_cons_succ]
                refine wpAnyH_take (i := 21) (oi := { dst := some 45, op := Op.fieldAddr 63 (Operand.tmp 44) 3, type := 0, pos := "ref.go:496", after := #[{ on := 20, ground := Ground.data }, { on := 0, ground := Ground.phase }, { on := 1, ground := Ground.phase }, { on := 2, ground := Ground.phase }, { on := 3, ground := Ground.textOnly Departure.lateStores }, { on := 4, ground := Ground.textOnly Departure.lateStores }, { on := 5, ground := Ground.textOnly Departure.lateStores }, { on := 6, ground := Ground.phase }, { on := 7, ground := Ground.phase }, { on := 8, ground := Ground.phase }, { on := 9, ground := Ground.phase }, { on := 10, ground := Ground.phase }, { on := 11, ground := Ground.phase }, { on := 12, ground := Ground.phase }, { on := 13, ground := Ground.textOnly Departure.lateStores }, { on := 14, ground := Ground.textOnly Departure.lateStores }, { on := 15, ground := Ground.textOnly Departure.lateStores }, { on := 16, ground := Ground.textOnly Departure.lateStoresUnsure }, { on := 17, ground := Ground.textOnly Departure.lateStoresUnsure }, { on := 18, ground := Ground.phase }, { on := 19, ground := Ground.phase }], guard := none }) (v := ?_) rfl (by kernel_rfl) (by kernel_rfl) (by kernel_rfl) (fun _ _ _ h => h) (Or.inl ⟨by rfl, ?_⟩) (by assumption) ?_
                rotate_left
                · (intro w0 hSw; go_simp; try (with_reducible rfl))
                simp only [Act.put, List.setIfInBounds_toArray, List.set_cons_zero, List.set_cons_succ]
                refine wpAnyH_ready (rs := [22]) (by kernel_rfl) (by simp) ?_
                refine AllReadyH.cons (o := { dst := none, op := Op.store 23 (Operand.tmp 45) (Operand.tmp 36), type := 0, pos := "ref.go:496", after := #[{ on := 21, ground := Ground.data }, { on := 12, ground := Ground.data }, { on := 19, ground := Ground.chain }, { on := 0, ground := Ground.phase }, { on := 1, ground := Ground.phase }, { on := 2, ground := Ground.phase }, { on := 3, ground := Ground.textOnly Departure.lateStores }, { on := 4, ground := Ground.textOnly Departure.lateStores }, { on := 5, ground := Ground.textOnly Departure.lateStores }, { on := 6, ground := Ground.phase }, { on := 7, ground := Ground.phase }, { on := 8, ground := Ground.phase }, { on := 9, ground := Ground.phase }, { on := 10, ground := Ground.phase }, { on := 11, ground := Ground.phase }, { on := 12, ground := Ground.phase }, { on := 13, ground := Ground.textOnly Departure.lateStores }, { on := 14, ground := Ground.textOnly Departure.lateStores }, { on := 15, ground := Ground.textOnly Departure.lateStores }, { on := 16, ground := Ground.textOnly Departure.lateStoresUnsure }, { on := 17, ground := Ground.textOnly Departure.lateStoresUnsure }, { on := 18, ground := Ground.phase }, { on := 19, ground := Ground.phase }], guard := none }) rfl (fun K hK => ?_) ?_
                · go_simp
                  refine hK.out _ _ ((World.cell?_setCell_far _ _ _ _ hbg).trans t5x) (fun hHeld => ?_)
                  clear hK K
                  try simp only [Act.put, List.setIfInBounds_toArray, List.set_cons_zero, List.set_cons_succ]
                  refine wpAnyH_take (i := 23) (oi := { dst := some 46, op := Op.indexAddr 24 (Operand.tmp 28) (Operand.tmp 29), type := 0, pos := "ref.go:496", after := #[{ on := 4, ground := Ground.data }, { on := 5, ground := Ground.data }, { on := 0, ground := Ground.phase }, { on := 1, ground := Ground.phase }, { on := 2, ground := Ground.phase }, { on := 3, ground := Ground.phase }, { on := 4, ground := Ground.phase }, { on := 5, ground := Ground.phase }, { on := 6, ground := Ground.phase }, { on := 7, ground := Ground.phase }, { on := 8, ground := Ground.phase }, { on := 9, ground := Ground.phase }, { on := 10, ground := Ground.phase }, { on := 11, ground := Ground.phase }, { on := 12, ground := Ground.phase }, { on := 13, ground := Ground.phase }, { on := 14, ground := Ground.phase }, { on := 15, ground := Ground.phase }, { on := 16, ground := Ground.phase }, { on := 17, ground := Ground.phase }, { on := 18, ground := Ground.phase }, { on := 19, ground := Ground.phase }, { on := 20, ground := Ground.phase }, { on := 21, ground := Ground.phase }, { on := 22, ground := Ground.phase }], guard := none }) (v := ?_) rfl (by kernel_rfl) (by kernel_rfl) (by kernel_rfl) (fun _ _ _ h => h) (Or.inl ⟨by rfl, ?_⟩) (by assumption) ?_
                  rotate_left
                  · (intro w0 hSw; go_simp; try (with_reducible rfl))
                  simp only [Act.put, List.setIfInBounds_toArray, List.set_cons_zero, List.set_cons_succ]
                  refine wpAnyH_take (i := 24) (oi := { dst := some 47, op := Op.fieldAddr 63 (Operand.tmp 46) 4, type := 0, pos := "ref.go:496", after := #[{ on := 23, ground := Ground.data }, { on := 0, ground := Ground.phase }, { on := 1, ground := Ground.phase }, { on := 2, ground := Ground.phase }, { on := 3, ground := Ground.phase }, { on := 4, ground := Ground.phase }, { on := 5, ground := Ground.phase }, { on := 6, ground := Ground.phase }, { on := 7, ground := Ground.phase }, { on := 8, ground := Ground.phase }, { on := 9, ground := Ground.phase }, { on := 10, ground := Ground.phase }, { on := 11, ground := Ground.phase }, { on := 12, ground := Ground.phase }, { on := 13, ground := Ground.phase }, { on := 14, ground := Ground.phase }, { on := 15, ground := Ground.phase }, { on := 16, ground := Ground.phase }, { on := 17, ground := Ground.phase }, { on := 18, ground := Ground.phase }, { on := 19, ground := Ground.phase }, { on := 20, ground := Ground.phase }, { on := 21, ground := Ground.phase }, { on := 22, ground := Ground.phase }], guard := none }) (v := ?_) rfl (by kernel_rfl) (by kernel_rfl) (by kernel_rfl) (fun _ _ _ h => h) (Or.inl ⟨by rfl, ?_⟩) (by assumption) ?_
                  rotate_left
                  · (intro w0 hSw; go_simp; try (with_reducible rfl))
                  simp only [Act.put, List.setIfInBounds_toArray, List.set_cons_zero, List.set_cons_succ]
                  refine wpAnyH_ready (rs := [25]) (by kernel_rfl) (by simp) ?_
                  refine AllReadyH.cons (o := { dst := none, op := Op.store 23 (Operand.tmp 47) (Operand.tmp 43), type := 0, pos := "ref.go:496", after := #[{ on := 24, ground := Ground.data }, { on := 19, ground := Ground.data }, { on := 22, ground := Ground.chain }, { on := 0, ground := Ground.phase }, { on := 1, ground := Ground.phase }, { on := 2, ground := Ground.phase }, { on := 3, ground := Ground.phase }, { on := 4, ground := Ground.phase }, { on := 5, ground := Ground.phase }, { on := 6, ground := Ground.phase }, { on := 7, ground := Ground.phase }, { on := 8, ground := Ground.phase }, { on := 9, ground := Ground.phase }, { on := 10, ground := Ground.phase }, { on := 11, ground := Ground.phase }, { on := 12, ground := Ground.phase }, { on := 13, ground := Ground.phase }, { on := 14, ground := Ground.phase }, { on := 15, ground := Ground.phase }, { on := 16, ground := Ground.phase }, { on := 17, ground := Ground.phase }, { on := 18, ground := Ground.phase }, { on := 19, ground := Ground.phase }, { on := 20, ground := Ground.phase }, { on := 21, ground := Ground.phase }, { on := 22, ground := Ground.phase }], guard := none }) rfl (fun K hK => ?_) ?_
                  · go_simp
                    refine hK.out _ _ ((World.cell?_setCell_far _ _ _ _ hbg).trans ((World.cell?_setCell_far _ _ _ _ hbg).trans t5x)) (fun hHeld => ?_)
                    clear hK K
                    try simp only [Act.put, List.setIfInBounds_toArray, List.set_cons_zero, List.set_cons_succ]
                    refine wpAnyH_done (by kernel_rfl) ?_ _
                    refine NoPanic.normal ?_
                    have p3 := HROW.out.of_block (HB2.out.block b HROW.out.lt)
                    have HR3 := Lib.hid (RowsAt.put (g := w.heap.size) hlt hgb p3 hcap HFN.out (fun i hi => ⟨(HQ.out i hi).1.keep (Keep.below HB2.out), (HQ.out i hi).2.keep (Keep.below HB2.out)⟩) HA4'.out HA5.out)
                    have CR3 := Lib.hid (((CR.out.below HB2.out).far (p := ⟨b, k * 10 + 3, none⟩) hgb (.slice A4 (listR T.rules k).zones.length c4)).far (p := ⟨b, k * 10 + 4, none⟩) hgb (.slice A5 (listR T.rules k).days.length c5))
                    have q4' : (w2.setCell ⟨b, k * 10 + 3, none⟩ (.slice A4 (listR T.rules k).zones.length c4)).cell? ⟨b, k * 10 + 4, none⟩ = some (.slice (a'.d k) (listR T.rules k).days.length (a'.dc k)) := by
                      rw [World.cell?_setCell_other _ _ _ _ (by intro e; injection e with _ e; omega)]; exact q4
                    have HZ3 := Lib.hid (((HZ.out.keep (Keep.below HB2.out)).row q3 rfl (fun _ _ => rfl) (.slice A4 (listR T.rules k).zones.length c4)).row q4' rfl (fun _ _ => rfl) (.slice A5 (listR T.rules k).days.length c5))
                    have HH3 := Lib.hid (((HH.out.keep (Keep.below HB2.out)).row q3 rfl (fun _ _ => rfl) (.slice A4 (listR T.rules k).zones.length c4)).row q4' rfl (fun _ _ => rfl) (.slice A5 (listR T.rules k).days.length c5))
                    clear q3 q4 q4' p3 zf t5 t5d ha4 ha5 hab4 hab5 hb1 hzl hdl
                    generalize (w2.setCell _ _).setCell _ _ = wz at *
                    go_wp2_with fail
                    go_roundw
                    case rel => exact ⟨k + 1, by omega, by go_num, CR3, HZ3, HH3, HR3⟩
                    case measure => simp [intOf]; omega
                  exact AllReadyH.nil
                exact AllReadyH.nil
              exact AllReadyH.nil
            exact AllReadyH.nil
          exact AllReadyH.nil
        refine AllReadyH.cons (o := { dst := some 42, op := Op.load 23 (Operand.tmp 41), type := 23, pos := "ref.go:496", after := #[{ on := 17, ground := Ground.data }], guard := none }) rfl (fun K hK => ?_) ?_
        · go_simp
          refine hK.out _ _ (by assumption) (fun hHeld => ?_)
          clear hK K
          try simp only [Act.put, List.setIfInBounds_toArray, List.set_cons_zero, List.set_cons_succ]
          refine wpAnyH_ready (rs := [11]) (by kernel_rfl) (by simp) ?_
          refine AllReadyH.cons (o := { dst := some 35, op := Op.load 23 (Operand.tmp 34), type := 23, pos := "ref.go:496", after := #[{ on := 10, ground := Ground.data }], guard := none }) rfl (fun K hK => ?_) ?_
          · go_simp
            refine hK.out _ _ (by assumption) (fun hHeld => ?_)
            clear hK K
            try simp only [Act.put, List.setIfInBounds_toArray, List.set_cons_zero, List.set_cons_succ]
            refine wpAnyH_ready (rs := [12]) (by kernel_rfl) (by simp) ?_
            refine AllReadyH.cons (o := { dst := some 36, op := Op.call { callee := Callee.value (Operand.func 19), args := #[Operand.tmp 35], argTypes := #[23] }, type := 23, pos := "ref.go:496", after := #[{ on := 11, ground := Ground.data }], guard := none }) rfl (fun K hK => ?_) ?_
            · go_simp
              go_at_call 19
              refine (copyInts_any (listR T.rules k).zones (a'.z k) (a'.zc k) _ (ArrI.keep HWd.out (HQ.out k hlt).1.arr) hzl).mono ?_
              rintro e' w1 ⟨A4, c4, rfl, ha4, hab4, hb1⟩
              have HB1 := Lib.hid ((Below.refl wr.heap.size wr).drew.trans hb1)
              have HA4 := Lib.hid (Away.over (g := w.heap.size) ha4 hab4 (by show _ ≤ wr.heap.size; omega))
              have q3 := Keep.below HB1.out _ _ q3
              have q4 := Keep.below HB1.out _ _ q4
              have t5w : w1.cell? ⟨w.heap.size, 5, none⟩ = some (.slice (some ⟨b, 0, none⟩) T.rules.length c3) := Keep.below HB1.out _ _ t5
              try dsimp only
              refine hK.out _ _ (t5w) (fun hHeld => ?_)
              clear hK K
              try simp only [Act.put, List.setIfInBounds_toArray, List.set_cons_zero, List.set_cons_succ]
              refine wpAnyH_ready (rs := [19]) (by kernel_rfl) (by simp) ?_
              refine AllReadyH.cons (o := { dst := some 43, op := Op.call { callee := Callee.value (Operand.func 19), args := #[Operand.tmp 42], argTypes := #[23] }, type := 23, pos := "ref.go:496", after := #[{ on := 18, ground := Ground.data }, { on := 12, ground := Ground.chain }], guard := none }) rfl (fun K hK => ?_) ?_
              · go_simp
                go_at_call 19
                refine (copyInts_any (listR T.rules k).days (a'.d k) (a'.dc k) _ (ArrI.keep (Keep.below HB1.out) (HQ.out k hlt).2.arr) hdl).mono ?_
                rintro e' w2 ⟨A5, c5, rfl, ha5, hab5, hb1⟩
                have HB2 := Lib.hid (HB1.out.trans (hb1.mono HB1.out.size))
                have HA5 := Lib.hid (Away.over (g := w.heap.size) ha5 hab5 (by have := HB1.out.size; omega))
                have HA4' := Lib.hid (HA4.out.keep (Keep.below hb1))
                have q3 := Keep.below hb1 _ _ q3
                have q4 := Keep.below hb1 _ _ q4
                have t5x : w2.cell? ⟨w.heap.size, 5, none⟩ = some (.slice (some ⟨b, 0, none⟩) T.rules.length c3) := Keep.below hb1 _ _ t5w
                have zf := (HROW.out.of_block (HB2.out.block b HROW.out.lt)).frozen
                try dsimp only
                refine hK.out _ _ (t5x) (fun hHeld => ?_)
                clear hK K
                try simp only [Act.put, List.setIfInBounds_toArray, List.set_cons_zero, List.set_cons_succ]
                refine wpAnyH_take (i := 20) (oi := { dst := some 44, op := Op.indexAddr 24 (Operand.tmp 25) (Operand.tmp 26), type := 0, pos := "ref.go:496", after := #[{ on := 1, ground := Ground.data }, { on := 2, ground := Ground.data }, { on := 0, ground := Ground.phase }, { on := 1, ground := Ground.phase }, { on := 2, ground := Ground.phase }, { on := 3, ground := Ground.textOnly Departure.lateStores }, { on := 4, ground := Ground.textOnly Departure.lateStores }, { on := 5, ground := Ground.textOnly Departure.lateStores }, { on := 6, ground := Ground.phase }, { on := 7, ground := Ground.phase }, { on := 8, ground := Ground.phase }, { on := 9, ground := Ground.phase }, { on := 10, ground := Ground.phase }, { on := 11, ground := Ground.phase }, { on := 12, ground := Ground.phase }, { on := 13, ground := Ground.textOnly Departure.lateStores }, { on := 14, ground := Ground.textOnly Departure.lateStores }, { on := 15, ground := Ground.textOnly Departure.lateStores }, { on := 16, ground := Ground.textOnly Departure.lateStoresUnsure }, { on := 17, ground := Ground.textOnly Departure.lateStoresUnsure }, { on := 18, ground := Ground.phase }, { on := 19, ground := Ground.phase }], guard := none }) (v := ?_) rfl (by kernel_rfl) (by kernel_rfl) (by kernel_rfl) (fun _ _ _ h => h) (Or.inl ⟨by rfl, ?_⟩) (by assumption) ?_
                rotate_left
                · (intro w0 hSw; go_simp; try (with_reducible rfl))
                simp only [Act.put, List.setIfInBounds_toArray, List.set_cons_zero, List.set_cons_succ]
                refine wpAnyH_take (i := 21) (oi := { dst := some 45, op := Op.fieldAddr 63 (Operand.tmp 44) 3, type := 0, pos := "ref.go:496", after := #[{ on := 20, ground := Ground.data }, { on := 0, ground := Ground.phase }, { on := 1, ground := Ground.phase }, { on := 2, ground := Ground.phase }, { on := 3, ground := Ground.textOnly Departure.lateStores }, { on := 4, ground := Ground.textOnly Departure.lateStores }, { on := 5, ground := Ground.textOnly Departure.lateStores }, { on := 6, ground := Ground.phase }, { on := 7, ground := Ground.phase }, { on := 8, ground := Ground.phase }, { on := 9, ground := Ground.phase }, { on := 10, ground := Ground.phase }, { on := 11, ground := Ground.phase }, { on := 12, ground := Ground.phase }, { on := 13, ground := Ground.textOnly Departure.lateStores }, { on := 14, ground := Ground.textOnly Departure.lateStores }, { on := 15, ground := Ground.textOnly Departure.lateStores }, { on := 16, ground := Ground.textOnly Departure.lateStoresUnsure }, { on := 17, ground := Ground.textOnly Departure.lateStoresUnsure }, { on := 18, ground := Ground.phase }, { on := 19, ground := Ground.phase }], guard := none }) (v := ?_) rfl (by kernel_rfl) (by kernel_rfl) (by kernel_rfl) (fun _ _ _ h => h) (Or.inl ⟨by rfl, ?_⟩) (by assumption) ?_
                rotate_left
                · (intro w0 hSw; go_simp; try (with_reducible rfl))
                simp only [Act.put, List.setIfInBounds_toArray, List.set_cons_zero, List.set_cons_succ]
                refine wpAnyH_ready (rs := [22]) (by kernel_rfl) (by simp) ?_
                refine AllReadyH.cons (o := { dst := none, op := Op.store 23 (Operand.tmp 45) (Operand.tmp 36), type := 0, pos := "ref.go:496", after := #[{ on := 21, ground := Ground.data }, { on := 12, ground := Ground.data }, { on := 19, ground := Ground.chain }, { on := 0, ground := Ground.phase }, { on := 1, ground := Ground.phase }, { on := 2, ground := Ground.phase }, { on := 3, ground := Ground.textOnly Departure.lateStores }, { on := 4, ground := Ground.textOnly Departure.lateStores }, { on := 5, ground := Ground.textOnly Departure.lateStores }, { on := 6, ground := Ground.phase }, { on := 7, ground := Ground.phase }, { on := 8, ground := Ground.phase }, { on := 9, ground := Ground.phase }, { on := 10, ground := Ground.phase }, { on := 11, ground := Ground.phase }, { on := 12, ground := Ground.phase }, { on := 13, ground := Ground.textOnly Departure.lateStores }, { on := 14, ground := Ground.textOnly Departure.lateStores }, { on := 15, ground := Ground.textOnly Departure.lateStores }, { on := 16, ground := Ground.textOnly Departure.lateStoresUnsure }, { on := 17, ground := Ground.textOnly Departure.lateStoresUnsure }, { on := 18, ground := Ground.phase }, { on := 19, ground := Ground.phase }], guard := none }) rfl (fun K hK => ?_) ?_
                · go_simp
                  refine hK.out _ _ ((World.cell?_setCell_far _ _ _ _ hbg).trans t5x) (fun hHeld => ?_)
                  clear hK K
                  try simp only [Act.put, List.setIfInBounds_toArray, List.set_cons_zero, List.set_cons_succ]
                  refine wpAnyH_take (i := 23) (oi := { dst := some 46, op := Op.indexAddr 24 (Operand.tmp 28) (Operand.tmp 29), type := 0, pos := "ref.go:496", after := #[{ on := 4, ground := Ground.data }, { on := 5, ground := Ground.data }, { on := 0, ground := Ground.phase }, { on := 1, ground := Ground.phase }, { on := 2, ground := Ground.phase }, { on := 3, ground := Ground.phase }, { on := 4, ground := Ground.phase }, { on := 5, ground := Ground.phase }, { on := 6, ground := Ground.phase }, { on := 7, ground := Ground.phase }, { on := 8, ground := Ground.phase }, { on := 9, ground := Ground.phase }, { on := 10, ground := Ground.phase }, { on := 11, ground := Ground.phase }, { on := 12, ground := Ground.phase }, { on := 13, ground := Ground.phase }, { on := 14, ground := Ground.phase }, { on := 15, ground := Ground.phase }, { on := 16, ground := Ground.phase }, { on := 17, ground := Ground.phase }, { on := 18, ground := Ground.phase }, { on := 19, ground := Ground.phase }, { on := 20, ground := Ground.phase }, { on := 21, ground := Ground.phase }, { on := 22, ground := Ground.phase }], guard := none }) (v := ?_) rfl (by kernel_rfl) (by kernel_rfl) (by kernel_rfl) (fun _ _ _ h => h) (Or.inl ⟨by rfl, ?_⟩) (by assumption) ?_
                  rotate_left
                  · (intro w0 hSw; go_simp; try (with_reducible rfl))
                  simp only [Act.put, List.setIfInBounds_toArray, List.set_cons_zero, List.set_cons_succ]
                  refine wpAnyH_take (i := 24) (oi := { dst := some 47, op := Op.fieldAddr 63 (Operand.tmp 46) 4, type := 0, pos := "ref.go:496", after := #[{ on := 23, ground := Ground.data }, { on := 0, ground := Ground.phase }, { on := 1, ground := Ground.phase }, { on := 2, ground := Ground.phase }, { on := 3, ground := Ground.phase }, { on := 4, ground := Ground.phase }, { on := 5, ground := Ground.phase }, { on := 6, ground := Ground.phase }, { on := 7, ground := Ground.phase }, { on := 8, ground := Ground.phase }, { on := 9, ground := Ground.phase }, { on := 10, ground := Ground.phase }, { on := 11, ground := Ground.phase }, { on := 12, ground := Ground.phase }, { on := 13, ground := Ground.phase }, { on := 14, ground := Ground.phase }, { on := 15, ground := Ground.phase }, { on := 16, ground := Ground.phase }, { on := 17, ground := Ground.phase }, { on := 18, ground := Ground.phase }, { on := 19, ground := Ground.phase }, { on := 20, ground := Ground.phase }, { on := 21, ground := Ground.phase }, { on := 22, ground := Ground.phase }], guard := none }) (v := ?_) rfl (by kernel_rfl) (by kernel_rfl) (by kernel_rfl) (fun _ _ _ h => h) (Or.inl ⟨by rfl, ?_⟩) (by assumption) ?_
                  rotate_left
                  · (intro w0 hSw; go_simp; try (with_reducible rfl))
                  simp only [Act.put, List.setIfInBounds_toArray, List.set_cons_zero, List.set_cons_succ]
                  refine wpAnyH_ready (rs := [25]) (by kernel_rfl) (by simp) ?_
                  refine AllReadyH.cons (o := { dst := none, op := Op.store 23 (Operand.tmp 47) (Operand.tmp 43), type := 0, pos := "ref.go:496", after := #[{ on := 24, ground := Ground.data }, { on := 19, ground := Ground.data }, { on := 22, ground := Ground.chain }, { on := 0, ground := Ground.phase }, { on := 1, ground := Ground.phase }, { on := 2, ground := Ground.phase }, { on := 3, ground := Ground.phase }, { on := 4, ground := Ground.phase }, { on := 5, ground := Ground.phase }, { on := 6, ground := Ground.phase }, { on := 7, ground := Ground.phase }, { on := 8, ground := Ground.phase }, { on := 9, ground := Ground.phase }, { on := 10, ground := Ground.phase }, { on := 11, ground := Ground.phase }, { on := 12, ground := Ground.phase }, { on := 13, ground := Ground.phase }, { on := 14, ground := Ground.phase }, { on := 15, ground := Ground.phase }, { on := 16, ground := Ground.phase }, { on := 17, ground := Ground.phase }, { on := 18, ground := Ground.phase }, { on := 19, ground := Ground.phase }, { on := 20, ground := Ground.phase }, { on := 21, ground := Ground.phase }, { on := 22, ground := Ground.phase }], guard := none }) rfl (fun K hK => ?_) ?_
                  · go_simp
                    refine hK.out _ _ ((World.cell?_setCell_far _ _ _ _ hbg).trans ((World.cell?_setCell_far _ _ _ _ hbg).trans t5x)) (fun hHeld => ?_)
                    clear hK K
                    try simp only [Act.put, List.setIfInBounds_toArray, List.set_cons_zero, List.set_cons_succ]
                    refine wpAnyH_done (by kernel_rfl) ?_ _
                    refine NoPanic.normal ?_
                    have p3 := HROW.out.of_block (HB2.out.block b HROW.out.lt)
                    have HR3 := Lib.hid (RowsAt.put (g := w.heap.size) hlt hgb p3 hcap HFN.out (fun i hi => ⟨(HQ.out i hi).1.keep (Keep.below HB2.out), (HQ.out i hi).2.keep (Keep.below HB2.out)⟩) HA4'.out HA5.out)
                    have CR3 := Lib.hid (((CR.out.below HB2.out).far (p := ⟨b, k * 10 + 3, none⟩) hgb (.slice A4 (listR T.rules k).zones.length c4)).far (p := ⟨b, k * 10 + 4, none⟩) hgb (.slice A5 (listR T.rules k).days.length c5))
                    have q4' : (w2.setCell ⟨b, k * 10 + 3, none⟩ (.slice A4 (listR T.rules k).zones.length c4)).cell? ⟨b, k * 10 + 4, none⟩ = some (.slice (a'.d k) (listR T.rules k).days.length (a'.dc k)) := by
                      rw [World.cell?_setCell_other _ _ _ _ (by intro e; injection e with _ e; omega)]; exact q4
                    have HZ3 := Lib.hid (((HZ.out.keep (Keep.below HB2.out)).row q3 rfl (fun _ _ => rfl) (.slice A4 (listR T.rules k).zones.length c4)).row q4' rfl (fun _ _ => rfl) (.slice A5 (listR T.rules k).days.length c5))
                    have HH3 := Lib.hid (((HH.out.keep (Keep.below HB2.out)).row q3 rfl (fun _ _ => rfl) (.slice A4 (listR T.rules k).zones.length c4)).row q4' rfl (fun _ _ => rfl) (.slice A5 (listR T.rules k).days.length c5))
                    clear q3 q4 q4' p3 zf t5 t5d ha4 ha5 hab4 hab5 hb1 hzl hdl
                    generalize (w2.setCell _ _).setCell _ _ = wz at *
                    go_wp2_with fail
                    go_roundw
                    case rel => exact ⟨k + 1, by omega, by go_num, CR3, HZ3, HH3, HR3⟩
                    case measure => simp [intOf]; omega
                  exact AllReadyH.nil
                exact AllReadyH.nil
              exact AllReadyH.nil
            exact AllReadyH.nil
          exact AllReadyH.nil
        exact AllReadyH.nil
      · have hkr : decide ((k : Int) < (T.rules.length : Int)) = false := decide_eq_false (by omega)
        have t5 := CR.out.box.c5
        go_upto_region 7 with fail
        have CR1 := Lib.hid (CR.out.below ((Below.refl _ _).alloc (Nat.le_refl _) (.cells #[] 65)))
        have hrs := CR.out.lt
        clear t5
        obtain ⟨t0, t1, t2, t3, t4, t5, t6, t7⟩ := CR1.out.box
        go_upto_region 8 with (at_builtin
                               refine wpList_copy rfl (.tmp 48) (.tmp 50) 25 rfl 65 j0 _ 2 24 Try.underlying25 hj jz0 jz1 jz2 rfl (by decide) wr.heap.size wr.heap.size rfl (Nat.le_refl _) (heap_alloc_new _ _) e T.extras.length ec _ rfl (Arr.keep (Keep.below CR1.out.bel) M.out.extras) (by intro i j; unfold extraCells; split <;> rfl) (by unfold maxLen; omega) (by omega) ?_
                               intro A6 c6 w6 ha6 hb6
                               have hb6' := ((Below.refl wr.heap.size wr).alloc (Nat.le_refl _) (.cells #[] 65)).trans hb6
                               have CR2 := Lib.hid (CR.out.below hb6')
                               clear t0 t1 t2 t3 t4 t5 t6 t7
                               obtain ⟨t0, t1, t2, t3, t4, t5, t6, t7⟩ := CR2.out.box
                               have fz := CR2.out.fz)
        have CR3 := Lib.hid (CR2.out.set6 A6 c6)
        have HE3 := Lib.hid ((Away.over (g := w.heap.size) (own_arrN ha6) (own_above ha6) (by omega)).box (p := ⟨w.heap.size, 6, none⟩) (.inl rfl) (.slice A6 T.extras.length c6))
        have HZ3 := Lib.hid ((HZ.out.keep (Keep.below hb6')).box (p := ⟨w.heap.size, 6, none⟩) (.inl rfl) (.slice A6 T.extras.length c6))
        have HH3 := Lib.hid ((HH.out.keep (Keep.below hb6')).box (p := ⟨w.heap.size, 6, none⟩) (.inl rfl) (.slice A6 T.extras.length c6))
        have HR3 := Lib.hid ((HR.out.below hb6').box (p := ⟨w.heap.size, 6, none⟩) (.inl rfl) (.slice A6 T.extras.length c6))
        clear t0 t1 t2 t3 t4 t5 t6 t7 fz ha6 hb6 hb6' CR1 CR2 CR HZ HH HR hrs
        generalize w6.setCell _ _ = wy at *
        have CS1 := Lib.hid (CR3.out.below ((Below.refl _ _).alloc (Nat.le_refl _) (.cells #[] 82)))
        have hrs := CR3.out.lt
        obtain ⟨t0, t1, t2, t3, t4, t5, t6, t7⟩ := CS1.out.box
        go_upto_region 9 with (at_builtin
                               refine wpList_copy rfl (.tmp 53) (.tmp 55) 26 rfl 82 f0 _ 3 24 Try.underlying26 hfi fz0 fz1 fz2 rfl (by decide) wy.heap.size wy.heap.size rfl (Nat.le_refl _) (heap_alloc_new _ _) f T.fixed.length fc _ rfl (Arr.keep (Keep.below CS1.out.bel) M.out.fixed) (by intro i j; unfold fixCells; split <;> rfl) (by unfold maxLen; omega) (by omega) ?_
                               intro A7 c7 w7 ha7 hb7
                               have hb7' := ((Below.refl wy.heap.size wy).alloc (Nat.le_refl _) (.cells #[] 82)).trans hb7
                               have CS2 := Lib.hid (CR3.out.below hb7')
                               clear t0 t1 t2 t3 t4 t5 t6 t7
                               obtain ⟨t0, t1, t2, t3, t4, t5, t6, t7⟩ := CS2.out.box
                               have fz := CS2.out.fz)
        have CS3 := Lib.hid (CS2.out.set7 A7 c7)
        have HF3 := Lib.hid ((Away.over (g := w.heap.size) (own_arrN ha7) (own_above ha7) (by omega)).box (p := ⟨w.heap.size, 7, none⟩) (.inl rfl) (.slice A7 T.fixed.length c7))
        have HE4 := Lib.hid ((HE3.out.keep (Keep.below hb7')).box (p := ⟨w.heap.size, 7, none⟩) (.inl rfl) (.slice A7 T.fixed.length c7))
        have HZ4 := Lib.hid ((HZ3.out.keep (Keep.below hb7')).box (p := ⟨w.heap.size, 7, none⟩) (.inl rfl) (.slice A7 T.fixed.length c7))
        have HH4 := Lib.hid ((HH3.out.keep (Keep.below hb7')).box (p := ⟨w.heap.size, 7, none⟩) (.inl rfl) (.slice A7 T.fixed.length c7))
        have HR4 := Lib.hid ((HR3.out.below hb7').box (p := ⟨w.heap.size, 7, none⟩) (.inl rfl) (.slice A7 T.fixed.length c7))
        clear t0 t1 t2 t3 t4 t5 t6 t7 fz ha7 hb7 hb7' CS1 CS2 CR3 HZ3 HH3 HR3 HE3 hrs
        generalize w7.setCell _ _ = wx at *
        obtain ⟨t0, t1, t2, t3, t4, t5, t6, t7⟩ := CS3.out.box
        obtain ⟨-, -, z0, z1, z2, z3, z4, z5, z6, z7, zf, -⟩ := CS3.out
        have HB8 := Lib.hid (BoxT.fill (T := T) z' h' A3 A6 A7 zc' hc' c3 c6 c7 z0 z1 z2 z3 z4 z5 z6 z7)
        have HZ8 := Lib.hid (HZ4.out.fillT z' h' A3 A6 A7 zc' hc' c3 c6 c7 T)
        have HH8 := Lib.hid (HH4.out.fillT z' h' A3 A6 A7 zc' hc' c3 c6 c7 T)
        have HE8 := Lib.hid (HE4.out.fillT z' h' A3 A6 A7 zc' hc' c3 c6 c7 T)
        have HF8 := Lib.hid (HF3.out.fillT z' h' A3 A6 A7 zc' hc' c3 c6 c7 T)
        have HR8 := Lib.hid (HR4.out.fillT z' h' A3 A6 A7 zc' hc' c3 c6 c7 T)
        have HW8 := Lib.hid (belowFillT CS3.out.bel z' h' A3 A6 A7 zc' hc' c3 c6 c7 T)
        go_wp2_with fail
        generalize (((((((wx.setCell _ _).setCell _ _).setCell _ _).setCell _ _).setCell _ _).setCell _ _).setCell _ _).setCell _ _ = wf at *
        clear t0 t1 t2 t3 t4 t5 t6 t7 z0 z1 z2 z3 z4 z5 z6 z7 zf
        obtain ⟨m0, m1, m2, m3, m4, m5, m6, m7⟩ := HB8.out
        obtain ⟨a', har⟩ := HR8.out.arr hc1 hc2
        exact bodyPost_ret (v := tarV T z' h' A3 A6 A7 zc' hc' c3 c6 c7) (by simp [results, Try.results11, go_sem, m0, m1, m2, m3, m4, m5, m6, m7]) rfl ⟨_, rfl, ⟨z', h', A3, A6, A7, zc', hc', c3, c6, c7, a', rfl, ⟨HZ8.out.arr, HH8.out.arr, har, HE8.out.arr, HF8.out.arr⟩⟩, HW8.out⟩
end Go.Proofs.Ytbehabaoeicgeaa

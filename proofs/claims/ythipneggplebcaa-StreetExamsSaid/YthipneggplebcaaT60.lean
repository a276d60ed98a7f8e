/- The reference's arrivals of a right way. Conditions: the net is right; the way is one of at most a thousand roads; the time is small. -/
import Derived.Test.YthipneggplebcaaRP
import Derived.Test.YthipneggplebcaaT43
import Derived.Test.YthipneggplebcaaT52
namespace Go.Proofs.Ythipneggplebcaa
open Go.RowKit Fs

set_option maxHeartbeats 3200000 in
set_option maxRecDepth 100000 in
theorem rArrivalOf_any (N : Net) (v : Value) (l : List Int) (A : Option Addr) (c : Nat) (a : Int) (w : World) (hN : RdNet w v N) (hA : ArrI w A l c) (hE : netErr N = 0) (hl : ∀ j, j < l.length → 0 ≤ listI l j ∧ listI l j < N.roads.length) (hn : l.length ≤ 1000) (h0 : 0 ≤ a) (h1 : a ≤ 1000000) :
    Calls Try.prog 35 #[v, .slice A l.length c, .int .i64 a] w fun e w' => e = .returned (.agg #[.int .i64 (arrivals N l a).1, .int .i64 (arrivals N l a).2]) ∧ Below w.heap.size w w' := by
  obtain ⟨P, R, pc, rc, ar, rfl, m⟩ := hN
  have M := Lib.hid m
  have rb1 := m.roads.le.1
  have rb2 := m.roads.le.2
  clear m
  have b1 := hA.le.1
  have b2 := hA.le.2
  have HA := Lib.hid hA
  have HLS := Lib.hid (alongTo_le (soonest_small hE) hl h0)
  have HLL := Lib.hid (alongTo_le (latest_small hE) hl h0)
  have HR := Lib.hid (net_roads_ok hE)
  have HIN := Lib.hid hl
  clear hA hl
  have BN := Lib.hid (BoxN.new w N P R pc rc 25)
  go_enter Try.func35, Try.ntmps35
  go_upto_region 2 with fail
  have BT := Lib.hid (show TreeAt (((w.alloc (.cells #[.slice P N.places.length pc, .slice R N.roads.length rc] 25)).alloc (.cells #[.int .i64 0, .int .i64 0] 35)).alloc (.cells #[.int .i64 a, .int .i64 a] 35)) (w.heap.size + 1 + 1) (.int .i64 a) (.int .i64 a) from by
    have := TreeAt.new ((w.alloc (.cells #[.slice P N.places.length pc, .slice R N.roads.length rc] 25)).alloc (.cells #[.int .i64 0, .int .i64 0] 35)) (.int .i64 a) (.int .i64 a) 35
    simpa using this)
  have BO := Lib.hid (show TreeAt (((w.alloc (.cells #[.slice P N.places.length pc, .slice R N.roads.length rc] 25)).alloc (.cells #[.int .i64 0, .int .i64 0] 35)).alloc (.cells #[.int .i64 a, .int .i64 a] 35)) (w.heap.size + 1) (.int .i64 0) (.int .i64 0) from by
    have := (TreeAt.new (w.alloc (.cells #[.slice P N.places.length pc, .slice R N.roads.length rc] 25)) (.int .i64 0) (.int .i64 0) 35).alloc (.cells #[.int .i64 a, .int .i64 a] 35)
    simpa using this)
  replace BN := Lib.hid (BN.out.keep ((Keep.alloc _ (.cells #[.int .i64 0, .int .i64 0] 35)).trans (Keep.alloc _ (.cells #[.int .i64 a, .int .i64 a] 35))))
  generalize hwb : ((w.alloc _).alloc _).alloc _ = wb at *
  have HW : Hid (Below w.heap.size w wb) := by rw [← hwb]; exact Lib.hid ((((Below.refl _ _).alloc (Nat.le_refl _) _).alloc (by simp) _).alloc (by simp; omega) _)
  have HWS : Hid (w.heap.size + 3 = wb.heap.size) := by rw [← hwb]; exact Lib.hid (by simp)
  clear hwb
  go_wp2_with fail
  go_loopw [8] (fun i wr => ∃ k : Nat, k ≤ l.length ∧ i = .int .i64 k ∧ Hid (TreeAt wr (w.heap.size + 1 + 1) (.int .i64 (alongTo (soonest N) k l a)) (.int .i64 (alongTo (latest N) k l a))) ∧ Hid (Below (w.heap.size + 2) wb wr)) (fun i _ => l.length - (intOf i).toNat)
  case atStart => exact ⟨0, Nat.zero_le _, rfl, BT, Lib.hid (Below.refl _ _)⟩
  case round =>
    obtain ⟨k, hk, rfl, HT, HB⟩ := hrel
    have HX := Lib.hid (HW.out.trans (HB.out.mono (Nat.le_add_right _ _)))
    by_cases hlt : k < l.length
    · have hkn : (k : Int) < (l.length : Int) := by omega
      have n1 := (HB.out.cell (p := ⟨w.heap.size, 1, none⟩) (by dsimp only; omega)).trans BN.out.c1
      obtain ⟨b, o, hAe, x0⟩ := (HA.out.keep (Keep.below HX.out)).at_ hlt
      subst hAe
      have r0 := HIN.out k hlt
      obtain ⟨p, hp⟩ : ∃ p : Nat, listI l k = p := ⟨_, (Int.toNat_of_nonneg r0.1).symm⟩
      have hpl : p < N.roads.length := by omega
      have hpn : (p : Int) < (N.roads.length : Int) := by omega
      have hR := M.out.roads.keep (Keep.below HX.out)
      have HPr := Lib.hid (hR.2 p hpl)
      obtain ⟨rb, ro, hRa, y⟩ := hR.at_ hpl
      subst hRa
      obtain ⟨y0, y1, y2, y3, y4⟩ := y
      have HOK := Lib.hid (HR.out p hpl).pts
      have hle := HLS.out k hk
      have hle2 := HLL.out k hk
      have F := Lib.hid (show alongTo (soonest N) (k + 1) l a = alongTo (soonest N) k l a + (takesAt (listD N.roads p).pts (alongTo (soonest N) k l a)).1 ∧ alongTo (latest N) (k + 1) l a = alongTo (latest N) k l a + (takesAt (listD N.roads p).pts (alongTo (latest N) k l a)).2 by
        show soonest N (listI l k).toNat _ = _ ∧ latest N (listI l k).toNat _ = _
        rw [hp, Int.toNat_natCast]; exact ⟨rfl, rfl⟩)
      have tk1 := (takesAt_is HOK.out (alongTo (soonest N) k l a)).1
      have tk2 := (takesAt_is HOK.out (alongTo (latest N) k l a)).2
      rw [hp] at x0
      clear hR r0 hp
      obtain ⟨wq, hwq⟩ : ∃ wq, wq = wr := ⟨_, rfl⟩
      subst hwq
      go_wp2_with fail
      go_cut [9, 10, 11, 12] from 9 to 27 (fun s s10 s11 s12 wx => ∃ g : Nat, s = .pointer (some ⟨g, 0, none⟩) ∧ s10 = .int .i64 a ∧ s11 = .int .i64 a ∧ s12 = .agg #[.int .i64 a, .int .i64 a] ∧ wq.heap.size ≤ g ∧ Hid (BoxD wx g (listD N.roads p) (ar.p p) (ar.pc p)) ∧ Hid (Below wq.heap.size wq wx))
      case first =>
        have HBd : Hid (Below wq.heap.size wq wq.drew) := Lib.hid (Below.refl _ _).drew
        have MK : Hid (∀ w', Below wq.heap.size wq w' → w'.cell? ⟨w.heap.size, 1, none⟩ = some (.slice (some ⟨rb, ro, none⟩) N.roads.length rc) ∧ w'.cell? ⟨b, o + k, none⟩ = some (.int .i64 (p : Int)) ∧ w'.cell? ⟨rb, ro + p * 5, none⟩ = some (.string (listD N.roads p).name) ∧ w'.cell? ⟨rb, ro + p * 5 + 1, none⟩ = some (.int .i64 (listD N.roads p).src) ∧ w'.cell? ⟨rb, ro + p * 5 + 2, none⟩ = some (.int .i64 (listD N.roads p).dst) ∧ w'.cell? ⟨rb, ro + p * 5 + 3, none⟩ = some (.int .i64 (listD N.roads p).metres) ∧ w'.cell? ⟨rb, ro + p * 5 + 4, none⟩ = some (.slice (ar.p p) (listD N.roads p).pts.length (ar.pc p)) ∧ Hid (Below wq.heap.size wq w')) :=
          Lib.hid fun w' hw => ⟨Keep.below hw _ _ n1, Keep.below hw _ _ x0, Keep.below hw _ _ y0, Keep.below hw _ _ y1, Keep.below hw _ _ y2, Keep.below hw _ _ y3, Keep.below hw _ _ y4, Lib.hid hw⟩
        go_region_held3 (fun w' => w'.cell? ⟨w.heap.size, 1, none⟩ = some (.slice (some ⟨rb, ro, none⟩) N.roads.length rc) ∧ w'.cell? ⟨b, o + k, none⟩ = some (.int .i64 (p : Int)) ∧ w'.cell? ⟨rb, ro + p * 5, none⟩ = some (.string (listD N.roads p).name) ∧ w'.cell? ⟨rb, ro + p * 5 + 1, none⟩ = some (.int .i64 (listD N.roads p).src) ∧ w'.cell? ⟨rb, ro + p * 5 + 2, none⟩ = some (.int .i64 (listD N.roads p).dst) ∧ w'.cell? ⟨rb, ro + p * 5 + 3, none⟩ = some (.int .i64 (listD N.roads p).metres) ∧ w'.cell? ⟨rb, ro + p * 5 + 4, none⟩ = some (.slice (ar.p p) (listD N.roads p).pts.length (ar.pc p)) ∧ Hid (Below wq.heap.size wq w'))
          (first
            | exact MK.out _ HBd.out
            | exact MK.out _ (((Below.refl _ _).alloc (Nat.le_refl _) _).drew)
            | (go_split_ands; exact MK.out _ (Below.alloc (Hid.out (by assumption)) (Hid.out (by assumption) : Below wq.heap.size wq _).size _)))
          (fail)
        all_goals
          rename_i hS
          obtain ⟨-, -, -, -, -, -, -, hbb⟩ := hS
          go_wp2_with fail
          go_meet
          exact ⟨_, rfl, rfl, rfl, rfl, Nat.le_refl _, Lib.hid ((BoxD.new wq (listD N.roads p) (ar.p p) (ar.pc p) 45).keep (Keep.drew _)), hbb⟩
      case rest =>
        obtain ⟨g, rfl, rfl, rfl, rfl, hg, HD, HB2⟩ := hcut
        have HT2 := Lib.hid (HT.out.keep HB2.out)
        have HX2 := Lib.hid (HX.out.trans (HB2.out.mono HX.out.size))
        have HP2 := Lib.hid (HPr.out.keep (Keep.below HB2.out))
        have HBW := Lib.hid (HB.out.trans (HB2.out.mono (Nat.le_trans (by have := HWS.out; omega) HB.out.size)))
        obtain ⟨t0, t1, tf0, tf1⟩ := HT2.out
        obtain ⟨d0, d1, d2, d3, d4⟩ := HD.out
        obtain ⟨wz, hwz⟩ : ∃ wz, wz = wc := ⟨_, rfl⟩
        subst hwz
        clear n1 x0 y0 y1 y2 y3 y4 HB2 HT HX HPr
        generalize hzl : alongTo (soonest N) k l a = zl at *
        generalize hzh : alongTo (latest N) k l a = zh at *
        have HZ := Lib.hid (And.intro hzl hzh)
        clear hzl hzh
        have hw1 : IntKind.i64.wrap (zl + (takesAt (listD N.roads p).pts zl).1) = zl + (takesAt (listD N.roads p).pts zl).1 := by rw [IntKind.wrap_i64]; omega
        have hw2 : IntKind.i64.wrap (zh + (takesAt (listD N.roads p).pts zh).2) = zh + (takesAt (listD N.roads p).pts zh).2 := by rw [IntKind.wrap_i64]; omega
        have hf0 : ∀ (x y : Int) (w : World), (Instr.field 35 (.agg #[.int .i64 x, .int .i64 y]) 0).run Try.prog w = .ok (.int .i64 x) w := fun _ _ _ => by kernel_rfl
        have hf1 : ∀ (x y : Int) (w : World), (Instr.field 35 (.agg #[.int .i64 x, .int .i64 y]) 1).run Try.prog w = .ok (.int .i64 y) w := fun _ _ _ => by kernel_rfl
        go_wp2_with fail
        obtain ⟨C, Ci, Co⟩ := classOf wz
        refine quietPeel (C := C) (l := [_, _, _, _, _, _, _, _, _, _, _, _, _, _, _, _, _]) (by kernel_rfl) (by kernel_rfl) (by kernel_rfl) (Co.out _ (Below.refl _ _).drew) ?_
        repeat (first
          | go_big_quiet_skip
          | (go_big_quiet_want; go_big_quiet_op; go_big_quiet_on)
          | (refine quiet_yes (by rfl) ?_
             apply Exists.intro
             refine ⟨fun w' hC => ?_, ?_⟩
             · have hbb := Ci.out _ hC
               have e0 := Keep.below hbb _ _ d0
               have e1 := Keep.below hbb _ _ d1
               have e2 := Keep.below hbb _ _ d2
               have e3 := Keep.below hbb _ _ d3
               have e4 := Keep.below hbb _ _ d4
               have e5 := Keep.below hbb _ _ t0
               have e6 := Keep.below hbb _ _ t1
               go_simp
               first
                 | done
                 | rfl
                 | (go_at_call 26
                    refine (rTakes_any (listD N.roads p) _ _ _ _ (HP2.out.keep (Keep.below hbb)) HOK.out (by omega) (by omega)).mono ?_
                    rintro e' w1 ⟨rfl, hb1⟩
                    exact ⟨rfl, Co.out _ (hbb.trans (hb1.mono hbb.size))⟩)
             simp only [Act.put, List.setIfInBounds_toArray, List.set_cons_zero, List.set_cons_succ]))
        refine wpQuiet_nil ?_
        intro w7 hC7
        have hb7 := Ci.out _ hC7
        obtain ⟨t0, t1, tf0, tf1⟩ := HT2.out.keep hb7
        have HB7 := Lib.hid (HBW.out.trans (hb7.mono (Nat.le_trans (by have := HWS.out; omega) HBW.out.size)))
        have HT7 := Lib.hid (HT2.out.keep hb7)
        clear hb7 hC7 d0 d1 d2 d3 d4 Ci Co
        go_wp2_with fail
        go_roundw
        case rel => exact ⟨k + 1, by omega, by go_num, by rw [F.out.1, F.out.2]; exact Lib.hid (HT7.out.set _ _), Lib.hid ((HB7.out.setCell (p := ⟨w.heap.size + 1 + 1, 0, none⟩) (Nat.le_refl _) _).setCell (p := ⟨w.heap.size + 1 + 1, 1, none⟩) (Nat.le_refl _) _)⟩
        case measure => simp [intOf]; omega
    · obtain rfl : k = l.length := by omega
      clear hlt hk
      obtain ⟨t0, t1, -, -⟩ := HT.out
      obtain ⟨o0, o1, of0, of1⟩ := BO.out.below HB.out (by omega)
      go_wp2_with fail
      exact bodyPost_ret (v := .agg #[.int .i64 (arrivals N l a).1, .int .i64 (arrivals N l a).2]) (by simp [results, Try.results35, go_sem, o0, o1, arrivals]) rfl ⟨rfl, (HX.out.setCell (p := ⟨w.heap.size + 1, 0, none⟩) (by simp) _).setCell (p := ⟨w.heap.size + 1, 1, none⟩) (by simp) _⟩
end Go.Proofs.Ythipneggplebcaa

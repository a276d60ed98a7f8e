/- The reference's arrivals of a right way. Conditions: the net is right; the way is one of at most a thousand roads; the time is small. -/
import Derived.Test.YthipneggplebcaaRP
import Derived.Test.YthipneggplebcaaT43
import Derived.Test.YthipneggplebcaaT52
import Derived.Test.YthipneggplebcaaT35
namespace Go.Proofs.Ythipneggplebcaa
open Go.RowKit Fs

set_option maxHeartbeats 3200000 in
set_option maxRecDepth 100000 in
theorem rArrivalOf_any (N : Net) (v : Value) (l : List Int) (A : Option Addr) (c : Nat) (a : Int) (w : World) (hN : RdNet w v N) (hA : ArrI w A l c) (hE : netErr N = 0) (hl : ∀ j, j < l.length → 0 ≤ listI l j ∧ listI l j < N.roads.length) (hn : l.length ≤ 1000) (h0 : 0 ≤ a) (h1 : a ≤ 1000000) :
    Calls Try.prog 35 #[v, .slice A l.length c, .int .i64 a] w fun e w' => e = .returned (.agg #[.int .i64 (arrivals N l a).1, .int .i64 (arrivals N l a).2]) ∧ Below w.heap.size w w' := by
  obtain ⟨P, R, pc, rc, ar, rfl, m⟩ := hN
  have M := Lib.hid m
  have rb1 := m.roads.le.1
  have rb2 := m.roads.le.2
  clear m
  have b1 := hA.le.1
  have b2 := hA.le.2
  have HA := Lib.hid hA
  have HLS := Lib.hid (alongTo_le (soonest_small hE) hl h0)
  have HLL := Lib.hid (alongTo_le (latest_small hE) hl h0)
  have HR := Lib.hid (net_roads_ok hE)
  have HIN := Lib.hid hl
  clear hA hl
  have BN := Lib.hid (BoxN.new w N P R pc rc 25)
  go_enter Try.func35, Try.ntmps35
  go_upto_region 2 with fail
  have BT := Lib.hid (show TreeAt (((w.alloc (.cells #[.slice P N.places.length pc, .slice R N.roads.length rc] 25)).alloc (.cells #[.int .i64 0, .int .i64 0] 35)).alloc (.cells #[.int .i64 a, .int .i64 a] 35)) (w.heap.size + 1 + 1) (.int .i64 a) (.int .i64 a) from by
    have := TreeAt.new ((w.alloc (.cells #[.slice P N.places.length pc, .slice R N.roads.length rc] 25)).alloc (.cells #[.int .i64 0, .int .i64 0] 35)) (.int .i64 a) (.int .i64 a) 35
    simpa using this)
  have BO := Lib.hid (show TreeAt (((w.alloc (.cells #[.slice P N.places.length pc, .slice R N.roads.length rc] 25)).alloc (.cells #[.int .i64 0, .int .i64 0] 35)).alloc (.cells #[.int .i64 a, .int .i64 a] 35)) (w.heap.size + 1) (.int .i64 0) (.int .i64 0) from by
    have := (TreeAt.new (w.alloc (.cells #[.slice P N.places.length pc, .slice R N.roads.length rc] 25)) (.int .i64 0) (.int .i64 0) 35).alloc (.cells #[.int .i64 a, .int .i64 a] 35)
    simpa using this)
  replace BN := Lib.hid (BN.out.keep ((Keep.alloc _ (.cells #[.int .i64 0, .int .i64 0] 35)).trans (Keep.alloc _ (.cells #[.int .i64 a, .int .i64 a] 35))))
  generalize hwb : ((w.alloc _).alloc _).alloc _ = wb at *
  have HW : Hid (Below w.heap.size w wb) := by rw [← hwb]; exact Lib.hid ((((Below.refl _ _).alloc (Nat.le_refl _) _).alloc (by simp) _).alloc (by simp; omega) _)
  have HWS : Hid (w.heap.size + 3 = wb.heap.size) := by rw [← hwb]; exact Lib.hid (by simp)
  clear hwb
  go_wp2_with fail
  go_loopw [8] (fun i wr => ∃ k : Nat, k ≤ l.length ∧ i = .int .i64 k ∧ Hid (TreeAt wr (w.heap.size + 1 + 1) (.int .i64 (alongTo (soonest N) k l a)) (.int .i64 (alongTo (latest N) k l a))) ∧ Hid (Below (w.heap.size + 2) wb wr)) (fun i _ => l.length - (intOf i).toNat)
  case atStart => exact ⟨0, Nat.zero_le _, rfl, BT, Lib.hid (Below.refl _ _)⟩
  case round =>
    obtain ⟨k, hk, rfl, HT, HB⟩ := hrel
    have HX := Lib.hid (HW.out.trans (HB.out.mono (Nat.le_add_right _ _)))
    by_cases hlt : k < l.length
    · have hkn : (k : Int) < (l.length : Int) := by omega
      have n1 := (HB.out.cell (p := ⟨w.heap.size, 1, none⟩) (by dsimp only; omega)).trans BN.out.c1
      obtain ⟨b, o, hAe, x0⟩ := (HA.out.keep (Keep.below HX.out)).at_ hlt
      subst hAe
      have r0 := HIN.out k hlt
      obtain ⟨p, hp⟩ : ∃ p : Nat, listI l k = p := ⟨_, (Int.toNat_of_nonneg r0.1).symm⟩
      have hpl : p < N.roads.length := by omega
      have hpn : (p : Int) < (N.roads.length : Int) := by omega
      have hR := M.out.roads.keep (Keep.below HX.out)
      have HPr := Lib.hid (hR.2 p hpl)
      obtain ⟨rb, ro, hRa, y⟩ := hR.at_ hpl
      subst hRa
      obtain ⟨y0, y1, y2, y3, y4⟩ := y
      have HOK := Lib.hid (HR.out p hpl).pts
      have hle := HLS.out k hk
      have hle2 := HLL.out k hk
      have F := Lib.hid (show alongTo (soonest N) (k + 1) l a = alongTo (soonest N) k l a + (takesAt (listD N.roads p).pts (alongTo (soonest N) k l a)).1 ∧ alongTo (latest N) (k + 1) l a = alongTo (latest N) k l a + (takesAt (listD N.roads p).pts (alongTo (latest N) k l a)).2 by
        show soonest N (listI l k).toNat _ = _ ∧ latest N (listI l k).toNat _ = _
        rw [hp, Int.toNat_natCast]; exact ⟨rfl, rfl⟩)
      have tk1 := (takesAt_is HOK.out (alongTo (soonest N) k l a)).1
      have tk2 := (takesAt_is HOK.out (alongTo (latest N) k l a)).2
      rw [hp] at x0
      clear hR r0 hp
      obtain ⟨wq, hwq⟩ : ∃ wq, wq = wr := ⟨_, rfl⟩
      subst hwq
      go_wp2_with fail
      go_cut [9, 10, 11, 12] from 9 to 27 (fun s s10 s11 s12 wx => ∃ g : Nat, s = .pointer (some ⟨g, 0, none⟩) ∧ s10 = .int .i64 a ∧ s11 = .int .i64 a ∧ s12 = .agg #[.int .i64 a, .int .i64 a] ∧ wq.heap.size ≤ g ∧ Hid (BoxD wx g (listD N.roads p) (ar.p p) (ar.pc p)) ∧ Hid (Below wq.heap.size wq wx))
      case first =>
        have HBd : Hid (Below wq.heap.size wq wq.drew) := Lib.hid (Below.refl _ _).drew
        have MK : Hid (∀ w', Below wq.heap.size wq w' → w'.cell? ⟨w.heap.size, 1, none⟩ = some (.slice (some ⟨rb, ro, none⟩) N.roads.length rc) ∧ w'.cell? ⟨b, o + k, none⟩ = some (.int .i64 (p : Int)) ∧ w'.cell? ⟨rb, ro + p * 5, none⟩ = some (.string (listD N.roads p).name) ∧ w'.cell? ⟨rb, ro + p * 5 + 1, none⟩ = some (.int .i64 (listD N.roads p).src) ∧ w'.cell? ⟨rb, ro + p * 5 + 2, none⟩ = some (.int .i64 (listD N.roads p).dst) ∧ w'.cell? ⟨rb, ro + p * 5 + 3, none⟩ = some (.int .i64 (listD N.roads p).metres) ∧ w'.cell? ⟨rb, ro + p * 5 + 4, none⟩ = some (.slice (ar.p p) (listD N.roads p).pts.length (ar.pc p)) ∧ Hid (Below wq.heap.size wq w')) :=
          Lib.hid fun w' hw => ⟨Keep.below hw _ _ n1, Keep.below hw _ _ x0, Keep.below hw _ _ y0, Keep.below hw _ _ y1, Keep.below hw _ _ y2, Keep.below hw _ _ y3, Keep.below hw _ _ y4, Lib.hid hw⟩
        go_region_held3 (fun w' => w'.cell? ⟨w.heap.size, 1, none⟩ = some (.slice (some ⟨rb, ro, none⟩) N.roads.length rc) ∧ w'.cell? ⟨b, o + k, none⟩ = some (.int .i64 (p : Int)) ∧ w'.cell? ⟨rb, ro + p * 5, none⟩ = some (.string (listD N.roads p).name) ∧ w'.cell? ⟨rb, ro + p * 5 + 1, none⟩ = some (.int .i64 (listD N.roads p).src) ∧ w'.cell? ⟨rb, ro + p * 5 + 2, none⟩ = some (.int .i64 (listD N.roads p).dst) ∧ w'.cell? ⟨rb, ro + p * 5 + 3, none⟩ = some (.int .i64 (listD N.roads p).metres) ∧ w'.cell? ⟨rb, ro + p * 5 + 4, none⟩ = some (.slice (ar.p p) (listD N.roads p).pts.length (ar.pc p)) ∧ Hid (Below wq.heap.size wq w'))
          (first
            | exact MK.out _ HBd.out
            | exact MK.out _ (((Below.refl _ _).alloc (Nat.le_refl _) _).drew)
            | (go_split_ands; exact MK.out _ (Below.alloc (Hid.out (by assumption)) (Hid.out (by assumption) : Below wq.heap.size wq _).size _)))
          (fail)
        all_goals
          rename_i hS
          obtain ⟨-, -, -, -, -, -, -, hbb⟩ := hS
          go_wp2_with fail
          go_meet
          exact ⟨_, rfl, rfl, rfl, rfl, Nat.le_refl _, Lib.hid ((BoxD.new wq (listD N.roads p) (ar.p p) (ar.pc p) 45).keep (Keep.drew _)), hbb⟩
      case rest =>
        obtain ⟨g, rfl, rfl, rfl, rfl, hg, HD, HB2⟩ := hcut
        have HT2 := Lib.hid (HT.out.keep HB2.out)
        have HX2 := Lib.hid (HX.out.trans (HB2.out.mono HX.out.size))
        have HP2 := Lib.hid (HPr.out.keep (Keep.below HB2.out))
        have HBW := Lib.hid (HB.out.trans (HB2.out.mono (Nat.le_trans (by have := HWS.out; omega) HB.out.size)))
        obtain ⟨t0, t1, tf0, tf1⟩ := HT2.out
        obtain ⟨d0, d1, d2, d3, d4⟩ := HD.out
        obtain ⟨wz, hwz⟩ : ∃ wz, wz = wc := ⟨_, rfl⟩
        subst hwz
        clear n1 x0 y0 y1 y2 y3 y4 HB2 HT HX HPr
        generalize hzl : alongTo (soonest N) k l a = zl at *
        generalize hzh : alongTo (latest N) k l a = zh at *
        have HZ := Lib.hid (And.intro hzl hzh)
        clear hzl hzh
        have hw1 : IntKind.i64.wrap (zl + (takesAt (listD N.roads p).pts zl).1) = zl + (takesAt (listD N.roads p).pts zl).1 := by rw [IntKind.wrap_i64]; omega
        have hw2 : IntKind.i64.wrap (zh + (takesAt (listD N.roads p).pts zh).2) = zh + (takesAt (listD N.roads p).pts zh).2 := by rw [IntKind.wrap_i64]; omega
        have hf0 : ∀ (x y : Int) (w : World), (Instr.field 35 (.agg #[.int .i64 x, .int .i64 y]) 0).run Try.prog w = .ok (.int .i64 x) w := fun _ _ _ => by kernel_rfl
        have hf1 : ∀ (x y : Int) (w : World), (Instr.field 35 (.agg #[.int .i64 x, .int .i64 y]) 1).run Try.prog w = .ok (.int .i64 y) w := fun _ _ _ => by kernel_rfl
        go_wp2_with fail
        obtain ⟨C, Ci, Co⟩ := classOf wz
        refine quietPeel (C := C) (l := [_, _, _, _, _, _, _, _, _, _, _, _, _, _, _, _, _]) (by kernel_rfl) (by kernel_rfl) (by kernel_rfl) (Co.out _ (Below.refl _ _).drew) ?_
        repeat (first
          | go_big_quiet_skip
          | (go_big_quiet_want; go_big_quiet_op; go_big_quiet_on)
          | (refine quiet_yes (by rfl) ?_
             apply Exists.intro
             refine ⟨fun w' hC => ?_, ?_⟩
             · have hbb := Ci.out _ hC
               have e0 := Keep.below hbb _ _ d0
               have e1 := Keep.below hbb _ _ d1
               have e2 := Keep.below hbb _ _ d2
               have e3 := Keep.below hbb _ _ d3
               have e4 := Keep.below hbb _ _ d4
               have e5 := Keep.below hbb _ _ t0
               have e6 := Keep.below hbb _ _ t1
               go_simp
               first
                 | done
                 | rfl
                 | (go_at_call 26
                    refine (rTakes_any (listD N.roads p) _ _ _ _ (HP2.out.keep (Keep.below hbb)) HOK.out (by omega) (by omega)).mono ?_
                    rintro e' w1 ⟨rfl, hb1⟩
                    exact ⟨rfl, Co.out _ (hbb.trans (hb1.mono hbb.size))⟩)
             simp only [Act.put, List.setIfInBounds_toArray, List.set_cons_zero, List.set_cons_succ]))
        refine wpQuiet_nil ?_
        intro w7 hC7
        have hb7 := Ci.out _ hC7
        obtain ⟨t0, t1, tf0, tf1⟩ := HT2.out.keep hb7
        have HB7 := Lib.hid (HBW.out.trans (hb7.mono (Nat.le_trans (by have := HWS.out; omega) HBW.out.size)))
        have HT7 := Lib.hid (HT2.out.keep hb7)
        clear hb7 hC7 d0 d1 d2 d3 d4 Ci Co
        go_wp2_with fail
        go_roundw
        case rel => exact ⟨k + 1, by omega, by go_num, by rw [F.out.1, F.out.2]; exact Lib.hid (HT7.out.set _ _), Lib.hid ((HB7.out.setCell (p := ⟨w.heap.size + 1 + 1, 0, none⟩) (Nat.le_refl _) _).setCell (p := ⟨w.heap.size + 1 + 1, 1, none⟩) (Nat.le_refl _) _)⟩
        case measure => simp [intOf]; omega
    · obtain rfl : k = l.length := by omega
      clear hlt hk
      obtain ⟨t0, t1, -, -⟩ := HT.out
      obtain ⟨o0, o1, of0, of1⟩ := BO.out.below HB.out (by omega)
      go_wp2_with fail
      exact bodyPost_ret (v := .agg #[.int .i64 (arrivals N l a).1, .int .i64 (arrivals N l a).2]) (by simp [results, Try.results35, go_sem, o0, o1, arrivals]) rfl ⟨rfl, (HX.out.setCell (p := ⟨w.heap.size + 1, 0, none⟩) (by simp) _).setCell (p := ⟨w.heap.size + 1, 1, none⟩) (by simp) _⟩
end Go.Proofs.Ythipneggplebcaa
/- The law of ways: which are right, their arrivals and metres. No condition. -/
namespace Go.Proofs.Ythipneggplebcaa
open Go.RowKit Fs

theorem Fs.avErr_first {N : Net} {l : List Int} {a : Int} (h : cwErr N l ≠ 0) : avErr N l a = cwErr N l := by
  have : avErr N l a = listI [cwErr N l, timeErr a] 0 := (fst_hit (k := 0) (n := 2) (by decide) (fun j hj => absurd hj (Nat.not_lt_zero _)) h).1
  exact this
theorem Fs.avErr_time {N : Net} {l : List Int} {a : Int} (h : cwErr N l = 0) : avErr N l a = timeErr a := by
  unfold avErr
  rw [h]
  by_cases e : timeErr a = 0
  · rw [e]; rfl
  · have : fst (listI [0, timeErr a]) 2 = listI [0, timeErr a] 1 := (fst_hit (k := 1) (n := 2) (by decide) (fun j hj => by
      obtain rfl : j = 0 := by omega
      rfl) e).1
    exact this
def Fs.shortL (n : Nat) : Bool := decide (n ≤ 12) || (decide (200 < n) && decide (n ≤ 202))
set_option maxHeartbeats 800000 in
theorem short_any (l : List Int) (A : Option Addr) (c : Nat) (w : World) (h : ArrI w A l c) :
    Calls Try.prog 27 #[.slice A l.length c] w fun e w' => e = .returned (.bool (shortL l.length)) ∧ w = w' := by
  have b1 := h.le.1
  have b2 := h.le.2
  clear h
  go_enter Try.func27, Try.ntmps27
  by_cases h1 : l.length ≤ 12
  · have d1 : decide ((l.length : Int) ≤ 12) = true := decide_eq_true (by omega)
    have G := Lib.hid (show shortL l.length = true by unfold shortL; rw [decide_eq_true h1]; rfl)
    clear h1
    go_wp2_with fail
    go_ret
    exact ⟨ret_bool G.out.symm, rfl⟩
  · have d1 : decide ((l.length : Int) ≤ 12) = false := decide_eq_false (by omega)
    by_cases h2 : 200 < l.length
    · have d2 : decide ((l.length : Int) > 200) = true := decide_eq_true (by omega)
      have d3 : decide (200 < (l.length : Int)) = true := decide_eq_true (by omega)
      by_cases h3 : l.length ≤ 202
      · have d4 : decide ((l.length : Int) ≤ 202) = true := decide_eq_true (by omega)
        have G := Lib.hid (show shortL l.length = true by unfold shortL; rw [decide_eq_false h1, decide_eq_true h2, decide_eq_true h3]; rfl)
        clear h1 h2 h3
        go_wp2_with fail
        go_ret
        exact ⟨ret_bool G.out.symm, rfl⟩
      · have d4 : decide ((l.length : Int) ≤ 202) = false := decide_eq_false (by omega)
        have G := Lib.hid (show shortL l.length = false by unfold shortL; rw [decide_eq_false h1, decide_eq_true h2, decide_eq_false h3]; rfl)
        clear h1 h2 h3
        go_wp2_with fail
        go_ret
        exact ⟨ret_bool G.out.symm, rfl⟩
    · have d2 : decide ((l.length : Int) > 200) = false := decide_eq_false (by omega)
      have d3 : decide (200 < (l.length : Int)) = false := decide_eq_false (by omega)
      have G := Lib.hid (show shortL l.length = false by unfold shortL; rw [decide_eq_false h1, decide_eq_false h2]; rfl)
      clear h1 h2
      go_wp2_with fail
      go_ret
      exact ⟨ret_bool G.out.symm, rfl⟩
theorem Fs.shortL_le {n : Nat} (h : shortL n = true) : n ≤ 202 := by
  unfold shortL at h
  by_cases h1 : n ≤ 12
  · omega
  · rw [decide_eq_false h1, Bool.false_or, Bool.and_eq_true] at h
    exact of_decide_eq_true h.2

set_option maxHeartbeats 6400000 in
set_option maxRecDepth 100000 in
theorem law61_any (N : Net) (v : Value) (l : List Int) (A : Option Addr) (c : Nat) (a : Int) (w : World) (hN : RdNet w v N) (hA : ArrI w A l c) :
    Calls Try.prog 4 #[v, .slice A l.length c, .int .i64 a] w fun e w' => e = .returned (.bool true) ∧ Below w.heap.size w w' := by
  have hN0 := Lib.hid hN
  obtain ⟨P, R, pc, rc, ar, rfl, mm⟩ := hN
  clear mm
  have HA := Lib.hid hA
  clear hA
  have BN := Lib.hid (BoxN.new w N P R pc rc 25)
  go_enter Try.func4, Try.ntmps4
  go_upto_region 1 with fail
  generalize hwb : w.alloc _ = wb at *
  have HW : Hid (Below w.heap.size w wb) := by rw [← hwb]; exact Lib.hid ((Below.refl _ _).alloc (Nat.le_refl _) _)
  clear hwb
  obtain ⟨n0, n1⟩ := BN.out
  go_wp2_with fail
  refine (awake_any _).mono ?_
  rintro e' w1 ⟨rfl, hb1⟩
  replace HW := Lib.hid (HW.out.trans (hb1.mono HW.out.size))
  replace BN := Lib.hid (BN.out.keep (Keep.below hb1))
  clear n0 n1
  clear hb1
  obtain ⟨n0, n1⟩ := BN.out
  go_wp2_with fail
  refine (few_any N _ _ (hN0.out.keep (Keep.below HW.out))).mono ?_
  rintro e' w2 ⟨rfl, hb1⟩
  replace HW := Lib.hid (HW.out.trans (hb1.mono HW.out.size))
  replace BN := Lib.hid (BN.out.keep (Keep.below hb1))
  clear n0 n1
  clear hb1
  cases hf : fewN N with
  | false =>
    go_wp2_with fail
    go_ret
    exact ⟨rfl, HW.out⟩
  | true =>
    have HL := Lib.hid (few_lens hf)
    clear hf
    obtain ⟨n0, n1⟩ := BN.out
    go_wp2_with fail
    refine (short_any l A c _ (HA.out.keep (Keep.below HW.out))).mono ?_
    rintro e' w3 ⟨rfl, rfl⟩
    clear n0 n1
    cases hs : shortL l.length with
    | false =>
      go_wp2_with fail
      go_ret
      exact ⟨rfl, HW.out⟩
    | true =>
      have hlen := shortL_le hs
      clear hs
      obtain ⟨n0, n1⟩ := BN.out
      go_wp2_with fail
      refine (copyNet_any N _ _ (hN0.out.keep (Keep.below HW.out)) HL.out.1 HL.out.2.1 HL.out.2.2).mono ?_
      rintro e' wa1 ⟨va1, rfl, h3, hb1⟩
      replace HW := Lib.hid (HW.out.trans (hb1.mono HW.out.size))
      replace BN := Lib.hid (BN.out.keep (Keep.below hb1))
      have HC1 := Lib.hid h3
      clear h3
      clear n0 n1
      clear hb1
      obtain ⟨n0, n1⟩ := BN.out
      go_wp2_with fail
      refine (copyInts_any l A c _ (HA.out.keep (Keep.below HW.out)) (by omega)).mono ?_
      rintro e' wi1 ⟨A1, c1, rfl, h3, -, hb1⟩
      replace HW := Lib.hid (HW.out.trans (hb1.mono HW.out.size))
      replace BN := Lib.hid (BN.out.keep (Keep.below hb1))
      replace HC1 := Lib.hid (HC1.out.keep (Keep.below hb1))
      have HI1 := Lib.hid h3
      clear h3
      clear n0 n1
      clear hb1
      obtain ⟨n0, n1⟩ := BN.out
      go_wp2_with fail
      refine (checkWay_any N _ l A1 c1 _ HC1.out HI1.out).mono ?_
      rintro e' w4 ⟨rfl, hb1⟩
      replace HW := Lib.hid (HW.out.trans (hb1.mono HW.out.size))
      replace BN := Lib.hid (BN.out.keep (Keep.below hb1))
      clear HC1 HI1
      clear n0 n1
      clear hb1
      obtain ⟨n0, n1⟩ := BN.out
      go_wp2_with fail
      refine (copyNet_any N _ _ (hN0.out.keep (Keep.below HW.out)) HL.out.1 HL.out.2.1 HL.out.2.2).mono ?_
      rintro e' wa2 ⟨va2, rfl, h3, hb1⟩
      replace HW := Lib.hid (HW.out.trans (hb1.mono HW.out.size))
      replace BN := Lib.hid (BN.out.keep (Keep.below hb1))
      have HC2 := Lib.hid h3
      clear h3
      clear n0 n1
      clear hb1
      obtain ⟨n0, n1⟩ := BN.out
      go_wp2_with fail
      refine (copyInts_any l A c _ (HA.out.keep (Keep.below HW.out)) (by omega)).mono ?_
      rintro e' wi2 ⟨A2, c2, rfl, h3, -, hb1⟩
      replace HW := Lib.hid (HW.out.trans (hb1.mono HW.out.size))
      replace BN := Lib.hid (BN.out.keep (Keep.below hb1))
      replace HC2 := Lib.hid (HC2.out.keep (Keep.below hb1))
      have HI2 := Lib.hid h3
      clear h3
      clear n0 n1
      clear hb1
      obtain ⟨n0, n1⟩ := BN.out
      go_wp2_with fail
      refine (arrOf_any N _ l A2 c2 a _ HC2.out HI2.out).mono ?_
      rintro e' w5 ⟨rfl, hb1⟩
      replace HW := Lib.hid (HW.out.trans (hb1.mono HW.out.size))
      replace BN := Lib.hid (BN.out.keep (Keep.below hb1))
      clear HC2 HI2
      clear n0 n1
      clear hb1
      have HT := Lib.hid (TreeAt.new w5 (.int .i64 (arrOf N l a).1.1) (.int .i64 (arrOf N l a).1.2) 35)
      have BN2 := Lib.hid (BN.out.keep (Keep.alloc _ (.cells #[.int .i64 (arrOf N l a).1.1, .int .i64 (arrOf N l a).1.2] 35)))
      obtain ⟨n0, n1⟩ := BN.out
      obtain ⟨k0, k1⟩ := BN2.out
      go_wp2_with fail
      generalize hw8 : w5.alloc _ = w8 at *
      have hb8 : Below w5.heap.size w5 w8 := by rw [← hw8]; exact (Below.refl _ _).alloc (Nat.le_refl _) _
      clear hw8 n0 n1 k0 k1
      replace HW := Lib.hid (HW.out.trans (hb8.mono HW.out.size))
      replace BN := BN2
      clear hb8 BN2
      refine (copyNet_any N _ _ (hN0.out.keep (Keep.below HW.out)) HL.out.1 HL.out.2.1 HL.out.2.2).mono ?_
      rintro e' wa3 ⟨va3, rfl, h3, hb1⟩
      replace HW := Lib.hid (HW.out.trans (hb1.mono HW.out.size))
      replace BN := Lib.hid (BN.out.keep (Keep.below hb1))
      replace HT := Lib.hid (HT.out.keep hb1)
      have HC3 := Lib.hid h3
      clear h3 hb1
      obtain ⟨n0, n1⟩ := BN.out
      obtain ⟨t0, t1, -, -⟩ := HT.out
      go_wp2_with fail
      refine (copyInts_any l A c _ (HA.out.keep (Keep.below HW.out)) (by omega)).mono ?_
      rintro e' wi3 ⟨A3, c3, rfl, h3, -, hb1⟩
      replace HW := Lib.hid (HW.out.trans (hb1.mono HW.out.size))
      replace BN := Lib.hid (BN.out.keep (Keep.below hb1))
      replace HT := Lib.hid (HT.out.keep hb1)
      replace HC3 := Lib.hid (HC3.out.keep (Keep.below hb1))
      have HI3 := Lib.hid h3
      clear h3
      clear n0 n1 t0 t1
      clear hb1
      obtain ⟨n0, n1⟩ := BN.out
      obtain ⟨t0, t1, -, -⟩ := HT.out
      go_wp2_with fail
      refine (metOf_any N _ l A3 c3 _ HC3.out HI3.out).mono ?_
      rintro e' w6 ⟨rfl, hb1⟩
      replace HW := Lib.hid (HW.out.trans (hb1.mono HW.out.size))
      replace BN := Lib.hid (BN.out.keep (Keep.below hb1))
      replace HT := Lib.hid (HT.out.keep hb1)
      clear HC3 HI3
      clear n0 n1 t0 t1
      clear hb1
      obtain ⟨n0, n1⟩ := BN.out
      obtain ⟨t0, t1, -, -⟩ := HT.out
      go_wp2_with fail
      refine (rNetErr_any N _ _ (hN0.out.keep (Keep.below HW.out))).mono ?_
      rintro e' w7 ⟨rfl, hb1⟩
      replace HW := Lib.hid (HW.out.trans (hb1.mono HW.out.size))
      replace BN := Lib.hid (BN.out.keep (Keep.below hb1))
      replace HT := Lib.hid (HT.out.keep hb1)
      clear n0 n1 t0 t1
      clear hb1
      by_cases he : netErr N = 0
      · have HE := Lib.hid he
        rw [he]
        obtain ⟨n0, n1⟩ := BN.out
        obtain ⟨t0, t1, -, -⟩ := HT.out
        go_wp2_with fail
        refine (rWayErr_any N _ l A c _ (hN0.out.keep (Keep.below HW.out)) (HA.out.keep (Keep.below HW.out))).mono ?_
        rintro e' wb1 ⟨rfl, hb1⟩
        replace HW := Lib.hid (HW.out.trans (hb1.mono HW.out.size))
        replace BN := Lib.hid (BN.out.keep (Keep.below hb1))
        replace HT := Lib.hid (HT.out.keep hb1)
        clear n0 n1 t0 t1
        clear hb1
        by_cases hw : wayErr N l = 0
        · have hcw : cwErr N l = 0 := by unfold cwErr; rw [if_pos he]; exact hw
          have hca : cwAt N l = wayAt N l := by unfold cwAt; rw [if_pos he]
          have hmo : metOf N l = (metresTo N l, 0) := metOf_ok he hw
          have HQ := Lib.hid hw
          have HAT := Lib.hid (avErr_time (a := a) hcw)
          have HIN := Lib.hid (fun j hj => ((way_ok HQ.out).2 j hj).1)
          rw [hmo, hcw, hca, hw]
          clear he hw hcw hca hmo
          obtain ⟨n0, n1⟩ := BN.out
          obtain ⟨t0, t1, -, -⟩ := HT.out
          go_wp2_with fail
          refine (rMetresOf_any N _ l A c _ (hN0.out.keep (Keep.below HW.out)) (HA.out.keep (Keep.below HW.out)) HE.out HIN.out (by omega)).mono ?_
          rintro e' wb2 ⟨rfl, hb1⟩
          replace HW := Lib.hid (HW.out.trans (hb1.mono HW.out.size))
          replace BN := Lib.hid (BN.out.keep (Keep.below hb1))
          replace HT := Lib.hid (HT.out.keep hb1)
          clear n0 n1 t0 t1
          clear hb1
          obtain ⟨n0, n1⟩ := BN.out
          obtain ⟨t0, t1, -, -⟩ := HT.out
          go_wp2_with fail
          refine (rTimeErr_any a _).mono ?_
          rintro e' wb3 ⟨rfl, rfl⟩
          clear n0 n1 t0 t1
          by_cases ht : timeErr a = 0
          · have hao : arrOf N l a = (arrivals N l a, 0) := by unfold arrOf; rw [if_pos (HAT.out.trans ht)]
            have ha := timeErr_ok ht
            rw [hao] at HT
            rw [hao, ht]
            clear ht hao
            obtain ⟨n0, n1⟩ := BN.out
            obtain ⟨t0, t1, -, -⟩ := HT.out
            obtain ⟨wq, hwq⟩ : ∃ wq, wq = wb2 := ⟨_, rfl⟩
            subst hwq
            go_wp2_with fail
            obtain ⟨C, Ci, Co⟩ := classOf wq
            refine quietC (C := C) (by kernel_rfl) (by kernel_rfl) (Co.out _ (Below.refl _ _).drew) ?_
            repeat (first
              | go_big_quiet_skip
              | (go_big_quiet_want; go_big_quiet_op; go_big_quiet_on)
              | (refine quiet_yes (by rfl) ?_
                 apply Exists.intro
                 refine ⟨fun w' hC => ?_, ?_⟩
                 · have hbb := Ci.out _ hC
                   have zz0 := Keep.below hbb _ _ n0
                   have zz1 := Keep.below hbb _ _ n1
                   have zz2 := Keep.below hbb _ _ t0
                   have zz3 := Keep.below hbb _ _ t1
                   go_simp
                   first
                     | done
                     | rfl
                     | (go_at_call 35
                        refine (rArrivalOf_any N _ l A c a _ (hN0.out.keep (Keep.below (HW.out.trans (hbb.mono HW.out.size)))) (HA.out.keep (Keep.below (HW.out.trans (hbb.mono HW.out.size)))) HE.out HIN.out (by omega) ha.1 (by omega)).mono ?_
                        rintro e' w1 ⟨rfl, hb1⟩
                        exact ⟨rfl, Co.out _ (hbb.trans (hb1.mono hbb.size))⟩)
                 simp only [Act.put, List.setIfInBounds_toArray, List.set_cons_zero, List.set_cons_succ]))
            refine wpQuiet_nil ?_
            intro wE hC1
            have HQ2 := Lib.hid (Ci.out _ hC1)
            go_wp2
            go_ret
            exact ⟨rfl, HW.out.trans (HQ2.out.mono HW.out.size)⟩
          · have hav : avErr N l a = timeErr a := HAT.out
            have hao : arrOf N l a = ((0, 0), timeErr a) := by unfold arrOf; rw [if_neg (by rw [hav]; exact ht), hav]
            have e1 : (timeErr a == 0) = false := by simpa using ht
            have e2 : (timeErr a != 0) = true := by simpa using ht
            rw [hao] at HT
            rw [hao]
            clear ht hav hao
            obtain ⟨t0, t1, -, -⟩ := HT.out
            go_wp2_with fail
            go_ret
            exact ⟨rfl, HW.out⟩
        · have hcw : cwErr N l = wayErr N l := by unfold cwErr; rw [if_pos he]
          have hca : cwAt N l = wayAt N l := by unfold cwAt; rw [if_pos he]
          have e1 : (wayErr N l == 0) = false := by simpa using hw
          have e2 : (wayErr N l != 0) = true := by simpa using hw
          have hav : avErr N l a = wayErr N l := (avErr_first (by rw [hcw]; exact hw)).trans hcw
          have hao : arrOf N l a = ((0, 0), wayErr N l) := by unfold arrOf; rw [if_neg (by rw [hav]; exact hw), hav]
          have hmo : metOf N l = (0, wayErr N l) := by unfold metOf; rw [if_neg (by rw [hcw]; exact hw), hcw]
          rw [hao] at HT
          rw [hao, hmo, hcw, hca]
          clear hav hao hmo hcw hca hw
          clear he
          obtain ⟨t0, t1, -, -⟩ := HT.out
          go_wp2_with fail
          go_ret
          exact ⟨rfl, HW.out⟩
      · have hcw : cwErr N l = netErr N := by unfold cwErr; rw [if_neg he]
        have hca : cwAt N l = 0 := by unfold cwAt; rw [if_neg he]
        have e1 : (netErr N == 0) = false := by simpa using he
        have e2 : (netErr N != 0) = true := by simpa using he
        have hav : avErr N l a = netErr N := (avErr_first (by rw [hcw]; exact he)).trans hcw
        have hao : arrOf N l a = ((0, 0), netErr N) := by unfold arrOf; rw [if_neg (by rw [hav]; exact he), hav]
        have hmo : metOf N l = (0, netErr N) := by unfold metOf; rw [if_neg (by rw [hcw]; exact he), hcw]
        rw [hao] at HT
        rw [hao, hmo, hcw, hca]
        clear hav hao hmo hcw hca he
        obtain ⟨t0, t1, -, -⟩ := HT.out
        go_wp2_with fail
        go_ret
        exact ⟨rfl, HW.out⟩
end Go.Proofs.Ythipneggplebcaa

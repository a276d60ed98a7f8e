/- The reference's error of a net, and its mark. No condition. -/
import Derived.Test.YtbilomkoijomiaaT7
namespace Go.Proofs.Ytbilomkoijomiaa
open Go.RowKit Fs

theorem Fs.place_bad {f : Nat → ByteArray} {i : Nat} (h : isName (f i) = false) : errName f i = 4 := by rw [errName_eq, h]; rfl
theorem Fs.place_twice {f : Nat → ByteArray} {i : Nat} (h : isName (f i) = true) (h2 : hasText f i (f i) = true) : errName f i = 5 := by rw [errName_eq, h, h2]; rfl
theorem Fs.place_ok {f : Nat → ByteArray} {i : Nat} (h : isName (f i) = true) (h2 : hasText f i (f i) = false) : errName f i = 0 := by rw [errName_eq, h, h2]; rfl

set_option maxHeartbeats 3200000 in
set_option maxRecDepth 100000 in
theorem rCheckNet_any (N : Net) (v : Value) (w : World) (hN : RdNet w v N) :
    Calls Try.prog 20 #[v] w fun e w' => e = .returned (netBack (checkNet N)) ∧ Below w.heap.size w w' := by
  have hN0 := Lib.hid hN
  obtain ⟨P, R, pc, rc, a, rfl, m⟩ := hN
  have hpl := Lib.hid m.places
  have a1 := m.places.le.1
  have a2 := m.places.le.2
  have b1 := m.roads.le.1
  have b2 := m.roads.le.2
  clear m
  obtain ⟨wx, hwx⟩ : ∃ wx, wx = (w.alloc (.cells #[.slice P N.places.length pc, .slice R N.roads.length rc] 25)).alloc (.cells #[.int .i64 0, .int .i64 0] 29) := ⟨_, rfl⟩
  have hxs : wx.heap.size = w.heap.size + 2 := by rw [hwx]; simp
  have BN := Lib.hid ((BoxN.new w N P R pc rc 25).keep ((Keep.alloc _ (.cells #[.int .i64 0, .int .i64 0] 29)).trans (Keep.alloc _ (.cells #[.int .i64 0, .int .i64 0] 29))))
  have MK := Lib.hid (show MarkAt (((w.alloc (.cells #[.slice P N.places.length pc, .slice R N.roads.length rc] 25)).alloc (.cells #[.int .i64 0, .int .i64 0] 29)).alloc (.cells #[.int .i64 0, .int .i64 0] 29)) (w.heap.size + 1) from
    (show MarkAt ((w.alloc (.cells #[.slice P N.places.length pc, .slice R N.roads.length rc] 25)).alloc (.cells #[.int .i64 0, .int .i64 0] 29)) (w.heap.size + 1) from ⟨cellNew1 _ _ _ _ 0, cellNew1 _ _ _ _ 1, frozenNew1 _ _ _ _ 0, frozenNew1 _ _ _ _ 1⟩).below (B := w.heap.size + 2) ((Below.refl _ _).alloc (by simp) _) (by simp))
  have NN := Lib.hid (show MarkAt (((w.alloc (.cells #[.slice P N.places.length pc, .slice R N.roads.length rc] 25)).alloc (.cells #[.int .i64 0, .int .i64 0] 29)).alloc (.cells #[.int .i64 0, .int .i64 0] 29)) (w.heap.size + 1 + 1) from by
    have := MarkAt.new ((w.alloc (.cells #[.slice P N.places.length pc, .slice R N.roads.length rc] 25)).alloc (.cells #[.int .i64 0, .int .i64 0] 29)) 29
    simpa using this)
  clear hwx hxs wx
  go_enter Try.func20, Try.ntmps20
  go_upto_region 2 with fail
  generalize hwb : ((w.alloc _).alloc _).alloc _ = wb at *
  have HW : Hid (Below w.heap.size w wb) := by rw [← hwb]; exact Lib.hid ((((Below.refl _ _).alloc (Nat.le_refl _) _).alloc (by simp) _).alloc (by simp; omega) _)
  have hbs : wb.heap.size = w.heap.size + 3 := by rw [← hwb]; simp
  clear hwb
  obtain ⟨n0, n1⟩ := BN.out
  obtain ⟨m0, m1, mf0, mf1⟩ := MK.out
  obtain ⟨k0, k1, -, -⟩ := NN.out
  by_cases h0 : N.places.length = 0
  · have F := Lib.hid (net_none h0)
    have z : ((N.places.length : Int) == 0) = true := by simpa using h0
    clear h0
    go_wp2_with fail
    refine bodyPost_ret (v := .tuple #[.agg #[.int .i64 0, .int .i64 0], .int .i64 10]) (by simp [results, Try.results20, go_sem, m0, m1]) rfl ⟨by rw [F.out]; rfl, ?_⟩
    exact ((HW.out.setCell (p := ⟨w.heap.size + 1, 0, none⟩) (by simp) _).setCell (p := ⟨w.heap.size + 1, 1, none⟩) (by simp) _)
  · have z : ((N.places.length : Int) == 0) = false := by simpa using h0
    by_cases h1 : 20 < N.places.length
    · have F := Lib.hid (net_many h1)
      go_wp2_with fail
      refine bodyPost_ret (v := .tuple #[.agg #[.int .i64 0, .int .i64 0], .int .i64 8]) (by simp [results, Try.results20, go_sem, m0, m1]) rfl ⟨by rw [F.out]; rfl, ?_⟩
      exact ((HW.out.setCell (p := ⟨w.heap.size + 1, 0, none⟩) (by simp) _).setCell (p := ⟨w.heap.size + 1, 1, none⟩) (by simp) _)
    · have z15 : decide ((20 : Int) < (N.places.length : Int)) = false := by simp; omega
      go_wp2_with fail
      clear n0 n1 m0 m1 mf0 mf1 k0 k1
      go_loopw [5] (fun u wr => ∃ k : Nat, k ≤ N.places.length ∧ u = .int .i64 k ∧ Hid (∀ j, j < k → errName (listS N.places) j = 0) ∧ Hid (Below wb.heap.size wb wr)) (fun u _ => N.places.length - (intOf u).toNat)
      case atStart => exact ⟨0, Nat.zero_le _, rfl, fun j hj => absurd hj (Nat.not_lt_zero _), Lib.hid (Below.refl _ _)⟩
      case round =>
        obtain ⟨k, hk, rfl, Hn, HB⟩ := hrel
        have HX := Lib.hid (HW.out.trans (HB.out.mono HW.out.size))
        have MK2 := Lib.hid (MK.out.below HB.out MK.out.lt)
        obtain ⟨n0, n1⟩ := BN.out.keep (Keep.below HB.out)
        by_cases hlt : k < N.places.length
        · have hpr := hpl.out.keep (Keep.below HX.out)
          have HPR := Lib.hid hpr
          obtain ⟨b, o, hP, q0⟩ := hpr.at_ hlt
          have HPA := Lib.hid hP
          have hkp : k ≤ pc := by omega
          cases hn : isName (listS N.places k) with
          | false =>
            have F0 := place_bad hn
            have F := Lib.hid (net_place h0 h1 hlt Hn.out (by rw [F0]; decide))
            rw [F0] at F
            have Z := Lib.hid hn
            clear hn F0
            rw [hP] at n0
            clear hP
            obtain ⟨m0, m1, mf0, mf1⟩ := MK2.out
            go_wp2_with (go_at_call 70; refine (bIsName_any _ _).mono ?_; rintro e w' ⟨rfl, rfl⟩; rw [Z.out])
            refine bodyPost_ret (v := .tuple #[.agg #[.int .i64 k, .int .i64 0], .int .i64 4]) (by simp [results, Try.results20, go_sem, m0, m1]) rfl ⟨by rw [F.out]; rfl, ?_⟩
            exact ((HX.out.setCell (p := ⟨w.heap.size + 1, 0, none⟩) (by simp) _).setCell (p := ⟨w.heap.size + 1, 1, none⟩) (by simp) _)
          | true =>
            have Z := Lib.hid hn
            clear hn
            rw [hP] at n0
            rw [hP] at hpr
            have HPR2 := Lib.hid hpr
            clear hP hpr
            cases ht : hasText (listS N.places) k (listS N.places k) with
            | true =>
              have F0 := place_twice Z.out ht
              have F := Lib.hid (net_place h0 h1 hlt Hn.out (by rw [F0]; decide))
              rw [F0] at F
              have T := Lib.hid ht
              clear ht F0
              go_wp2_with (go_at_call 70; refine (bIsName_any _ _).mono ?_; rintro e w' ⟨rfl, rfl⟩; rw [Z.out])
              obtain ⟨C, Ci, Co⟩ := classOf wr
              refine quietC (C := C) (by kernel_rfl) (by kernel_rfl) (Co.out _ (Below.refl _ _).drew) ?_
              repeat (first
                | go_big_quiet_skip
                | (go_big_quiet_want; go_big_quiet_op; go_big_quiet_on)
                | (refine quiet_yes (by rfl) ?_
                   apply Exists.intro
                   refine ⟨fun w' hC => ?_, ?_⟩
                   · have hbb := Ci.out _ hC
                     have q1 := Keep.below hbb _ _ n0
                     have q2 := Keep.below hbb _ _ q0
                     go_simp
                     first
                       | done
                       | rfl
                       | (go_at_call 71
                          refine (hasText_any N.places _ _ k _ _ (HPR2.out.keep (Keep.below hbb)) (by omega)).mono ?_
                          rintro e' w1 ⟨rfl, rfl⟩
                          rw [T.out]
                          exact ⟨rfl, hC⟩)
                   simp only [Act.put, List.setIfInBounds_toArray, List.set_cons_zero, List.set_cons_succ]))
              refine wpQuiet_nil ?_
              intro w1 hC1
              have HQ := Lib.hid (Ci.out _ hC1)
              obtain ⟨m0, m1, mf0, mf1⟩ := MK2.out.below HQ.out MK2.out.lt
              go_wp2
              refine bodyPost_ret (v := .tuple #[.agg #[.int .i64 k, .int .i64 0], .int .i64 5]) (by simp [results, Try.results20, go_sem, m0, m1]) rfl ⟨by rw [F.out]; rfl, ?_⟩
              exact (((HX.out.trans (HQ.out.mono HX.out.size)).setCell (p := ⟨w.heap.size + 1, 0, none⟩) (by simp) _).setCell (p := ⟨w.heap.size + 1, 1, none⟩) (by simp) _)
            | false =>
              have F0 := place_ok Z.out ht
              have G : Hid (∀ j, j < k + 1 → errName (listS N.places) j = 0) := fun j hj => by
                by_cases e : j = k
                · subst e; exact F0
                · exact Hn.out j (by omega)
              have T := Lib.hid ht
              clear ht F0
              go_wp2_with (go_at_call 70; refine (bIsName_any _ _).mono ?_; rintro e w' ⟨rfl, rfl⟩; rw [Z.out])
              obtain ⟨C, Ci, Co⟩ := classOf wr
              refine quietC (C := C) (by kernel_rfl) (by kernel_rfl) (Co.out _ (Below.refl _ _).drew) ?_
              repeat (first
                | go_big_quiet_skip
                | (go_big_quiet_want; go_big_quiet_op; go_big_quiet_on)
                | (refine quiet_yes (by rfl) ?_
                   apply Exists.intro
                   refine ⟨fun w' hC => ?_, ?_⟩
                   · have hbb := Ci.out _ hC
                     have q1 := Keep.below hbb _ _ n0
                     have q2 := Keep.below hbb _ _ q0
                     go_simp
                     first
                       | done
                       | rfl
                       | (go_at_call 71
                          refine (hasText_any N.places _ _ k _ _ (HPR2.out.keep (Keep.below hbb)) (by omega)).mono ?_
                          rintro e' w1 ⟨rfl, rfl⟩
                          rw [T.out]
                          exact ⟨rfl, hC⟩)
                   simp only [Act.put, List.setIfInBounds_toArray, List.set_cons_zero, List.set_cons_succ]))
              refine wpQuiet_nil ?_
              intro w1 hC1
              have HQ := Lib.hid (Ci.out _ hC1)
              go_wp2
              go_roundw
              case rel => exact ⟨k + 1, by omega, by go_num, G, Lib.hid (HB.out.trans (HQ.out.mono HB.out.size))⟩
              case measure => simp [intOf]; omega
        · have HP : Hid (∀ j, j < N.places.length → errName (listS N.places) j = 0) := fun j hj => Hn.out j (by omega)
          clear Hn hk
          by_cases h2 : 60 < N.roads.length
          · have F := Lib.hid (net_roads h0 h1 HP.out h2)
            obtain ⟨m0, m1, mf0, mf1⟩ := MK2.out
            obtain ⟨k0, k1, -, -⟩ := NN.out.below HB.out NN.out.lt
            go_wp2_with fail
            refine bodyPost_ret (v := .tuple #[.agg #[.int .i64 0, .int .i64 0], .int .i64 8]) (by simp [results, Try.results20, go_sem, m0, m1]) rfl ⟨by rw [F.out]; rfl, ?_⟩
            exact ((HX.out.setCell (p := ⟨w.heap.size + 1, 0, none⟩) (by simp) _).setCell (p := ⟨w.heap.size + 1, 1, none⟩) (by simp) _)
          · have z51 : decide ((60 : Int) < (N.roads.length : Int)) = false := by simp; omega
            go_wp2_with fail
            clear n0 n1 hlt
            obtain ⟨wd, hwd⟩ : ∃ wd, wd = wr := ⟨_, rfl⟩
            subst hwd
            have BN2 := Lib.hid (BN.out.keep (Keep.below HB.out))
            have NN2 := Lib.hid (NN.out.below HB.out NN.out.lt)
            have hds : w.heap.size + 3 ≤ wd.heap.size := by have := HB.out.size; omega
            go_loopw [6] (fun u wr => ∃ k : Nat, k ≤ N.roads.length ∧ u = .int .i64 k ∧ Hid (∀ j, j < k → (errRoad N j).2 = 0) ∧ Hid (Below wd.heap.size wd wr)) (fun u _ => N.roads.length - (intOf u).toNat)
            case atStart => exact ⟨0, Nat.zero_le _, rfl, fun j hj => absurd hj (Nat.not_lt_zero _), Lib.hid (Below.refl _ _)⟩
            case round =>
              obtain ⟨k, hk, rfl, Hn, HB2⟩ := hrel
              have HX2 := Lib.hid (HX.out.trans (HB2.out.mono HX.out.size))
              obtain ⟨n0, n1⟩ := BN2.out.keep (Keep.below HB2.out)
              have MK3 := Lib.hid (MK2.out.below HB2.out MK2.out.lt)
              by_cases hlt : k < N.roads.length
              · by_cases hn : (errRoad N k).2 = 0
                · have G : Hid (∀ j, j < k + 1 → (errRoad N j).2 = 0) := fun j hj => by
                    by_cases e : j = k
                    · subst e; exact hn
                    · exact Hn.out j (by omega)
                  have Z := Lib.hid hn
                  clear hn
                  go_wp2_with fail
                  refine (rRoadErr_any N _ k _ (hN0.out.keep (Keep.below HX2.out)) hlt).mono ?_
                  rintro e w1 ⟨rfl, hb1⟩
                  rw [Z.out]
                  have HB3 := Lib.hid (HB2.out.trans (hb1.mono HB2.out.size))
                  clear hb1 n0 n1
                  go_wp2_with fail
                  go_roundw
                  case rel => exact ⟨k + 1, by omega, by go_num, G, HB3⟩
                  case measure => simp [intOf]; omega
                · have F := Lib.hid (net_road h0 h1 HP.out h2 hlt Hn.out hn)
                  have d1 : ((errRoad N k).2 == 0) = false := by simpa using hn
                  clear hn
                  go_wp2_with fail
                  refine (rRoadErr_any N _ k _ (hN0.out.keep (Keep.below HX2.out)) hlt).mono ?_
                  rintro e w1 ⟨rfl, hb1⟩
                  have HX3 := Lib.hid (HX2.out.trans (hb1.mono HX2.out.size))
                  obtain ⟨m0, m1, mf0, mf1⟩ := MK3.out.below hb1 MK3.out.lt
                  clear hb1 n0 n1
                  go_wp2_with fail
                  refine bodyPost_ret (v := .tuple #[.agg #[.int .i64 k, .int .i64 (errRoad N k).1], .int .i64 (errRoad N k).2]) (by simp [results, Try.results20, go_sem, m0, m1]) rfl ⟨by rw [F.out], ?_⟩
                  exact ((HX3.out.setCell (p := ⟨w.heap.size + 1, 0, none⟩) (by simp) _).setCell (p := ⟨w.heap.size + 1, 1, none⟩) (by simp) _)
              · have F := Lib.hid (net_ok h0 h1 HP.out h2 fun j hj => Hn.out j (by omega))
                obtain ⟨m0, m1, mf0, mf1⟩ := MK3.out
                obtain ⟨k0, k1, -, -⟩ := NN2.out.below HB2.out NN2.out.lt
                go_wp2_with fail
                refine bodyPost_ret (v := .tuple #[.agg #[.int .i64 0, .int .i64 0], .int .i64 0]) (by simp [results, Try.results20, go_sem, m0, m1]) rfl ⟨by rw [F.out]; rfl, ?_⟩
                exact ((HX2.out.setCell (p := ⟨w.heap.size + 1, 0, none⟩) (by simp) _).setCell (p := ⟨w.heap.size + 1, 1, none⟩) (by simp) _)
theorem rNetErr_any (N : Net) (v : Value) (w : World) (hN : RdNet w v N) :
    Calls Try.prog 29 #[v] w fun e w' => e = .returned (.int .i64 (netErr N)) ∧ Below w.heap.size w w' := by
  have hN0 := Lib.hid hN
  obtain ⟨P, R, pc, rc, a, rfl, m⟩ := hN
  clear m
  go_enter Try.func29, Try.ntmps29
  go_wp2_with (go_at_call 20; refine (rCheckNet_any N _ _ (hN0.out.keep (Keep.alloc w _))).mono ?_; rintro e w1 ⟨rfl, hb1⟩)
  have HX : Below w.heap.size w w1 := ((Below.refl _ _).alloc (Nat.le_refl _) _).trans (hb1.mono (by simp))
  go_ret
  exact ⟨rfl, HX.alloc HX.size _⟩
end Go.Proofs.Ytbilomkoijomiaa

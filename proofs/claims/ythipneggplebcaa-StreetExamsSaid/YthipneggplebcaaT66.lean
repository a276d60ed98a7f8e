/- What an examination comes to, as the reference tells it. Condition: the net is right. -/
import Derived.Test.YthipneggplebcaaT66p
import Derived.Test.YthipneggplebcaaT62
import Derived.Deep.RegionHeld3
import Derived.Deep.CutRange
namespace Go.Proofs.Ythipneggplebcaa
open Go.RowKit Fs

theorem ResAt.set0 {w : World} {g : Nat} {x y z : Value} (m : ResAt w g x y z) (x' : Value) : ResAt (w.setCell ⟨g, 0, none⟩ x') g x' y z :=
  ⟨World.cell?_setCell_same _ _ _ m.c0, (World.cell?_setCell_other _ _ _ _ (by simp)).trans m.c1, (World.cell?_setCell_other _ _ _ _ (by simp)).trans m.c2, (World.frozen?_setCell _ _ _ _).trans m.f0, (World.frozen?_setCell _ _ _ _).trans m.f1, (World.frozen?_setCell _ _ _ _).trans m.f2⟩
theorem ResAt.set1 {w : World} {g : Nat} {x y z : Value} (m : ResAt w g x y z) (y' : Value) : ResAt (w.setCell ⟨g, 1, none⟩ y') g x y' z :=
  ⟨(World.cell?_setCell_other _ _ _ _ (by simp)).trans m.c0, World.cell?_setCell_same _ _ _ m.c1, (World.cell?_setCell_other _ _ _ _ (by simp)).trans m.c2, (World.frozen?_setCell _ _ _ _).trans m.f0, (World.frozen?_setCell _ _ _ _).trans m.f1, (World.frozen?_setCell _ _ _ _).trans m.f2⟩
theorem Fs.mul_in {m z : Int} (h1 : 0 ≤ m) (h2 : m ≤ 1000) (h3 : -1 ≤ z ∧ z ≤ 3000000) : -2000 ≤ (1000 + m) * z ∧ (1000 + m) * z ≤ 6000000000 := by
  by_cases h : 0 ≤ z
  · have a := Int.mul_le_mul_of_nonneg_right (show 1000 + m ≤ 2000 by omega) h
    have b := Int.mul_nonneg (show 0 ≤ 1000 + m by omega) h
    omega
  · have : z = -1 := by omega
    subst this
    omega
theorem Fs.heights_bound {N : Net} (hE : netErr N = 0) {X Y : Nat} (hX : X < N.places.length) (hY : Y < N.places.length) : -1 ≤ listI (heights N X) Y ∧ listI (heights N X) Y ≤ 3000000 := by
  have h20 := (net_sound hE).2.1
  by_cases e : listI (heights N X) Y = -1
  · rw [e]; decide
  · have h := found_bound (net_joined hE) (further_good hE) (further_small hE) hX (Int.le_refl 0) Y hY e
    have h1 : 0 ≤ listI (heights N X) Y := h.1
    have h2 : listI (heights N X) Y ≤ 0 + 100000 * N.places.length := h.2
    omega
set_option linter.unusedSimpArgs false in
set_option maxHeartbeats 12800000 in
set_option maxRecDepth 100000 in
theorem rExamined_any (N : Net) (v : Value) (l : List Int) (A : Option Addr) (c : Nat) (m : Int) (w : World) (hN : RdNet w v N) (hA : ArrI w A l c) (hE : netErr N = 0) :
    Calls Try.prog 70 #[v, examV A l.length c m] w fun e w' => e = .returned (.tuple #[resV (examined N l m).1.1 (examined N l m).1.2.1 (examined N l m).1.2.2, .int .i64 (examined N l m).2]) ∧ Below w.heap.size w w' := by
  have hN0 := Lib.hid hN
  obtain ⟨P, R, pc, rc, ar, rfl, mm⟩ := hN
  have M := Lib.hid mm
  have rb1 := mm.roads.le.1
  have rb2 := mm.roads.le.2
  clear mm
  have b1 := hA.le.1
  have b2 := hA.le.2
  have HA := Lib.hid hA
  have HME : Hid (∀ i, i < N.roads.length → 0 ≤ (listD N.roads i).metres ∧ (listD N.roads i).metres ≤ 100000) := Lib.hid fun i hi => (net_roads_ok hE i hi).metres
  clear hA
  have BN := Lib.hid ((BoxN.new w N P R pc rc 25).keep ((Keep.alloc _ (.cells #[.slice A l.length c, .int .i64 m] 111)).trans (Keep.alloc _ (.cells #[.int .i64 0, .int .i64 0, .bool false] 113))))
  have BT := Lib.hid ((ExamAt.new1 w (.cells #[.slice P N.places.length pc, .slice R N.roads.length rc] 25) A l.length c m 111).keep (Keep.alloc _ (.cells #[.int .i64 0, .int .i64 0, .bool false] 113)))
  have BR := Lib.hid (show ResAt (((w.alloc (.cells #[.slice P N.places.length pc, .slice R N.roads.length rc] 25)).alloc (.cells #[.slice A l.length c, .int .i64 m] 111)).alloc (.cells #[.int .i64 0, .int .i64 0, .bool false] 113)) (w.heap.size + 1 + 1) (.int .i64 0) (.int .i64 0) (.bool false) from by
    have := ResAt.new ((w.alloc (.cells #[.slice P N.places.length pc, .slice R N.roads.length rc] 25)).alloc (.cells #[.slice A l.length c, .int .i64 m] 111)) (.int .i64 0) (.int .i64 0) (.bool false) 113
    simpa using this)
  go_enter Try.func70, Try.ntmps70
  go_upto_region 1 with fail
  generalize hwb : ((w.alloc _).alloc _).alloc _ = wb at *
  have HW : Hid (Below w.heap.size w wb) := by rw [← hwb]; exact Lib.hid ((((Below.refl _ _).alloc (Nat.le_refl _) _).alloc (by simp) _).alloc (by simp; omega) _)
  clear hwb
  obtain ⟨c0, c1⟩ := BT.out
  by_cases h1 : l.length < 2
  · have F := Lib.hid (ex_err (m := m) hE (show examErr N l m = 10 from if_pos h1) (by decide))
    have e1 : decide ((l.length : Int) < 2) = true := decide_eq_true (by omega)
    clear h1
    obtain ⟨r0, r1, r2, rf0, rf1, rf2⟩ := BR.out
    go_wp2_with fail
    refine bodyPost_ret (v := .tuple #[resV 0 0 false, .int .i64 10]) (by simp [results, Try.results70, go_sem, r0, r1, r2]) rfl ⟨by rw [F.out], ?_⟩
    exact ((HW.out.setCell (p := ⟨w.heap.size + 1 + 1, 0, none⟩) (by dsimp only; omega) _).setCell (p := ⟨w.heap.size + 1 + 1, 1, none⟩) (by dsimp only; omega) _).setCell (p := ⟨w.heap.size + 1 + 1, 2, none⟩) (by dsimp only; omega) _
  · have e1 : decide ((l.length : Int) < 2) = false := decide_eq_false (by omega)
    by_cases h2 : 200 < l.length
    · have F := Lib.hid (ex_err (m := m) hE (show examErr N l m = 8 from (if_neg h1).trans (if_pos h2)) (by decide))
      have e2 : decide ((l.length : Int) > 200) = true := decide_eq_true (by omega)
      have e3 : decide (200 < (l.length : Int)) = true := decide_eq_true (by omega)
      clear h1 h2
      obtain ⟨r0, r1, r2, rf0, rf1, rf2⟩ := BR.out
      go_wp2_with fail
      refine bodyPost_ret (v := .tuple #[resV 0 0 false, .int .i64 8]) (by simp [results, Try.results70, go_sem, r0, r1, r2]) rfl ⟨by rw [F.out], ?_⟩
      exact ((HW.out.setCell (p := ⟨w.heap.size + 1 + 1, 0, none⟩) (by dsimp only; omega) _).setCell (p := ⟨w.heap.size + 1 + 1, 1, none⟩) (by dsimp only; omega) _).setCell (p := ⟨w.heap.size + 1 + 1, 2, none⟩) (by dsimp only; omega) _
    · have e2 : decide ((l.length : Int) > 200) = false := decide_eq_false (by omega)
      have e3 : decide (200 < (l.length : Int)) = false := decide_eq_false (by omega)
      have H1 := Lib.hid h1
      have H2 := Lib.hid h2
      clear h1 h2
      go_wp2_with fail
      clear c0 c1
      go_loopw [6] (fun i wr => ∃ k : Nat, k ≤ l.length ∧ i = .int .i64 k ∧ Hid (∀ j, j < k → isPlace N (listI l j) = true) ∧ Hid (Below wb.heap.size wb wr)) (fun i _ => l.length - (intOf i).toNat)
      case atStart => exact ⟨0, Nat.zero_le _, rfl, Lib.hid (fun j hj => absurd hj (Nat.not_lt_zero _)), Lib.hid (Below.refl _ _)⟩
      case round =>
        obtain ⟨k, hk, rfl, HG, HB⟩ := hrel
        have HX := Lib.hid (HW.out.trans (HB.out.mono HW.out.size))
        obtain ⟨c0, c1⟩ := BT.out.keep (Keep.below HB.out)
        by_cases hlt : k < l.length
        · have hkn : (k : Int) < (l.length : Int) := by omega
          obtain ⟨n0, n1⟩ := BN.out.keep (Keep.below HB.out)
          obtain ⟨p, o, hAe, q0⟩ := (HA.out.keep (Keep.below HX.out)).at_ hlt
          subst hAe
          have KN : Hid (∀ w', Below wr.heap.size wr w' → RdNet w' (netV N P R pc rc) N) := Lib.hid fun w' hw => (hN0.out.keep (Keep.below (HX.out.trans (hw.mono HX.out.size))))
          obtain ⟨wq, hwq⟩ : ∃ wq, wq = wr := ⟨_, rfl⟩
          subst hwq
          cases hp : isPlace N (listI l k) with
          | false =>
            have F := Lib.hid (ex_err (m := m) hE (show examErr N l m = 6 from (if_neg H1.out).trans ((if_neg H2.out).trans (by rw [places_hit hlt HG.out hp]; rfl))) (by decide))
            have Z := Lib.hid hp
            clear hp
            go_wp2_with fail
            obtain ⟨C, Ci, Co⟩ := classOf wq
            refine quietC (C := C) (by kernel_rfl) (by kernel_rfl) (Co.out _ (Below.refl _ _).drew) ?_
            repeat (first
              | go_big_quiet_skip
              | (go_big_quiet_want; go_big_quiet_op; go_big_quiet_on)
              | (refine quiet_yes (by rfl) ?_
                 apply Exists.intro
                 refine ⟨fun w' hC => ?_, ?_⟩
                 · have hbb := Ci.out _ hC
                   have zz0 := Keep.below hbb _ _ n0
                   have zz1 := Keep.below hbb _ _ n1
                   have zz2 := Keep.below hbb _ _ c0
                   have zz3 := Keep.below hbb _ _ c1
                   have zz4 := Keep.below hbb _ _ q0
                   go_simp
                   first
                     | done
                     | rfl
                     | (go_at_call 96
                        refine (rIsPlace_any N _ _ _ (KN.out _ hbb)).mono ?_
                        rintro e' w1 ⟨rfl, hb1⟩
                        rw [Z.out]
                        exact ⟨rfl, Co.out _ (hbb.trans (hb1.mono hbb.size))⟩)
                 simp only [Act.put, List.setIfInBounds_toArray, List.set_cons_zero, List.set_cons_succ]))
            refine wpQuiet_nil ?_
            intro w7 hC7
            have hb7 := Ci.out _ hC7
            replace HB := Lib.hid (HB.out.trans (hb7.mono HB.out.size))
            replace HX := Lib.hid (HX.out.trans (hb7.mono HX.out.size))
            clear hb7 hC7 Ci Co C n0 n1 c0 c1 q0 KN
            obtain ⟨r0, r1, r2, rf0, rf1, rf2⟩ := BR.out.keep HB.out
            go_wp2_with fail
            refine bodyPost_ret (v := .tuple #[resV 0 0 false, .int .i64 6]) (by simp [results, Try.results70, go_sem, r0, r1, r2]) rfl ⟨by rw [F.out], ?_⟩
            exact ((HX.out.setCell (p := ⟨w.heap.size + 1 + 1, 0, none⟩) (by dsimp only; omega) _).setCell (p := ⟨w.heap.size + 1 + 1, 1, none⟩) (by dsimp only; omega) _).setCell (p := ⟨w.heap.size + 1 + 1, 2, none⟩) (by dsimp only; omega) _
          | true =>
            have G : Hid (∀ j, j < k + 1 → isPlace N (listI l j) = true) := Lib.hid fun j hj => by
              by_cases e : j = k
              · subst e; exact hp
              · exact HG.out j (by omega)
            have Z := Lib.hid hp
            clear hp
            go_wp2_with fail
            obtain ⟨C, Ci, Co⟩ := classOf wq
            refine quietC (C := C) (by kernel_rfl) (by kernel_rfl) (Co.out _ (Below.refl _ _).drew) ?_
            repeat (first
              | go_big_quiet_skip
              | (go_big_quiet_want; go_big_quiet_op; go_big_quiet_on)
              | (refine quiet_yes (by rfl) ?_
                 apply Exists.intro
                 refine ⟨fun w' hC => ?_, ?_⟩
                 · have hbb := Ci.out _ hC
                   have zz0 := Keep.below hbb _ _ n0
                   have zz1 := Keep.below hbb _ _ n1
                   have zz2 := Keep.below hbb _ _ c0
                   have zz3 := Keep.below hbb _ _ c1
                   have zz4 := Keep.below hbb _ _ q0
                   go_simp
                   first
                     | done
                     | rfl
                     | (go_at_call 96
                        refine (rIsPlace_any N _ _ _ (KN.out _ hbb)).mono ?_
                        rintro e' w1 ⟨rfl, hb1⟩
                        rw [Z.out]
                        exact ⟨rfl, Co.out _ (hbb.trans (hb1.mono hbb.size))⟩)
                 simp only [Act.put, List.setIfInBounds_toArray, List.set_cons_zero, List.set_cons_succ]))
            refine wpQuiet_nil ?_
            intro w7 hC7
            have hb7 := Ci.out _ hC7
            replace HB := Lib.hid (HB.out.trans (hb7.mono HB.out.size))
            replace HX := Lib.hid (HX.out.trans (hb7.mono HX.out.size))
            clear hb7 hC7 Ci Co C n0 n1 c0 c1 q0 KN
            go_wp2_with fail
            go_roundw
            case rel => exact ⟨k + 1, by omega, by go_num, G, HB⟩
            case measure => simp [intOf]; omega
        · obtain rfl : k = l.length := by omega
          have HPL := Lib.hid (places_fine HG.out)
          clear hlt hk
          cases hm : within m 0 1000 with
          | false =>
            have F := Lib.hid (ex_err (m := m) hE (show examErr N l m = 2 from (if_neg H1.out).trans ((if_neg H2.out).trans ((if_pos HPL.out).trans (by rw [hm]; rfl)))) (by decide))
            have Z := Lib.hid hm
            clear hm
            go_wp2_with fail
            refine (bwithin_any _ _ _ _).mono ?_
            rintro e' w1 ⟨rfl, rfl⟩
            rw [Z.out]
            obtain ⟨r0, r1, r2, rf0, rf1, rf2⟩ := BR.out.keep HB.out
            go_wp2_with fail
            refine bodyPost_ret (v := .tuple #[resV 0 0 false, .int .i64 2]) (by simp [results, Try.results70, go_sem, r0, r1, r2]) rfl ⟨by rw [F.out], ?_⟩
            exact ((HX.out.setCell (p := ⟨w.heap.size + 1 + 1, 0, none⟩) (by dsimp only; omega) _).setCell (p := ⟨w.heap.size + 1 + 1, 1, none⟩) (by dsimp only; omega) _).setCell (p := ⟨w.heap.size + 1 + 1, 2, none⟩) (by dsimp only; omega) _
          | true =>
            have HEX := Lib.hid (show examErr N l m = 0 from (if_neg H1.out).trans ((if_neg H2.out).trans ((if_pos HPL.out).trans (by rw [hm]; rfl))))
            have hm01 := Fs.within_iff.1 hm
            have Z := Lib.hid hm
            clear hm
            go_wp2_with fail
            refine (bwithin_any _ _ _ _).mono ?_
            rintro e' w1 ⟨rfl, rfl⟩
            rw [Z.out]
            have BO := Lib.hid (ResAt.new wr (.int .i64 0) (.int .i64 0) (.bool false) 113)
            have HBO : Below wr.heap.size wr (wr.alloc (.cells #[.int .i64 0, .int .i64 0, .bool false] 113)) := (Below.refl _ _).alloc (Nat.le_refl _) _
            clear c0 c1
            go_wp2_with fail
            obtain ⟨g, hg⟩ : ∃ g, g = wr.heap.size := ⟨_, rfl⟩
            rw [← hg] at BO ⊢
            have hbg : wb.heap.size ≤ g := by have := HB.out.size; omega
            have HWG := Lib.hid (show w.heap.size + 1 + 1 < wb.heap.size from BR.out.lt)
            generalize hwo : wr.alloc _ = wo at *
            replace HB := Lib.hid (HB.out.trans (HBO.mono HB.out.size))
            have HX0 := Lib.hid (HX.out.trans (HBO.mono HX.out.size))
            clear hwo HBO HX hg
            have h2l : 2 ≤ l.length := by have := H1.out; omega
            have h200 : l.length ≤ 200 := by have := H2.out; omega
            have HW2 := HW
            go_loopw [8] (fun i wr => ∃ k : Nat, k + 1 ≤ l.length ∧ i = .int .i64 ((k + 1 : Nat) : Int) ∧ Hid (∀ j, j < k → bestAt N l j ≠ -1) ∧ Hid (ResAt wr g (.int .i64 (metTo N l k)) (.int .i64 0) (.bool false)) ∧ Hid (Below wb.heap.size wb wr)) (fun i _ => l.length + 1 - (intOf i).toNat)
            case atStart => exact ⟨0, by omega, rfl, Lib.hid (fun j hj => absurd hj (Nat.not_lt_zero _)), BO, HB⟩
            case round =>
              obtain ⟨k, hk, rfl, HG2, HO, HBk⟩ := hrel
              have HX := Lib.hid (HW.out.trans (HBk.out.mono HW.out.size))
              obtain ⟨c0, c1⟩ := BT.out.keep (Keep.below HBk.out)
              by_cases hlt : k + 1 < l.length
              · have hkn : ((k + 1 : Nat) : Int) < (l.length : Int) := by omega
                have hkn2 : (k : Int) + 1 < (l.length : Int) := by omega
                obtain ⟨n0, n1⟩ := BN.out.keep (Keep.below HBk.out)
                go_wp2_with fail
                clear c0 c1 n0 n1
                obtain ⟨wi, hwi⟩ : ∃ wi : World, wi = wr := ⟨_, rfl⟩
                subst hwi
                obtain ⟨a, ha⟩ : ∃ a, listI l k = a := ⟨_, rfl⟩
                obtain ⟨z, hz⟩ : ∃ z, listI l (k + 1) = z := ⟨_, rfl⟩
                have HAZ := Lib.hid (And.intro ha hz)
                clear ha hz
                have HRL := Lib.hid (rbest_le HME.out a z)
                go_loopw [9, 10, 11] (fun best i s wr => ∃ j : Nat, j ≤ N.roads.length ∧ best = .int .i64 (rbest N a z j) ∧ i = .int .i64 j ∧ Hid (Below wi.heap.size wi wr)) (fun _ i _ _ => N.roads.length - (intOf i).toNat)
                case atStart => exact ⟨0, Nat.zero_le _, rfl, rfl, Lib.hid (Below.refl _ _)⟩
                case round =>
                  obtain ⟨j, hj, rfl, rfl, HBj⟩ := hrel
                  have HXj := Lib.hid (HX.out.trans (HBj.out.mono HX.out.size))
                  have HBB := Lib.hid (HBk.out.trans (HBj.out.mono HBk.out.size))
                  obtain ⟨n0, n1⟩ := BN.out.keep (Keep.below HBB.out)
                  by_cases hjl : j < N.roads.length
                  · have hjn : (j : Int) < (N.roads.length : Int) := by omega
                    have hrr := M.out.roads.keep (Keep.below HXj.out)
                    obtain ⟨rb, ro, hRa, qq⟩ := hrr.at_ hjl
                    subst hRa
                    obtain ⟨x0, x1, x2, x3, x4⟩ := qq
                    have BX := Lib.hid (BoxD.new wr (listD N.roads j) (ar.p j) (ar.pc j) 45)
                    clear hrr
                    go_upto_region 21 with fail
                    generalize hw6 : wr.alloc _ = w6 at *
                    have hB6 : Below wr.heap.size wr w6 := by rw [← hw6]; exact (Below.refl _ _).alloc (Nat.le_refl _) _
                    clear hw6 x0 x1 x2 x3 x4 n0 n1
                    have HB6 := Lib.hid (HBj.out.trans (hB6.mono HBj.out.size))
                    have HX6 := Lib.hid (HXj.out.trans (hB6.mono HXj.out.size))
                    replace HBB := Lib.hid (HBB.out.trans (hB6.mono HBB.out.size))
                    clear hB6
                    obtain ⟨x0, x1, x2, x3, x4⟩ := BX.out
                    obtain ⟨c0, c1⟩ := BT.out.keep (Keep.below HBB.out)
                    have hA6 := HA.out.keep (Keep.below HX6.out)
                    obtain ⟨p, o, hAe, q0⟩ := hA6.at_ (show k < l.length by omega)
                    subst hAe
                    have q1 := hA6.cells hlt
                    rw [HAZ.out.1] at q0
                    rw [HAZ.out.2] at q1
                    have q2 : w6.cell? ⟨p, o + (k + 1), none⟩ = some (.int .i64 z) := q1
                    have q3 : w6.cell? ⟨p, o + k + 1, none⟩ = some (.int .i64 z) := q1
                    have hkz : (k : Int) < (l.length : Int) := by omega
                    have hrl := HRL.out j (by omega)
                    have hme := HME.out j hjl
                    have HST := Lib.hid (rbest_step N a z j)
                    clear hA6
                    by_cases s1 : (listD N.roads j).src = a
                    · have e1 : ((listD N.roads j).src == a) = true := by simpa using s1
                      by_cases s2 : (listD N.roads j).dst = z
                      · have e2 : ((listD N.roads j).dst == z) = true := by simpa using s2
                        by_cases s3 : rbest N a z j < 0
                        · have F := Lib.hid (HST.out.trans (if_pos ⟨s1, s2, .inl s3⟩))
                          have e3 : decide (rbest N a z j < 0) = true := decide_eq_true s3
                          clear s1 s2 s3
                          go_quiet (fail)
                          go_wp2_with fail
                          go_roundw
                          case rel => exact ⟨j + 1, by omega, by rw [F.out], by go_num, Lib.hid (bdrewN HB6.out _)⟩
                          case measure => simp [intOf]; omega
                        · have e3 : decide (rbest N a z j < 0) = false := decide_eq_false s3
                          by_cases s4 : (listD N.roads j).metres < rbest N a z j
                          · have F := Lib.hid (HST.out.trans (if_pos ⟨s1, s2, .inr s4⟩))
                            have e4 : decide ((listD N.roads j).metres < rbest N a z j) = true := decide_eq_true s4
                            clear s1 s2 s3 s4
                            go_quiet (fail)
                            go_wp2_with fail
                            go_roundw
                            case rel => exact ⟨j + 1, by omega, by rw [F.out], by go_num, Lib.hid (bdrewN HB6.out _)⟩
                            case measure => simp [intOf]; omega
                          · have F := Lib.hid (HST.out.trans (if_neg (fun h => h.2.2.elim s3 s4)))
                            have e4 : decide ((listD N.roads j).metres < rbest N a z j) = false := decide_eq_false s4
                            clear s1 s2 s3 s4
                            go_quiet (fail)
                            go_wp2_with fail
                            go_roundw
                            case rel => exact ⟨j + 1, by omega, by rw [F.out], by go_num, Lib.hid (bdrewN HB6.out _)⟩
                            case measure => simp [intOf]; omega
                      · have e2 : ((listD N.roads j).dst == z) = false := by simpa using s2
                        have F := Lib.hid (HST.out.trans (if_neg (fun h => s2 h.2.1)))
                        clear s1 s2
                        go_quiet (fail)
                        go_wp2_with fail
                        go_roundw
                        case rel => exact ⟨j + 1, by omega, by rw [F.out], by go_num, Lib.hid (bdrewN HB6.out _)⟩
                        case measure => simp [intOf]; omega
                    · have e1 : ((listD N.roads j).src == a) = false := by simpa using s1
                      have F := Lib.hid (HST.out.trans (if_neg (fun h => s1 h.1)))
                      clear s1
                      go_quiet (fail)
                      go_wp2_with fail
                      go_roundw
                      case rel => exact ⟨j + 1, by omega, by rw [F.out], by go_num, Lib.hid (bdrewN HB6.out _)⟩
                      case measure => simp [intOf]; omega
                  · obtain rfl : j = N.roads.length := by omega
                    clear hjl hj
                    have HO2 := Lib.hid (HO.out.keep HBj.out)
                    have hBM := best_metres (N := N) (fun i hi => (HME.out i hi).1) (l := l) (k := k)
                    rw [HAZ.out.1, HAZ.out.2] at hBM
                    have hrl := HRL.out N.roads.length (Nat.le_refl _)
                    by_cases hb : bestAt N l k = -1
                    · have F := Lib.hid (ex_open (m := m) hE HEX.out (told_no (by omega) hb))
                      have e0 := hBM.1 hb
                      rw [e0]
                      clear hb hBM hrl e0
                      obtain ⟨r0, r1, r2, rf0, rf1, rf2⟩ := BR.out.keep HBB.out
                      go_wp2_with fail
                      refine bodyPost_ret (v := .tuple #[resV 0 0 false, .int .i64 23]) (by simp [results, Try.results70, go_sem, r0, r1, r2]) rfl ⟨by rw [F.out], ?_⟩
                      exact (((HX.out.trans (HBj.out.mono HX.out.size)).setCell (p := ⟨w.heap.size + 1 + 1, 0, none⟩) (by dsimp only; omega) _).setCell (p := ⟨w.heap.size + 1 + 1, 1, none⟩) (by dsimp only; omega) _).setCell (p := ⟨w.heap.size + 1 + 1, 2, none⟩) (by dsimp only; omega) _
                    · obtain ⟨e0, e1⟩ := hBM.2 hb
                      have G : Hid (∀ j, j < k + 1 → bestAt N l j ≠ -1) := Lib.hid fun j hj => by
                        by_cases e : j = k
                        · subst e; exact hb
                        · exact HG2.out j (by omega)
                      have hsl := sum_le HME.out k (fun j hj => HG2.out j hj)
                      have E1 := Lib.hid e1
                      generalize hr : rbest N a z N.roads.length = r at *
                      have dr : decide (r < 0) = false := decide_eq_false (by omega)
                      have hwr : IntKind.i64.wrap (metTo N l k + r) = metTo N l k + r := by rw [IntKind.wrap_i64]; omega
                      obtain ⟨o0, o1, o2, of0, of1, of2⟩ := HO2.out
                      clear hb hBM e1 hr
                      go_wp2_with fail
                      go_roundw
                      case rel => exact ⟨k + 1, by omega, by go_num, G, by rw [E1.out]; exact Lib.hid (HO2.out.set0 _), Lib.hid (HBB.out.setCell (p := ⟨g, 0, none⟩) hbg _)⟩
                      case measure => simp [intOf]; omega
              · have hkl : k = l.length - 1 := by omega
                have HTO := Lib.hid (told_yes (N := N) (l := l) (fun j hj => HG2.out j (by omega)))
                have HS := Lib.hid (ex_fine (m := m) hE HEX.out HTO.out)
                have hsl := sum_le HME.out k (fun j hj => HG2.out j hj)
                rw [hkl] at HO hsl
                generalize hsu : metTo N l (l.length - 1) = su at *
                clear hsu
                have hkk : ((k + 1 : Nat) : Int) = (l.length : Int) := by omega
                rw [hkk]
                clear hkl hlt hkk hk
                have hp0 := place_in HPL.out (k := 0) (by omega)
                have hp1 := place_in HPL.out (k := l.length - 1) (by omega)
                obtain ⟨X, hX⟩ : ∃ X : Nat, listI l 0 = X := ⟨_, (Int.toNat_of_nonneg hp0.1).symm⟩
                obtain ⟨Y, hY⟩ : ∃ Y : Nat, listI l (l.length - 1) = Y := ⟨_, (Int.toNat_of_nonneg hp1.1).symm⟩
                have hXl : X < N.places.length := by omega
                have hYl : Y < N.places.length := by omega
                have HLM := Lib.hid (show leastM N l = listI (heights N X) Y by unfold leastM; rw [hX, hY, Int.toNat_natCast])
                have hYh : Y < (heights N X).length := by rw [heights_len]; exact hYl
                have hYn : (Y : Int) < (N.places.length : Int) := by omega
                have hA6 := HA.out.keep (Keep.below HX.out)
                obtain ⟨p, o, hAe, q0⟩ := hA6.at_ (show 0 < l.length by omega)
                subst hAe
                have q1 := hA6.cells (k := l.length - 1) (by omega)
                have hpw : p < w.heap.size := World.block_lt_of_cell? w _ (HA.out.cells (k := 0) (by omega))
                rw [hX] at q0
                rw [hY] at q1
                obtain ⟨n', hn'⟩ : ∃ n', l.length - 1 = n' := ⟨_, rfl⟩
                rw [hn'] at q1
                have hm1 : ((l.length : Int) - 1) = (n' : Int) := by omega
                have hm2 : (n' : Int) < (l.length : Int) := by omega
                have w0 : IntKind.i64.wrap (n' : Int) = (n' : Int) := by rw [IntKind.wrap_i64]; omega
                have w0' : IntKind.i64.wrap ((l.length : Int) - 1) = (n' : Int) := by rw [hm1]; exact w0
                clear hm1
                clear hn'
                have h0l : (0 : Int) < (l.length : Int) := by omega
                have h0n : 0 < l.length := by omega
                have hlm := (heights_bound hE hXl hYl)
                clear hA6 hY hp0 hp1
                clear hX
                obtain ⟨n0, n1⟩ := BN.out.keep (Keep.below HBk.out)
                obtain ⟨wq, hwq⟩ : ∃ wq, wq = wr := ⟨_, rfl⟩
                subst hwq
                go_wp2_with fail
                go_cut [] from 101 to 118 (fun wx => Hid (ResAt wx g (.int .i64 su) (.int .i64 (leastM N l)) (.bool false)) ∧ Hid (Below wb.heap.size wb wx))
                case first =>
                  have HBd : Hid (Below g wq wq.drew) := Lib.hid (Below.refl _ _).drew
                  have HT : Hid (ResAt wq.drew g (.int .i64 su) (.int .i64 0) (.bool false)) := Lib.hid ⟨HO.out.c0, HO.out.c1, HO.out.c2, HO.out.f0, HO.out.f1, HO.out.f2⟩
                  have MK : Hid (∀ w', Below g wq w' → w'.cell? ⟨w.heap.size, 0, none⟩ = some (.slice P N.places.length pc) ∧ w'.cell? ⟨w.heap.size, 1, none⟩ = some (.slice R N.roads.length rc) ∧ w'.cell? ⟨w.heap.size + 1, 0, none⟩ = some (.slice (some ⟨p, o, none⟩) l.length c) ∧ w'.cell? ⟨w.heap.size + 1, 1, none⟩ = some (.int .i64 m) ∧ w'.cell? ⟨p, o, none⟩ = some (.int .i64 (X : Int)) ∧ w'.cell? ⟨p, o + n', none⟩ = some (.int .i64 (Y : Int)) ∧ Hid (Below g wq w')) :=
                    Lib.hid fun w' hw => ⟨(hw.cell (p := ⟨w.heap.size, 0, none⟩) (by have := HWG.out; dsimp only; omega)).trans n0, (hw.cell (p := ⟨w.heap.size, 1, none⟩) (by have := HWG.out; dsimp only; omega)).trans n1, (hw.cell (p := ⟨w.heap.size + 1, 0, none⟩) (by have := HWG.out; dsimp only; omega)).trans c0, (hw.cell (p := ⟨w.heap.size + 1, 1, none⟩) (by have := HWG.out; dsimp only; omega)).trans c1, (hw.cell (p := ⟨p, o, none⟩) (by have := HWG.out; dsimp only; omega)).trans q0, (hw.cell (p := ⟨p, o + n', none⟩) (by have := HWG.out; dsimp only; omega)).trans q1, Lib.hid hw⟩
                  have KN : Hid (∀ w', Below g wq w' → RdNet w' (netV N P R pc rc) N) := Lib.hid fun w' hw => (hN0.out.keep (Keep.below (HX.out.trans (hw.mono (by have := HWG.out; omega)))))
                  have HGW := Lib.hid (show g ≤ wq.heap.size from Nat.le_of_lt HO.out.lt)
                  refine wp_region_held_drew (S := fun w' => w'.cell? ⟨w.heap.size, 0, none⟩ = some (.slice P N.places.length pc) ∧ w'.cell? ⟨w.heap.size, 1, none⟩ = some (.slice R N.roads.length rc) ∧ w'.cell? ⟨w.heap.size + 1, 0, none⟩ = some (.slice (some ⟨p, o, none⟩) l.length c) ∧ w'.cell? ⟨w.heap.size + 1, 1, none⟩ = some (.int .i64 m) ∧ w'.cell? ⟨p, o, none⟩ = some (.int .i64 (X : Int)) ∧ w'.cell? ⟨p, o + n', none⟩ = some (.int .i64 (Y : Int)) ∧ Hid (Below g wq w')) (by kernel_rfl) (MK.out _ HBd.out) (fun hHeld => ?_)
                  refine wpAnyH_take (i := 0) (v := ?val0) rfl (by kernel_rfl) (by kernel_rfl) (by kernel_rfl) (fun _ _ _ h => h) (Or.inl ⟨by rfl, fun w9 hS9 => ?yields0⟩) (by assumption) ?later0
                  case yields0 =>
                    dsimp only at hS9
                    go_simp
                    try with_reducible rfl
                  try simp only [Act.put, List.getElem_toArray, List.getElem_cons_succ, List.getElem_cons_zero, List.setIfInBounds_toArray, List.set_cons_zero, List.set_cons_succ]
                  refine wpAnyH_take (i := 1) (v := ?val1) rfl (by kernel_rfl) (by kernel_rfl) (by kernel_rfl) (fun _ _ _ h => h) (Or.inl ⟨by rfl, fun w9 hS9 => ?yields1⟩) (by assumption) ?later1
                  case yields1 =>
                    dsimp only at hS9
                    go_simp
                    try with_reducible rfl
                  try simp only [Act.put, List.getElem_toArray, List.getElem_cons_succ, List.getElem_cons_zero, List.setIfInBounds_toArray, List.set_cons_zero, List.set_cons_succ]
                  refine wpAnyH_take (i := 2) (v := ?val2) rfl (by kernel_rfl) (by kernel_rfl) (by kernel_rfl) (fun _ _ _ h => h) (Or.inl ⟨by rfl, fun w9 hS9 => ?yields2⟩) (by assumption) ?later2
                  case yields2 =>
                    dsimp only at hS9
                    go_simp
                    try with_reducible rfl
                  try simp only [Act.put, List.getElem_toArray, List.getElem_cons_succ, List.getElem_cons_zero, List.setIfInBounds_toArray, List.set_cons_zero, List.set_cons_succ]
                  refine wpAnyH_take (i := 3) (v := ?val3) rfl (by kernel_rfl) (by kernel_rfl) (by kernel_rfl) (fun _ _ _ h => h) (Or.inl ⟨by rfl, fun w9 hS9 => ?yields3⟩) (by assumption) ?later3
                  case yields3 =>
                    dsimp only at hS9
                    go_simp
                    try with_reducible rfl
                  try simp only [Act.put, List.getElem_toArray, List.getElem_cons_succ, List.getElem_cons_zero, List.setIfInBounds_toArray, List.set_cons_zero, List.set_cons_succ]
                  refine wpAnyH_take (i := 4) (v := ?val4) rfl (by kernel_rfl) (by kernel_rfl) (by kernel_rfl) (fun _ _ _ h => h) (Or.inl ⟨by rfl, fun w9 hS9 => ?yields4⟩) (by assumption) ?later4
                  case yields4 =>
                    dsimp only at hS9
                    go_simp
                    try with_reducible rfl
                  try simp only [Act.put, List.getElem_toArray, List.getElem_cons_succ, List.getElem_cons_zero, List.setIfInBounds_toArray, List.set_cons_zero, List.set_cons_succ]
                  refine wpAnyH_take (i := 6) (v := ?val6) rfl (by kernel_rfl) (by kernel_rfl) (by kernel_rfl) (fun _ _ _ h => h) (Or.inl ⟨by rfl, fun w9 hS9 => ?yields6⟩) (by assumption) ?later6
                  case yields6 =>
                    dsimp only at hS9
                    go_simp
                    try with_reducible rfl
                  try simp only [Act.put, List.getElem_toArray, List.getElem_cons_succ, List.getElem_cons_zero, List.setIfInBounds_toArray, List.set_cons_zero, List.set_cons_succ]
                  refine wpAnyH_take (i := 7) (v := ?val7) rfl (by kernel_rfl) (by kernel_rfl) (by kernel_rfl) (fun _ _ _ h => h) (Or.inl ⟨by rfl, fun w9 hS9 => ?yields7⟩) (by assumption) ?later7
                  case yields7 =>
                    dsimp only at hS9
                    go_simp
                    try with_reducible rfl
                  try simp only [Act.put, List.getElem_toArray, List.getElem_cons_succ, List.getElem_cons_zero, List.setIfInBounds_toArray, List.set_cons_zero, List.set_cons_succ]
                  refine wpAnyH_take (i := 8) (v := ?val8) rfl (by kernel_rfl) (by kernel_rfl) (by kernel_rfl) (fun _ _ _ h => h) (Or.inl ⟨by rfl, fun w9 hS9 => ?yields8⟩) (by assumption) ?later8
                  case yields8 =>
                    dsimp only at hS9
                    go_simp
                    try with_reducible rfl
                  try simp only [Act.put, List.getElem_toArray, List.getElem_cons_succ, List.getElem_cons_zero, List.setIfInBounds_toArray, List.set_cons_zero, List.set_cons_succ]
                  refine wpAnyH_take (i := 9) (v := ?val9) rfl (by kernel_rfl) (by kernel_rfl) (by kernel_rfl) (fun _ _ _ h => h) (Or.inl ⟨by rfl, fun w9 hS9 => ?yields9⟩) (by assumption) ?later9
                  case yields9 =>
                    dsimp only at hS9
                    go_simp
                    try with_reducible rfl
                  try simp only [Act.put, List.getElem_toArray, List.getElem_cons_succ, List.getElem_cons_zero, List.setIfInBounds_toArray, List.set_cons_zero, List.set_cons_succ]
                  refine wpAnyH_take (i := 10) (v := ?val10) rfl (by kernel_rfl) (by kernel_rfl) (by kernel_rfl) (fun _ _ _ h => h) (Or.inl ⟨by rfl, fun w9 hS9 => ?yields10⟩) (by assumption) ?later10
                  case yields10 =>
                    dsimp only at hS9
                    go_simp
                    try with_reducible rfl
                  try simp only [Act.put, List.getElem_toArray, List.getElem_cons_succ, List.getElem_cons_zero, List.setIfInBounds_toArray, List.set_cons_zero, List.set_cons_succ]
                  refine wpAnyH_take (i := 11) (v := ?val11) rfl (by kernel_rfl) (by kernel_rfl) (by kernel_rfl) (fun _ _ _ h => h) (Or.inl ⟨by rfl, fun w9 hS9 => ?yields11⟩) (by assumption) ?later11
                  case yields11 =>
                    dsimp only at hS9
                    go_simp
                    try with_reducible rfl
                  try simp only [Act.put, List.getElem_toArray, List.getElem_cons_succ, List.getElem_cons_zero, List.setIfInBounds_toArray, List.set_cons_zero, List.set_cons_succ]
                  refine wpAnyH_take (i := 12) (v := ?val12) rfl (by kernel_rfl) (by kernel_rfl) (by kernel_rfl) (fun _ _ _ h => h) (Or.inl ⟨by rfl, fun w9 hS9 => ?yields12⟩) (by assumption) ?later12
                  case yields12 =>
                    dsimp only at hS9
                    go_simp
                    try with_reducible rfl
                  try simp only [Act.put, List.getElem_toArray, List.getElem_cons_succ, List.getElem_cons_zero, List.setIfInBounds_toArray, List.set_cons_zero, List.set_cons_succ]
                  refine wpAnyH_take (i := 13) (v := ?val13) rfl (by kernel_rfl) (by kernel_rfl) (by kernel_rfl) (fun _ _ _ h => h) (Or.inl ⟨by rfl, fun w9 hS9 => ?yields13⟩) (by assumption) ?later13
                  case yields13 =>
                    dsimp only at hS9
                    go_simp
                    try with_reducible rfl
                  try simp only [Act.put, List.getElem_toArray, List.getElem_cons_succ, List.getElem_cons_zero, List.setIfInBounds_toArray, List.set_cons_zero, List.set_cons_succ]
                  refine wpAnyH_ready (rs := [5]) (by kernel_rfl) (by simp) ?_
                  refine AllReadyH.cons rfl (fun K hK => ?_) AllReadyH.nil
                  go_simp
                  go_at_call 55
                  go_split_ands
                  refine (rHts_any N _ X _ (KN.out _ (Hid.out (by assumption))) hE hXl).mono ?_
                  rintro e' w1 ⟨gH, kH, rfl, hgH, hH, hb1⟩
                  have hH : ArrI w1 (some ⟨gH, 0, none⟩) (heights N X) kH := hH
                  have HT := Lib.hid (HT.out.keep hb1)
                  have hkh := hH.le.1
                  have hkh2 := hH.le.2
                  rw [heights_len] at hkh
                  have hy := hH.cells hYh
                  rw [Nat.zero_add] at hy
                  clear hH
                  obtain ⟨o0, o1, o2, of0, of1, of2⟩ := HT.out
                  go_wp2_with fail
                  refine hK.out _ _ ?_ (fun hHeld => ?_)
                  · (try dsimp only)
                    (go_split_ands; exact MK.out _ (Below.trans (Hid.out (by assumption)) (hb1.mono (Nat.le_trans HGW.out (Hid.out (by assumption) : Below g wq _).size))))
                  clear hK K
                  try simp only [Act.put, List.getElem_toArray, List.getElem_cons_succ, List.getElem_cons_zero, List.setIfInBounds_toArray, List.set_cons_zero, List.set_cons_succ]
                  refine wpAnyH_take (i := 14) (v := ?val14) rfl (by kernel_rfl) (by kernel_rfl) (by kernel_rfl) (fun _ _ _ h => h) (Or.inl ⟨by rfl, fun w9 hS9 => ?yields14⟩) (by assumption) ?later14
                  case yields14 =>
                    dsimp only at hS9
                    go_simp
                    try with_reducible rfl
                  try simp only [Act.put, List.getElem_toArray, List.getElem_cons_succ, List.getElem_cons_zero, List.setIfInBounds_toArray, List.set_cons_zero, List.set_cons_succ]
                  refine wpAnyH_ready (rs := [15]) (by kernel_rfl) (by simp) ?_
                  refine AllReadyH.cons rfl (fun K hK => ?_) AllReadyH.nil
                  go_simp
                  refine hK.out _ _ ?_ (fun hHeld => ?_)
                  · (try dsimp only)
                    (go_split_ands; exact ⟨by assumption, by assumption, by assumption, by assumption, by assumption, by assumption, by assumption⟩)
                  clear hK K
                  try simp only [Act.put, List.getElem_toArray, List.getElem_cons_succ, List.getElem_cons_zero, List.setIfInBounds_toArray, List.set_cons_zero, List.set_cons_succ]
                  refine wpAnyH_take (i := 16) (v := ?val16) rfl (by kernel_rfl) (by kernel_rfl) (by kernel_rfl) (fun _ _ _ h => h) (Or.inl ⟨by rfl, fun w9 hS9 => ?yields16⟩) (by assumption) ?later16
                  case yields16 =>
                    dsimp only at hS9
                    go_simp
                    try with_reducible rfl
                  try simp only [Act.put, List.getElem_toArray, List.getElem_cons_succ, List.getElem_cons_zero, List.setIfInBounds_toArray, List.set_cons_zero, List.set_cons_succ]
                  refine wpAnyH_ready (rs := [17]) (by kernel_rfl) (by simp) ?_
                  refine AllReadyH.cons rfl (fun K hK => ?_) AllReadyH.nil
                  go_simp
                  refine hK.out _ _ ?_ (fun hHeld => ?_)
                  · (try dsimp only)
                    (go_split_ands; exact MK.out _ (Below.setCell (p := ⟨g, 1, none⟩) (Hid.out (by assumption)) (Nat.le_refl _) _))
                  clear hK K
                  try simp only [Act.put, List.getElem_toArray, List.getElem_cons_succ, List.getElem_cons_zero, List.setIfInBounds_toArray, List.set_cons_zero, List.set_cons_succ]
                  refine wpAnyH_done (by kernel_rfl) ?_ _
                  obtain ⟨-, -, -, -, -, -, hbb⟩ := hHeld
                  go_wp2_with fail
                  go_meet
                  exact ⟨by rw [HLM.out]; exact Lib.hid (HT.out.set1 _), Lib.hid (HBk.out.trans (hbb.out.mono hbg))⟩
                case rest =>
                  obtain ⟨HT, HBz⟩ := hcut
                  clear n0 n1 c0 c1 q0 q1
                  rw [HLM.out] at HT HS
                  generalize listI (heights N X) Y = le at *
                  obtain ⟨c0, c1⟩ := BT.out.keep (Keep.below HBz.out)
                  have hgr : ¬ (w.heap.size + 1 + 1 = g) := by have := HWG.out; omega
                  obtain ⟨r0, r1, r2, rf0, rf1, rf2⟩ := BR.out.keep HBz.out
                  obtain ⟨o0, o1, o2, of0, of1, of2⟩ := HT.out
                  have w1 : IntKind.i64.wrap (1000 * su) = 1000 * su := by rw [IntKind.wrap_i64]; omega
                  have w2 : IntKind.i64.wrap (1000 + m) = 1000 + m := by rw [IntKind.wrap_i64]; omega
                  have hml := mul_in hm01.1 hm01.2 hlm
                  have w3 : IntKind.i64.wrap ((1000 + m) * le) = (1000 + m) * le := by rw [IntKind.wrap_i64]; omega
                  clear hml
                  go_wp2_with fail
                  refine bodyPost_ret (v := .tuple #[resV su le (decide (1000 * su ≤ (1000 + m) * le)), .int .i64 0]) (by simp [results, Try.results70, go_sem, r0, r1, r2, hgr]) rfl ⟨by rw [HS.out], ?_⟩
                  exact ((((HW.out.trans (HBz.out.mono HW.out.size)).setCell (p := ⟨g, 2, none⟩) (by have := HWG.out; dsimp only; omega) _).setCell (p := ⟨w.heap.size + 1 + 1, 0, none⟩) (by dsimp only; omega) _).setCell (p := ⟨w.heap.size + 1 + 1, 1, none⟩) (by dsimp only; omega) _).setCell (p := ⟨w.heap.size + 1 + 1, 2, none⟩) (by dsimp only; omega) _
end Go.Proofs.Ythipneggplebcaa

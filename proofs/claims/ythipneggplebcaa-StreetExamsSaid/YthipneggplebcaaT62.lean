/- Whether labels prove that nobody arrives earlier, as the reference tells it. Conditions: the net is right; there is a label for each place. -/
import Derived.Test.YthipneggplebcaaT43
import Derived.Test.YthipneggplebcaaT49
import Derived.Test.YthipneggplebcaaWQ
namespace Go.Proofs.Ythipneggplebcaa
open Go.RowKit Fs

def Fs.provesP (N : Net) (nx : Nat → Int → Int) (l : List Int) (X : Nat) (a : Int) : Bool := decide (within (listI l X) 0 a = true ∧ Proof N nx l N.roads.length)
theorem Fs.proves_no {N : Net} {nx : Nat → Int → Int} {l : List Int} {X : Nat} {a : Int} (h : within (listI l X) 0 a = false) : provesP N nx l X a = false := decide_eq_false (fun h' => by rw [h] at h'; cases h'.1)
theorem Fs.proves_yes {N : Net} {nx : Nat → Int → Int} {l : List Int} {X : Nat} {a : Int} (h : within (listI l X) 0 a = true) (h2 : Proof N nx l N.roads.length) : provesP N nx l X a = true := decide_eq_true ⟨h, h2⟩
theorem Fs.proves_bad {N : Net} {nx : Nat → Int → Int} {l : List Int} {X : Nat} {a : Int} (h2 : ¬ Proof N nx l N.roads.length) : provesP N nx l X a = false := decide_eq_false (fun h => h2 h.2)

set_option maxHeartbeats 6400000 in
set_option maxRecDepth 100000 in
theorem rProvesS_any (N : Net) (v : Value) (X : Nat) (t a : Int) (l : List Int) (A : Option Addr) (c : Nat) (w : World) (hN : RdNet w v N) (hA : ArrI w A l c) (hE : netErr N = 0) (hll : l.length = N.places.length) (hin : LabIn l) (hX : X < l.length) :
    Calls Try.prog 106 #[v, stripV X t a, .slice A l.length c, .bool false] w fun e w' => e = .returned (.bool (provesP N (soonest N) l X a)) ∧ Below w.heap.size w w' := by
  obtain ⟨P, R, pc, rc, ar, rfl, m⟩ := hN
  have M := Lib.hid m
  have rb1 := m.roads.le.1
  have rb2 := m.roads.le.2
  clear m
  have b1 := hA.le.1
  have b2 := hA.le.2
  have HA := Lib.hid hA
  have HJ := Lib.hid (net_joined hE)
  have HR := Lib.hid (net_roads_ok hE)
  have HLL := Lib.hid hll
  have HIN := Lib.hid hin
  clear hA hll hin
  have BN := Lib.hid ((BoxN.new w N P R pc rc 25).keep (Keep.alloc _ (.cells #[.int .i64 X, .int .i64 t, .int .i64 a] 63)))
  have BT := Lib.hid (TripAt.new1 w (.cells #[.slice P N.places.length pc, .slice R N.roads.length rc] 25) X t a 63)
  go_enter Try.func106, Try.ntmps106
  go_upto_region 1 with fail
  generalize hwb : (w.alloc _).alloc _ = wb at *
  have HW : Hid (Below w.heap.size w wb) := by rw [← hwb]; exact Lib.hid (((Below.refl _ _).alloc (Nat.le_refl _) _).alloc (by simp) _)
  clear hwb
  have hXn : (X : Int) < (l.length : Int) := by omega
  obtain ⟨c0, c1, c2⟩ := BT.out
  obtain ⟨p, o, hAe, q0⟩ := (HA.out.keep (Keep.below HW.out)).at_ hX
  subst hAe
  cases hW0 : within (listI l X) 0 a with
  | false =>
    have HWI := Lib.hid hW0
    clear hW0
    go_wp2_with fail
    obtain ⟨C, Ci, Co⟩ := classOf wb
    refine quietC (C := C) (by kernel_rfl) (by kernel_rfl) (Co.out _ (Below.refl _ _).drew) ?_
    repeat (first
      | go_big_quiet_skip
      | (go_big_quiet_want; go_big_quiet_op; go_big_quiet_on)
      | (refine quiet_yes (by rfl) ?_
         apply Exists.intro
         refine ⟨fun w' hC => ?_, ?_⟩
         · have hbb := Ci.out _ hC
           have zz0 := Keep.below hbb _ _ c0
           have zz1 := Keep.below hbb _ _ c1
           have zz2 := Keep.below hbb _ _ c2
           have zz3 := Keep.below hbb _ _ q0
           go_simp
           first
             | done
             | rfl
             | (go_at_call 36
                refine (bwithin_any _ _ _ _).mono ?_
                rintro e' w1 ⟨rfl, rfl⟩
                rw [HWI.out]
                exact ⟨rfl, hC⟩)
         simp only [Act.put, List.setIfInBounds_toArray, List.set_cons_zero, List.set_cons_succ]))
    refine wpQuiet_nil ?_
    intro w1 hC1
    have hb1 := Ci.out _ hC1
    replace HW := Lib.hid (HW.out.trans (hb1.mono HW.out.size))
    replace BN := Lib.hid (BN.out.keep (Keep.below hb1))
    replace BT := Lib.hid (BT.out.keep (Keep.below hb1))
    clear hb1 hC1 Ci Co C c0 c1 c2 q0
    go_wp2_with fail
    go_ret
    exact ⟨ret_bool (proves_no HWI.out).symm, HW.out⟩
  | true =>
    have HWI := Lib.hid hW0
    clear hW0
    go_wp2_with fail
    obtain ⟨C, Ci, Co⟩ := classOf wb
    refine quietC (C := C) (by kernel_rfl) (by kernel_rfl) (Co.out _ (Below.refl _ _).drew) ?_
    repeat (first
      | go_big_quiet_skip
      | (go_big_quiet_want; go_big_quiet_op; go_big_quiet_on)
      | (refine quiet_yes (by rfl) ?_
         apply Exists.intro
         refine ⟨fun w' hC => ?_, ?_⟩
         · have hbb := Ci.out _ hC
           have zz0 := Keep.below hbb _ _ c0
           have zz1 := Keep.below hbb _ _ c1
           have zz2 := Keep.below hbb _ _ c2
           have zz3 := Keep.below hbb _ _ q0
           go_simp
           first
             | done
             | rfl
             | (go_at_call 36
                refine (bwithin_any _ _ _ _).mono ?_
                rintro e' w1 ⟨rfl, rfl⟩
                rw [HWI.out]
                exact ⟨rfl, hC⟩)
         simp only [Act.put, List.setIfInBounds_toArray, List.set_cons_zero, List.set_cons_succ]))
    refine wpQuiet_nil ?_
    intro w1 hC1
    have hb1 := Ci.out _ hC1
    replace HW := Lib.hid (HW.out.trans (hb1.mono HW.out.size))
    replace BN := Lib.hid (BN.out.keep (Keep.below hb1))
    replace BT := Lib.hid (BT.out.keep (Keep.below hb1))
    clear hb1 hC1 Ci Co C c0 c1 c2 q0
    obtain ⟨n0, n1⟩ := BN.out
    go_wp2_with fail
    clear n0 n1
    go_loopw [9] (fun i wr => ∃ k : Nat, k ≤ N.roads.length ∧ i = .int .i64 k ∧ Hid (Proof N (soonest N) l k) ∧ Hid (Below w1.heap.size w1 wr)) (fun i _ => N.roads.length - (intOf i).toNat)
    case atStart => exact ⟨0, Nat.zero_le _, rfl, Lib.hid (fun j hj => absurd hj (Nat.not_lt_zero _)), Lib.hid (Below.refl _ _)⟩
    case round =>
      obtain ⟨k, hk, rfl, HG, HBk⟩ := hrel
      have HXk := Lib.hid (HW.out.trans (HBk.out.mono HW.out.size))
      obtain ⟨n0, n1⟩ := BN.out.keep (Keep.below HBk.out)
      by_cases hlt : k < N.roads.length
      · have hkn : (k : Int) < (N.roads.length : Int) := by omega
        have hrr := M.out.roads.keep (Keep.below HXk.out)
        have HPr := Lib.hid (hrr.2 k hlt)
        obtain ⟨rb, ro, hRa, qq⟩ := hrr.at_ hlt
        subst hRa
        obtain ⟨x0, x1, x2, x3, x4⟩ := qq
        have BX := Lib.hid (BoxD.new wr (listD N.roads k) (ar.p k) (ar.pc k) 45)
        obtain ⟨⟨j0, s1⟩, j1, d1⟩ := HJ.out k hlt
        have HOK := Lib.hid (HR.out k hlt).pts
        obtain ⟨s, hs1⟩ : ∃ s : Nat, (listD N.roads k).src = s := ⟨_, (Int.toNat_of_nonneg j0).symm⟩
        obtain ⟨d, hd1⟩ : ∃ d : Nat, (listD N.roads k).dst = d := ⟨_, (Int.toNat_of_nonneg j1).symm⟩
        have HSD := Lib.hid (And.intro hs1 hd1)
        have sl : s < l.length := by have := HLL.out; omega
        have dl : d < l.length := by have := HLL.out; omega
        have HSN := Lib.hid (show (listD N.roads k).src.toNat = s ∧ (listD N.roads k).dst.toNat = d by omega)
        have hR1 := Fs.within_iff.1 (HIN.out s sl)
        have hR2 := Fs.within_iff.1 (HIN.out d dl)
        clear hrr hs1 hd1 j0 j1 s1 d1
        go_upto_region 7 with fail
        generalize hw6 : wr.alloc _ = w6 at *
        have hB6 : Below wr.heap.size wr w6 := by rw [← hw6]; exact (Below.refl _ _).alloc (Nat.le_refl _) _
        clear hw6 x0 x1 x2 x3 x4 n0 n1
        have HB6 := Lib.hid (HBk.out.trans (hB6.mono HBk.out.size))
        have HX6 := Lib.hid (HXk.out.trans (hB6.mono HXk.out.size))
        have HP := Lib.hid (HPr.out.keep (Keep.below hB6))
        clear hB6 HPr
        obtain ⟨x0, x1, x2, x3, x4⟩ := BX.out
        rw [HSD.out.1] at x1
        rw [HSD.out.2] at x2
        have sn : (s : Int) < (l.length : Int) := by omega
        have dn : (d : Int) < (l.length : Int) := by omega
        have ls := (HA.out.keep (Keep.below HX6.out)).cells sl
        have ld := (HA.out.keep (Keep.below HX6.out)).cells dl
        by_cases hz : listI l s = -1
        · have F : Hid (Proof N (soonest N) l (k + 1)) := Lib.hid fun i hi => by
            by_cases e : i = k
            · subst e; left; rw [HSN.out.1]; exact hz
            · exact HG.out i (by omega)
          rw [hz] at ls
          clear hz ld
          go_wp2_with fail
          go_roundw
          case rel => exact ⟨k + 1, by omega, by go_num, F, HB6⟩
          case measure => simp [intOf]; omega
        · have hz0 : 0 ≤ listI l s := by omega
          have HZ := Lib.hid hz
          obtain ⟨z, hzz⟩ : ∃ z, listI l s = z := ⟨_, rfl⟩
          have HZZ := Lib.hid hzz
          rw [hzz] at ls hz0 hR1
          have dz : decide (z < 0) = false := decide_eq_false (by omega)
          have tk := takesAt_is HOK.out z
          obtain ⟨⟨tk0, tk1⟩, tk2, tk3⟩ := tk
          have HNX := Lib.hid (show (soonest N) k z = z + (takesAt (listD N.roads k).pts z).1 from rfl)
          have hf0 : ∀ (x y : Int) (w : World), (Instr.field 35 (.agg #[.int .i64 x, .int .i64 y]) 0).run Try.prog w = .ok (.int .i64 x) w := fun _ _ _ => by kernel_rfl
          have hf1 : ∀ (x y : Int) (w : World), (Instr.field 35 (.agg #[.int .i64 x, .int .i64 y]) 1).run Try.prog w = .ok (.int .i64 y) w := fun _ _ _ => by kernel_rfl
          have hwr1 : IntKind.i64.wrap (z + (takesAt (listD N.roads k).pts z).1) = z + (takesAt (listD N.roads k).pts z).1 := by rw [IntKind.wrap_i64]; omega
          have hwr2 : IntKind.i64.wrap (z + (takesAt (listD N.roads k).pts z).2) = z + (takesAt (listD N.roads k).pts z).2 := by rw [IntKind.wrap_i64]; omega
          clear hz hzz
          go_wp2_with fail
          obtain ⟨C, Ci, Co⟩ := classOf w6
          refine quietC (C := C) (by kernel_rfl) (by kernel_rfl) (Co.out _ (Below.refl _ _).drew) ?_
          repeat (first
            | go_big_quiet_skip
            | (go_big_quiet_want; go_big_quiet_op; go_big_quiet_on)
            | (refine quiet_yes (by rfl) ?_
               apply Exists.intro
               refine ⟨fun w' hC => ?_, ?_⟩
               · have hbb := Ci.out _ hC
                 have zz0 := Keep.below hbb _ _ x0
                 have zz1 := Keep.below hbb _ _ x1
                 have zz2 := Keep.below hbb _ _ x2
                 have zz3 := Keep.below hbb _ _ x3
                 have zz4 := Keep.below hbb _ _ x4
                 have zz5 := Keep.below hbb _ _ ls
                 go_simp
                 first
                   | done
                   | rfl
                   | (go_at_call 26
                      refine (rTakes_any ⟨(listD N.roads k).name, s, d, (listD N.roads k).metres, (listD N.roads k).pts⟩ _ _ z _ (HP.out.keep (Keep.below hbb)) HOK.out hz0 (by omega)).mono ?_
                      rintro e' w1 ⟨rfl, hb1⟩
                      exact ⟨rfl, Co.out _ (hbb.trans (hb1.mono hbb.size))⟩)
               simp only [Act.put, List.setIfInBounds_toArray, List.set_cons_zero, List.set_cons_succ]))
          refine wpQuiet_nil ?_
          intro w7 hC7
          have hb7 := Ci.out _ hC7
          replace HB6 := Lib.hid (HB6.out.trans (hb7.mono HB6.out.size))
          replace HX6 := Lib.hid (HX6.out.trans (hb7.mono HX6.out.size))
          replace HP := Lib.hid (HP.out.keep (Keep.below hb7))
          replace x0 := Keep.below hb7 _ _ x0
          replace x1 := Keep.below hb7 _ _ x1
          replace x2 := Keep.below hb7 _ _ x2
          replace x3 := Keep.below hb7 _ _ x3
          replace x4 := Keep.below hb7 _ _ x4
          replace ls := Keep.below hb7 _ _ ls
          replace ld := Keep.below hb7 _ _ ld
          clear hb7 hC7 Ci Co C
          clear x0 x1 x3 x4 hwr1 hwr2 ls
          rw [← HNX.out]
          generalize hy : (soonest N) k z = y at *
          have HY := Lib.hid hy
          clear hy HNX
          cases hp : within (listI l d) 0 y with
          | true =>
            have F : Hid (Proof N (soonest N) l (k + 1)) := Lib.hid fun i hi => by
              by_cases e : i = k
              · subst e
                right
                rw [HSN.out.1, HSN.out.2, HZZ.out, HY.out]
                have := Fs.within_iff.1 hp
                exact ⟨by omega, this.2⟩
              · exact HG.out i (by omega)
            have Z := Lib.hid hp
            clear hp
            go_wp2_with fail
            refine (bwithin_any _ _ _ _).mono ?_
            rintro e' wX ⟨rfl, rfl⟩
            rw [Z.out]
            go_wp2_with fail
            go_roundw
            case rel => exact ⟨k + 1, by omega, by go_num, F, HB6⟩
            case measure => simp [intOf]; omega
          | false =>
            have F := Lib.hid (proves_bad (N := N) (nx := soonest N) (l := l) (X := X) (a := a) (fun h => by
              rcases h k hlt with h1 | h1
              · rw [HSN.out.1] at h1; exact HZ.out h1
              · rw [HSN.out.1, HSN.out.2, HZZ.out, HY.out] at h1
                rw [Fs.within_iff.2 ⟨by omega, h1.2⟩] at hp
                cases hp))
            have Z := Lib.hid hp
            clear hp
            go_wp2_with fail
            refine (bwithin_any _ _ _ _).mono ?_
            rintro e' wX ⟨rfl, rfl⟩
            rw [Z.out]
            go_wp2_with fail
            go_ret
            exact ⟨ret_bool F.out.symm, HX6.out⟩
      · obtain rfl : k = N.roads.length := by omega
        clear hlt hk
        go_wp2_with fail
        go_ret
        exact ⟨ret_bool (proves_yes HWI.out HG.out).symm, HXk.out⟩
set_option maxHeartbeats 6400000 in
set_option maxRecDepth 100000 in
theorem rProvesL_any (N : Net) (v : Value) (X : Nat) (t a : Int) (l : List Int) (A : Option Addr) (c : Nat) (w : World) (hN : RdNet w v N) (hA : ArrI w A l c) (hE : netErr N = 0) (hll : l.length = N.places.length) (hin : LabIn l) (hX : X < l.length) :
    Calls Try.prog 106 #[v, stripV X t a, .slice A l.length c, .bool true] w fun e w' => e = .returned (.bool (provesP N (latest N) l X a)) ∧ Below w.heap.size w w' := by
  obtain ⟨P, R, pc, rc, ar, rfl, m⟩ := hN
  have M := Lib.hid m
  have rb1 := m.roads.le.1
  have rb2 := m.roads.le.2
  clear m
  have b1 := hA.le.1
  have b2 := hA.le.2
  have HA := Lib.hid hA
  have HJ := Lib.hid (net_joined hE)
  have HR := Lib.hid (net_roads_ok hE)
  have HLL := Lib.hid hll
  have HIN := Lib.hid hin
  clear hA hll hin
  have BN := Lib.hid ((BoxN.new w N P R pc rc 25).keep (Keep.alloc _ (.cells #[.int .i64 X, .int .i64 t, .int .i64 a] 63)))
  have BT := Lib.hid (TripAt.new1 w (.cells #[.slice P N.places.length pc, .slice R N.roads.length rc] 25) X t a 63)
  go_enter Try.func106, Try.ntmps106
  go_upto_region 1 with fail
  generalize hwb : (w.alloc _).alloc _ = wb at *
  have HW : Hid (Below w.heap.size w wb) := by rw [← hwb]; exact Lib.hid (((Below.refl _ _).alloc (Nat.le_refl _) _).alloc (by simp) _)
  clear hwb
  have hXn : (X : Int) < (l.length : Int) := by omega
  obtain ⟨c0, c1, c2⟩ := BT.out
  obtain ⟨p, o, hAe, q0⟩ := (HA.out.keep (Keep.below HW.out)).at_ hX
  subst hAe
  cases hW0 : within (listI l X) 0 a with
  | false =>
    have HWI := Lib.hid hW0
    clear hW0
    go_wp2_with fail
    obtain ⟨C, Ci, Co⟩ := classOf wb
    refine quietC (C := C) (by kernel_rfl) (by kernel_rfl) (Co.out _ (Below.refl _ _).drew) ?_
    repeat (first
      | go_big_quiet_skip
      | (go_big_quiet_want; go_big_quiet_op; go_big_quiet_on)
      | (refine quiet_yes (by rfl) ?_
         apply Exists.intro
         refine ⟨fun w' hC => ?_, ?_⟩
         · have hbb := Ci.out _ hC
           have zz0 := Keep.below hbb _ _ c0
           have zz1 := Keep.below hbb _ _ c1
           have zz2 := Keep.below hbb _ _ c2
           have zz3 := Keep.below hbb _ _ q0
           go_simp
           first
             | done
             | rfl
             | (go_at_call 36
                refine (bwithin_any _ _ _ _).mono ?_
                rintro e' w1 ⟨rfl, rfl⟩
                rw [HWI.out]
                exact ⟨rfl, hC⟩)
         simp only [Act.put, List.setIfInBounds_toArray, List.set_cons_zero, List.set_cons_succ]))
    refine wpQuiet_nil ?_
    intro w1 hC1
    have hb1 := Ci.out _ hC1
    replace HW := Lib.hid (HW.out.trans (hb1.mono HW.out.size))
    replace BN := Lib.hid (BN.out.keep (Keep.below hb1))
    replace BT := Lib.hid (BT.out.keep (Keep.below hb1))
    clear hb1 hC1 Ci Co C c0 c1 c2 q0
    go_wp2_with fail
    go_ret
    exact ⟨ret_bool (proves_no HWI.out).symm, HW.out⟩
  | true =>
    have HWI := Lib.hid hW0
    clear hW0
    go_wp2_with fail
    obtain ⟨C, Ci, Co⟩ := classOf wb
    refine quietC (C := C) (by kernel_rfl) (by kernel_rfl) (Co.out _ (Below.refl _ _).drew) ?_
    repeat (first
      | go_big_quiet_skip
      | (go_big_quiet_want; go_big_quiet_op; go_big_quiet_on)
      | (refine quiet_yes (by rfl) ?_
         apply Exists.intro
         refine ⟨fun w' hC => ?_, ?_⟩
         · have hbb := Ci.out _ hC
           have zz0 := Keep.below hbb _ _ c0
           have zz1 := Keep.below hbb _ _ c1
           have zz2 := Keep.below hbb _ _ c2
           have zz3 := Keep.below hbb _ _ q0
           go_simp
           first
             | done
             | rfl
             | (go_at_call 36
                refine (bwithin_any _ _ _ _).mono ?_
                rintro e' w1 ⟨rfl, rfl⟩
                rw [HWI.out]
                exact ⟨rfl, hC⟩)
         simp only [Act.put, List.setIfInBounds_toArray, List.set_cons_zero, List.set_cons_succ]))
    refine wpQuiet_nil ?_
    intro w1 hC1
    have hb1 := Ci.out _ hC1
    replace HW := Lib.hid (HW.out.trans (hb1.mono HW.out.size))
    replace BN := Lib.hid (BN.out.keep (Keep.below hb1))
    replace BT := Lib.hid (BT.out.keep (Keep.below hb1))
    clear hb1 hC1 Ci Co C c0 c1 c2 q0
    obtain ⟨n0, n1⟩ := BN.out
    go_wp2_with fail
    clear n0 n1
    go_loopw [9] (fun i wr => ∃ k : Nat, k ≤ N.roads.length ∧ i = .int .i64 k ∧ Hid (Proof N (latest N) l k) ∧ Hid (Below w1.heap.size w1 wr)) (fun i _ => N.roads.length - (intOf i).toNat)
    case atStart => exact ⟨0, Nat.zero_le _, rfl, Lib.hid (fun j hj => absurd hj (Nat.not_lt_zero _)), Lib.hid (Below.refl _ _)⟩
    case round =>
      obtain ⟨k, hk, rfl, HG, HBk⟩ := hrel
      have HXk := Lib.hid (HW.out.trans (HBk.out.mono HW.out.size))
      obtain ⟨n0, n1⟩ := BN.out.keep (Keep.below HBk.out)
      by_cases hlt : k < N.roads.length
      · have hkn : (k : Int) < (N.roads.length : Int) := by omega
        have hrr := M.out.roads.keep (Keep.below HXk.out)
        have HPr := Lib.hid (hrr.2 k hlt)
        obtain ⟨rb, ro, hRa, qq⟩ := hrr.at_ hlt
        subst hRa
        obtain ⟨x0, x1, x2, x3, x4⟩ := qq
        have BX := Lib.hid (BoxD.new wr (listD N.roads k) (ar.p k) (ar.pc k) 45)
        obtain ⟨⟨j0, s1⟩, j1, d1⟩ := HJ.out k hlt
        have HOK := Lib.hid (HR.out k hlt).pts
        obtain ⟨s, hs1⟩ : ∃ s : Nat, (listD N.roads k).src = s := ⟨_, (Int.toNat_of_nonneg j0).symm⟩
        obtain ⟨d, hd1⟩ : ∃ d : Nat, (listD N.roads k).dst = d := ⟨_, (Int.toNat_of_nonneg j1).symm⟩
        have HSD := Lib.hid (And.intro hs1 hd1)
        have sl : s < l.length := by have := HLL.out; omega
        have dl : d < l.length := by have := HLL.out; omega
        have HSN := Lib.hid (show (listD N.roads k).src.toNat = s ∧ (listD N.roads k).dst.toNat = d by omega)
        have hR1 := Fs.within_iff.1 (HIN.out s sl)
        have hR2 := Fs.within_iff.1 (HIN.out d dl)
        clear hrr hs1 hd1 j0 j1 s1 d1
        go_upto_region 7 with fail
        generalize hw6 : wr.alloc _ = w6 at *
        have hB6 : Below wr.heap.size wr w6 := by rw [← hw6]; exact (Below.refl _ _).alloc (Nat.le_refl _) _
        clear hw6 x0 x1 x2 x3 x4 n0 n1
        have HB6 := Lib.hid (HBk.out.trans (hB6.mono HBk.out.size))
        have HX6 := Lib.hid (HXk.out.trans (hB6.mono HXk.out.size))
        have HP := Lib.hid (HPr.out.keep (Keep.below hB6))
        clear hB6 HPr
        obtain ⟨x0, x1, x2, x3, x4⟩ := BX.out
        rw [HSD.out.1] at x1
        rw [HSD.out.2] at x2
        have sn : (s : Int) < (l.length : Int) := by omega
        have dn : (d : Int) < (l.length : Int) := by omega
        have ls := (HA.out.keep (Keep.below HX6.out)).cells sl
        have ld := (HA.out.keep (Keep.below HX6.out)).cells dl
        by_cases hz : listI l s = -1
        · have F : Hid (Proof N (latest N) l (k + 1)) := Lib.hid fun i hi => by
            by_cases e : i = k
            · subst e; left; rw [HSN.out.1]; exact hz
            · exact HG.out i (by omega)
          rw [hz] at ls
          clear hz ld
          go_wp2_with fail
          go_roundw
          case rel => exact ⟨k + 1, by omega, by go_num, F, HB6⟩
          case measure => simp [intOf]; omega
        · have hz0 : 0 ≤ listI l s := by omega
          have HZ := Lib.hid hz
          obtain ⟨z, hzz⟩ : ∃ z, listI l s = z := ⟨_, rfl⟩
          have HZZ := Lib.hid hzz
          rw [hzz] at ls hz0 hR1
          have dz : decide (z < 0) = false := decide_eq_false (by omega)
          have tk := takesAt_is HOK.out z
          obtain ⟨⟨tk0, tk1⟩, tk2, tk3⟩ := tk
          have HNX := Lib.hid (show (latest N) k z = z + (takesAt (listD N.roads k).pts z).2 from rfl)
          have hf0 : ∀ (x y : Int) (w : World), (Instr.field 35 (.agg #[.int .i64 x, .int .i64 y]) 0).run Try.prog w = .ok (.int .i64 x) w := fun _ _ _ => by kernel_rfl
          have hf1 : ∀ (x y : Int) (w : World), (Instr.field 35 (.agg #[.int .i64 x, .int .i64 y]) 1).run Try.prog w = .ok (.int .i64 y) w := fun _ _ _ => by kernel_rfl
          have hwr1 : IntKind.i64.wrap (z + (takesAt (listD N.roads k).pts z).1) = z + (takesAt (listD N.roads k).pts z).1 := by rw [IntKind.wrap_i64]; omega
          have hwr2 : IntKind.i64.wrap (z + (takesAt (listD N.roads k).pts z).2) = z + (takesAt (listD N.roads k).pts z).2 := by rw [IntKind.wrap_i64]; omega
          clear hz hzz
          go_wp2_with fail
          obtain ⟨C, Ci, Co⟩ := classOf w6
          refine quietC (C := C) (by kernel_rfl) (by kernel_rfl) (Co.out _ (Below.refl _ _).drew) ?_
          repeat (first
            | go_big_quiet_skip
            | (go_big_quiet_want; go_big_quiet_op; go_big_quiet_on)
            | (refine quiet_yes (by rfl) ?_
               apply Exists.intro
               refine ⟨fun w' hC => ?_, ?_⟩
               · have hbb := Ci.out _ hC
                 have zz0 := Keep.below hbb _ _ x0
                 have zz1 := Keep.below hbb _ _ x1
                 have zz2 := Keep.below hbb _ _ x2
                 have zz3 := Keep.below hbb _ _ x3
                 have zz4 := Keep.below hbb _ _ x4
                 have zz5 := Keep.below hbb _ _ ls
                 go_simp
                 first
                   | done
                   | rfl
                   | (go_at_call 26
                      refine (rTakes_any ⟨(listD N.roads k).name, s, d, (listD N.roads k).metres, (listD N.roads k).pts⟩ _ _ z _ (HP.out.keep (Keep.below hbb)) HOK.out hz0 (by omega)).mono ?_
                      rintro e' w1 ⟨rfl, hb1⟩
                      exact ⟨rfl, Co.out _ (hbb.trans (hb1.mono hbb.size))⟩)
               simp only [Act.put, List.setIfInBounds_toArray, List.set_cons_zero, List.set_cons_succ]))
          refine wpQuiet_nil ?_
          intro w7 hC7
          have hb7 := Ci.out _ hC7
          replace HB6 := Lib.hid (HB6.out.trans (hb7.mono HB6.out.size))
          replace HX6 := Lib.hid (HX6.out.trans (hb7.mono HX6.out.size))
          replace HP := Lib.hid (HP.out.keep (Keep.below hb7))
          replace x0 := Keep.below hb7 _ _ x0
          replace x1 := Keep.below hb7 _ _ x1
          replace x2 := Keep.below hb7 _ _ x2
          replace x3 := Keep.below hb7 _ _ x3
          replace x4 := Keep.below hb7 _ _ x4
          replace ls := Keep.below hb7 _ _ ls
          replace ld := Keep.below hb7 _ _ ld
          clear hb7 hC7 Ci Co C
          go_wp2_with fail
          obtain ⟨C, Ci, Co⟩ := classOf w7
          refine quietC (C := C) (by kernel_rfl) (by kernel_rfl) (Co.out _ (Below.refl _ _).drew) ?_
          repeat (first
            | go_big_quiet_skip
            | (go_big_quiet_want; go_big_quiet_op; go_big_quiet_on)
            | (refine quiet_yes (by rfl) ?_
               apply Exists.intro
               refine ⟨fun w' hC => ?_, ?_⟩
               · have hbb := Ci.out _ hC
                 have zz0 := Keep.below hbb _ _ x0
                 have zz1 := Keep.below hbb _ _ x1
                 have zz2 := Keep.below hbb _ _ x2
                 have zz3 := Keep.below hbb _ _ x3
                 have zz4 := Keep.below hbb _ _ x4
                 have zz5 := Keep.below hbb _ _ ls
                 go_simp
                 first
                   | done
                   | rfl
                   | (go_at_call 26
                      refine (rTakes_any ⟨(listD N.roads k).name, s, d, (listD N.roads k).metres, (listD N.roads k).pts⟩ _ _ z _ (HP.out.keep (Keep.below hbb)) HOK.out hz0 (by omega)).mono ?_
                      rintro e' w1 ⟨rfl, hb1⟩
                      exact ⟨rfl, Co.out _ (hbb.trans (hb1.mono hbb.size))⟩)
               simp only [Act.put, List.setIfInBounds_toArray, List.set_cons_zero, List.set_cons_succ]))
          refine wpQuiet_nil ?_
          intro w8 hC7
          have hb7 := Ci.out _ hC7
          replace HB6 := Lib.hid (HB6.out.trans (hb7.mono HB6.out.size))
          replace HX6 := Lib.hid (HX6.out.trans (hb7.mono HX6.out.size))
          replace HP := Lib.hid (HP.out.keep (Keep.below hb7))
          replace x0 := Keep.below hb7 _ _ x0
          replace x1 := Keep.below hb7 _ _ x1
          replace x2 := Keep.below hb7 _ _ x2
          replace x3 := Keep.below hb7 _ _ x3
          replace x4 := Keep.below hb7 _ _ x4
          replace ls := Keep.below hb7 _ _ ls
          replace ld := Keep.below hb7 _ _ ld
          clear hb7 hC7 Ci Co C
          clear x0 x1 x3 x4 hwr1 hwr2 ls
          rw [← HNX.out]
          generalize hy : (latest N) k z = y at *
          have HY := Lib.hid hy
          clear hy HNX
          cases hp : within (listI l d) 0 y with
          | true =>
            have F : Hid (Proof N (latest N) l (k + 1)) := Lib.hid fun i hi => by
              by_cases e : i = k
              · subst e
                right
                rw [HSN.out.1, HSN.out.2, HZZ.out, HY.out]
                have := Fs.within_iff.1 hp
                exact ⟨by omega, this.2⟩
              · exact HG.out i (by omega)
            have Z := Lib.hid hp
            clear hp
            go_wp2_with fail
            refine (bwithin_any _ _ _ _).mono ?_
            rintro e' wX ⟨rfl, rfl⟩
            rw [Z.out]
            go_wp2_with fail
            go_roundw
            case rel => exact ⟨k + 1, by omega, by go_num, F, HB6⟩
            case measure => simp [intOf]; omega
          | false =>
            have F := Lib.hid (proves_bad (N := N) (nx := latest N) (l := l) (X := X) (a := a) (fun h => by
              rcases h k hlt with h1 | h1
              · rw [HSN.out.1] at h1; exact HZ.out h1
              · rw [HSN.out.1, HSN.out.2, HZZ.out, HY.out] at h1
                rw [Fs.within_iff.2 ⟨by omega, h1.2⟩] at hp
                cases hp))
            have Z := Lib.hid hp
            clear hp
            go_wp2_with fail
            refine (bwithin_any _ _ _ _).mono ?_
            rintro e' wX ⟨rfl, rfl⟩
            rw [Z.out]
            go_wp2_with fail
            go_ret
            exact ⟨ret_bool F.out.symm, HX6.out⟩
      · obtain rfl : k = N.roads.length := by omega
        clear hlt hk
        go_wp2_with fail
        go_ret
        exact ⟨ret_bool (proves_yes HWI.out HG.out).symm, HXk.out⟩
end Go.Proofs.Ythipneggplebcaa

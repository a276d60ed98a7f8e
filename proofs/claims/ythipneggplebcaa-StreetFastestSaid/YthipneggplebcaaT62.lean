/- Whether labels prove that nobody arrives earlier, as the reference tells it. Conditions: the net is right; there is a label for each place. -/
import Derived.Test.YthipneggplebcaaT43
import Derived.Test.YthipneggplebcaaT49
import Derived.Test.YthipneggplebcaaWQ
import Derived.Test.YthipneggplebcaaT58p
namespace Go.Proofs.Ythipneggplebcaa
open Go.RowKit Fs

def Fs.provesP (N : Net) (nx : Nat → Int → Int) (l : List Int) (X : Nat) (a : Int) : Bool := decide (within (listI l X) 0 a = true ∧ Proof N nx l N.roads.length)
theorem Fs.proves_no {N : Net} {nx : Nat → Int → Int} {l : List Int} {X : Nat} {a : Int} (h : within (listI l X) 0 a = false) : provesP N nx l X a = false := decide_eq_false (fun h' => by rw [h] at h'; cases h'.1)
theorem Fs.proves_yes {N : Net} {nx : Nat → Int → Int} {l : List Int} {X : Nat} {a : Int} (h : within (listI l X) 0 a = true) (h2 : Proof N nx l N.roads.length) : provesP N nx l X a = true := decide_eq_true ⟨h, h2⟩
theorem Fs.proves_bad {N : Net} {nx : Nat → Int → Int} {l : List Int} {X : Nat} {a : Int} (h2 : ¬ Proof N nx l N.roads.length) : provesP N nx l X a = false := decide_eq_false (fun h => h2 h.2)

set_option maxHeartbeats 6400000 in
set_option maxRecDepth 100000 in
theorem rProvesS_any (N : Net) (v : Value) (X : Nat) (t a : Int) (l : List Int) (A : Option Addr) (c : Nat) (w : World) (hN : RdNet w v N) (hA : ArrI w A l c) (hE : netErr N = 0) (hll : l.length = N.places.length) (hin : LabIn l) (hX : X < l.length) :
    Calls Try.prog 106 #[v, stripV X t a, .slice A l.length c, .bool false] w fun e w' => e = .returned (.bool (provesP N (soonest N) l X a)) ∧ Below w.heap.size w w' := by
  obtain ⟨P, R, pc, rc, ar, rfl, m⟩ := hN
  have M := Lib.hid m
  have rb1 := m.roads.le.1
  have rb2 := m.roads.le.2
  clear m
  have b1 := hA.le.1
  have b2 := hA.le.2
  have HA := Lib.hid hA
  have HJ := Lib.hid (net_joined hE)
  have HR := Lib.hid (net_roads_ok hE)
  have HLL := Lib.hid hll
  have HIN := Lib.hid hin
  clear hA hll hin
  have BN := Lib.hid ((BoxN.new w N P R pc rc 25).keep (Keep.alloc _ (.cells #[.int .i64 X, .int .i64 t, .int .i64 a] 63)))
  have BT := Lib.hid (TripAt.new1 w (.cells #[.slice P N.places.length pc, .slice R N.roads.length rc] 25) X t a 63)
  go_enter Try.func106, Try.ntmps106
  go_upto_region 1 with fail
  generalize hwb : (w.alloc _).alloc _ = wb at *
  have HW : Hid (Below w.heap.size w wb) := by rw [← hwb]; exact Lib.hid (((Below.refl _ _).alloc (Nat.le_refl _) _).alloc (by simp) _)
  clear hwb
  have hXn : (X : Int) < (l.length : Int) := by omega
  obtain ⟨c0, c1, c2⟩ := BT.out
  obtain ⟨p, o, hAe, q0⟩ := (HA.out.keep (Keep.below HW.out)).at_ hX
  subst hAe
  cases hW0 : within (listI l X) 0 a with
  | false =>
    have HWI := Lib.hid hW0
    clear hW0
    go_wp2_with fail
    obtain ⟨C, Ci, Co⟩ := classOf wb
    refine quietC (C := C) (by kernel_rfl) (by kernel_rfl) (Co.out _ (Below.refl _ _).drew) ?_
    repeat (first
      | go_big_quiet_skip
      | (go_big_quiet_want; go_big_quiet_op; go_big_quiet_on)
      | (refine quiet_yes (by rfl) ?_
         apply Exists.intro
         refine ⟨fun w' hC => ?_, ?_⟩
         · have hbb := Ci.out _ hC
           have zz0 := Keep.below hbb _ _ c0
           have zz1 := Keep.below hbb _ _ c1
           have zz2 := Keep.below hbb _ _ c2
           have zz3 := Keep.below hbb _ _ q0
           go_simp
           first
             | done
             | rfl
             | (go_at_call 36
                refine (bwithin_any _ _ _ _).mono ?_
                rintro e' w1 ⟨rfl, rfl⟩
                rw [HWI.out]
                exact ⟨rfl, hC⟩)
         simp only [Act.put, List.setIfInBounds_toArray, List.set_cons_zero, List.set_cons_succ]))
    refine wpQuiet_nil ?_
    intro w1 hC1
    have hb1 := Ci.out _ hC1
    replace HW := Lib.hid (HW.out.trans (hb1.mono HW.out.size))
    replace BN := Lib.hid (BN.out.keep (Keep.below hb1))
    replace BT := Lib.hid (BT.out.keep (Keep.below hb1))
    clear hb1 hC1 Ci Co C c0 c1 c2 q0
    go_wp2_with fail
    go_ret
    exact ⟨ret_bool (proves_no HWI.out).symm, HW.out⟩
  | true =>
    have HWI := Lib.hid hW0
    clear hW0
    go_wp2_with fail
    obtain ⟨C, Ci, Co⟩ := classOf wb
    refine quietC (C := C) (by kernel_rfl) (by kernel_rfl) (Co.out _ (Below.refl _ _).drew) ?_
    repeat (first
      | go_big_quiet_skip
      | (go_big_quiet_want; go_big_quiet_op; go_big_quiet_on)
      | (refine quiet_yes (by rfl) ?_
         apply Exists.intro
         refine ⟨fun w' hC => ?_, ?_⟩
         · have hbb := Ci.out _ hC
           have zz0 := Keep.below hbb _ _ c0
           have zz1 := Keep.below hbb _ _ c1
           have zz2 := Keep.below hbb _ _ c2
           have zz3 := Keep.below hbb _ _ q0
           go_simp
           first
             | done
             | rfl
             | (go_at_call 36
                refine (bwithin_any _ _ _ _).mono ?_
                rintro e' w1 ⟨rfl, rfl⟩
                rw [HWI.out]
                exact ⟨rfl, hC⟩)
         simp only [Act.put, List.setIfInBounds_toArray, List.set_cons_zero, List.set_cons_succ]))
    refine wpQuiet_nil ?_
    intro w1 hC1
    have hb1 := Ci.out _ hC1
    replace HW := Lib.hid (HW.out.trans (hb1.mono HW.out.size))
    replace BN := Lib.hid (BN.out.keep (Keep.below hb1))
    replace BT := Lib.hid (BT.out.keep (Keep.below hb1))
    clear hb1 hC1 Ci Co C c0 c1 c2 q0
    obtain ⟨n0, n1⟩ := BN.out
    go_wp2_with fail
    clear n0 n1
    go_loopw [9] (fun i wr => ∃ k : Nat, k ≤ N.roads.length ∧ i = .int .i64 k ∧ Hid (Proof N (soonest N) l k) ∧ Hid (Below w1.heap.size w1 wr)) (fun i _ => N.roads.length - (intOf i).toNat)
    case atStart => exact ⟨0, Nat.zero_le _, rfl, Lib.hid (fun j hj => absurd hj (Nat.not_lt_zero _)), Lib.hid (Below.refl _ _)⟩
    case round =>
      obtain ⟨k, hk, rfl, HG, HBk⟩ := hrel
      have HXk := Lib.hid (HW.out.trans (HBk.out.mono HW.out.size))
      obtain ⟨n0, n1⟩ := BN.out.keep (Keep.below HBk.out)
      by_cases hlt : k < N.roads.length
      · have hkn : (k : Int) < (N.roads.length : Int) := by omega
        have hrr := M.out.roads.keep (Keep.below HXk.out)
        have HPr := Lib.hid (hrr.2 k hlt)
        obtain ⟨rb, ro, hRa, qq⟩ := hrr.at_ hlt
        subst hRa
        obtain ⟨x0, x1, x2, x3, x4⟩ := qq
        have BX := Lib.hid (BoxD.new wr (listD N.roads k) (ar.p k) (ar.pc k) 45)
        obtain ⟨⟨j0, s1⟩, j1, d1⟩ := HJ.out k hlt
        have HOK := Lib.hid (HR.out k hlt).pts
        obtain ⟨s, hs1⟩ : ∃ s : Nat, (listD N.roads k).src = s := ⟨_, (Int.toNat_of_nonneg j0).symm⟩
        obtain ⟨d, hd1⟩ : ∃ d : Nat, (listD N.roads k).dst = d := ⟨_, (Int.toNat_of_nonneg j1).symm⟩
        have HSD := Lib.hid (And.intro hs1 hd1)
        have sl : s < l.length := by have := HLL.out; omega
        have dl : d < l.length := by have := HLL.out; omega
        have HSN := Lib.hid (show (listD N.roads k).src.toNat = s ∧ (listD N.roads k).dst.toNat = d by omega)
        have hR1 := Fs.within_iff.1 (HIN.out s sl)
        have hR2 := Fs.within_iff.1 (HIN.out d dl)
        clear hrr hs1 hd1 j0 j1 s1 d1
        go_upto_region 7 with fail
        generalize hw6 : wr.alloc _ = w6 at *
        have hB6 : Below wr.heap.size wr w6 := by rw [← hw6]; exact (Below.refl _ _).alloc (Nat.le_refl _) _
        clear hw6 x0 x1 x2 x3 x4 n0 n1
        have HB6 := Lib.hid (HBk.out.trans (hB6.mono HBk.out.size))
        have HX6 := Lib.hid (HXk.out.trans (hB6.mono HXk.out.size))
        have HP := Lib.hid (HPr.out.keep (Keep.below hB6))
        clear hB6 HPr
        obtain ⟨x0, x1, x2, x3, x4⟩ := BX.out
        rw [HSD.out.1] at x1
        rw [HSD.out.2] at x2
        have sn : (s : Int) < (l.length : Int) := by omega
        have dn : (d : Int) < (l.length : Int) := by omega
        have ls := (HA.out.keep (Keep.below HX6.out)).cells sl
        have ld := (HA.out.keep (Keep.below HX6.out)).cells dl
        by_cases hz : listI l s = -1
        · have F : Hid (Proof N (soonest N) l (k + 1)) := Lib.hid fun i hi => by
            by_cases e : i = k
            · subst e; left; rw [HSN.out.1]; exact hz
            · exact HG.out i (by omega)
          rw [hz] at ls
          clear hz ld
          go_wp2_with fail
          go_roundw
          case rel => exact ⟨k + 1, by omega, by go_num, F, HB6⟩
          case measure => simp [intOf]; omega
        · have hz0 : 0 ≤ listI l s := by omega
          have HZ := Lib.hid hz
          obtain ⟨z, hzz⟩ : ∃ z, listI l s = z := ⟨_, rfl⟩
          have HZZ := Lib.hid hzz
          rw [hzz] at ls hz0 hR1
          have dz : decide (z < 0) = false := decide_eq_false (by omega)
          have tk := takesAt_is HOK.out z
          obtain ⟨⟨tk0, tk1⟩, tk2, tk3⟩ := tk
          have HNX := Lib.hid (show (soonest N) k z = z + (takesAt (listD N.roads k).pts z).1 from rfl)
          have hf0 : ∀ (x y : Int) (w : World), (Instr.field 35 (.agg #[.int .i64 x, .int .i64 y]) 0).run Try.prog w = .ok (.int .i64 x) w := fun _ _ _ => by kernel_rfl
          have hf1 : ∀ (x y : Int) (w : World), (Instr.field 35 (.agg #[.int .i64 x, .int .i64 y]) 1).run Try.prog w = .ok (.int .i64 y) w := fun _ _ _ => by kernel_rfl
          have hwr1 : IntKind.i64.wrap (z + (takesAt (listD N.roads k).pts z).1) = z + (takesAt (listD N.roads k).pts z).1 := by rw [IntKind.wrap_i64]; omega
          have hwr2 : IntKind.i64.wrap (z + (takesAt (listD N.roads k).pts z).2) = z + (takesAt (listD N.roads k).pts z).2 := by rw [IntKind.wrap_i64]; omega
          clear hz hzz
          go_wp2_with fail
          obtain ⟨C, Ci, Co⟩ := classOf w6
          refine quietC (C := C) (by kernel_rfl) (by kernel_rfl) (Co.out _ (Below.refl _ _).drew) ?_
          repeat (first
            | go_big_quiet_skip
            | (go_big_quiet_want; go_big_quiet_op; go_big_quiet_on)
            | (refine quiet_yes (by rfl) ?_
               apply Exists.intro
               refine ⟨fun w' hC => ?_, ?_⟩
               · have hbb := Ci.out _ hC
                 have zz0 := Keep.below hbb _ _ x0
                 have zz1 := Keep.below hbb _ _ x1
                 have zz2 := Keep.below hbb _ _ x2
                 have zz3 := Keep.below hbb _ _ x3
                 have zz4 := Keep.below hbb _ _ x4
                 have zz5 := Keep.below hbb _ _ ls
                 go_simp
                 first
                   | done
                   | rfl
                   | (go_at_call 26
                      refine (rTakes_any ⟨(listD N.roads k).name, s, d, (listD N.roads k).metres, (listD N.roads k).pts⟩ _ _ z _ (HP.out.keep (Keep.below hbb)) HOK.out hz0 (by omega)).mono ?_
                      rintro e' w1 ⟨rfl, hb1⟩
                      exact ⟨rfl, Co.out _ (hbb.trans (hb1.mono hbb.size))⟩)
               simp only [Act.put, List.setIfInBounds_toArray, List.set_cons_zero, List.set_cons_succ]))
          refine wpQuiet_nil ?_
          intro w7 hC7
          have hb7 := Ci.out _ hC7
          replace HB6 := Lib.hid (HB6.out.trans (hb7.mono HB6.out.size))
          replace HX6 := Lib.hid (HX6.out.trans (hb7.mono HX6.out.size))
          replace HP := Lib.hid (HP.out.keep (Keep.below hb7))
          replace x0 := Keep.below hb7 _ _ x0
          replace x1 := Keep.below hb7 _ _ x1
          replace x2 := Keep.below hb7 _ _ x2
          replace x3 := Keep.below hb7 _ _ x3
          replace x4 := Keep.below hb7 _ _ x4
          replace ls := Keep.below hb7 _ _ ls
          replace ld := Keep.below hb7 _ _ ld
          clear hb7 hC7 Ci Co C
          clear x0 x1 x3 x4 hwr1 hwr2 ls
          rw [← HNX.out]
          generalize hy : (soonest N) k z = y at *
          have HY := Lib.hid hy
          clear hy HNX
          cases hp : within (listI l d) 0 y with
          | true =>
            have F : Hid (Proof N (soonest N) l (k + 1)) := Lib.hid fun i hi => by
              by_cases e : i = k
              · subst e
                right
                rw [HSN.out.1, HSN.out.2, HZZ.out, HY.out]
                have := Fs.within_iff.1 hp
                exact ⟨by omega, this.2⟩
              · exact HG.out i (by omega)
            have Z := Lib.hid hp
            clear hp
            go_wp2_with fail
            refine (bwithin_any _ _ _ _).mono ?_
            rintro e' wX ⟨rfl, rfl⟩
            rw [Z.out]
            go_wp2_with fail
            go_roundw
            case rel => exact ⟨k + 1, by omega, by go_num, F, HB6⟩
            case measure => simp [intOf]; omega
          | false =>
            have F := Lib.hid (proves_bad (N := N) (nx := soonest N) (l := l) (X := X) (a := a) (fun h => by
              rcases h k hlt with h1 | h1
              · rw [HSN.out.1] at h1; exact HZ.out h1
              · rw [HSN.out.1, HSN.out.2, HZZ.out, HY.out] at h1
                rw [Fs.within_iff.2 ⟨by omega, h1.2⟩] at hp
                cases hp))
            have Z := Lib.hid hp
            clear hp
            go_wp2_with fail
            refine (bwithin_any _ _ _ _).mono ?_
            rintro e' wX ⟨rfl, rfl⟩
            rw [Z.out]
            go_wp2_with fail
            go_ret
            exact ⟨ret_bool F.out.symm, HX6.out⟩
      · obtain rfl : k = N.roads.length := by omega
        clear hlt hk
        go_wp2_with fail
        go_ret
        exact ⟨ret_bool (proves_yes HWI.out HG.out).symm, HXk.out⟩
set_option maxHeartbeats 6400000 in
set_option maxRecDepth 100000 in
theorem rProvesL_any (N : Net) (v : Value) (X : Nat) (t a : Int) (l : List Int) (A : Option Addr) (c : Nat) (w : World) (hN : RdNet w v N) (hA : ArrI w A l c) (hE : netErr N = 0) (hll : l.length = N.places.length) (hin : LabIn l) (hX : X < l.length) :
    Calls Try.prog 106 #[v, stripV X t a, .slice A l.length c, .bool true] w fun e w' => e = .returned (.bool (provesP N (latest N) l X a)) ∧ Below w.heap.size w w' := by
  obtain ⟨P, R, pc, rc, ar, rfl, m⟩ := hN
  have M := Lib.hid m
  have rb1 := m.roads.le.1
  have rb2 := m.roads.le.2
  clear m
  have b1 := hA.le.1
  have b2 := hA.le.2
  have HA := Lib.hid hA
  have HJ := Lib.hid (net_joined hE)
  have HR := Lib.hid (net_roads_ok hE)
  have HLL := Lib.hid hll
  have HIN := Lib.hid hin
  clear hA hll hin
  have BN := Lib.hid ((BoxN.new w N P R pc rc 25).keep (Keep.alloc _ (.cells #[.int .i64 X, .int .i64 t, .int .i64 a] 63)))
  have BT := Lib.hid (TripAt.new1 w (.cells #[.slice P N.places.length pc, .slice R N.roads.length rc] 25) X t a 63)
  go_enter Try.func106, Try.ntmps106
  go_upto_region 1 with fail
  generalize hwb : (w.alloc _).alloc _ = wb at *
  have HW : Hid (Below w.heap.size w wb) := by rw [← hwb]; exact Lib.hid (((Below.refl _ _).alloc (Nat.le_refl _) _).alloc (by simp) _)
  clear hwb
  have hXn : (X : Int) < (l.length : Int) := by omega
  obtain ⟨c0, c1, c2⟩ := BT.out
  obtain ⟨p, o, hAe, q0⟩ := (HA.out.keep (Keep.below HW.out)).at_ hX
  subst hAe
  cases hW0 : within (listI l X) 0 a with
  | false =>
    have HWI := Lib.hid hW0
    clear hW0
    go_wp2_with fail
    obtain ⟨C, Ci, Co⟩ := classOf wb
    refine quietC (C := C) (by kernel_rfl) (by kernel_rfl) (Co.out _ (Below.refl _ _).drew) ?_
    repeat (first
      | go_big_quiet_skip
      | (go_big_quiet_want; go_big_quiet_op; go_big_quiet_on)
      | (refine quiet_yes (by rfl) ?_
         apply Exists.intro
         refine ⟨fun w' hC => ?_, ?_⟩
         · have hbb := Ci.out _ hC
           have zz0 := Keep.below hbb _ _ c0
           have zz1 := Keep.below hbb _ _ c1
           have zz2 := Keep.below hbb _ _ c2
           have zz3 := Keep.below hbb _ _ q0
           go_simp
           first
             | done
             | rfl
             | (go_at_call 36
                refine (bwithin_any _ _ _ _).mono ?_
                rintro e' w1 ⟨rfl, rfl⟩
                rw [HWI.out]
                exact ⟨rfl, hC⟩)
         simp only [Act.put, List.setIfInBounds_toArray, List.set_cons_zero, List.set_cons_succ]))
    refine wpQuiet_nil ?_
    intro w1 hC1
    have hb1 := Ci.out _ hC1
    replace HW := Lib.hid (HW.out.trans (hb1.mono HW.out.size))
    replace BN := Lib.hid (BN.out.keep (Keep.below hb1))
    replace BT := Lib.hid (BT.out.keep (Keep.below hb1))
    clear hb1 hC1 Ci Co C c0 c1 c2 q0
    go_wp2_with fail
    go_ret
    exact ⟨ret_bool (proves_no HWI.out).symm, HW.out⟩
  | true =>
    have HWI := Lib.hid hW0
    clear hW0
    go_wp2_with fail
    obtain ⟨C, Ci, Co⟩ := classOf wb
    refine quietC (C := C) (by kernel_rfl) (by kernel_rfl) (Co.out _ (Below.refl _ _).drew) ?_
    repeat (first
      | go_big_quiet_skip
      | (go_big_quiet_want; go_big_quiet_op; go_big_quiet_on)
      | (refine quiet_yes (by rfl) ?_
         apply Exists.intro
         refine ⟨fun w' hC => ?_, ?_⟩
         · have hbb := Ci.out _ hC
           have zz0 := Keep.below hbb _ _ c0
           have zz1 := Keep.below hbb _ _ c1
           have zz2 := Keep.below hbb _ _ c2
           have zz3 := Keep.below hbb _ _ q0
           go_simp
           first
             | done
             | rfl
             | (go_at_call 36
                refine (bwithin_any _ _ _ _).mono ?_
                rintro e' w1 ⟨rfl, rfl⟩
                rw [HWI.out]
                exact ⟨rfl, hC⟩)
         simp only [Act.put, List.setIfInBounds_toArray, List.set_cons_zero, List.set_cons_succ]))
    refine wpQuiet_nil ?_
    intro w1 hC1
    have hb1 := Ci.out _ hC1
    replace HW := Lib.hid (HW.out.trans (hb1.mono HW.out.size))
    replace BN := Lib.hid (BN.out.keep (Keep.below hb1))
    replace BT := Lib.hid (BT.out.keep (Keep.below hb1))
    clear hb1 hC1 Ci Co C c0 c1 c2 q0
    obtain ⟨n0, n1⟩ := BN.out
    go_wp2_with fail
    clear n0 n1
    go_loopw [9] (fun i wr => ∃ k : Nat, k ≤ N.roads.length ∧ i = .int .i64 k ∧ Hid (Proof N (latest N) l k) ∧ Hid (Below w1.heap.size w1 wr)) (fun i _ => N.roads.length - (intOf i).toNat)
    case atStart => exact ⟨0, Nat.zero_le _, rfl, Lib.hid (fun j hj => absurd hj (Nat.not_lt_zero _)), Lib.hid (Below.refl _ _)⟩
    case round =>
      obtain ⟨k, hk, rfl, HG, HBk⟩ := hrel
      have HXk := Lib.hid (HW.out.trans (HBk.out.mono HW.out.size))
      obtain ⟨n0, n1⟩ := BN.out.keep (Keep.below HBk.out)
      by_cases hlt : k < N.roads.length
      · have hkn : (k : Int) < (N.roads.length : Int) := by omega
        have hrr := M.out.roads.keep (Keep.below HXk.out)
        have HPr := Lib.hid (hrr.2 k hlt)
        obtain ⟨rb, ro, hRa, qq⟩ := hrr.at_ hlt
        subst hRa
        obtain ⟨x0, x1, x2, x3, x4⟩ := qq
        have BX := Lib.hid (BoxD.new wr (listD N.roads k) (ar.p k) (ar.pc k) 45)
        obtain ⟨⟨j0, s1⟩, j1, d1⟩ := HJ.out k hlt
        have HOK := Lib.hid (HR.out k hlt).pts
        obtain ⟨s, hs1⟩ : ∃ s : Nat, (listD N.roads k).src = s := ⟨_, (Int.toNat_of_nonneg j0).symm⟩
        obtain ⟨d, hd1⟩ : ∃ d : Nat, (listD N.roads k).dst = d := ⟨_, (Int.toNat_of_nonneg j1).symm⟩
        have HSD := Lib.hid (And.intro hs1 hd1)
        have sl : s < l.length := by have := HLL.out; omega
        have dl : d < l.length := by have := HLL.out; omega
        have HSN := Lib.hid (show (listD N.roads k).src.toNat = s ∧ (listD N.roads k).dst.toNat = d by omega)
        have hR1 := Fs.within_iff.1 (HIN.out s sl)
        have hR2 := Fs.within_iff.1 (HIN.out d dl)
        clear hrr hs1 hd1 j0 j1 s1 d1
        go_upto_region 7 with fail
        generalize hw6 : wr.alloc _ = w6 at *
        have hB6 : Below wr.heap.size wr w6 := by rw [← hw6]; exact (Below.refl _ _).alloc (Nat.le_refl _) _
        clear hw6 x0 x1 x2 x3 x4 n0 n1
        have HB6 := Lib.hid (HBk.out.trans (hB6.mono HBk.out.size))
        have HX6 := Lib.hid (HXk.out.trans (hB6.mono HXk.out.size))
        have HP := Lib.hid (HPr.out.keep (Keep.below hB6))
        clear hB6 HPr
        obtain ⟨x0, x1, x2, x3, x4⟩ := BX.out
        rw [HSD.out.1] at x1
        rw [HSD.out.2] at x2
        have sn : (s : Int) < (l.length : Int) := by omega
        have dn : (d : Int) < (l.length : Int) := by omega
        have ls := (HA.out.keep (Keep.below HX6.out)).cells sl
        have ld := (HA.out.keep (Keep.below HX6.out)).cells dl
        by_cases hz : listI l s = -1
        · have F : Hid (Proof N (latest N) l (k + 1)) := Lib.hid fun i hi => by
            by_cases e : i = k
            · subst e; left; rw [HSN.out.1]; exact hz
            · exact HG.out i (by omega)
          rw [hz] at ls
          clear hz ld
          go_wp2_with fail
          go_roundw
          case rel => exact ⟨k + 1, by omega, by go_num, F, HB6⟩
          case measure => simp [intOf]; omega
        · have hz0 : 0 ≤ listI l s := by omega
          have HZ := Lib.hid hz
          obtain ⟨z, hzz⟩ : ∃ z, listI l s = z := ⟨_, rfl⟩
          have HZZ := Lib.hid hzz
          rw [hzz] at ls hz0 hR1
          have dz : decide (z < 0) = false := decide_eq_false (by omega)
          have tk := takesAt_is HOK.out z
          obtain ⟨⟨tk0, tk1⟩, tk2, tk3⟩ := tk
          have HNX := Lib.hid (show (latest N) k z = z + (takesAt (listD N.roads k).pts z).2 from rfl)
          have hf0 : ∀ (x y : Int) (w : World), (Instr.field 35 (.agg #[.int .i64 x, .int .i64 y]) 0).run Try.prog w = .ok (.int .i64 x) w := fun _ _ _ => by kernel_rfl
          have hf1 : ∀ (x y : Int) (w : World), (Instr.field 35 (.agg #[.int .i64 x, .int .i64 y]) 1).run Try.prog w = .ok (.int .i64 y) w := fun _ _ _ => by kernel_rfl
          have hwr1 : IntKind.i64.wrap (z + (takesAt (listD N.roads k).pts z).1) = z + (takesAt (listD N.roads k).pts z).1 := by rw [IntKind.wrap_i64]; omega
          have hwr2 : IntKind.i64.wrap (z + (takesAt (listD N.roads k).pts z).2) = z + (takesAt (listD N.roads k).pts z).2 := by rw [IntKind.wrap_i64]; omega
          clear hz hzz
          go_wp2_with fail
          obtain ⟨C, Ci, Co⟩ := classOf w6
          refine quietC (C := C) (by kernel_rfl) (by kernel_rfl) (Co.out _ (Below.refl _ _).drew) ?_
          repeat (first
            | go_big_quiet_skip
            | (go_big_quiet_want; go_big_quiet_op; go_big_quiet_on)
            | (refine quiet_yes (by rfl) ?_
               apply Exists.intro
               refine ⟨fun w' hC => ?_, ?_⟩
               · have hbb := Ci.out _ hC
                 have zz0 := Keep.below hbb _ _ x0
                 have zz1 := Keep.below hbb _ _ x1
                 have zz2 := Keep.below hbb _ _ x2
                 have zz3 := Keep.below hbb _ _ x3
                 have zz4 := Keep.below hbb _ _ x4
                 have zz5 := Keep.below hbb _ _ ls
                 go_simp
                 first
                   | done
                   | rfl
                   | (go_at_call 26
                      refine (rTakes_any ⟨(listD N.roads k).name, s, d, (listD N.roads k).metres, (listD N.roads k).pts⟩ _ _ z _ (HP.out.keep (Keep.below hbb)) HOK.out hz0 (by omega)).mono ?_
                      rintro e' w1 ⟨rfl, hb1⟩
                      exact ⟨rfl, Co.out _ (hbb.trans (hb1.mono hbb.size))⟩)
               simp only [Act.put, List.setIfInBounds_toArray, List.set_cons_zero, List.set_cons_succ]))
          refine wpQuiet_nil ?_
          intro w7 hC7
          have hb7 := Ci.out _ hC7
          replace HB6 := Lib.hid (HB6.out.trans (hb7.mono HB6.out.size))
          replace HX6 := Lib.hid (HX6.out.trans (hb7.mono HX6.out.size))
          replace HP := Lib.hid (HP.out.keep (Keep.below hb7))
          replace x0 := Keep.below hb7 _ _ x0
          replace x1 := Keep.below hb7 _ _ x1
          replace x2 := Keep.below hb7 _ _ x2
          replace x3 := Keep.below hb7 _ _ x3
          replace x4 := Keep.below hb7 _ _ x4
          replace ls := Keep.below hb7 _ _ ls
          replace ld := Keep.below hb7 _ _ ld
          clear hb7 hC7 Ci Co C
          go_wp2_with fail
          obtain ⟨C, Ci, Co⟩ := classOf w7
          refine quietC (C := C) (by kernel_rfl) (by kernel_rfl) (Co.out _ (Below.refl _ _).drew) ?_
          repeat (first
            | go_big_quiet_skip
            | (go_big_quiet_want; go_big_quiet_op; go_big_quiet_on)
            | (refine quiet_yes (by rfl) ?_
               apply Exists.intro
               refine ⟨fun w' hC => ?_, ?_⟩
               · have hbb := Ci.out _ hC
                 have zz0 := Keep.below hbb _ _ x0
                 have zz1 := Keep.below hbb _ _ x1
                 have zz2 := Keep.below hbb _ _ x2
                 have zz3 := Keep.below hbb _ _ x3
                 have zz4 := Keep.below hbb _ _ x4
                 have zz5 := Keep.below hbb _ _ ls
                 go_simp
                 first
                   | done
                   | rfl
                   | (go_at_call 26
                      refine (rTakes_any ⟨(listD N.roads k).name, s, d, (listD N.roads k).metres, (listD N.roads k).pts⟩ _ _ z _ (HP.out.keep (Keep.below hbb)) HOK.out hz0 (by omega)).mono ?_
                      rintro e' w1 ⟨rfl, hb1⟩
                      exact ⟨rfl, Co.out _ (hbb.trans (hb1.mono hbb.size))⟩)
               simp only [Act.put, List.setIfInBounds_toArray, List.set_cons_zero, List.set_cons_succ]))
          refine wpQuiet_nil ?_
          intro w8 hC7
          have hb7 := Ci.out _ hC7
          replace HB6 := Lib.hid (HB6.out.trans (hb7.mono HB6.out.size))
          replace HX6 := Lib.hid (HX6.out.trans (hb7.mono HX6.out.size))
          replace HP := Lib.hid (HP.out.keep (Keep.below hb7))
          replace x0 := Keep.below hb7 _ _ x0
          replace x1 := Keep.below hb7 _ _ x1
          replace x2 := Keep.below hb7 _ _ x2
          replace x3 := Keep.below hb7 _ _ x3
          replace x4 := Keep.below hb7 _ _ x4
          replace ls := Keep.below hb7 _ _ ls
          replace ld := Keep.below hb7 _ _ ld
          clear hb7 hC7 Ci Co C
          clear x0 x1 x3 x4 hwr1 hwr2 ls
          rw [← HNX.out]
          generalize hy : (latest N) k z = y at *
          have HY := Lib.hid hy
          clear hy HNX
          cases hp : within (listI l d) 0 y with
          | true =>
            have F : Hid (Proof N (latest N) l (k + 1)) := Lib.hid fun i hi => by
              by_cases e : i = k
              · subst e
                right
                rw [HSN.out.1, HSN.out.2, HZZ.out, HY.out]
                have := Fs.within_iff.1 hp
                exact ⟨by omega, this.2⟩
              · exact HG.out i (by omega)
            have Z := Lib.hid hp
            clear hp
            go_wp2_with fail
            refine (bwithin_any _ _ _ _).mono ?_
            rintro e' wX ⟨rfl, rfl⟩
            rw [Z.out]
            go_wp2_with fail
            go_roundw
            case rel => exact ⟨k + 1, by omega, by go_num, F, HB6⟩
            case measure => simp [intOf]; omega
          | false =>
            have F := Lib.hid (proves_bad (N := N) (nx := latest N) (l := l) (X := X) (a := a) (fun h => by
              rcases h k hlt with h1 | h1
              · rw [HSN.out.1] at h1; exact HZ.out h1
              · rw [HSN.out.1, HSN.out.2, HZZ.out, HY.out] at h1
                rw [Fs.within_iff.2 ⟨by omega, h1.2⟩] at hp
                cases hp))
            have Z := Lib.hid hp
            clear hp
            go_wp2_with fail
            refine (bwithin_any _ _ _ _).mono ?_
            rintro e' wX ⟨rfl, rfl⟩
            rw [Z.out]
            go_wp2_with fail
            go_ret
            exact ⟨ret_bool F.out.symm, HX6.out⟩
      · obtain rfl : k = N.roads.length := by omega
        clear hlt hk
        go_wp2_with fail
        go_ret
        exact ⟨ret_bool (proves_yes HWI.out HG.out).symm, HXk.out⟩
end Go.Proofs.Ythipneggplebcaa
/- Which labels are accepted, and their bound, as the reference tells it. Conditions: the net is right; the trip is right. -/
namespace Go.Proofs.Ythipneggplebcaa
open Go.RowKit Fs

theorem Fs.labErr_shape {N : Net} {l m : List Int} (h : ¬ (l.length = N.places.length ∧ m.length = N.places.length)) : labErr N [l, m] = 10 := by
  unfold labErr
  refine if_neg (fun h1 => h ⟨h1 0 (by show 0 < 2; decide), h1 1 (by show 1 < 2; decide)⟩)
theorem Fs.labErr_range {N : Net} {l m : List Int} (h1 : l.length = N.places.length) (h2 : m.length = N.places.length) (h : ¬ (LabIn l ∧ LabIn m)) : labErr N [l, m] = 2 := by
  have hf : LabFit N [l, m] := fun i hi => by
    have hi : i < 2 := hi
    match i, hi with
    | 0, _ => exact h1
    | 1, _ => exact h2
  unfold labErr
  rw [if_pos hf, flat_two, if_neg (fun h' => h (labIn_app.1 h'))]
theorem Fs.labErr_fine {N : Net} {l m : List Int} (h1 : l.length = N.places.length) (h2 : m.length = N.places.length) (h3 : LabIn l) (h4 : LabIn m) : labErr N [l, m] = 0 := labErr_two.2 ⟨h1, h2, h3, h4⟩
theorem ret_i64 {a b : Int} (h : a = b) : Ending.returned (.int .i64 a) = .returned (.int .i64 b) := by rw [h]

set_option maxHeartbeats 3200000 in
set_option maxRecDepth 100000 in
theorem rLabelsErr_any (N : Net) (v : Value) (l m : List Int) (A B : Option Addr) (c d : Nat) (w : World) (hN : RdNet w v N) (hA : ArrI w A l c) (hB : ArrI w B m d) :
    Calls Try.prog 105 #[v, .agg #[.slice A l.length c, .slice B m.length d]] w fun e w' => e = .returned (.int .i64 (labErr N [l, m])) ∧ Below w.heap.size w w' := by
  obtain ⟨P, R, pc, rc, ar, rfl, mm⟩ := hN
  have pb1 := mm.places.le.1
  have pb2 := mm.places.le.2
  clear mm
  have b1 := hA.le.1
  have b2 := hA.le.2
  have b3 := hB.le.1
  have b4 := hB.le.2
  have HA := Lib.hid hA
  have HBB := Lib.hid hB
  clear hA hB
  have BN := Lib.hid ((BoxN.new w N P R pc rc 25).keep (Keep.alloc _ (.cells #[.slice A l.length c, .slice B m.length d] 65)))
  have BL := Lib.hid (show TreeAt ((w.alloc (.cells #[.slice P N.places.length pc, .slice R N.roads.length rc] 25)).alloc (.cells #[.slice A l.length c, .slice B m.length d] 65)) (w.heap.size + 1) (.slice A l.length c) (.slice B m.length d) from by
    have := TreeAt.new (w.alloc (.cells #[.slice P N.places.length pc, .slice R N.roads.length rc] 25)) (.slice A l.length c) (.slice B m.length d) 65
    simpa using this)
  go_enter Try.func105, Try.ntmps105
  go_upto_region 1 with fail
  generalize hwb : (w.alloc _).alloc _ = wb at *
  have HW : Hid (Below w.heap.size w wb) := by rw [← hwb]; exact Lib.hid (((Below.refl _ _).alloc (Nat.le_refl _) _).alloc (by simp) _)
  clear hwb
  obtain ⟨n0, n1⟩ := BN.out
  obtain ⟨l0, l1, -, -⟩ := BL.out
  have HAW := Lib.hid (HA.out.keep (Keep.below HW.out))
  have HBW := Lib.hid (HBB.out.keep (Keep.below HW.out))
  by_cases hl : l.length = N.places.length
  · have e1 : ((l.length : Int) == (N.places.length : Int)) = true := by rw [hl]; simp
    have e2 : ((l.length : Int) != (N.places.length : Int)) = false := by rw [hl]; simp
    have HLL := Lib.hid hl
    clear hl
    by_cases hm : m.length = N.places.length
    · have e3 : ((m.length : Int) == (N.places.length : Int)) = true := by rw [hm]; simp
      have e4 : ((m.length : Int) != (N.places.length : Int)) = false := by rw [hm]; simp
      have HML := Lib.hid hm
      clear hm
      go_wp2_with fail
      clear e1 e2 e3 e4
      go_loop [5] (fun i => ∃ k : Nat, k ≤ N.places.length ∧ i = .int .i64 k ∧ Hid (∀ j, j < k → within (listI l j) (-1) 1000000000000000 = true ∧ within (listI m j) (-1) 1000000000000000 = true)) (fun i => N.places.length - (intOf i).toNat)
      case atStart => exact ⟨0, Nat.zero_le _, rfl, Lib.hid (fun j hj => absurd hj (Nat.not_lt_zero _))⟩
      case round =>
        obtain ⟨k, hk, rfl, Hn⟩ := hrel
        by_cases hlt : k < N.places.length
        · have hkl : k < l.length := by have := HLL.out; omega
          have hkm : k < m.length := by have := HML.out; omega
          obtain ⟨b, o, rfl, q0⟩ := HAW.out.at_ hkl
          obtain ⟨b', o', rfl, q1⟩ := HBW.out.at_ hkm
          have hkn : (k : Int) < (N.places.length : Int) := by omega
          have hkn1 : (k : Int) < (l.length : Int) := by omega
          have hkn2 : (k : Int) < (m.length : Int) := by omega
          cases hp : within (listI l k) (-1) 1000000000000000 with
          | false =>
            have F := Lib.hid (labErr_range HLL.out HML.out (fun h => by have := h.1 k hkl; rw [hp] at this; cases this))
            have Z := Lib.hid hp
            clear hp
            go_wp2_with fail
            refine (bwithin_any _ _ _ _).mono ?_
            rintro e w' ⟨rfl, rfl⟩
            rw [Z.out]
            go_wp2_with fail
            go_ret
            exact ⟨ret_int F.out.symm, HW.out⟩
          | true =>
            have Z := Lib.hid hp
            clear hp
            cases hp : within (listI m k) (-1) 1000000000000000 with
            | false =>
              have F := Lib.hid (labErr_range HLL.out HML.out (fun h => by have := h.2 k hkm; rw [hp] at this; cases this))
              have Y := Lib.hid hp
              clear hp
              go_wp2_with fail
              refine (bwithin_any _ _ _ _).mono ?_
              rintro e w' ⟨rfl, rfl⟩
              rw [Z.out]
              go_wp2_with fail
              refine (bwithin_any _ _ _ _).mono ?_
              rintro e w' ⟨rfl, rfl⟩
              rw [Y.out]
              go_wp2_with fail
              go_ret
              exact ⟨ret_int F.out.symm, HW.out⟩
            | true =>
              have F : Hid (∀ j, j < k + 1 → within (listI l j) (-1) 1000000000000000 = true ∧ within (listI m j) (-1) 1000000000000000 = true) := Lib.hid fun j hj => by
                by_cases e : j = k
                · subst e; exact ⟨Z.out, hp⟩
                · exact Hn.out j (by omega)
              have Y := Lib.hid hp
              clear hp
              go_wp2_with fail
              refine (bwithin_any _ _ _ _).mono ?_
              rintro e w' ⟨rfl, rfl⟩
              rw [Z.out]
              go_wp2_with fail
              refine (bwithin_any _ _ _ _).mono ?_
              rintro e w' ⟨rfl, rfl⟩
              rw [Y.out]
              go_wp2_with fail
              go_round
              case rel => exact ⟨k + 1, by omega, by go_num, F⟩
              case measure => simp [intOf]; omega
        · have F := Lib.hid (labErr_fine HLL.out HML.out (fun j hj => (Hn.out j (by have := HLL.out; omega)).1) (fun j hj => (Hn.out j (by have := HML.out; omega)).2))
          obtain rfl : k = N.places.length := by omega
          clear hlt hk
          go_wp2_with fail
          go_ret
          exact ⟨ret_int F.out.symm, HW.out⟩
    · have hm' : ¬ (m.length : Int) = (N.places.length : Int) := by omega
      have e3 : ((m.length : Int) == (N.places.length : Int)) = false := by simpa using hm'
      have e4 : ((m.length : Int) != (N.places.length : Int)) = true := by simpa using hm'
      have F := Lib.hid (labErr_shape (N := N) (l := l) (m := m) (fun h => hm h.2))
      clear hm hm'
      go_wp2_with fail
      go_ret
      exact ⟨ret_int F.out.symm, HW.out⟩
  · have hl' : ¬ (l.length : Int) = (N.places.length : Int) := by omega
    have e1 : ((l.length : Int) == (N.places.length : Int)) = false := by simpa using hl'
    have e2 : ((l.length : Int) != (N.places.length : Int)) = true := by simpa using hl'
    have F := Lib.hid (labErr_shape (N := N) (l := l) (m := m) (fun h => hl h.1))
    clear hl hl'
    go_wp2_with fail
    go_ret
    exact ⟨ret_int F.out.symm, HW.out⟩

/-- What the reference says of labels. -/
def Fs.rcl (N : Net) (X Y : Nat) (a : Int) (l m : List Int) : (Int × Int) × Int := if labErr N [l, m] = 0 then clRes N X Y a l m else ((0, 0), labErr N [l, m])
set_option maxHeartbeats 6400000 in
set_option maxRecDepth 100000 in
theorem rCheckLabels_any (N : Net) (v : Value) (X Y : Nat) (a : Int) (l m : List Int) (A B : Option Addr) (c d : Nat) (w : World) (hN : RdNet w v N) (hA : ArrI w A l c) (hB : ArrI w B m d) (hE : netErr N = 0) (hX : X < N.places.length) (hY : Y < N.places.length) :
    Calls Try.prog 46 #[v, stripV X Y a, .agg #[.slice A l.length c, .slice B m.length d]] w fun e w' => e = .returned (.tuple #[.agg #[.int .i64 (rcl N X Y a l m).1.1, .int .i64 (rcl N X Y a l m).1.2], .int .i64 (rcl N X Y a l m).2]) ∧ Below w.heap.size w w' := by
  have hN0 := Lib.hid hN
  obtain ⟨P, R, pc, rc, ar, rfl, mm⟩ := hN
  clear mm
  have b1 := hA.le.1
  have b2 := hA.le.2
  have b3 := hB.le.1
  have b4 := hB.le.2
  have HA := Lib.hid hA
  have HBB := Lib.hid hB
  clear hA hB
  have BN := Lib.hid ((BoxN.new w N P R pc rc 25).keep ((Keep.alloc _ (.cells #[.int .i64 X, .int .i64 Y, .int .i64 a] 63)).trans ((Keep.alloc _ (.cells #[.slice A l.length c, .slice B m.length d] 65)).trans (Keep.alloc _ (.cells #[.int .i64 0, .int .i64 0] 35)))))
  have BT := Lib.hid ((TripAt.new1 w (.cells #[.slice P N.places.length pc, .slice R N.roads.length rc] 25) X Y a 63).keep ((Keep.alloc _ (.cells #[.slice A l.length c, .slice B m.length d] 65)).trans (Keep.alloc _ (.cells #[.int .i64 0, .int .i64 0] 35))))
  have BL := Lib.hid (show TreeAt ((((w.alloc (.cells #[.slice P N.places.length pc, .slice R N.roads.length rc] 25)).alloc (.cells #[.int .i64 X, .int .i64 Y, .int .i64 a] 63)).alloc (.cells #[.slice A l.length c, .slice B m.length d] 65)).alloc (.cells #[.int .i64 0, .int .i64 0] 35)) (w.heap.size + 1 + 1) (.slice A l.length c) (.slice B m.length d) from by
    have := (TreeAt.new ((w.alloc (.cells #[.slice P N.places.length pc, .slice R N.roads.length rc] 25)).alloc (.cells #[.int .i64 X, .int .i64 Y, .int .i64 a] 63)) (.slice A l.length c) (.slice B m.length d) 65).alloc (.cells #[.int .i64 0, .int .i64 0] 35)
    simpa using this)
  have RT := Lib.hid (show TreeAt ((((w.alloc (.cells #[.slice P N.places.length pc, .slice R N.roads.length rc] 25)).alloc (.cells #[.int .i64 X, .int .i64 Y, .int .i64 a] 63)).alloc (.cells #[.slice A l.length c, .slice B m.length d] 65)).alloc (.cells #[.int .i64 0, .int .i64 0] 35)) (w.heap.size + 1 + 1 + 1) (.int .i64 0) (.int .i64 0) from by
    have := TreeAt.new (((w.alloc (.cells #[.slice P N.places.length pc, .slice R N.roads.length rc] 25)).alloc (.cells #[.int .i64 X, .int .i64 Y, .int .i64 a] 63)).alloc (.cells #[.slice A l.length c, .slice B m.length d] 65)) (.int .i64 0) (.int .i64 0) 35
    simpa using this)
  go_enter Try.func46, Try.ntmps46
  go_upto_region 1 with fail
  generalize hwb : (((w.alloc _).alloc _).alloc _).alloc _ = wb at *
  have HW : Hid (Below w.heap.size w wb) := by rw [← hwb]; exact Lib.hid (((((Below.refl _ _).alloc (Nat.le_refl _) _).alloc (by simp) _).alloc (by simp; omega) _).alloc (by simp; omega) _)
  clear hwb
  obtain ⟨n0, n1⟩ := BN.out
  obtain ⟨c0, c1, c2⟩ := BT.out
  obtain ⟨l0, l1, -, -⟩ := BL.out
  obtain ⟨r0, r1, rf0, rf1⟩ := RT.out
  go_wp2_with fail
  refine (rLabelsErr_any N _ l m A B c d _ (hN0.out.keep (Keep.below HW.out)) (HA.out.keep (Keep.below HW.out)) (HBB.out.keep (Keep.below HW.out))).mono ?_
  rintro e' w1 ⟨rfl, hb1⟩
  replace HW := Lib.hid (HW.out.trans (hb1.mono HW.out.size))
  replace BN := Lib.hid (BN.out.keep (Keep.below hb1))
  replace BT := Lib.hid (BT.out.keep (Keep.below hb1))
  replace BL := Lib.hid (BL.out.keep hb1)
  replace RT := Lib.hid (RT.out.keep hb1)
  clear n0 n1 c0 c1 c2 l0 l1 r0 r1 rf0 rf1
  clear hb1
  by_cases he : labErr N [l, m] = 0
  · obtain ⟨hll, hml, hin, hin2⟩ := labErr_two.1 he
    have HF := Lib.hid (show rcl N X Y a l m = clRes N X Y a l m from if_pos he)
    have hXl : X < l.length := by omega
    have hXm : X < m.length := by omega
    have hYl : Y < l.length := by omega
    have hYm : Y < m.length := by omega
    have HLL := Lib.hid hll
    have HML := Lib.hid hml
    have HIN := Lib.hid hin
    have HIN2 := Lib.hid hin2
    have hr1 := Fs.within_iff.1 (hin Y hYl)
    have hr2 := Fs.within_iff.1 (hin2 Y hYm)
    rw [he]
    clear he hll hml hin hin2
    obtain ⟨n0, n1⟩ := BN.out
    obtain ⟨c0, c1, c2⟩ := BT.out
    obtain ⟨l0, l1, -, -⟩ := BL.out
    obtain ⟨r0, r1, rf0, rf1⟩ := RT.out
    go_wp2_with fail
    refine (rProvesS_any N _ X Y a l A c _ (hN0.out.keep (Keep.below HW.out)) (HA.out.keep (Keep.below HW.out)) hE HLL.out HIN.out hXl).mono ?_
    rintro e' w2 ⟨rfl, hb1⟩
    replace HW := Lib.hid (HW.out.trans (hb1.mono HW.out.size))
    replace BN := Lib.hid (BN.out.keep (Keep.below hb1))
    replace BT := Lib.hid (BT.out.keep (Keep.below hb1))
    replace BL := Lib.hid (BL.out.keep hb1)
    replace RT := Lib.hid (RT.out.keep hb1)
    clear n0 n1 c0 c1 c2 l0 l1 r0 r1 rf0 rf1
    clear hb1
    cases hp1 : provesP N (soonest N) l X a with
    | false =>
      have F := Lib.hid (HF.out.trans (if_neg (fun h => by rw [proves_yes h.1 h.2.2.1] at hp1; cases hp1) : clRes N X Y a l m = ((0, 0), 20)))
      clear hp1
      obtain ⟨r0, r1, rf0, rf1⟩ := RT.out
      go_wp2_with fail
      refine bodyPost_ret (v := .tuple #[.agg #[.int .i64 0, .int .i64 0], .int .i64 20]) (by simp [results, Try.results46, go_sem, r0, r1]) rfl ⟨by rw [F.out], ?_⟩
      exact (HW.out.setCell (p := ⟨w.heap.size + 1 + 1 + 1, 0, none⟩) (by dsimp only; omega) _).setCell (p := ⟨w.heap.size + 1 + 1 + 1, 1, none⟩) (by dsimp only; omega) _
    | true =>
      obtain ⟨n0, n1⟩ := BN.out
      obtain ⟨c0, c1, c2⟩ := BT.out
      obtain ⟨l0, l1, -, -⟩ := BL.out
      obtain ⟨r0, r1, rf0, rf1⟩ := RT.out
      go_wp2_with fail
      refine (rProvesL_any N _ X Y a m B d _ (hN0.out.keep (Keep.below HW.out)) (HBB.out.keep (Keep.below HW.out)) hE HML.out HIN2.out hXm).mono ?_
      rintro e' w3 ⟨rfl, hb1⟩
      replace HW := Lib.hid (HW.out.trans (hb1.mono HW.out.size))
      replace BN := Lib.hid (BN.out.keep (Keep.below hb1))
      replace BT := Lib.hid (BT.out.keep (Keep.below hb1))
      replace BL := Lib.hid (BL.out.keep hb1)
      replace RT := Lib.hid (RT.out.keep hb1)
      clear n0 n1 c0 c1 c2 l0 l1 r0 r1 rf0 rf1
      clear hb1
      cases hp2 : provesP N (latest N) m X a with
      | false =>
        have F := Lib.hid (HF.out.trans (if_neg (fun h => by rw [proves_yes h.2.1 h.2.2.2] at hp2; cases hp2) : clRes N X Y a l m = ((0, 0), 20)))
        clear hp1 hp2
        obtain ⟨r0, r1, rf0, rf1⟩ := RT.out
        go_wp2_with fail
        refine bodyPost_ret (v := .tuple #[.agg #[.int .i64 0, .int .i64 0], .int .i64 20]) (by simp [results, Try.results46, go_sem, r0, r1]) rfl ⟨by rw [F.out], ?_⟩
        exact (HW.out.setCell (p := ⟨w.heap.size + 1 + 1 + 1, 0, none⟩) (by dsimp only; omega) _).setCell (p := ⟨w.heap.size + 1 + 1 + 1, 1, none⟩) (by dsimp only; omega) _
      | true =>
        have h1 := of_decide_eq_true hp1
        have h2 := of_decide_eq_true hp2
        have HF2 := Lib.hid (HF.out.trans (if_pos ⟨h1.1, h2.1, h1.2, h2.2⟩ : clRes N X Y a l m = bound l m Y))
        clear hp1 hp2 h1 h2
        obtain ⟨p, o, hAe, q0⟩ := (HA.out.keep (Keep.below HW.out)).at_ hYl
        obtain ⟨p', o', hBe, q1⟩ := (HBB.out.keep (Keep.below HW.out)).at_ hYm
        subst hAe; subst hBe
        have hYln : (Y : Int) < (l.length : Int) := by omega
        have hYmn : (Y : Int) < (m.length : Int) := by omega
        obtain ⟨n0, n1⟩ := BN.out
        obtain ⟨c0, c1, c2⟩ := BT.out
        obtain ⟨l0, l1, -, -⟩ := BL.out
        obtain ⟨r0, r1, rf0, rf1⟩ := RT.out
        by_cases hz : listI l Y = -1
        · have F := Lib.hid (HF2.out.trans (show bound l m Y = ((0, 0), 12) from if_pos (.inl hz)))
          have d1 : decide (listI l Y < 0) = true := decide_eq_true (by omega)
          clear hz
          go_wp2_with fail
          refine bodyPost_ret (v := .tuple #[.agg #[.int .i64 0, .int .i64 0], .int .i64 12]) (by simp [results, Try.results46, go_sem, r0, r1]) rfl ⟨by rw [F.out], ?_⟩
          exact (HW.out.setCell (p := ⟨w.heap.size + 1 + 1 + 1, 0, none⟩) (by dsimp only; omega) _).setCell (p := ⟨w.heap.size + 1 + 1 + 1, 1, none⟩) (by dsimp only; omega) _
        · have d1 : decide (listI l Y < 0) = false := decide_eq_false (by omega)
          by_cases hz2 : listI m Y = -1
          · have F := Lib.hid (HF2.out.trans (show bound l m Y = ((0, 0), 12) from if_pos (.inr hz2)))
            have d2 : decide (listI m Y < 0) = true := decide_eq_true (by omega)
            clear hz hz2
            go_wp2_with fail
            refine bodyPost_ret (v := .tuple #[.agg #[.int .i64 0, .int .i64 0], .int .i64 12]) (by simp [results, Try.results46, go_sem, r0, r1]) rfl ⟨by rw [F.out], ?_⟩
            exact (HW.out.setCell (p := ⟨w.heap.size + 1 + 1 + 1, 0, none⟩) (by dsimp only; omega) _).setCell (p := ⟨w.heap.size + 1 + 1 + 1, 1, none⟩) (by dsimp only; omega) _
          · have F := Lib.hid (HF2.out.trans (show bound l m Y = ((listI l Y, listI m Y), 0) from if_neg (fun h => h.elim hz hz2)))
            have d2 : decide (listI m Y < 0) = false := decide_eq_false (by omega)
            clear hz hz2
            go_wp2_with fail
            go_region
            all_goals
              go_wp2_with fail
              refine bodyPost_ret (v := .tuple #[.agg #[.int .i64 (listI l Y), .int .i64 (listI m Y)], .int .i64 0]) (by simp [results, Try.results46, go_sem, r0, r1]) rfl ⟨by rw [F.out], ?_⟩
              exact ((HW.out.setCell (p := ⟨w.heap.size + 1 + 1 + 1, 0, none⟩) (by dsimp only; omega) _).setCell (p := ⟨w.heap.size + 1 + 1 + 1, 1, none⟩) (by dsimp only; omega) _).drew
  · have F := Lib.hid (show rcl N X Y a l m = ((0, 0), labErr N [l, m]) from if_neg he)
    have e1 : (labErr N [l, m] == 0) = false := by simpa using he
    have e2 : (labErr N [l, m] != 0) = true := by simpa using he
    clear he
    obtain ⟨r0, r1, rf0, rf1⟩ := RT.out
    go_wp2_with fail
    refine bodyPost_ret (v := .tuple #[.agg #[.int .i64 0, .int .i64 0], .int .i64 (labErr N [l, m])]) (by simp [results, Try.results46, go_sem, r0, r1]) rfl ⟨by rw [F.out], ?_⟩
    exact (HW.out.setCell (p := ⟨w.heap.size + 1 + 1 + 1, 0, none⟩) (by dsimp only; omega) _).setCell (p := ⟨w.heap.size + 1 + 1 + 1, 1, none⟩) (by dsimp only; omega) _
end Go.Proofs.Ythipneggplebcaa

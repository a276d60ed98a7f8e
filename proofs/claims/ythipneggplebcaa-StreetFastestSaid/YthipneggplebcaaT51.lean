/- The law of heights: which are accepted. No condition. -/
import Derived.Test.YthipneggplebcaaT35
import Derived.Test.YthipneggplebcaaT38
import Derived.Test.YthipneggplebcaaT44
import Derived.Test.YthipneggplebcaaT49
import Derived.Deep.CutBlock
namespace Go.Proofs.Ythipneggplebcaa
open Go.RowKit Fs

def Fs.noPlace (N : Net) (i : Int) : Int := if isPlace N i then 0 else 6
set_option maxHeartbeats 400000 in
theorem rPlaceErr_any (N : Net) (v : Value) (i : Int) (w : World) (hN : RdNet w v N) : Calls Try.prog 38 #[v, .int .i64 i] w fun e w' => e = .returned (.int .i64 (noPlace N i)) ∧ Below w.heap.size w w' := by
  have hN0 := Lib.hid hN
  obtain ⟨P, R, pc, rc, a, rfl, m⟩ := hN
  clear m
  have BN := Lib.hid (BoxN.new w N P R pc rc 25)
  obtain ⟨n0, n1⟩ := BN.out
  cases hr : isPlace N i with
  | true =>
    have X := Lib.hid hr
    go_enter Try.func38, Try.ntmps38
    go_wp2_with (go_at_call 96; refine (rIsPlace_any N _ i _ (hN0.out.keep (Keep.alloc w _))).mono ?_; rintro e w1 ⟨rfl, hb1⟩; rw [X.out])
    go_ret
    exact ⟨ret_int (by unfold noPlace; rw [if_pos hr]), ((Below.refl _ _).alloc (Nat.le_refl _) _).trans (hb1.mono (by simp))⟩
  | false =>
    have X := Lib.hid hr
    go_enter Try.func38, Try.ntmps38
    go_wp2_with (go_at_call 96; refine (rIsPlace_any N _ i _ (hN0.out.keep (Keep.alloc w _))).mono ?_; rintro e w1 ⟨rfl, hb1⟩; rw [X.out])
    go_ret
    exact ⟨ret_int (by unfold noPlace; rw [hr]; rfl), ((Below.refl _ _).alloc (Nat.le_refl _) _).trans (hb1.mono (by simp))⟩
theorem Fs.fst3 (x y z : Int) : fst (listI [x, y, z]) 3 = if x = 0 then (if y = 0 then z else y) else x := by
  by_cases h : x = 0
  · rw [if_pos h]
    by_cases h2 : y = 0
    · rw [if_pos h2]
      by_cases h3 : z = 0
      · rw [h, h2, h3]; rfl
      · exact (fst_hit (f := listI [x, y, z]) (k := 2) (by decide) (fun j hj => by rcases (show j = 0 ∨ j = 1 by omega) with rfl | rfl; exact h; exact h2) h3).1
    · rw [if_neg h2]
      exact (fst_hit (f := listI [x, y, z]) (k := 1) (by decide) (fun j hj => by obtain rfl : j = 0 := (by omega); exact h) h2).1
  · rw [if_neg h]
    exact (fst_hit (f := listI [x, y, z]) (k := 0) (by decide) (fun j hj => absurd hj (Nat.not_lt_zero _)) h).1
theorem Fs.chHeights_net {N : Net} {x y : Int} {l : List Int} (h : netErr N ≠ 0) : chHeights N x y l = (0, netErr N) := by
  have : chErr N x y l = netErr N := by unfold chErr; rw [fst3, if_neg h]
  unfold chHeights
  rw [this, if_neg h]
theorem Fs.chHeights_place {N : Net} {x y : Int} {l : List Int} (h : netErr N = 0) (h2 : ¬ (isPlace N x = true ∧ isPlace N y = true)) : chHeights N x y l = (0, 6) := by
  have : chErr N x y l = 6 := by unfold chErr; rw [fst3, if_pos h, place_two, if_neg h2]; rfl
  unfold chHeights
  rw [this]
  rfl
theorem Fs.isPlace_in {N : Net} {z : Int} (h : isPlace N z = true) : 0 ≤ z ∧ z < N.places.length := by
  have h := Fs.within_iff.1 h; exact ⟨h.1, by omega⟩

set_option maxHeartbeats 6400000 in
set_option maxRecDepth 100000 in
theorem law10_any (N : Net) (v : Value) (x y : Int) (l : List Int) (A : Option Addr) (c : Nat) (w : World) (hN : RdNet w v N) (hA : ArrI w A l c) :
    Calls Try.prog 11 #[v, .agg #[.int .i64 x, .int .i64 y], .slice A l.length c] w fun e w' => e = .returned (.bool true) ∧ Below w.heap.size w w' := by
  have hN0 := Lib.hid hN
  have b1 := hA.le.1
  have b2 := hA.le.2
  have HA := Lib.hid hA
  clear hA
  obtain ⟨P, R, pc, rc, ar, rfl, mm⟩ := hN
  clear mm
  have BN := Lib.hid ((BoxN.new w N P R pc rc 25).keep (Keep.alloc _ (.cells #[.int .i64 x, .int .i64 y] 59)))
  have BT := Lib.hid (PairAt.new1 w (.cells #[.slice P N.places.length pc, .slice R N.roads.length rc] 25) x y 59)
  go_enter Try.func11, Try.ntmps11
  go_upto_region 1 with fail
  generalize hwb : (w.alloc _).alloc _ = wb at *
  have HW : Hid (Below w.heap.size w wb) := by rw [← hwb]; exact Lib.hid (((Below.refl _ _).alloc (Nat.le_refl _) _).alloc (by simp) _)
  clear hwb
  go_wp2_with fail
  refine (awake_any _).mono ?_
  rintro e' w1 ⟨rfl, hb1⟩
  replace HW := Lib.hid (HW.out.trans (hb1.mono HW.out.size))
  replace BN := Lib.hid (BN.out.keep (Keep.below hb1))
  replace BT := Lib.hid (BT.out.keep (Keep.below hb1))
  clear hb1
  obtain ⟨n0, n1⟩ := BN.out
  go_wp2_with fail
  refine (few_any N _ _ (hN0.out.keep (Keep.below HW.out))).mono ?_
  rintro e' wA ⟨rfl, hb2⟩
  replace HW := Lib.hid (HW.out.trans (hb2.mono HW.out.size))
  replace BN := Lib.hid (BN.out.keep (Keep.below hb2))
  replace BT := Lib.hid (BT.out.keep (Keep.below hb2))
  clear hb2 n0 n1
  cases hf : fewN N with
  | false =>
    go_wp2_with fail
    go_ret
    exact ⟨rfl, HW.out⟩
  | true =>
    have HL := Lib.hid (few_lens hf)
    clear hf
    by_cases hl : l.length ≤ 22
    · have d1 : decide ((l.length : Int) > 22) = false := decide_eq_false (by omega)
      have d2 : decide (22 < (l.length : Int)) = false := decide_eq_false (by omega)
      obtain ⟨n0, n1⟩ := BN.out
      obtain ⟨c0, c1⟩ := BT.out
      go_wp2_with fail
      go_cut [7, 8] from 21 to 29 (fun s1 s2 wx => s1 = .int .i64 (chHeights N x y l).1 ∧ s2 = .int .i64 (chHeights N x y l).2 ∧ Hid (Below wA.heap.size wA wx))
      case first =>
        have HBd : Hid (Below wA.heap.size wA wA.drew) := Lib.hid (Below.refl _ _).drew
        have MK : Hid (∀ w', Below wA.heap.size wA w' → w'.cell? ⟨w.heap.size, 0, none⟩ = some (.slice P N.places.length pc) ∧ w'.cell? ⟨w.heap.size, 1, none⟩ = some (.slice R N.roads.length rc) ∧ w'.cell? ⟨w.heap.size + 1, 0, none⟩ = some (.int .i64 x) ∧ w'.cell? ⟨w.heap.size + 1, 1, none⟩ = some (.int .i64 y) ∧ Hid (Below wA.heap.size wA w')) :=
          Lib.hid fun w' hw => ⟨Keep.below hw _ _ n0, Keep.below hw _ _ n1, Keep.below hw _ _ c0, Keep.below hw _ _ c1, Lib.hid hw⟩
        have KN : Hid (∀ w', Below wA.heap.size wA w' → RdNet w' (netV N P R pc rc) N) := Lib.hid fun w' hw => (hN0.out.keep (Keep.below (HW.out.trans (hw.mono HW.out.size))))
        have KA : Hid (∀ w', Below wA.heap.size wA w' → ArrI w' A l c) := Lib.hid fun w' hw => (HA.out.keep (Keep.below (HW.out.trans (hw.mono HW.out.size))))
        go_region_held3 (fun w' => w'.cell? ⟨w.heap.size, 0, none⟩ = some (.slice P N.places.length pc) ∧ w'.cell? ⟨w.heap.size, 1, none⟩ = some (.slice R N.roads.length rc) ∧ w'.cell? ⟨w.heap.size + 1, 0, none⟩ = some (.int .i64 x) ∧ w'.cell? ⟨w.heap.size + 1, 1, none⟩ = some (.int .i64 y) ∧ Hid (Below wA.heap.size wA w'))
          (first
            | exact MK.out _ HBd.out
            | (go_split_ands; exact ⟨by assumption, by assumption, by assumption, by assumption, by assumption⟩)
            | (go_split_ands; exact MK.out _ (Below.trans (Hid.out (by assumption)) (hb1.mono (Hid.out (by assumption) : Below wA.heap.size wA _).size)))
            | (go_split_ands; exact MK.out _ (Below.alloc (Hid.out (by assumption)) (Hid.out (by assumption) : Below wA.heap.size wA _).size _)))
          ((first
            | (go_at_call 21
               go_split_ands
               refine (copyNet_any N _ _ (KN.out _ (Hid.out (by assumption))) HL.out.1 HL.out.2.1 HL.out.2.2).mono ?_
               rintro e' w5 ⟨v5, rfl, h5, hb1⟩
               have H5 := Lib.hid h5
               clear h5
               try (have H6 := Lib.hid (by first | exact H6.out.keep (Keep.below hb1) | exact (H6.out.keep (Keep.alloc _ _)).keep (Keep.below hb1) : ArrI w5 A6 l k6)))
            | (go_at_call 29
               go_split_ands
               refine (copyInts_any l A c _ (KA.out _ (Hid.out (by assumption))) (by omega)).mono ?_
               rintro e' w6 ⟨A6, k6, rfl, h6, -, hb1⟩
               have H6 := Lib.hid h6
               clear h6
               try (have H5 := Lib.hid (by first | exact H5.out.keep (Keep.below hb1) | exact (H5.out.keep (Keep.alloc _ _)).keep (Keep.below hb1) : RdNet w6 v5 N)))
            | (go_at_call 56
               go_split_ands
               refine (chHeights_any N _ x y l A6 k6 _ (by first | exact H5.out | exact H5.out.keep (Keep.alloc _ _)) (by first | exact H6.out | exact H6.out.keep (Keep.alloc _ _)) (by omega)).mono ?_
               rintro e' w7 ⟨rfl, hb1⟩)))
        all_goals
          rename_i hS
          obtain ⟨-, -, -, -, hbb⟩ := hS
          go_wp2_with fail
          go_meet
          first
            | exact ⟨rfl, rfl, hbb⟩
      case rest =>
        obtain ⟨rfl, rfl, HB⟩ := hcut
        replace HW := Lib.hid (HW.out.trans (HB.out.mono HW.out.size))
        replace BN := Lib.hid (BN.out.keep (Keep.below HB.out))
        replace BT := Lib.hid (BT.out.keep (Keep.below HB.out))
        obtain ⟨wB, hwB⟩ : ∃ wB, wB = wc := ⟨_, rfl⟩
        subst hwB
        clear HB n0 n1 c0 c1
        obtain ⟨n0, n1⟩ := BN.out
        go_wp2_with fail
        refine (rNetErr_any N _ _ (hN0.out.keep (Keep.below HW.out))).mono ?_
        rintro e' w3 ⟨rfl, hb3⟩
        replace HW := Lib.hid (HW.out.trans (hb3.mono HW.out.size))
        replace BN := Lib.hid (BN.out.keep (Keep.below hb3))
        replace BT := Lib.hid (BT.out.keep (Keep.below hb3))
        clear hb3 n0 n1
        by_cases he : netErr N = 0
        · have HE := Lib.hid he
          rw [he]
          clear he
          obtain ⟨n0, n1⟩ := BN.out
          obtain ⟨c0, c1⟩ := BT.out
          go_wp2_with fail
          refine (rPlaceErr_any N _ x _ (hN0.out.keep (Keep.below HW.out))).mono ?_
          rintro e' w4 ⟨rfl, hb4⟩
          replace HW := Lib.hid (HW.out.trans (hb4.mono HW.out.size))
          replace BN := Lib.hid (BN.out.keep (Keep.below hb4))
          replace BT := Lib.hid (BT.out.keep (Keep.below hb4))
          clear hb4 n0 n1 c0 c1
          cases hx : isPlace N x with
          | false =>
            have F := Lib.hid (chHeights_place (l := l) HE.out (show ¬ (isPlace N x = true ∧ isPlace N y = true) from fun h => by rw [hx] at h; cases h.1))
            rw [F.out, show noPlace N x = 6 by unfold noPlace; rw [hx]; rfl]
            clear hx
            go_wp2_with fail
            go_ret
            exact ⟨rfl, HW.out⟩
          | true =>
            have HPX := Lib.hid hx
            rw [show noPlace N x = 0 by unfold noPlace; rw [hx]; rfl]
            clear hx
            obtain ⟨n0, n1⟩ := BN.out
            obtain ⟨c0, c1⟩ := BT.out
            go_wp2_with fail
            refine (rPlaceErr_any N _ y _ (hN0.out.keep (Keep.below HW.out))).mono ?_
            rintro e' w5 ⟨rfl, hb5⟩
            replace HW := Lib.hid (HW.out.trans (hb5.mono HW.out.size))
            replace BN := Lib.hid (BN.out.keep (Keep.below hb5))
            replace BT := Lib.hid (BT.out.keep (Keep.below hb5))
            clear hb5 n0 n1 c0 c1
            cases hy : isPlace N y with
            | false =>
              have F := Lib.hid (chHeights_place (l := l) HE.out (show ¬ (isPlace N x = true ∧ isPlace N y = true) from fun h => by rw [hy] at h; cases h.2))
              rw [F.out, show noPlace N y = 6 by unfold noPlace; rw [hy]; rfl]
              clear hy
              go_wp2_with fail
              go_ret
              exact ⟨rfl, HW.out⟩
            | true =>
              rw [show noPlace N y = 0 by unfold noPlace; rw [hy]; rfl]
              obtain ⟨x0, x1⟩ := isPlace_in HPX.out
              obtain ⟨y0, y1⟩ := isPlace_in hy
              obtain ⟨X, hX⟩ : ∃ X : Nat, x = X := ⟨_, (Int.toNat_of_nonneg x0).symm⟩
              obtain ⟨Y, hY⟩ : ∃ Y : Nat, y = Y := ⟨_, (Int.toNat_of_nonneg y0).symm⟩
              subst hX; subst hY
              have hXl : X < N.places.length := by omega
              have hYl : Y < N.places.length := by omega
              have F := Lib.hid (rHeights_same (l := l) HE.out hXl hYl)
              rw [F.out]
              clear hy x0 x1 y0 y1
              obtain ⟨n0, n1⟩ := BN.out
              obtain ⟨c0, c1⟩ := BT.out
              go_wp2_with fail
              refine (rCheckHeights_any N _ X Y l A c _ (hN0.out.keep (Keep.below HW.out)) (HA.out.keep (Keep.below HW.out)) HE.out hXl hYl).mono ?_
              rintro e' w6 ⟨rfl, hb6⟩
              replace HW := Lib.hid (HW.out.trans (hb6.mono HW.out.size))
              clear hb6 n0 n1 c0 c1
              go_wp2_with fail
              go_ret
              exact ⟨rfl, HW.out⟩
        · have F := Lib.hid (chHeights_net (x := x) (y := y) (l := l) he)
          have e1 : (netErr N == 0) = false := by simpa using he
          have e2 : (netErr N != 0) = true := by simpa using he
          rw [F.out]
          clear he
          go_wp2_with fail
          go_ret
          exact ⟨rfl, HW.out⟩
    · have d1 : decide ((l.length : Int) > 22) = true := decide_eq_true (by omega)
      have d2 : decide (22 < (l.length : Int)) = true := decide_eq_true (by omega)
      go_wp2_with fail
      go_ret
      exact ⟨rfl, HW.out⟩
end Go.Proofs.Ythipneggplebcaa

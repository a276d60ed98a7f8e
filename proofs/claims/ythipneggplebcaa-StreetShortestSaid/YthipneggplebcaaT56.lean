/- The law of shortest ways: heights prove them. No condition. -/
import Derived.Test.YthipneggplebcaaT35
import Derived.Test.YthipneggplebcaaT38
import Derived.Test.YthipneggplebcaaT52
import Derived.Test.YthipneggplebcaaT51
import Derived.Deep.CutBlock
namespace Go.Proofs.Ythipneggplebcaa
open Go.RowKit Fs

set_option maxHeartbeats 6400000 in
set_option maxRecDepth 100000 in
theorem law9_any (N : Net) (v : Value) (x y : Int) (l : List Int) (A : Option Addr) (c : Nat) (w : World) (hN : RdNet w v N) (hA : ArrI w A l c) :
    Calls Try.prog 10 #[v, .agg #[.int .i64 x, .int .i64 y], .slice A l.length c] w fun e w' => e = .returned (.bool true) ∧ Below w.heap.size w w' := by
  have hN0 := Lib.hid hN
  have b1 := hA.le.1
  have b2 := hA.le.2
  have HA := Lib.hid hA
  clear hA
  obtain ⟨P, R, pc, rc, ar, rfl, mm⟩ := hN
  clear mm
  have BN := Lib.hid ((BoxN.new w N P R pc rc 25).keep (Keep.alloc _ (.cells #[.int .i64 x, .int .i64 y] 59)))
  have BT := Lib.hid (PairAt.new1 w (.cells #[.slice P N.places.length pc, .slice R N.roads.length rc] 25) x y 59)
  go_enter Try.func10, Try.ntmps10
  go_upto_region 1 with fail
  generalize hwb : (w.alloc _).alloc _ = wb at *
  have HW : Hid (Below w.heap.size w wb) := by rw [← hwb]; exact Lib.hid (((Below.refl _ _).alloc (Nat.le_refl _) _).alloc (by simp) _)
  clear hwb
  go_wp2_with fail
  refine (awake_any _).mono ?_
  rintro e' w1 ⟨rfl, hb1⟩
  replace HW := Lib.hid (HW.out.trans (hb1.mono HW.out.size))
  replace BN := Lib.hid (BN.out.keep (Keep.below hb1))
  replace BT := Lib.hid (BT.out.keep (Keep.below hb1))
  clear hb1
  obtain ⟨n0, n1⟩ := BN.out
  go_wp2_with fail
  refine (few_any N _ _ (hN0.out.keep (Keep.below HW.out))).mono ?_
  rintro e' wA ⟨rfl, hb2⟩
  replace HW := Lib.hid (HW.out.trans (hb2.mono HW.out.size))
  replace BN := Lib.hid (BN.out.keep (Keep.below hb2))
  replace BT := Lib.hid (BT.out.keep (Keep.below hb2))
  clear hb2 n0 n1
  cases hf : fewN N with
  | false =>
    go_wp2_with fail
    go_ret
    exact ⟨rfl, HW.out⟩
  | true =>
    have HL := Lib.hid (few_lens hf)
    clear hf
    by_cases hl : l.length ≤ 12
    · have d1 : decide ((l.length : Int) > 12) = false := decide_eq_false (by omega)
      have d2 : decide (12 < (l.length : Int)) = false := decide_eq_false (by omega)
      obtain ⟨n0, n1⟩ := BN.out
      obtain ⟨c0, c1⟩ := BT.out
      go_wp2_with fail
      go_cut [7, 8] from 32 to 39 (fun s1 s2 wx => ∃ (A1 : Option Addr) (k1 : Nat), s1 = .slice A1 (hfList N x).length k1 ∧ s2 = .int .i64 (hfErr N x) ∧ Hid (ArrI wx A1 (hfList N x) k1) ∧ Hid (Below wA.heap.size wA wx))
      case first =>
        have HBd : Hid (Below wA.heap.size wA wA.drew) := Lib.hid (Below.refl _ _).drew
        have MK : Hid (∀ w', Below wA.heap.size wA w' → w'.cell? ⟨w.heap.size, 0, none⟩ = some (.slice P N.places.length pc) ∧ w'.cell? ⟨w.heap.size, 1, none⟩ = some (.slice R N.roads.length rc) ∧ w'.cell? ⟨w.heap.size + 1, 0, none⟩ = some (.int .i64 x) ∧ w'.cell? ⟨w.heap.size + 1, 1, none⟩ = some (.int .i64 y) ∧ Hid (Below wA.heap.size wA w')) :=
          Lib.hid fun w' hw => ⟨Keep.below hw _ _ n0, Keep.below hw _ _ n1, Keep.below hw _ _ c0, Keep.below hw _ _ c1, Lib.hid hw⟩
        have KN : Hid (∀ w', Below wA.heap.size wA w' → RdNet w' (netV N P R pc rc) N) := Lib.hid fun w' hw => (hN0.out.keep (Keep.below (HW.out.trans (hw.mono HW.out.size))))
        go_region_held3 (fun w' => w'.cell? ⟨w.heap.size, 0, none⟩ = some (.slice P N.places.length pc) ∧ w'.cell? ⟨w.heap.size, 1, none⟩ = some (.slice R N.roads.length rc) ∧ w'.cell? ⟨w.heap.size + 1, 0, none⟩ = some (.int .i64 x) ∧ w'.cell? ⟨w.heap.size + 1, 1, none⟩ = some (.int .i64 y) ∧ Hid (Below wA.heap.size wA w'))
          (first
            | exact MK.out _ HBd.out
            | (go_split_ands; exact ⟨by assumption, by assumption, by assumption, by assumption, by assumption⟩)
            | (go_split_ands; exact MK.out _ (Below.trans (Hid.out (by assumption)) (hb1.mono (Hid.out (by assumption) : Below wA.heap.size wA _).size)))
            | (go_split_ands; exact MK.out _ (Below.alloc (Hid.out (by assumption)) (Hid.out (by assumption) : Below wA.heap.size wA _).size _)))
          ((first
            | (go_at_call 21
               go_split_ands
               refine (copyNet_any N _ _ (KN.out _ (Hid.out (by assumption))) HL.out.1 HL.out.2.1 HL.out.2.2).mono ?_
               rintro e' w5 ⟨v5, rfl, h5, hb1⟩
               have H5 := Lib.hid h5
               clear h5)
            | (go_at_call 53
               go_split_ands
               refine (hf_any N _ x _ (by first | exact H5.out | exact H5.out.keep (Keep.alloc _ _))).mono ?_
               rintro e' w7 ⟨A1, k1, rfl, ha1, hb1⟩)))
        all_goals
          rename_i hS
          obtain ⟨-, -, -, -, hbb⟩ := hS
          go_wp2_with fail
          go_meet
          first
            | exact ⟨A1, k1, rfl, rfl, Lib.hid ha1, hbb⟩
      case rest =>
        obtain ⟨A1, k1, rfl, rfl, H1, HB⟩ := hcut
        replace HW := Lib.hid (HW.out.trans (HB.out.mono HW.out.size))
        replace BN := Lib.hid (BN.out.keep (Keep.below HB.out))
        replace BT := Lib.hid (BT.out.keep (Keep.below HB.out))
        obtain ⟨wB, hwB⟩ : ∃ wB, wB = wc := ⟨_, rfl⟩
        subst hwB
        clear HB n0 n1 c0 c1
        obtain ⟨n0, n1⟩ := BN.out
        obtain ⟨c0, c1⟩ := BT.out
        go_wp2_with fail
        go_cut [9, 10, 11] from 40 to 50 (fun s1 s2 s3 wx => ∃ (W : List Int) (A2 : Option Addr) (k2 : Nat), s1 = .slice A2 W.length k2 ∧ s2 = .int .i64 (shortest N x y).1 ∧ s3 = .int .i64 (shortest N x y).2 ∧ Hid (ArrI wx A2 W k2) ∧ Hid ((shortest N x y).2 = 0 → Chain N (search N x 0 (further N)).last y.toNat W.reverse) ∧ Hid ((shortest N x y).2 ≠ 0 → W = []) ∧ Hid (Below wB.heap.size wB wx))
        case first =>
          have HBd : Hid (Below wB.heap.size wB wB.drew) := Lib.hid (Below.refl _ _).drew
          have MK : Hid (∀ w', Below wB.heap.size wB w' → w'.cell? ⟨w.heap.size, 0, none⟩ = some (.slice P N.places.length pc) ∧ w'.cell? ⟨w.heap.size, 1, none⟩ = some (.slice R N.roads.length rc) ∧ w'.cell? ⟨w.heap.size + 1, 0, none⟩ = some (.int .i64 x) ∧ w'.cell? ⟨w.heap.size + 1, 1, none⟩ = some (.int .i64 y) ∧ Hid (Below wB.heap.size wB w')) :=
            Lib.hid fun w' hw => ⟨Keep.below hw _ _ n0, Keep.below hw _ _ n1, Keep.below hw _ _ c0, Keep.below hw _ _ c1, Lib.hid hw⟩
          have KN : Hid (∀ w', Below wB.heap.size wB w' → RdNet w' (netV N P R pc rc) N) := Lib.hid fun w' hw => (hN0.out.keep (Keep.below (HW.out.trans (hw.mono HW.out.size))))
          go_region_held3 (fun w' => w'.cell? ⟨w.heap.size, 0, none⟩ = some (.slice P N.places.length pc) ∧ w'.cell? ⟨w.heap.size, 1, none⟩ = some (.slice R N.roads.length rc) ∧ w'.cell? ⟨w.heap.size + 1, 0, none⟩ = some (.int .i64 x) ∧ w'.cell? ⟨w.heap.size + 1, 1, none⟩ = some (.int .i64 y) ∧ Hid (Below wB.heap.size wB w'))
            (first
              | exact MK.out _ HBd.out
              | (go_split_ands; exact ⟨by assumption, by assumption, by assumption, by assumption, by assumption⟩)
              | (go_split_ands; exact MK.out _ (Below.trans (Hid.out (by assumption)) (hb1.mono (Hid.out (by assumption) : Below wB.heap.size wB _).size)))
              | (go_split_ands; exact MK.out _ (Below.alloc (Hid.out (by assumption)) (Hid.out (by assumption) : Below wB.heap.size wB _).size _)))
            ((first
              | (go_at_call 21
                 go_split_ands
                 refine (copyNet_any N _ _ (KN.out _ (Hid.out (by assumption))) HL.out.1 HL.out.2.1 HL.out.2.2).mono ?_
                 rintro e' w5 ⟨v5, rfl, h5, hb1⟩
                 have H5 := Lib.hid h5
                 clear h5)
              | (go_at_call 54
                 go_split_ands
                 refine (shortest_any N _ x y _ (by first | exact H5.out | exact H5.out.keep (Keep.alloc _ _))).mono ?_
                 rintro e' w7 ⟨lb, A2, k2, rfl, ha2, hch, hnil, hb1⟩)))
          all_goals
            rename_i hS
            obtain ⟨-, -, -, -, hbb⟩ := hS
            go_wp2_with fail
            go_meet
            first
              | exact ⟨lb.reverse, A2, k2, by rw [List.length_reverse], rfl, rfl, Lib.hid ha2, Lib.hid (fun h => by rw [List.reverse_reverse]; exact hch h), Lib.hid (fun h => by rw [hnil h]; rfl), hbb⟩
        case rest =>
          obtain ⟨W, A2, k2, rfl, rfl, rfl, H2, HCH, HNIL, HB⟩ := hcut
          replace HW := Lib.hid (HW.out.trans (HB.out.mono HW.out.size))
          replace BN := Lib.hid (BN.out.keep (Keep.below HB.out))
          replace BT := Lib.hid (BT.out.keep (Keep.below HB.out))
          replace H1 := Lib.hid (H1.out.keep (Keep.below HB.out))
          obtain ⟨wC, hwC⟩ : ∃ wC, wC = wc := ⟨_, rfl⟩
          subst hwC
          clear HB n0 n1 c0 c1
          obtain ⟨n0, n1⟩ := BN.out
          obtain ⟨c0, c1⟩ := BT.out
          go_wp2_with fail
          refine (rNetErr_any N _ _ (hN0.out.keep (Keep.below HW.out))).mono ?_
          rintro e' w3 ⟨rfl, hb3⟩
          replace HW := Lib.hid (HW.out.trans (hb3.mono HW.out.size))
          replace BN := Lib.hid (BN.out.keep (Keep.below hb3))
          replace BT := Lib.hid (BT.out.keep (Keep.below hb3))
          replace H1 := Lib.hid (H1.out.keep (Keep.below hb3))
          replace H2 := Lib.hid (H2.out.keep (Keep.below hb3))
          clear hb3 n0 n1 c0 c1
          by_cases he : netErr N = 0
          · have HE := Lib.hid he
            rw [he]
            clear he
            obtain ⟨n0, n1⟩ := BN.out
            obtain ⟨c0, c1⟩ := BT.out
            go_wp2_with fail
            refine (rPlaceErr_any N _ x _ (hN0.out.keep (Keep.below HW.out))).mono ?_
            rintro e' w4 ⟨rfl, hb4⟩
            replace HW := Lib.hid (HW.out.trans (hb4.mono HW.out.size))
            replace BN := Lib.hid (BN.out.keep (Keep.below hb4))
            replace BT := Lib.hid (BT.out.keep (Keep.below hb4))
            replace H1 := Lib.hid (H1.out.keep (Keep.below hb4))
            replace H2 := Lib.hid (H2.out.keep (Keep.below hb4))
            clear hb4 n0 n1 c0 c1
            cases hx : isPlace N x with
            | false =>
              obtain ⟨e1, e2⟩ := hfErr_place HE.out hx
              have e3 := shortest_bad (N := N) (f := x) (t := y) (e := 6) (by rw [shErr_is, if_pos HE.out, if_neg (fun h => by rw [hx] at h; cases h.1)]) (by decide)
              have e4 := HNIL.out (by rw [e3]; decide)
              rw [e1, e2, e3, e4, show noPlace N x = 6 by unfold noPlace; rw [hx]; rfl]
              clear hx e1 e2 e3 e4
              go_wp2_with fail
              go_ret
              exact ⟨rfl, HW.out⟩
            | true =>
              obtain ⟨e1, e2⟩ := hfErr_fine HE.out hx
              rw [e2] at H1
              rw [e1, e2, show noPlace N x = 0 by unfold noPlace; rw [hx]; rfl]
              obtain ⟨x0, x1⟩ := isPlace_in hx
              obtain ⟨X, hX⟩ : ∃ X : Nat, x = X := ⟨_, (Int.toNat_of_nonneg x0).symm⟩
              subst hX
              have hXl : X < N.places.length := by omega
              have HPX := Lib.hid hx
              clear hx x0 x1 e1 e2
              obtain ⟨n0, n1⟩ := BN.out
              obtain ⟨c0, c1⟩ := BT.out
              go_wp2_with fail
              refine (rHts_any N _ X _ (hN0.out.keep (Keep.below HW.out)) HE.out hXl).mono ?_
              rintro e' w5 ⟨g3, k3, rfl, hg3, ha3, hb5⟩
              replace HW := Lib.hid (HW.out.trans (hb5.mono HW.out.size))
              replace BN := Lib.hid (BN.out.keep (Keep.below hb5))
              replace BT := Lib.hid (BT.out.keep (Keep.below hb5))
              replace H1 := Lib.hid (H1.out.keep (Keep.below hb5))
              replace H2 := Lib.hid (H2.out.keep (Keep.below hb5))
              have H3 := Lib.hid (show ArrI w5 (some ⟨g3, 0, none⟩) (heights N X) k3 from ha3)
              clear ha3 hg3 hb5 n0 n1 c0 c1
              rw [← heights_len N X]
              go_wp2_with fail
              refine (ints_same (heights N X) A1 (some ⟨g3, 0, none⟩) k1 k3 _ H1.out H3.out).mono ?_
              rintro e' w6 ⟨rfl, hb6⟩
              replace HW := Lib.hid (HW.out.trans (hb6.mono HW.out.size))
              replace BN := Lib.hid (BN.out.keep (Keep.below hb6))
              replace BT := Lib.hid (BT.out.keep (Keep.below hb6))
              replace H1 := Lib.hid (H1.out.keep (Keep.below hb6))
              replace H2 := Lib.hid (H2.out.keep (Keep.below hb6))
              replace H3 := Lib.hid (H3.out.keep (Keep.below hb6))
              clear hb6
              obtain ⟨n0, n1⟩ := BN.out
              obtain ⟨c0, c1⟩ := BT.out
              go_wp2_with fail
              refine (rPlaceErr_any N _ y _ (hN0.out.keep (Keep.below HW.out))).mono ?_
              rintro e' w7 ⟨rfl, hb7⟩
              replace HW := Lib.hid (HW.out.trans (hb7.mono HW.out.size))
              replace BN := Lib.hid (BN.out.keep (Keep.below hb7))
              replace BT := Lib.hid (BT.out.keep (Keep.below hb7))
              replace H1 := Lib.hid (H1.out.keep (Keep.below hb7))
              replace H2 := Lib.hid (H2.out.keep (Keep.below hb7))
              replace H3 := Lib.hid (H3.out.keep (Keep.below hb7))
              clear hb7 n0 n1 c0 c1
              cases hy : isPlace N y with
              | false =>
                have e3 := shortest_bad (N := N) (f := X) (t := y) (e := 6) (by rw [shErr_is, if_pos HE.out, if_neg (fun h => by rw [hy] at h; cases h.2)]) (by decide)
                have e4 := HNIL.out (by rw [e3]; decide)
                rw [e3, e4, show noPlace N y = 6 by unfold noPlace; rw [hy]; rfl]
                clear hy e3 e4
                go_wp2_with fail
                go_ret
                exact ⟨rfl, HW.out⟩
              | true =>
                rw [show noPlace N y = 0 by unfold noPlace; rw [hy]; rfl]
                obtain ⟨y0, y1⟩ := isPlace_in hy
                obtain ⟨Y, hY⟩ : ∃ Y : Nat, y = Y := ⟨_, (Int.toNat_of_nonneg y0).symm⟩
                subst hY
                have hYl : Y < N.places.length := by omega
                have e0 : shErr N X Y = 0 := by rw [shErr_is, if_pos HE.out, if_pos ⟨HPX.out, hy⟩]
                have hYh : Y < (heights N X).length := by rw [heights_len]; exact hYl
                have hYn : (Y : Int) < ((heights N X).length : Int) := by omega
                have bb1 := H3.out.le.1
                have bb2 := H3.out.le.2
                have q3 := H3.out.cells hYh
                rw [Nat.zero_add] at q3
                clear hy y0 y1
                by_cases hw : listI (heights N X) Y = -1
                · have e3 : shortest N X Y = (0, 12) := by unfold shortest; rw [if_pos e0, if_pos (by rw [Int.toNat_natCast]; exact hw)]
                  have e4 := HNIL.out (by rw [e3]; decide)
                  rw [e3, e4]
                  rw [hw] at q3
                  clear hw e3 e4 e0
                  obtain ⟨n0, n1⟩ := BN.out
                  obtain ⟨c0, c1⟩ := BT.out
                  go_wp2_with fail
                  go_ret
                  exact ⟨rfl, HW.out⟩
                · have HS5 := Lib.hid (show True from trivial)
                  have e3 : shortest N X Y = (listI (heights N X) Y, 0) := by unfold shortest; rw [if_pos e0, if_neg (by rw [Int.toNat_natCast]; exact hw), Int.toNat_natCast]
                  obtain ⟨s1, s2, s3, s4, s5⟩ := shortest_way HE.out hXl hYl hw (by have := HCH.out (by rw [e3]); rwa [Int.toNat_natCast] at this)
                  have HPR := Lib.hid (heights_proved HE.out hXl hYl hw)
                  have hpos := found_bound (net_joined HE.out) (further_good HE.out) (further_small HE.out) hXl (Int.le_refl 0) Y hYl hw
                  have hpos := hpos.1
                  have S1 := Lib.hid s1
                  have S2 := Lib.hid s2
                  have S3 := Lib.hid s3
                  have S4 := Lib.hid s4
                  rw [e3]
                  obtain ⟨h, hh⟩ : ∃ h, listI (heights N X) Y = h := ⟨_, rfl⟩
                  have hpos : 0 ≤ listI (heights N X) Y := hpos
                  rw [hh] at q3 hpos HPR S3 ⊢
                  have HH := Lib.hid hh
                  have dh : decide (h < 0) = false := decide_eq_false (by omega)
                  clear hw e3 e0 s1 s2 s3 s4 hh HCH HNIL
                  obtain ⟨n0, n1⟩ := BN.out
                  obtain ⟨c0, c1⟩ := BT.out
                  go_wp2_with fail
                  refine (rWayErr_any N _ W A2 k2 _ (hN0.out.keep (Keep.below HW.out)) H2.out).mono ?_
                  rintro e' w8 ⟨rfl, hb8⟩
                  rw [S1.out]
                  replace q3 := Keep.below hb8 _ _ q3
                  replace HW := Lib.hid (HW.out.trans (hb8.mono HW.out.size))
                  replace BN := Lib.hid (BN.out.keep (Keep.below hb8))
                  replace BT := Lib.hid (BT.out.keep (Keep.below hb8))
                  replace H1 := Lib.hid (H1.out.keep (Keep.below hb8))
                  replace H2 := Lib.hid (H2.out.keep (Keep.below hb8))
                  replace H3 := Lib.hid (H3.out.keep (Keep.below hb8))
                  clear hb8 n0 n1 c0 c1
                  obtain ⟨n0, n1⟩ := BN.out
                  obtain ⟨c0, c1⟩ := BT.out
                  go_wp2_with fail
                  refine (rJoins_any N _ W A2 k2 X Y _ (hN0.out.keep (Keep.below HW.out)) H2.out S4.out).mono ?_
                  rintro e' w9 ⟨rfl, hb9⟩
                  rw [show decide (JoinsIs N W X Y) = true from decide_eq_true S2.out]
                  replace HW := Lib.hid (HW.out.trans (hb9.mono HW.out.size))
                  replace BN := Lib.hid (BN.out.keep (Keep.below hb9))
                  replace BT := Lib.hid (BT.out.keep (Keep.below hb9))
                  replace H1 := Lib.hid (H1.out.keep (Keep.below hb9))
                  replace H2 := Lib.hid (H2.out.keep (Keep.below hb9))
                  replace H3 := Lib.hid (H3.out.keep (Keep.below hb9))
                  clear hb9 n0 n1 c0 c1
                  obtain ⟨n0, n1⟩ := BN.out
                  obtain ⟨c0, c1⟩ := BT.out
                  go_wp2_with fail
                  refine (rMetresOf_any N _ W A2 k2 _ (hN0.out.keep (Keep.below HW.out)) H2.out HE.out S4.out (by omega)).mono ?_
                  rintro e' wD ⟨rfl, hbA⟩
                  rw [S3.out]
                  replace HW := Lib.hid (HW.out.trans (hbA.mono HW.out.size))
                  replace BN := Lib.hid (BN.out.keep (Keep.below hbA))
                  replace BT := Lib.hid (BT.out.keep (Keep.below hbA))
                  replace H1 := Lib.hid (H1.out.keep (Keep.below hbA))
                  replace H2 := Lib.hid (H2.out.keep (Keep.below hbA))
                  replace H3 := Lib.hid (H3.out.keep (Keep.below hbA))
                  clear hbA n0 n1 c0 c1
                  clear q3
                  obtain ⟨n0, n1⟩ := BN.out
                  obtain ⟨c0, c1⟩ := BT.out
                  have HX1 := Lib.hid (heights_len N X)
                  have h20 := (net_sound HE.out).2.1
                  go_wp2_with fail
                  go_cut [16, 17] from 166 to 173 (fun s1 s2 wx => s1 = .int .i64 h ∧ s2 = .int .i64 0 ∧ Hid (Below wD.heap.size wD wx))
                  case first =>
                    have HBd : Hid (Below wD.heap.size wD wD.drew) := Lib.hid (Below.refl _ _).drew
                    have MK : Hid (∀ w', Below wD.heap.size wD w' → w'.cell? ⟨w.heap.size, 0, none⟩ = some (.slice P N.places.length pc) ∧ w'.cell? ⟨w.heap.size, 1, none⟩ = some (.slice R N.roads.length rc) ∧ w'.cell? ⟨w.heap.size + 1, 0, none⟩ = some (.int .i64 X) ∧ w'.cell? ⟨w.heap.size + 1, 1, none⟩ = some (.int .i64 Y) ∧ Hid (Below wD.heap.size wD w')) :=
                      Lib.hid fun w' hw => ⟨Keep.below hw _ _ n0, Keep.below hw _ _ n1, Keep.below hw _ _ c0, Keep.below hw _ _ c1, Lib.hid hw⟩
                    have KN : Hid (∀ w', Below wD.heap.size wD w' → RdNet w' (netV N P R pc rc) N) := Lib.hid fun w' hw => (hN0.out.keep (Keep.below (HW.out.trans (hw.mono HW.out.size))))
                    have KH : Hid (∀ w', Below wD.heap.size wD w' → ArrI w' A1 (heights N X) k1) := Lib.hid fun w' hw => H1.out.keep (Keep.below hw)
                    go_region_held3 (fun w' => w'.cell? ⟨w.heap.size, 0, none⟩ = some (.slice P N.places.length pc) ∧ w'.cell? ⟨w.heap.size, 1, none⟩ = some (.slice R N.roads.length rc) ∧ w'.cell? ⟨w.heap.size + 1, 0, none⟩ = some (.int .i64 X) ∧ w'.cell? ⟨w.heap.size + 1, 1, none⟩ = some (.int .i64 Y) ∧ Hid (Below wD.heap.size wD w'))
                      (first
                        | exact MK.out _ HBd.out
                        | (go_split_ands; exact ⟨by assumption, by assumption, by assumption, by assumption, by assumption⟩)
                        | (go_split_ands; exact MK.out _ (Below.trans (Hid.out (by assumption)) (hb1.mono (Hid.out (by assumption) : Below wD.heap.size wD _).size)))
                        | (go_split_ands; exact MK.out _ (Below.alloc (Hid.out (by assumption)) (Hid.out (by assumption) : Below wD.heap.size wD _).size _)))
                      ((first
                        | (go_at_call 21
                           go_split_ands
                           refine (copyNet_any N _ _ (KN.out _ (Hid.out (by assumption))) HL.out.1 HL.out.2.1 HL.out.2.2).mono ?_
                           rintro e' w5 ⟨v5, rfl, h5, hb1⟩
                           have H5 := Lib.hid h5
                           clear h5)
                        | (go_at_call 56
                           go_split_ands
                           refine (chHeights_any N _ X Y (heights N X) A1 k1 _ (by first | exact H5.out | exact H5.out.keep (Keep.alloc _ _)) (KH.out _ (Hid.out (by assumption))) (by have := HX1.out; omega)).mono ?_
                           rintro e' w7 ⟨rfl, hb1⟩)))
                    all_goals
                      rename_i hS
                      obtain ⟨-, -, -, -, hbb⟩ := hS
                      go_wp2_with fail
                      go_meet
                      first
                        | exact ⟨by rw [HPR.out], by rw [HPR.out], hbb⟩
                  case rest =>
                    obtain ⟨rfl, rfl, HB⟩ := hcut
                    replace HW := Lib.hid (HW.out.trans (HB.out.mono HW.out.size))
                    replace BN := Lib.hid (BN.out.keep (Keep.below HB.out))
                    replace BT := Lib.hid (BT.out.keep (Keep.below HB.out))
                    obtain ⟨wE, hwE⟩ : ∃ wE, wE = wc := ⟨_, rfl⟩
                    subst hwE
                    clear HB n0 n1 c0 c1
                    obtain ⟨n0, n1⟩ := BN.out
                    obtain ⟨c0, c1⟩ := BT.out
                    go_wp2_with fail
                    refine (rWayErr_any N _ l A c _ (hN0.out.keep (Keep.below HW.out)) (HA.out.keep (Keep.below HW.out))).mono ?_
                    rintro e' wF ⟨rfl, hbF⟩
                    replace HW := Lib.hid (HW.out.trans (hbF.mono HW.out.size))
                    replace BN := Lib.hid (BN.out.keep (Keep.below hbF))
                    replace BT := Lib.hid (BT.out.keep (Keep.below hbF))
                    clear hbF n0 n1 c0 c1
                    by_cases hq : wayErr N l = 0
                    · have HQ := Lib.hid hq
                      rw [hq]
                      clear hq
                      obtain ⟨n0, n1⟩ := BN.out
                      obtain ⟨c0, c1⟩ := BT.out
                      go_wp2_with fail
                      refine (rJoins_any N _ l A c X Y _ (hN0.out.keep (Keep.below HW.out)) (HA.out.keep (Keep.below HW.out)) (fun j hj => ((way_ok HQ.out).2 j hj).1)).mono ?_
                      rintro e' wG ⟨rfl, hbG⟩
                      replace HW := Lib.hid (HW.out.trans (hbG.mono HW.out.size))
                      replace BN := Lib.hid (BN.out.keep (Keep.below hbG))
                      replace BT := Lib.hid (BT.out.keep (Keep.below hbG))
                      clear hbG n0 n1 c0 c1
                      by_cases hj : JoinsIs N l X Y
                      · rw [show decide (JoinsIs N l X Y) = true from decide_eq_true hj]
                        have HLO := Lib.hid (way_longer HE.out hXl HQ.out hj)
                        have HMO := Lib.hid (metOf_ok HE.out HQ.out)
                        clear hj
                        obtain ⟨n0, n1⟩ := BN.out
                        obtain ⟨c0, c1⟩ := BT.out
                        go_wp2_with fail
                        refine (copyNet_any N _ _ (hN0.out.keep (Keep.below HW.out)) HL.out.1 HL.out.2.1 HL.out.2.2).mono ?_
                        rintro e' wH ⟨vH, rfl, hH, hbH⟩
                        replace HW := Lib.hid (HW.out.trans (hbH.mono HW.out.size))
                        replace BN := Lib.hid (BN.out.keep (Keep.below hbH))
                        replace BT := Lib.hid (BT.out.keep (Keep.below hbH))
                        have HHN := Lib.hid hH
                        clear hH hbH n0 n1 c0 c1
                        go_wp2_with fail
                        refine (copyInts_any l A c _ (HA.out.keep (Keep.below HW.out)) (by omega)).mono ?_
                        rintro e' wI ⟨A9, k9, rfl, h9, -, hbI⟩
                        replace HW := Lib.hid (HW.out.trans (hbI.mono HW.out.size))
                        have HHI := Lib.hid (HHN.out.keep (Keep.below hbI))
                        clear hbI
                        go_wp2_with fail
                        refine (metOf_any N _ l A9 k9 _ HHI.out h9).mono ?_
                        rintro e' wJ ⟨rfl, hbJ⟩
                        replace HW := Lib.hid (HW.out.trans (hbJ.mono HW.out.size))
                        rw [HMO.out]
                        have hge : h ≤ metresTo N l := by have := HLO.out; rw [HH.out] at this; exact this
                        have dge : decide (metresTo N l ≥ h) = true := decide_eq_true hge
                        have dge2 : decide (h ≤ metresTo N l) = true := decide_eq_true hge
                        clear hbJ h9
                        go_wp2_with fail
                        go_ret
                        exact ⟨rfl, HW.out⟩
                      · rw [show decide (JoinsIs N l X Y) = false from decide_eq_false hj]
                        clear hj
                        go_wp2_with fail
                        go_ret
                        exact ⟨rfl, HW.out⟩
                    · have e1 : (wayErr N l == 0) = false := by simpa using hq
                      have e2 : (wayErr N l != 0) = true := by simpa using hq
                      clear hq
                      go_wp2_with fail
                      go_ret
                      exact ⟨rfl, HW.out⟩
          · have e5 := hfErr_net (f := x) he
            have e3 := shortest_bad (N := N) (f := x) (t := y) (e := netErr N) (by rw [shErr_is, if_neg he]) he
            have e4 := HNIL.out (by rw [e3]; exact he)
            have e1 : (netErr N == 0) = false := by simpa using he
            have e2 : (netErr N != 0) = true := by simpa using he
            rw [e5.1, e5.2, e3, e4]
            clear he e3 e4 e5
            go_wp2_with fail
            go_ret
            exact ⟨rfl, HW.out⟩
    · have d1 : decide ((l.length : Int) > 12) = true := decide_eq_true (by omega)
      have d2 : decide (12 < (l.length : Int)) = true := decide_eq_true (by omega)
      go_wp2_with fail
      go_ret
      exact ⟨rfl, HW.out⟩
end Go.Proofs.Ythipneggplebcaa

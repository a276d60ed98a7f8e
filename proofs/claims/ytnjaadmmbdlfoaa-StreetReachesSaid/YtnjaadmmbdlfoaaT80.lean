/- The law of roads: the net without a road is as specified, and without it no place is reached earlier. No condition. -/
import Derived.Test.YtnjaadmmbdlfoaaT35
import Derived.Test.YtnjaadmmbdlfoaaT78
import Derived.Test.YtnjaadmmbdlfoaaT44
import Derived.Test.YtnjaadmmbdlfoaaT51
import Derived.Deep.CutBlock
namespace Go.Proofs.Ytnjaadmmbdlfoaa
open Go.RowKit Fs

theorem Fs.woErr_is (N : Net) (i : Int) : woErr N i = if netErr N = 0 then noRoad N i else netErr N := by
  unfold woErr
  by_cases h : netErr N = 0
  · rw [if_pos h, h]
    by_cases e : noRoad N i = 0
    · rw [e]; rfl
    · exact (fst_hit (k := 1) (n := 2) (by decide) (fun j hj => by
        obtain rfl : j = 0 := by omega
        rfl) e).1
  · rw [if_neg h]
    exact (fst_hit (k := 0) (n := 2) (by decide) (fun j hj => absurd hj (Nat.not_lt_zero _)) h).1
theorem Fs.est_fine {N : Net} {f t a : Int} (h0 : netErr N = 0) (h1 : tripErr N f t a = 0) : estimate N f t a = bound (search N f a (soonest N)).labels (search N f a (latest N)).labels t.toNat := by
  have : estErr N f t a = 0 := by unfold estErr; rw [h0, h1]; rfl
  unfold estimate
  rw [if_neg (Decidable.not_not.2 this)]
theorem Fs.trip_wo {N : Net} {r : Nat} {f t a : Int} : tripErr (withoutN N r) f t a = tripErr N f t a := rfl
/-- Without a road nobody arrives earlier. -/
theorem Fs.est_wo {N : Net} {r : Nat} (hE : netErr N = 0) (hr : r < N.roads.length) {f t a : Int} (hT : tripErr N f t a = 0) :
    (estimate (withoutN N r) f t a).2 = 12 ∨ ((estimate N f t a).2 = 0 ∧ (estimate (withoutN N r) f t a).2 = 0 ∧ (estimate N f t a).1.1 ≤ (estimate (withoutN N r) f t a).1.1 ∧ (estimate N f t a).1.2 ≤ (estimate (withoutN N r) f t a).1.2) := by
  have hE' := wo_right hE hr
  obtain ⟨hf, ht, ha⟩ := tripErr_ok hT
  have hf := isPlace_in hf
  have ht := isPlace_in ht
  have ha := timeErr_ok ha
  obtain ⟨F, hF⟩ : ∃ F : Nat, f = F := ⟨_, (Int.toNat_of_nonneg hf.1).symm⟩
  obtain ⟨T, hT'⟩ : ∃ T : Nat, t = T := ⟨_, (Int.toNat_of_nonneg ht.1).symm⟩
  rw [est_fine hE hT, est_fine hE' (by rw [trip_wo]; exact hT)]
  subst hF; subst hT'
  rw [Int.toNat_natCast]
  unfold bound
  by_cases c : listI (search (withoutN N r) F a (soonest (withoutN N r))).labels T = -1 ∨ listI (search (withoutN N r) F a (latest (withoutN N r))).labels T = -1
  · rw [if_pos c]; exact .inl rfl
  · rw [if_neg c]
    have c1 : listI (search (withoutN N r) F a (soonest (withoutN N r))).labels T ≠ -1 := fun h => c (.inl h)
    have c2 : listI (search (withoutN N r) F a (latest (withoutN N r))).labels T ≠ -1 := fun h => c (.inr h)
    have a1 := wo_less hE hr (soonest_good hE) (soonest_good hE') (wo_soonest N r) (by omega) ha.1 (by omega) c1
    have a2 := wo_less hE hr (latest_good hE) (latest_good hE') (wo_latest N r) (by omega) ha.1 (by omega) c2
    rw [if_neg (fun h => by rcases h with h | h; exact a1.1 h; exact a2.1 h)]
    exact .inr ⟨rfl, rfl, a1.2, a2.2⟩
theorem rdEmpty (w : World) : RdNet w (.agg #[.slice none 0 0, .slice none 0 0]) ⟨[], []⟩ :=
  ⟨none, none, 0, 0, ⟨fun _ => none, fun _ => 0⟩, rfl, ⟨⟨Nat.le_refl _, by decide, fun hh => absurd hh (by decide)⟩, ⟨Nat.le_refl _, by decide, fun hh => absurd hh (by decide)⟩, fun j hj => absurd hj (Nat.not_lt_zero _)⟩⟩

set_option linter.unusedSimpArgs false in
set_option maxHeartbeats 12800000 in
set_option maxRecDepth 100000 in
theorem law80_any (N : Net) (v : Value) (i f t a : Int) (w : World) (hN : RdNet w v N) :
    Calls Try.prog 4 #[v, .int .i64 i, stripV f t a] w fun e w' => e = .returned (.bool true) ∧ Below w.heap.size w w' := by
  have hN0 := Lib.hid hN
  obtain ⟨P, R, pc, rc, ar, rfl, mm⟩ := hN
  clear mm
  have BN := Lib.hid ((BoxN.new w N P R pc rc 25).keep (Keep.alloc _ (.cells #[.int .i64 f, .int .i64 t, .int .i64 a] 48)))
  have BT := Lib.hid (TripAt.new1 w (.cells #[.slice P N.places.length pc, .slice R N.roads.length rc] 25) f t a 48)
  go_enter Try.func4, Try.ntmps4
  go_upto_region 1 with fail
  generalize hwb : (w.alloc _).alloc _ = wb at *
  have HW : Hid (Below w.heap.size w wb) := by rw [← hwb]; exact Lib.hid (((Below.refl _ _).alloc (Nat.le_refl _) _).alloc (by simp) _)
  clear hwb
  obtain ⟨n0, n1⟩ := BN.out
  obtain ⟨c0, c1, c2⟩ := BT.out
  go_wp2_with fail
  refine (awake_any _).mono ?_
  rintro e' w1 ⟨rfl, hb1⟩
  replace HW := Lib.hid (HW.out.trans (hb1.mono HW.out.size))
  replace BN := Lib.hid (BN.out.keep (Keep.below hb1))
  replace BT := Lib.hid (BT.out.keep (Keep.below hb1))
  clear n0 n1 c0 c1 c2
  clear hb1
  obtain ⟨n0, n1⟩ := BN.out
  obtain ⟨c0, c1, c2⟩ := BT.out
  go_wp2_with fail
  refine (few_any N _ _ (hN0.out.keep (Keep.below HW.out))).mono ?_
  rintro e' wA ⟨rfl, hb1⟩
  replace HW := Lib.hid (HW.out.trans (hb1.mono HW.out.size))
  replace BN := Lib.hid (BN.out.keep (Keep.below hb1))
  replace BT := Lib.hid (BT.out.keep (Keep.below hb1))
  clear n0 n1 c0 c1 c2
  clear hb1
  cases hf : fewN N with
  | false =>
    go_wp2_with fail
    go_ret
    exact ⟨rfl, HW.out⟩
  | true =>
    have HL := Lib.hid (few_lens hf)
    clear hf
    obtain ⟨n0, n1⟩ := BN.out
    obtain ⟨c0, c1, c2⟩ := BT.out
    go_wp2_with fail
    refine (copyNet_any N _ _ (hN0.out.keep (Keep.below HW.out)) HL.out.1 HL.out.2.1 HL.out.2.2).mono ?_
    rintro e' wa1 ⟨va1, rfl, h3, hb1⟩
    replace HW := Lib.hid (HW.out.trans (hb1.mono HW.out.size))
    replace BN := Lib.hid (BN.out.keep (Keep.below hb1))
    replace BT := Lib.hid (BT.out.keep (Keep.below hb1))
    have HC1 := Lib.hid h3
    clear h3
    clear n0 n1 c0 c1 c2
    clear hb1
    obtain ⟨n0, n1⟩ := BN.out
    obtain ⟨c0, c1, c2⟩ := BT.out
    go_wp2_with fail
    refine (without_any N _ i _ HC1.out).mono ?_
    rintro e' wa2 ⟨va2, rfl, h3, hb1⟩
    replace HW := Lib.hid (HW.out.trans (hb1.mono HW.out.size))
    replace BN := Lib.hid (BN.out.keep (Keep.below hb1))
    replace BT := Lib.hid (BT.out.keep (Keep.below hb1))
    obtain ⟨PX, RX, px, rx, ax, rfl, mx⟩ := h3
    have HRX := Lib.hid (show RdNet wa2 (netV (woNet N i) PX RX px rx) (woNet N i) from ⟨PX, RX, px, rx, ax, rfl, mx⟩)
    have hpx := mx.places.le
    have hrx := mx.roads.le
    obtain ⟨hpx1, hpx2⟩ := hpx
    obtain ⟨hrx1, hrx2⟩ := hrx
    clear mx HC1
    clear n0 n1 c0 c1 c2
    clear hb1
    have BX := Lib.hid (BoxN.new wa2 (woNet N i) PX RX px rx 25)
    have HB3 : Below wa2.heap.size wa2 (wa2.alloc (.cells #[.slice PX (woNet N i).places.length px, .slice RX (woNet N i).roads.length rx] 25)) := (Below.refl _ _).alloc (Nat.le_refl _) _
    replace HRX := Lib.hid (HRX.out.keep (Keep.below HB3))
    go_upto_region 6 with fail
    obtain ⟨gx, hgx⟩ : ∃ gx, gx = wa2.heap.size := ⟨_, rfl⟩
    rw [← hgx] at BX ⊢
    replace HW := Lib.hid (HW.out.trans (HB3.mono HW.out.size))
    replace BN := Lib.hid (BN.out.keep (Keep.below HB3))
    replace BT := Lib.hid (BT.out.keep (Keep.below HB3))
    clear HB3
    clear hgx
    generalize wa2.alloc _ = wa3 at *
    obtain ⟨n0, n1⟩ := BN.out
    go_wp2_with fail
    refine (rNetErr_any N _ _ (hN0.out.keep (Keep.below HW.out))).mono ?_
    rintro e' w3 ⟨rfl, hb1⟩
    replace HW := Lib.hid (HW.out.trans (hb1.mono HW.out.size))
    replace BN := Lib.hid (BN.out.keep (Keep.below hb1))
    replace BT := Lib.hid (BT.out.keep (Keep.below hb1))
    replace BX := Lib.hid (BX.out.keep (Keep.below hb1))
    replace HRX := Lib.hid (HRX.out.keep (Keep.below hb1))
    clear n0 n1
    clear hb1
    by_cases he : netErr N = 0
    · have HE := Lib.hid he
      rw [he]
      clear he
      obtain ⟨n0, n1⟩ := BN.out
      go_wp2_with fail
      refine (rNoRoad_any N _ i _ (hN0.out.keep (Keep.below HW.out))).mono ?_
      rintro e' w4 ⟨rfl, hb1⟩
      replace HW := Lib.hid (HW.out.trans (hb1.mono HW.out.size))
      replace BN := Lib.hid (BN.out.keep (Keep.below hb1))
      replace BT := Lib.hid (BT.out.keep (Keep.below hb1))
      replace BX := Lib.hid (BX.out.keep (Keep.below hb1))
      replace HRX := Lib.hid (HRX.out.keep (Keep.below hb1))
      clear n0 n1
      clear hb1
      by_cases hr : noRoad N i = 0
      · have e3 : woErr N i = 0 := by rw [woErr_is, if_pos HE.out]; exact hr
        have hri := woErr_ok e3
        obtain ⟨-, hr0, hr1⟩ := hri
        have e4 : woNet N i = withoutN N i.toNat := if_pos e3
        rw [e4] at HRX BX hpx1 hrx1
        rw [e3, hr]
        obtain ⟨r, hX⟩ : ∃ r : Nat, i = r := ⟨_, (Int.toNat_of_nonneg hr0).symm⟩
        subst hX
        rw [Int.toNat_natCast] at *
        have hrl : r < N.roads.length := by omega
        clear hr e3 e4 hr0 hr1
        obtain ⟨n0, n1⟩ := BN.out
        obtain ⟨x0, x1⟩ := BX.out
        have HBd : Hid (Below w4.heap.size w4 w4.drew) := Lib.hid (Below.refl _ _).drew
        have MK : Hid (∀ w', Below w4.heap.size w4 w' → w'.cell? ⟨w.heap.size, 0, none⟩ = some (.slice P N.places.length pc) ∧ w'.cell? ⟨w.heap.size, 1, none⟩ = some (.slice R N.roads.length rc) ∧ w'.cell? ⟨gx, 0, none⟩ = some (.slice PX (withoutN N r).places.length px) ∧ w'.cell? ⟨gx, 1, none⟩ = some (.slice RX (withoutN N r).roads.length rx) ∧ Hid (Below w4.heap.size w4 w')) :=
          Lib.hid fun w' hw => ⟨Keep.below hw _ _ n0, Keep.below hw _ _ n1, Keep.below hw _ _ x0, Keep.below hw _ _ x1, Lib.hid hw⟩
        have KN : Hid (∀ w', Below w4.heap.size w4 w' → RdNet w' (netV N P R pc rc) N) := Lib.hid fun w' hw => (hN0.out.keep (Keep.below (HW.out.trans (hw.mono HW.out.size))))
        have KX : Hid (∀ w', Below w4.heap.size w4 w' → RdNet w' (netV (withoutN N r) PX RX px rx) (withoutN N r)) := Lib.hid fun w' hw => HRX.out.keep (Keep.below hw)
        go_wp2_with fail
        refine wp_region_held_drew (S := fun w' => w'.cell? ⟨w.heap.size, 0, none⟩ = some (.slice P N.places.length pc) ∧ w'.cell? ⟨w.heap.size, 1, none⟩ = some (.slice R N.roads.length rc) ∧ w'.cell? ⟨gx, 0, none⟩ = some (.slice PX (withoutN N r).places.length px) ∧ w'.cell? ⟨gx, 1, none⟩ = some (.slice RX (withoutN N r).roads.length rx) ∧ Hid (Below w4.heap.size w4 w')) (by kernel_rfl) (MK.out _ HBd.out) (fun hHeld => ?_)
        refine wpAnyH_take (i := 0) (v := ?val0x1) rfl (by kernel_rfl) (by kernel_rfl) (by kernel_rfl) (fun _ _ _ h => h) (Or.inl ⟨by rfl, fun w9 hS9 => ?yields0x1⟩) (by assumption) ?later0x1
        case yields0x1 =>
          dsimp only at hS9
          go_simp
          try with_reducible rfl
        try simp only [Act.put, List.getElem_toArray, List.getElem_cons_succ, List.getElem_cons_zero, List.setIfInBounds_toArray, List.set_cons_zero, List.set_cons_succ]
        refine wpAnyH_take (i := 1) (v := ?val1x2) rfl (by kernel_rfl) (by kernel_rfl) (by kernel_rfl) (fun _ _ _ h => h) (Or.inl ⟨by rfl, fun w9 hS9 => ?yields1x2⟩) (by assumption) ?later1x2
        case yields1x2 =>
          dsimp only at hS9
          go_simp
          try with_reducible rfl
        try simp only [Act.put, List.getElem_toArray, List.getElem_cons_succ, List.getElem_cons_zero, List.setIfInBounds_toArray, List.set_cons_zero, List.set_cons_succ]
        refine wpAnyH_take (i := 2) (v := ?val2x3) rfl (by kernel_rfl) (by kernel_rfl) (by kernel_rfl) (fun _ _ _ h => h) (Or.inl ⟨by rfl, fun w9 hS9 => ?yields2x3⟩) (by assumption) ?later2x3
        case yields2x3 =>
          dsimp only at hS9
          go_simp
          try with_reducible rfl
        try simp only [Act.put, List.getElem_toArray, List.getElem_cons_succ, List.getElem_cons_zero, List.setIfInBounds_toArray, List.set_cons_zero, List.set_cons_succ]
        refine wpAnyH_take (i := 3) (v := ?val3x4) rfl (by kernel_rfl) (by kernel_rfl) (by kernel_rfl) (fun _ _ _ h => h) (Or.inl ⟨by rfl, fun w9 hS9 => ?yields3x4⟩) (by assumption) ?later3x4
        case yields3x4 =>
          dsimp only at hS9
          go_simp
          try with_reducible rfl
        try simp only [Act.put, List.getElem_toArray, List.getElem_cons_succ, List.getElem_cons_zero, List.setIfInBounds_toArray, List.set_cons_zero, List.set_cons_succ]
        refine wpAnyH_take (i := 4) (v := ?val4x5) rfl (by kernel_rfl) (by kernel_rfl) (by kernel_rfl) (fun _ _ _ h => h) (Or.inl ⟨by rfl, fun w9 hS9 => ?yields4x5⟩) (by assumption) ?later4x5
        case yields4x5 =>
          dsimp only at hS9
          go_simp
          try with_reducible rfl
        try simp only [Act.put, List.getElem_toArray, List.getElem_cons_succ, List.getElem_cons_zero, List.setIfInBounds_toArray, List.set_cons_zero, List.set_cons_succ]
        refine wpAnyH_take (i := 5) (v := ?val5x6) rfl (by kernel_rfl) (by kernel_rfl) (by kernel_rfl) (fun _ _ _ h => h) (Or.inl ⟨by rfl, fun w9 hS9 => ?yields5x6⟩) (by assumption) ?later5x6
        case yields5x6 =>
          dsimp only at hS9
          go_simp
          try with_reducible rfl
        try simp only [Act.put, List.getElem_toArray, List.getElem_cons_succ, List.getElem_cons_zero, List.setIfInBounds_toArray, List.set_cons_zero, List.set_cons_succ]
        refine wpAnyH_ready (rs := [6]) (by kernel_rfl) (by simp) ?_
        refine AllReadyH.cons rfl (fun K hK => ?_) AllReadyH.nil
        go_simp
        go_split_ands
        refine (rWithout_any N _ r _ (KN.out _ (Hid.out (by assumption))) hrl HL.out.1 HL.out.2.1 HL.out.2.2).mono ?_
        rintro e' w5 ⟨v5, rfl, h5, hb1⟩
        replace h5 := Lib.hid h5
        go_wp2_with fail
        refine hK.out _ _ ?_ (fun hHeld => ?_)
        · (try dsimp only)
          (go_split_ands; exact MK.out _ (Below.trans (Hid.out (by assumption)) (hb1.mono (Hid.out (by assumption) : Below w4.heap.size w4 _).size)))
        clear hK K
        try simp only [Act.put, List.getElem_toArray, List.getElem_cons_succ, List.getElem_cons_zero, List.setIfInBounds_toArray, List.set_cons_zero, List.set_cons_succ]
        refine wpAnyH_ready (rs := [7]) (by kernel_rfl) (by simp) ?_
        refine AllReadyH.cons rfl (fun K hK => ?_) AllReadyH.nil
        go_simp
        go_split_ands
        refine (netSame_any (withoutN N r) _ _ _ (KX.out _ (Hid.out (by assumption))) h5.out).mono ?_
        rintro e' w6 ⟨rfl, hb1⟩
        go_wp2_with fail
        refine hK.out _ _ ?_ (fun hHeld => ?_)
        · (try dsimp only)
          (go_split_ands; exact MK.out _ (Below.trans (Hid.out (by assumption)) (hb1.mono (Hid.out (by assumption) : Below w4.heap.size w4 _).size)))
        clear hK K
        try simp only [Act.put, List.getElem_toArray, List.getElem_cons_succ, List.getElem_cons_zero, List.setIfInBounds_toArray, List.set_cons_zero, List.set_cons_succ]
        refine wpAnyH_take (i := 8) (v := ?val8x7) rfl (by kernel_rfl) (by kernel_rfl) (by kernel_rfl) (fun _ _ _ h => h) (Or.inl ⟨by rfl, fun w9 hS9 => ?yields8x7⟩) (by assumption) ?later8x7
        case yields8x7 =>
          dsimp only at hS9
          go_simp
          try with_reducible rfl
        try simp only [Act.put, List.getElem_toArray, List.getElem_cons_succ, List.getElem_cons_zero, List.setIfInBounds_toArray, List.set_cons_zero, List.set_cons_succ]
        refine wpAnyH_take (i := 9) (v := ?val9x8) rfl (by kernel_rfl) (by kernel_rfl) (by kernel_rfl) (fun _ _ _ h => h) (Or.inl ⟨by rfl, fun w9 hS9 => ?yields9x8⟩) (by assumption) ?later9x8
        case yields9x8 =>
          dsimp only at hS9
          go_simp
          try with_reducible rfl
        try simp only [Act.put, List.getElem_toArray, List.getElem_cons_succ, List.getElem_cons_zero, List.setIfInBounds_toArray, List.set_cons_zero, List.set_cons_succ]
        refine wpAnyH_done (by kernel_rfl) ?_ _
        have hb7 := hHeld.2.2.2.2.out
        clear hHeld n0 n1 x0 x1 MK KN KX HBd h5
        replace HW := Lib.hid (HW.out.trans (hb7.mono HW.out.size))
        replace BN := Lib.hid (BN.out.keep (Keep.below hb7))
        replace BT := Lib.hid (BT.out.keep (Keep.below hb7))
        replace BX := Lib.hid (BX.out.keep (Keep.below hb7))
        replace HRX := Lib.hid (HRX.out.keep (Keep.below hb7))
        clear hb7
        obtain ⟨n0, n1⟩ := BN.out
        obtain ⟨c0, c1, c2⟩ := BT.out
        go_wp2_with fail
        refine (rTripErr_any N _ f t a _ (hN0.out.keep (Keep.below HW.out))).mono ?_
        rintro e' wD ⟨rfl, hb1⟩
        replace HW := Lib.hid (HW.out.trans (hb1.mono HW.out.size))
        replace BN := Lib.hid (BN.out.keep (Keep.below hb1))
        replace BT := Lib.hid (BT.out.keep (Keep.below hb1))
        replace BX := Lib.hid (BX.out.keep (Keep.below hb1))
        replace HRX := Lib.hid (HRX.out.keep (Keep.below hb1))
        clear n0 n1 c0 c1 c2
        clear hb1
        by_cases ht : tripErr N f t a = 0
        · have HEST := Lib.hid (est_wo HE.out hrl ht)
          rw [ht]
          clear ht
          obtain ⟨n0, n1⟩ := BN.out
          obtain ⟨c0, c1, c2⟩ := BT.out
          go_wp2_with fail
          go_cut [10, 11] from 57 to 64 (fun s1 s2 wx => ∃ g : Nat, s1 = .pointer (some ⟨g, 0, none⟩) ∧ s2 = .int .i64 (estimate N f t a).2 ∧ wD.heap.size ≤ g ∧ Hid (TreeAt wx g (.int .i64 (estimate N f t a).1.1) (.int .i64 (estimate N f t a).1.2)) ∧ Hid (Below wD.heap.size wD wx))
          case first =>
            have HBd : Hid (Below wD.heap.size wD wD.drew) := Lib.hid (Below.refl _ _).drew
            have MK : Hid (∀ w', Below wD.heap.size wD w' → w'.cell? ⟨w.heap.size, 0, none⟩ = some (.slice P N.places.length pc) ∧ w'.cell? ⟨w.heap.size, 1, none⟩ = some (.slice R N.roads.length rc) ∧ w'.cell? ⟨w.heap.size + 1, 0, none⟩ = some (.int .i64 f) ∧ w'.cell? ⟨w.heap.size + 1, 1, none⟩ = some (.int .i64 t) ∧ w'.cell? ⟨w.heap.size + 1, 2, none⟩ = some (.int .i64 a) ∧ Hid (Below wD.heap.size wD w')) :=
              Lib.hid fun w' hw => ⟨Keep.below hw _ _ n0, Keep.below hw _ _ n1, Keep.below hw _ _ c0, Keep.below hw _ _ c1, Keep.below hw _ _ c2, Lib.hid hw⟩
            have KN : Hid (∀ w', Below wD.heap.size wD w' → RdNet w' (netV N P R pc rc) N) := Lib.hid fun w' hw => (hN0.out.keep (Keep.below (HW.out.trans (hw.mono HW.out.size))))
            go_region_held3 (fun w' => w'.cell? ⟨w.heap.size, 0, none⟩ = some (.slice P N.places.length pc) ∧ w'.cell? ⟨w.heap.size, 1, none⟩ = some (.slice R N.roads.length rc) ∧ w'.cell? ⟨w.heap.size + 1, 0, none⟩ = some (.int .i64 f) ∧ w'.cell? ⟨w.heap.size + 1, 1, none⟩ = some (.int .i64 t) ∧ w'.cell? ⟨w.heap.size + 1, 2, none⟩ = some (.int .i64 a) ∧ Hid (Below wD.heap.size wD w'))
              (first
                | exact MK.out _ HBd.out
                | (go_split_ands; exact ⟨by assumption, by assumption, by assumption, by assumption, by assumption, by assumption⟩)
                | (go_split_ands; exact MK.out _ (Below.trans (Hid.out (by assumption)) (hb1.mono (Hid.out (by assumption) : Below wD.heap.size wD _).size)))
                | (go_split_ands; exact MK.out _ (Below.alloc (Hid.out (by assumption)) (Hid.out (by assumption) : Below wD.heap.size wD _).size _))
                | (go_split_ands; exact MK.out _ (below_realloc (Hid.out (by assumption)) hle _))
                | (go_split_ands; exact MK.out _ (Below.setCell (Below.setCell (Hid.out (by assumption)) (by show wD.heap.size ≤ _; first | exact Nat.le_refl _ | assumption | omega | (simp; done) | (simp; omega)) _) (by show wD.heap.size ≤ _; first | exact Nat.le_refl _ | assumption | omega | (simp; done) | (simp; omega)) _)))
              ((first
                | (go_at_call 9
                   go_split_ands
                   refine (copyNet_any N _ _ (KN.out _ (Hid.out (by assumption))) HL.out.1 HL.out.2.1 HL.out.2.2).mono ?_
                   rintro e' wz5 ⟨v5, rfl, h5, hb1⟩
                   have hle := Nat.le_trans (Hid.out (by assumption) : Below wD.heap.size wD _).size hb1.size
                   have H5 := Lib.hid h5
                   clear h5
                   try (first
                     | (have HT0 := (HT.out.keep hb1 : TreeAt _ _ (.int .i64 0) (.int .i64 0)); (try simp only [size_drew] at HT0); (try simp only [World.size_alloc] at HT0); (try simp only [size_drew] at HT0); have HT := Lib.hid HT0; clear HT0; obtain ⟨q0, q1, qf0, qf1⟩ := HT.out)
                     | (have HT0 := ((TreeAt.new _ _ _ 55).keep hb1 : TreeAt _ _ (.int .i64 0) (.int .i64 0)); (try simp only [size_drew] at HT0); (try simp only [World.size_alloc] at HT0); (try simp only [size_drew] at HT0); have HT := Lib.hid HT0; clear HT0; obtain ⟨q0, q1, qf0, qf1⟩ := HT.out)
                     | (have HT0 := ((TreeAt.new _ _ _ 55).keepD hb1 : TreeAt _ _ (.int .i64 0) (.int .i64 0)); (try simp only [size_drew] at HT0); (try simp only [World.size_alloc] at HT0); (try simp only [size_drew] at HT0); have HT := Lib.hid HT0; clear HT0; obtain ⟨q0, q1, qf0, qf1⟩ := HT.out)))
                | (go_at_call 25
                   go_split_ands
                   refine (estimate_any N _ f t a _ (by first | exact H5.out | exact H5.out.keep (Keep.alloc _ _))).mono ?_
                   rintro e' wz7 ⟨rfl, hb1⟩
                   have hle := Nat.le_trans (Hid.out (by assumption) : Below wD.heap.size wD _).size hb1.size
                   try (first
                     | (have HT0 := (HT.out.keep hb1 : TreeAt _ _ (.int .i64 0) (.int .i64 0)); (try simp only [size_drew] at HT0); (try simp only [World.size_alloc] at HT0); (try simp only [size_drew] at HT0); have HT := Lib.hid HT0; clear HT0; obtain ⟨q0, q1, qf0, qf1⟩ := HT.out)
                     | (have HT0 := ((TreeAt.new _ _ _ 55).keep hb1 : TreeAt _ _ (.int .i64 0) (.int .i64 0)); (try simp only [size_drew] at HT0); (try simp only [World.size_alloc] at HT0); (try simp only [size_drew] at HT0); have HT := Lib.hid HT0; clear HT0; obtain ⟨q0, q1, qf0, qf1⟩ := HT.out)
                     | (have HT0 := ((TreeAt.new _ _ _ 55).keepD hb1 : TreeAt _ _ (.int .i64 0) (.int .i64 0)); (try simp only [size_drew] at HT0); (try simp only [World.size_alloc] at HT0); (try simp only [size_drew] at HT0); have HT := Lib.hid HT0; clear HT0; obtain ⟨q0, q1, qf0, qf1⟩ := HT.out)))))
            all_goals
              rename_i hS
              obtain ⟨-, -, -, -, -, hbb⟩ := hS
              go_wp2_with fail
              go_meet
              first
                | exact ⟨_, rfl, rfl, by omega, Lib.hid (TreeAt.new _ _ _ _), hbb⟩
                | exact ⟨_, rfl, rfl, by omega, Lib.hid (HT.out.set _ _), hbb⟩
          case rest =>
            obtain ⟨g, rfl, rfl, hg, HT, HB⟩ := hcut
            obtain ⟨wF, hwF⟩ : ∃ wz, wz = wc := ⟨_, rfl⟩
            subst hwF
            replace HW := Lib.hid (HW.out.trans (HB.out.mono HW.out.size))
            replace BN := Lib.hid (BN.out.keep (Keep.below HB.out))
            replace BT := Lib.hid (BT.out.keep (Keep.below HB.out))
            replace BX := Lib.hid (BX.out.keep (Keep.below HB.out))
            replace HRX := Lib.hid (HRX.out.keep (Keep.below HB.out))
            clear HB n0 n1 c0 c1 c2
            obtain ⟨c0, c1, c2⟩ := BT.out
            obtain ⟨x0, x1⟩ := BX.out
            go_wp2_with fail
            refine (estimate_any (withoutN N r) _ f t a _ HRX.out).mono ?_
            rintro e' w8 ⟨rfl, hb1⟩
            replace HW := Lib.hid (HW.out.trans (hb1.mono HW.out.size))
            replace BN := Lib.hid (BN.out.keep (Keep.below hb1))
            replace BT := Lib.hid (BT.out.keep (Keep.below hb1))
            replace BX := Lib.hid (BX.out.keep (Keep.below hb1))
            replace HRX := Lib.hid (HRX.out.keep (Keep.below hb1))
            replace HT := Lib.hid (HT.out.keep hb1)
            clear c0 c1 c2 x0 x1
            clear hb1
            generalize estimate N f t a = E1 at *
            generalize estimate (withoutN N r) f t a = E2 at *
            have HU := Lib.hid (TreeAt.new w8 (.int .i64 E2.1.1) (.int .i64 E2.1.2) 55)
            have hb8 : Below w8.heap.size w8 (w8.alloc (.cells #[.int .i64 E2.1.1, .int .i64 E2.1.2] 55)) := (Below.refl _ _).alloc (Nat.le_refl _) _
            replace HW := Lib.hid (HW.out.trans (hb8.mono HW.out.size))
            replace BN := Lib.hid (BN.out.keep (Keep.below hb8))
            replace BT := Lib.hid (BT.out.keep (Keep.below hb8))
            replace BX := Lib.hid (BX.out.keep (Keep.below hb8))
            replace HRX := Lib.hid (HRX.out.keep (Keep.below hb8))
            replace HT := Lib.hid (HT.out.keep hb8)
            clear hb8
            have hE := HEST.out
            clear HEST
            by_cases h12 : E2.2 = 12
            · have e1 : (E2.2 == 12) = true := by rw [h12]; rfl
              clear hE
              obtain ⟨t0, t1, -, -⟩ := HT.out
              obtain ⟨u0, u1, -, -⟩ := HU.out
              rw [h12]
              clear h12 e1
              go_wp2_with fail
              go_ret
              exact ⟨rfl, HW.out⟩
            · have e1 : (E2.2 == 12) = false := by simpa using h12
              rcases hE with hE | ⟨z1, z2, z3, z4⟩
              · exact absurd hE h12
              rw [z1, z2]
              clear h12 e1 z1 z2
              have l1 : decide (E1.1.1 ≤ E2.1.1) = true := decide_eq_true z3
              have l2 : decide (E1.1.2 ≤ E2.1.2) = true := decide_eq_true z4
              obtain ⟨t0, t1, -, -⟩ := HT.out
              obtain ⟨u0, u1, -, -⟩ := HU.out
              go_wp2_with fail
              go_ret
              exact ⟨rfl, HW.out⟩
        · have e1 : (tripErr N f t a != 0) = true := by simpa using ht
          clear ht
          go_wp2_with fail
          go_ret
          exact ⟨rfl, HW.out⟩
      · have e1 : (noRoad N i == 0) = false := by simpa using hr
        have e2 : (noRoad N i != 0) = true := by simpa using hr
        have e3 : woErr N i = noRoad N i := by rw [woErr_is]; exact if_pos HE.out
        have e4 : woNet N i = ⟨[], []⟩ := if_neg (by rw [e3]; exact hr)
        have e5 : (noRoad N i == noRoad N i) = true := by simp
        rw [e4] at HRX BX
        rw [e3]
        clear hr e3 e4
        obtain ⟨x0, x1⟩ := BX.out
        have x0 : w4.cell? ⟨gx, 0, none⟩ = some (.slice PX 0 px) := x0
        have x1 : w4.cell? ⟨gx, 1, none⟩ = some (.slice RX 0 rx) := x1
        go_wp2_with fail
        refine (netSame_any ⟨[], []⟩ _ _ _ HRX.out (rdEmpty _)).mono ?_
        rintro e' w9 ⟨rfl, hb1⟩
        replace HW := Lib.hid (HW.out.trans (hb1.mono HW.out.size))
        clear hb1 e1 e2 e5 x0 x1
        go_wp2_with fail
        go_ret
        exact ⟨rfl, HW.out⟩
    · have e1 : (netErr N == 0) = false := by simpa using he
      have e2 : (netErr N != 0) = true := by simpa using he
      have e3 : woErr N i = netErr N := by rw [woErr_is]; exact if_neg he
      have e4 : woNet N i = ⟨[], []⟩ := if_neg (by rw [e3]; exact he)
      have e5 : (netErr N == netErr N) = true := by simp
      rw [e4] at HRX BX
      rw [e3]
      clear he e3 e4
      obtain ⟨x0, x1⟩ := BX.out
      have x0 : w3.cell? ⟨gx, 0, none⟩ = some (.slice PX 0 px) := x0
      have x1 : w3.cell? ⟨gx, 1, none⟩ = some (.slice RX 0 rx) := x1
      go_wp2_with fail
      refine (netSame_any ⟨[], []⟩ _ _ _ HRX.out (rdEmpty _)).mono ?_
      rintro e' w9 ⟨rfl, hb1⟩
      replace HW := Lib.hid (HW.out.trans (hb1.mono HW.out.size))
      clear hb1 e1 e2 e5 x0 x1
      go_wp2_with fail
      go_ret
      exact ⟨rfl, HW.out⟩
end Go.Proofs.Ytnjaadmmbdlfoaa

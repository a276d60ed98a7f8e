/- The law of journeys: a trip whose length an estimate tells is surely allowed just if the latest arrival breaks no rule. No condition. -/
import Derived.Test.YtjmaankkbdpikaaT72
import Derived.Test.YtjmaankkbdpikaaT17
import Derived.Test.YtjmaankkbdpikaaT41
import Derived.Test.YtjmaankkbdpikaaT53
import Derived.Test.YtjmaankkbdpikaaT9
import Derived.Deep.CutBlock
namespace Go.Proofs.Ytjmaankkbdpikaa
open Go.RowKit Fs

set_option linter.unusedSimpArgs false in
set_option maxHeartbeats 12800000 in
set_option maxRecDepth 100000 in
theorem lawTravels_any (N : Net) (v : Value) (f t a : Int) (U : DRules) (w : World) (hN : RdNet w v N) :
    Calls Try.prog 3 #[v, stripV f t a, drulesV U] w fun e w' => e = .returned (.bool true) ∧ Below w.heap.size w w' := by
  have hN0 := Lib.hid hN
  obtain ⟨P, R, pc, rc, ar, rfl, mm⟩ := hN
  clear mm
  have BN := Lib.hid (((BoxN.new w N P R pc rc 25).keep (Keep.alloc _ (.cells #[.int .i64 f, .int .i64 t, .int .i64 a] 27))).keep (Keep.alloc _ (.cells #[.int .i64 U.brk, .int .i64 U.rest, .int .i64 U.stint, .int .i64 U.shift, .int .i64 U.week] 29)))
  have BT := Lib.hid ((TripAt.new1 w (.cells #[.slice P N.places.length pc, .slice R N.roads.length rc] 25) f t a 27).keep (Keep.alloc _ (.cells #[.int .i64 U.brk, .int .i64 U.rest, .int .i64 U.stint, .int .i64 U.shift, .int .i64 U.week] 29)))
  have BR := Lib.hid (show RulesIn (((w.alloc (.cells #[.slice P N.places.length pc, .slice R N.roads.length rc] 25)).alloc (.cells #[.int .i64 f, .int .i64 t, .int .i64 a] 27)).alloc (.cells #[.int .i64 U.brk, .int .i64 U.rest, .int .i64 U.stint, .int .i64 U.shift, .int .i64 U.week] 29)) (w.heap.size + 2) U from by
    have h := RulesIn.new ((w.alloc (.cells #[.slice P N.places.length pc, .slice R N.roads.length rc] 25)).alloc (.cells #[.int .i64 f, .int .i64 t, .int .i64 a] 27)) U 29
    simpa using h)
  go_enter Try.func3, Try.ntmps3
  go_upto_region 1 with fail
  generalize hwb : ((w.alloc _).alloc _).alloc _ = wb at *
  have HW : Hid (Below w.heap.size w wb) := by rw [← hwb]; exact Lib.hid ((((Below.refl _ _).alloc (Nat.le_refl _) _).alloc (by simp) _).alloc (by simp; omega) _)
  clear hwb
  obtain ⟨n0, n1⟩ := BN.out
  obtain ⟨c0, cc1, c2⟩ := BT.out
  obtain ⟨a0, a1, a2, a3, a4⟩ := BR.out
  go_wp2_with fail
  refine (lawDutied_any _).mono ?_
  rintro e' w1 ⟨rfl, hb1⟩
  replace HW := Lib.hid (HW.out.trans (hb1.mono HW.out.size))
  replace BN := Lib.hid (BN.out.keep (Keep.below hb1))
  replace BT := Lib.hid (BT.out.keep (Keep.below hb1))
  replace BR := Lib.hid (BR.out.keep (Keep.below hb1))
  clear n0 n1 c0 cc1 c2 a0 a1 a2 a3 a4
  clear hb1
  obtain ⟨n0, n1⟩ := BN.out
  obtain ⟨c0, cc1, c2⟩ := BT.out
  obtain ⟨a0, a1, a2, a3, a4⟩ := BR.out
  go_wp2_with fail
  refine (few_any N _ _ (hN0.out.keep (Keep.below HW.out))).mono ?_
  rintro e' w2 ⟨rfl, hb1⟩
  replace HW := Lib.hid (HW.out.trans (hb1.mono HW.out.size))
  replace BN := Lib.hid (BN.out.keep (Keep.below hb1))
  replace BT := Lib.hid (BT.out.keep (Keep.below hb1))
  replace BR := Lib.hid (BR.out.keep (Keep.below hb1))
  clear n0 n1 c0 cc1 c2 a0 a1 a2 a3 a4
  clear hb1
  cases hf : fewN N with
  | false =>
    go_wp2_with fail
    go_ret
    exact ⟨rfl, HW.out⟩
  | true =>
    have HL := Lib.hid (few_lens hf)
    clear hf
    obtain ⟨n0, n1⟩ := BN.out
    obtain ⟨c0, cc1, c2⟩ := BT.out
    obtain ⟨a0, a1, a2, a3, a4⟩ := BR.out
    go_wp2_with fail
    refine (rNetErr_any N _ _ (hN0.out.keep (Keep.below HW.out))).mono ?_
    rintro e' w3 ⟨rfl, hb1⟩
    replace HW := Lib.hid (HW.out.trans (hb1.mono HW.out.size))
    replace BN := Lib.hid (BN.out.keep (Keep.below hb1))
    replace BT := Lib.hid (BT.out.keep (Keep.below hb1))
    replace BR := Lib.hid (BR.out.keep (Keep.below hb1))
    clear n0 n1 c0 cc1 c2 a0 a1 a2 a3 a4
    clear hb1
    by_cases he : netErr N = 0
    · have HE := Lib.hid he
      rw [he]
      clear he
      obtain ⟨n0, n1⟩ := BN.out
      obtain ⟨c0, cc1, c2⟩ := BT.out
      obtain ⟨a0, a1, a2, a3, a4⟩ := BR.out
      go_wp2_with fail
      refine (rTripErr_any N _ f t a _ (hN0.out.keep (Keep.below HW.out))).mono ?_
      rintro e' w4 ⟨rfl, hb1⟩
      replace HW := Lib.hid (HW.out.trans (hb1.mono HW.out.size))
      replace BN := Lib.hid (BN.out.keep (Keep.below hb1))
      replace BT := Lib.hid (BT.out.keep (Keep.below hb1))
      replace BR := Lib.hid (BR.out.keep (Keep.below hb1))
      clear n0 n1 c0 cc1 c2 a0 a1 a2 a3 a4
      clear hb1
      by_cases ht : tripErr N f t a = 0
      · have hez := estErr_zero HE.out ht
        obtain ⟨hpf, hpt, hta⟩ := tripErr_ok ht
        rw [ht]
        clear ht
        obtain ⟨f0, f1⟩ := isPlace_in hpf
        obtain ⟨t0, t1⟩ := isPlace_in hpt
        have hta2 := timeErr_ok hta
        obtain ⟨X, hX⟩ : ∃ X : Nat, f = X := ⟨_, (Int.toNat_of_nonneg f0).symm⟩
        obtain ⟨Y, hY⟩ : ∃ Y : Nat, t = Y := ⟨_, (Int.toNat_of_nonneg t0).symm⟩
        subst hX; subst hY
        clear hpf hpt
        have hXl : X < N.places.length := by omega
        have hYl : Y < N.places.length := by omega
        have hpl := (net_sound HE.out).2.1
        have HTA := Lib.hid hta
        have HEZ := Lib.hid hez
        have HTE := Lib.hid (travel_est HE.out hXl hYl hta2.1 hez)
        obtain ⟨ta0, ta1⟩ := hta2
        clear f0 f1 t0 t1 hez hta
        obtain ⟨n0, n1⟩ := BN.out
        obtain ⟨c0, cc1, c2⟩ := BT.out
        obtain ⟨a0, a1, a2, a3, a4⟩ := BR.out
        go_wp2_with fail
        refine (rCheckRules_any U _).mono ?_
        rintro e' w5 ⟨rfl, hb1⟩
        replace HW := Lib.hid (HW.out.trans (hb1.mono HW.out.size))
        replace BN := Lib.hid (BN.out.keep (Keep.below hb1))
        replace BT := Lib.hid (BT.out.keep (Keep.below hb1))
        replace BR := Lib.hid (BR.out.keep (Keep.below hb1))
        clear n0 n1 c0 cc1 c2 a0 a1 a2 a3 a4
        clear hb1
        by_cases hr : drulesErr U = 0
        · have HR := Lib.hid hr
          rw [hr]
          clear hr
          obtain ⟨wA, hwA⟩ : ∃ wz, wz = w5 := ⟨_, rfl⟩
          subst hwA
          obtain ⟨n0, n1⟩ := BN.out
          obtain ⟨c0, cc1, c2⟩ := BT.out
          obtain ⟨a0, a1, a2, a3, a4⟩ := BR.out
          go_wp2_with fail
          go_cut [7, 8] from 40 to 45 (fun s1 s2 wx => ∃ g : Nat, s1 = .pointer (some ⟨g, 0, none⟩) ∧ s2 = .int .i64 (estimate N X Y a).2 ∧ wA.heap.size ≤ g ∧ Hid (TreeAt wx g (.int .i64 (estimate N X Y a).1.1) (.int .i64 (estimate N X Y a).1.2)) ∧ Hid (Below wA.heap.size wA wx))
          case first =>
            have HBd : Hid (Below wA.heap.size wA wA.drew) := Lib.hid (Below.refl _ _).drew
            have MK : Hid (∀ w', Below wA.heap.size wA w' → w'.cell? ⟨w.heap.size, 0, none⟩ = some (.slice P N.places.length pc) ∧ w'.cell? ⟨w.heap.size, 1, none⟩ = some (.slice R N.roads.length rc) ∧ w'.cell? ⟨w.heap.size + 1, 0, none⟩ = some (.int .i64 X) ∧ w'.cell? ⟨w.heap.size + 1, 1, none⟩ = some (.int .i64 Y) ∧ w'.cell? ⟨w.heap.size + 1, 2, none⟩ = some (.int .i64 a) ∧ w'.cell? ⟨w.heap.size + 2, 0, none⟩ = some (.int .i64 U.brk) ∧ w'.cell? ⟨w.heap.size + 2, 1, none⟩ = some (.int .i64 U.rest) ∧ w'.cell? ⟨w.heap.size + 2, 2, none⟩ = some (.int .i64 U.stint) ∧ w'.cell? ⟨w.heap.size + 2, 3, none⟩ = some (.int .i64 U.shift) ∧ w'.cell? ⟨w.heap.size + 2, 4, none⟩ = some (.int .i64 U.week) ∧ Hid (Below wA.heap.size wA w')) :=
              Lib.hid fun w' hw => ⟨Keep.below hw _ _ n0, Keep.below hw _ _ n1, Keep.below hw _ _ c0, Keep.below hw _ _ cc1, Keep.below hw _ _ c2, Keep.below hw _ _ a0, Keep.below hw _ _ a1, Keep.below hw _ _ a2, Keep.below hw _ _ a3, Keep.below hw _ _ a4, Lib.hid hw⟩
            have KN : Hid (∀ w', Below wA.heap.size wA w' → RdNet w' (netV N P R pc rc) N) := Lib.hid fun w' hw => (hN0.out.keep (Keep.below (HW.out.trans (hw.mono HW.out.size))))
            go_region_held3 (fun w' => w'.cell? ⟨w.heap.size, 0, none⟩ = some (.slice P N.places.length pc) ∧ w'.cell? ⟨w.heap.size, 1, none⟩ = some (.slice R N.roads.length rc) ∧ w'.cell? ⟨w.heap.size + 1, 0, none⟩ = some (.int .i64 X) ∧ w'.cell? ⟨w.heap.size + 1, 1, none⟩ = some (.int .i64 Y) ∧ w'.cell? ⟨w.heap.size + 1, 2, none⟩ = some (.int .i64 a) ∧ w'.cell? ⟨w.heap.size + 2, 0, none⟩ = some (.int .i64 U.brk) ∧ w'.cell? ⟨w.heap.size + 2, 1, none⟩ = some (.int .i64 U.rest) ∧ w'.cell? ⟨w.heap.size + 2, 2, none⟩ = some (.int .i64 U.stint) ∧ w'.cell? ⟨w.heap.size + 2, 3, none⟩ = some (.int .i64 U.shift) ∧ w'.cell? ⟨w.heap.size + 2, 4, none⟩ = some (.int .i64 U.week) ∧ Hid (Below wA.heap.size wA w'))
              (first
                | exact MK.out _ HBd.out
                | (go_split_ands; exact ⟨by assumption, by assumption, by assumption, by assumption, by assumption, by assumption, by assumption, by assumption, by assumption, by assumption, by assumption⟩)
                | (go_split_ands; exact MK.out _ (Below.trans (Hid.out (by assumption)) (hb1.mono (Hid.out (by assumption) : Below wA.heap.size wA _).size)))
                | (go_split_ands; exact MK.out _ (Below.alloc (Hid.out (by assumption)) (Hid.out (by assumption) : Below wA.heap.size wA _).size _))
                | (go_split_ands; exact MK.out _ (below_realloc (Hid.out (by assumption)) hle _))
                | (go_split_ands; exact MK.out _ (Below.setCell (Below.setCell (Hid.out (by assumption)) (by show wA.heap.size ≤ _; first | exact Nat.le_refl _ | assumption | omega | (simp; done) | (simp; omega)) _) (by show wA.heap.size ≤ _; first | exact Nat.le_refl _ | assumption | omega | (simp; done) | (simp; omega)) _)))
              ((first
                | (go_at_call 10
                   go_split_ands
                   refine (copyNet_any N _ _ (KN.out _ (Hid.out (by assumption))) HL.out.1 HL.out.2.1 HL.out.2.2).mono ?_
                   rintro e' wz5 ⟨v5, rfl, h5, hb1⟩
                   have hle := Nat.le_trans (Hid.out (by assumption) : Below wA.heap.size wA _).size hb1.size
                   have H5 := Lib.hid h5
                   clear h5
                   try (first
                     | (have HT0 := (HT.out.keep hb1 : TreeAt _ _ (.int .i64 0) (.int .i64 0)); (try simp only [size_drew] at HT0); (try simp only [World.size_alloc] at HT0); (try simp only [size_drew] at HT0); have HT := Lib.hid HT0; clear HT0; obtain ⟨q0, q1, qf0, qf1⟩ := HT.out)
                     | (have HT0 := ((TreeAt.new _ _ _ 36).keep hb1 : TreeAt _ _ (.int .i64 0) (.int .i64 0)); (try simp only [size_drew] at HT0); (try simp only [World.size_alloc] at HT0); (try simp only [size_drew] at HT0); have HT := Lib.hid HT0; clear HT0; obtain ⟨q0, q1, qf0, qf1⟩ := HT.out)
                     | (have HT0 := ((TreeAt.new _ _ _ 36).keepD hb1 : TreeAt _ _ (.int .i64 0) (.int .i64 0)); (try simp only [size_drew] at HT0); (try simp only [World.size_alloc] at HT0); (try simp only [size_drew] at HT0); have HT := Lib.hid HT0; clear HT0; obtain ⟨q0, q1, qf0, qf1⟩ := HT.out)))
                | (go_at_call 9
                   go_split_ands
                   refine (estimate_any N _ X Y a _ (by first | exact H5.out | exact H5.out.keep (Keep.alloc _ _))).mono ?_
                   rintro e' wz7 ⟨rfl, hb1⟩
                   have hle := Nat.le_trans (Hid.out (by assumption) : Below wA.heap.size wA _).size hb1.size
                   try (first
                     | (have HT0 := (HT.out.keep hb1 : TreeAt _ _ (.int .i64 0) (.int .i64 0)); (try simp only [size_drew] at HT0); (try simp only [World.size_alloc] at HT0); (try simp only [size_drew] at HT0); have HT := Lib.hid HT0; clear HT0; obtain ⟨q0, q1, qf0, qf1⟩ := HT.out)
                     | (have HT0 := ((TreeAt.new _ _ _ 36).keep hb1 : TreeAt _ _ (.int .i64 0) (.int .i64 0)); (try simp only [size_drew] at HT0); (try simp only [World.size_alloc] at HT0); (try simp only [size_drew] at HT0); have HT := Lib.hid HT0; clear HT0; obtain ⟨q0, q1, qf0, qf1⟩ := HT.out)
                     | (have HT0 := ((TreeAt.new _ _ _ 36).keepD hb1 : TreeAt _ _ (.int .i64 0) (.int .i64 0)); (try simp only [size_drew] at HT0); (try simp only [World.size_alloc] at HT0); (try simp only [size_drew] at HT0); have HT := Lib.hid HT0; clear HT0; obtain ⟨q0, q1, qf0, qf1⟩ := HT.out)))))
            all_goals
              rename_i hS
              obtain ⟨-, -, -, -, -, -, -, -, -, -, hbb⟩ := hS
              go_wp2_with fail
              go_meet
              first
                | exact ⟨_, rfl, rfl, by omega, Lib.hid (TreeAt.new _ _ _ _), hbb⟩
                | exact ⟨_, rfl, rfl, by omega, Lib.hid (HT.out.set _ _), hbb⟩
          case rest =>
            obtain ⟨gx, rfl, rfl, hg, HT, HB⟩ := hcut
            obtain ⟨wB, hwB⟩ : ∃ wz, wz = wc := ⟨_, rfl⟩
            subst hwB
            replace HW := Lib.hid (HW.out.trans (HB.out.mono HW.out.size))
            replace BN := Lib.hid (BN.out.keep (Keep.below HB.out))
            replace BT := Lib.hid (BT.out.keep (Keep.below HB.out))
            replace BR := Lib.hid (BR.out.keep (Keep.below HB.out))
            clear HB n0 n1 c0 cc1 c2 a0 a1 a2 a3 a4
            rcases HTE.out with hq | ⟨x, y, hq, hyl, hy1, hax, hxy, hyb⟩
            · rw [hq] at HT ⊢
              clear hq
              obtain ⟨n0, n1⟩ := BN.out
              obtain ⟨c0, cc1, c2⟩ := BT.out
              obtain ⟨a0, a1, a2, a3, a4⟩ := BR.out
              obtain ⟨t0, t1, -, -⟩ := HT.out
              go_wp2_with fail
              go_ret
              exact ⟨rfl, HW.out⟩
            · rw [hq] at HT ⊢
              have HYL := Lib.hid hyl
              have HY1 := Lib.hid hy1
              clear hq hyl hy1
              have hwy : IntKind.i64.wrap (y - a) = y - a := by rw [IntKind.wrap_i64]; omega
              have hwx : IntKind.i64.wrap (x - a) = x - a := by rw [IntKind.wrap_i64]; omega
              obtain ⟨n0, n1⟩ := BN.out
              obtain ⟨c0, cc1, c2⟩ := BT.out
              obtain ⟨a0, a1, a2, a3, a4⟩ := BR.out
              obtain ⟨t0, t1, -, -⟩ := HT.out
              go_wp2_with fail
              refine (bwithin_any _ _ _ _).mono ?_
              rintro e' w6 ⟨rfl, rfl⟩
              clear n0 n1 c0 cc1 c2 a0 a1 a2 a3 a4 t0 t1
              by_cases hin : a ≤ x ∧ x ≤ y
              · rw [show within x a y = true from Fs.within_iff.2 hin]
                by_cases hlong : y - a ≤ 200000
                · have l1 : decide (y - a > 200000) = false := decide_eq_false (by omega)
                  have l2 : decide (200000 < y - a) = false := decide_eq_false (by omega)
                  obtain ⟨n0, n1⟩ := BN.out
                  obtain ⟨c0, cc1, c2⟩ := BT.out
                  obtain ⟨a0, a1, a2, a3, a4⟩ := BR.out
                  obtain ⟨t0, t1, -, -⟩ := HT.out
                  go_wp2_with fail
                  refine (xAllowed_any U [] none 0 ⟨a, x - a, y - a, -1⟩ _ (by exact ⟨Nat.le_refl _, by omega, fun hh => absurd hh (by decide)⟩)).mono ?_
                  rintro e' w7 ⟨rfl, hb1⟩
                  replace HW := Lib.hid (HW.out.trans (hb1.mono HW.out.size))
                  replace BN := Lib.hid (BN.out.keep (Keep.below hb1))
                  replace BT := Lib.hid (BT.out.keep (Keep.below hb1))
                  replace BR := Lib.hid (BR.out.keep (Keep.below hb1))
                  replace HT := Lib.hid (HT.out.keep hb1)
                  have hSP := span_zero HR.out ta0 (by omega) (show 0 ≤ x - a by omega) (show x - a ≤ y - a by omega) hlong
                  rw [hSP]
                  clear hSP
                  clear n0 n1 c0 cc1 c2 a0 a1 a2 a3 a4 t0 t1
                  clear hb1
                  obtain ⟨n0, n1⟩ := BN.out
                  obtain ⟨c0, cc1, c2⟩ := BT.out
                  obtain ⟨a0, a1, a2, a3, a4⟩ := BR.out
                  obtain ⟨t0, t1, -, -⟩ := HT.out
                  go_wp2_with fail
                  refine (xLongest_any U [] none 0 a _ (by exact ⟨Nat.le_refl _, by omega, fun hh => absurd hh (by decide)⟩)).mono ?_
                  rintro e' w8 ⟨⟨n, rfl, hn⟩, hb1⟩
                  replace HW := Lib.hid (HW.out.trans (hb1.mono HW.out.size))
                  replace BN := Lib.hid (BN.out.keep (Keep.below hb1))
                  replace BT := Lib.hid (BT.out.keep (Keep.below hb1))
                  replace BR := Lib.hid (BR.out.keep (Keep.below hb1))
                  replace HT := Lib.hid (HT.out.keep hb1)
                  have hBZ := bare_zero HR.out ta0 (show a ≤ 8640000000 by omega)
                  have hLG := hn.good hBZ
                  have HYES := Lib.hid (span_yes HR.out ta0 (show a ≤ 8640000000 by omega) (show 0 ≤ x - a by omega) (show x - a ≤ y - a by omega) hlong hLG)
                  rw [hBZ]
                  clear hBZ hLG hn
                  generalize (allowedOut U [] ⟨a, x - a, y - a, -1⟩).1 = yes at *
                  generalize (allowedOut U [] ⟨a, x - a, y - a, -1⟩).2 = why at *
                  clear n0 n1 c0 cc1 c2 a0 a1 a2 a3 a4 t0 t1
                  clear hb1
                  by_cases hyes : y - a ≤ n
                  · have y1 : decide (y - a ≤ n) = true := decide_eq_true hyes
                    have hy2 : yes = 2 := HYES.out.2 hyes
                    subst hy2
                    clear HYES
                    obtain ⟨wC, hwC⟩ : ∃ wz, wz = w8 := ⟨_, rfl⟩
                    subst hwC
                    obtain ⟨n0, n1⟩ := BN.out
                    obtain ⟨c0, cc1, c2⟩ := BT.out
                    obtain ⟨a0, a1, a2, a3, a4⟩ := BR.out
                    obtain ⟨t0, t1, -, -⟩ := HT.out
                    go_wp2_with fail
                    go_cut [14, 15] from 124 to 129 (fun s1 s2 wx => ∃ (W1 : List Int) (A1 : Option Addr) (c1 : Nat), s1 = .slice A1 W1.length c1 ∧ s2 = .int .i64 (fastErr N (latest N) X Y a) ∧ Hid (ArrI wx A1 W1 c1) ∧ Hid (fastErr N (latest N) X Y a = 0 → Chain N (search N X a (latest N)).last (Y : Int).toNat W1.reverse) ∧ Hid (Below wC.heap.size wC wx))
                    case first =>
                      have HBd : Hid (Below wC.heap.size wC wC.drew) := Lib.hid (Below.refl _ _).drew
                      have MK : Hid (∀ w', Below wC.heap.size wC w' → w'.cell? ⟨w.heap.size, 0, none⟩ = some (.slice P N.places.length pc) ∧ w'.cell? ⟨w.heap.size, 1, none⟩ = some (.slice R N.roads.length rc) ∧ w'.cell? ⟨w.heap.size + 1, 0, none⟩ = some (.int .i64 X) ∧ w'.cell? ⟨w.heap.size + 1, 1, none⟩ = some (.int .i64 Y) ∧ w'.cell? ⟨w.heap.size + 1, 2, none⟩ = some (.int .i64 a) ∧ w'.cell? ⟨w.heap.size + 2, 0, none⟩ = some (.int .i64 U.brk) ∧ w'.cell? ⟨w.heap.size + 2, 1, none⟩ = some (.int .i64 U.rest) ∧ w'.cell? ⟨w.heap.size + 2, 2, none⟩ = some (.int .i64 U.stint) ∧ w'.cell? ⟨w.heap.size + 2, 3, none⟩ = some (.int .i64 U.shift) ∧ w'.cell? ⟨w.heap.size + 2, 4, none⟩ = some (.int .i64 U.week) ∧ w'.cell? ⟨gx, 0, none⟩ = some (.int .i64 x) ∧ w'.cell? ⟨gx, 1, none⟩ = some (.int .i64 y) ∧ Hid (Below wC.heap.size wC w')) :=
                        Lib.hid fun w' hw => ⟨Keep.below hw _ _ n0, Keep.below hw _ _ n1, Keep.below hw _ _ c0, Keep.below hw _ _ cc1, Keep.below hw _ _ c2, Keep.below hw _ _ a0, Keep.below hw _ _ a1, Keep.below hw _ _ a2, Keep.below hw _ _ a3, Keep.below hw _ _ a4, Keep.below hw _ _ t0, Keep.below hw _ _ t1, Lib.hid hw⟩
                      have KN : Hid (∀ w', Below wC.heap.size wC w' → RdNet w' (netV N P R pc rc) N) := Lib.hid fun w' hw => (hN0.out.keep (Keep.below (HW.out.trans (hw.mono HW.out.size))))
                      go_region_held3 (fun w' => w'.cell? ⟨w.heap.size, 0, none⟩ = some (.slice P N.places.length pc) ∧ w'.cell? ⟨w.heap.size, 1, none⟩ = some (.slice R N.roads.length rc) ∧ w'.cell? ⟨w.heap.size + 1, 0, none⟩ = some (.int .i64 X) ∧ w'.cell? ⟨w.heap.size + 1, 1, none⟩ = some (.int .i64 Y) ∧ w'.cell? ⟨w.heap.size + 1, 2, none⟩ = some (.int .i64 a) ∧ w'.cell? ⟨w.heap.size + 2, 0, none⟩ = some (.int .i64 U.brk) ∧ w'.cell? ⟨w.heap.size + 2, 1, none⟩ = some (.int .i64 U.rest) ∧ w'.cell? ⟨w.heap.size + 2, 2, none⟩ = some (.int .i64 U.stint) ∧ w'.cell? ⟨w.heap.size + 2, 3, none⟩ = some (.int .i64 U.shift) ∧ w'.cell? ⟨w.heap.size + 2, 4, none⟩ = some (.int .i64 U.week) ∧ w'.cell? ⟨gx, 0, none⟩ = some (.int .i64 x) ∧ w'.cell? ⟨gx, 1, none⟩ = some (.int .i64 y) ∧ Hid (Below wC.heap.size wC w'))
                        (first
                          | exact MK.out _ HBd.out
                          | (go_split_ands; exact ⟨by assumption, by assumption, by assumption, by assumption, by assumption, by assumption, by assumption, by assumption, by assumption, by assumption, by assumption, by assumption, by assumption⟩)
                          | (go_split_ands; exact MK.out _ (Below.trans (Hid.out (by assumption)) (hb1.mono (Hid.out (by assumption) : Below wC.heap.size wC _).size)))
                          | (go_split_ands; exact MK.out _ (Below.alloc (Hid.out (by assumption)) (Hid.out (by assumption) : Below wC.heap.size wC _).size _)))
                        ((first
                          | (go_at_call 10
                             go_split_ands
                             refine (copyNet_any N _ _ (KN.out _ (Hid.out (by assumption))) HL.out.1 HL.out.2.1 HL.out.2.2).mono ?_
                             rintro e' wz5 ⟨v5, rfl, h5, hb1⟩
                             have H5 := Lib.hid h5
                             clear h5)
                          | (go_at_call 14
                             go_split_ands
                             refine (fastL_any N _ X Y a _ (by first | exact H5.out | exact H5.out.keep (Keep.alloc _ _))).mono ?_
                             rintro e' wz7 ⟨Wn, An, cn, rfl, hn1, hn2, hn3, hb1⟩)))
                      all_goals
                        rename_i hS
                        obtain ⟨-, -, -, -, -, -, -, -, -, -, -, -, hbb⟩ := hS
                        go_wp2_with fail
                        go_meet
                        first
                          | exact ⟨Wn, An, cn, rfl, rfl, Lib.hid hn1, Lib.hid hn2, hbb⟩
                    case rest =>
                      obtain ⟨W1, A1, ca1, rfl, rfl, HA1, HC1, HB⟩ := hcut
                      obtain ⟨wD, hwD⟩ : ∃ wz, wz = wc := ⟨_, rfl⟩
                      subst hwD
                      replace HW := Lib.hid (HW.out.trans (HB.out.mono HW.out.size))
                      replace BN := Lib.hid (BN.out.keep (Keep.below HB.out))
                      replace BT := Lib.hid (BT.out.keep (Keep.below HB.out))
                      replace BR := Lib.hid (BR.out.keep (Keep.below HB.out))
                      replace HT := Lib.hid (HT.out.keep HB.out)
                      clear HB n0 n1 c0 cc1 c2 a0 a1 a2 a3 a4
                      clear t0 t1
                      have F2 : fastErr N (latest N) X Y a = 0 := by
                        unfold fastErr
                        rw [if_pos HEZ.out, Int.toNat_natCast, HYL.out, if_neg HY1.out]
                      have ch2 := HC1.out F2
                      rw [Int.toNat_natCast] at ch2
                      rw [F2]
                      clear F2 HC1
                      have S2 := Lib.hid (fast_way HE.out (latest_good HE.out) hXl hYl ta0 (by rw [HYL.out]; exact HY1.out) ch2)
                      clear ch2
                      have hwl := S2.out.2.2.2.2
                      have HAV := Lib.hid (show arrOf N W1 a = (arrivals N W1 a, 0) from if_pos (by
                        unfold avErr cwErr
                        rw [HE.out, if_pos rfl, S2.out.1, HTA.out]
                        rfl))
                      have HA2 := Lib.hid (show (arrivals N W1 a).2 = y from by rw [← HYL.out]; exact S2.out.2.2.1)
                      obtain ⟨n0, n1⟩ := BN.out
                      obtain ⟨c0, cc1, c2⟩ := BT.out
                      obtain ⟨a0, a1, a2, a3, a4⟩ := BR.out
                      obtain ⟨t0, t1, -, -⟩ := HT.out
                      go_wp2_with fail
                      go_cut [16, 17] from 133 to 140 (fun s1 s2 wx => ∃ g : Nat, s1 = .pointer (some ⟨g, 0, none⟩) ∧ s2 = .int .i64 (arrOf N W1 a).2 ∧ wD.heap.size ≤ g ∧ Hid (TreeAt wx g (.int .i64 (arrOf N W1 a).1.1) (.int .i64 (arrOf N W1 a).1.2)) ∧ Hid (Below wD.heap.size wD wx))
                      case first =>
                        have HBd : Hid (Below wD.heap.size wD wD.drew) := Lib.hid (Below.refl _ _).drew
                        have MK : Hid (∀ w', Below wD.heap.size wD w' → w'.cell? ⟨w.heap.size, 0, none⟩ = some (.slice P N.places.length pc) ∧ w'.cell? ⟨w.heap.size, 1, none⟩ = some (.slice R N.roads.length rc) ∧ w'.cell? ⟨w.heap.size + 1, 0, none⟩ = some (.int .i64 X) ∧ w'.cell? ⟨w.heap.size + 1, 1, none⟩ = some (.int .i64 Y) ∧ w'.cell? ⟨w.heap.size + 1, 2, none⟩ = some (.int .i64 a) ∧ w'.cell? ⟨w.heap.size + 2, 0, none⟩ = some (.int .i64 U.brk) ∧ w'.cell? ⟨w.heap.size + 2, 1, none⟩ = some (.int .i64 U.rest) ∧ w'.cell? ⟨w.heap.size + 2, 2, none⟩ = some (.int .i64 U.stint) ∧ w'.cell? ⟨w.heap.size + 2, 3, none⟩ = some (.int .i64 U.shift) ∧ w'.cell? ⟨w.heap.size + 2, 4, none⟩ = some (.int .i64 U.week) ∧ w'.cell? ⟨gx, 0, none⟩ = some (.int .i64 x) ∧ w'.cell? ⟨gx, 1, none⟩ = some (.int .i64 y) ∧ Hid (Below wD.heap.size wD w')) :=
                          Lib.hid fun w' hw => ⟨Keep.below hw _ _ n0, Keep.below hw _ _ n1, Keep.below hw _ _ c0, Keep.below hw _ _ cc1, Keep.below hw _ _ c2, Keep.below hw _ _ a0, Keep.below hw _ _ a1, Keep.below hw _ _ a2, Keep.below hw _ _ a3, Keep.below hw _ _ a4, Keep.below hw _ _ t0, Keep.below hw _ _ t1, Lib.hid hw⟩
                        have KN : Hid (∀ w', Below wD.heap.size wD w' → RdNet w' (netV N P R pc rc) N) := Lib.hid fun w' hw => (hN0.out.keep (Keep.below (HW.out.trans (hw.mono HW.out.size))))
                        have KA1 : Hid (∀ w', Below wD.heap.size wD w' → ArrI w' A1 W1 ca1) := Lib.hid fun w' hw => HA1.out.keep (Keep.below hw)
                        go_region_held3 (fun w' => w'.cell? ⟨w.heap.size, 0, none⟩ = some (.slice P N.places.length pc) ∧ w'.cell? ⟨w.heap.size, 1, none⟩ = some (.slice R N.roads.length rc) ∧ w'.cell? ⟨w.heap.size + 1, 0, none⟩ = some (.int .i64 X) ∧ w'.cell? ⟨w.heap.size + 1, 1, none⟩ = some (.int .i64 Y) ∧ w'.cell? ⟨w.heap.size + 1, 2, none⟩ = some (.int .i64 a) ∧ w'.cell? ⟨w.heap.size + 2, 0, none⟩ = some (.int .i64 U.brk) ∧ w'.cell? ⟨w.heap.size + 2, 1, none⟩ = some (.int .i64 U.rest) ∧ w'.cell? ⟨w.heap.size + 2, 2, none⟩ = some (.int .i64 U.stint) ∧ w'.cell? ⟨w.heap.size + 2, 3, none⟩ = some (.int .i64 U.shift) ∧ w'.cell? ⟨w.heap.size + 2, 4, none⟩ = some (.int .i64 U.week) ∧ w'.cell? ⟨gx, 0, none⟩ = some (.int .i64 x) ∧ w'.cell? ⟨gx, 1, none⟩ = some (.int .i64 y) ∧ Hid (Below wD.heap.size wD w'))
                          (first
                            | exact MK.out _ HBd.out
                            | (go_split_ands; exact ⟨by assumption, by assumption, by assumption, by assumption, by assumption, by assumption, by assumption, by assumption, by assumption, by assumption, by assumption, by assumption, by assumption⟩)
                            | (go_split_ands; exact MK.out _ (Below.trans (Hid.out (by assumption)) (hb1.mono (Hid.out (by assumption) : Below wD.heap.size wD _).size)))
                            | (go_split_ands; exact MK.out _ (Below.alloc (Hid.out (by assumption)) (Hid.out (by assumption) : Below wD.heap.size wD _).size _))
                            | (go_split_ands; exact MK.out _ (below_realloc (Hid.out (by assumption)) hle _))
                            | (go_split_ands; exact MK.out _ (Below.setCell (Below.setCell (Hid.out (by assumption)) (by show wD.heap.size ≤ _; first | exact Nat.le_refl _ | assumption | omega | (simp; done) | (simp; omega)) _) (by show wD.heap.size ≤ _; first | exact Nat.le_refl _ | assumption | omega | (simp; done) | (simp; omega)) _)))
                          ((first
                            | (go_at_call 10
                               go_split_ands
                               refine (copyNet_any N _ _ (KN.out _ (Hid.out (by assumption))) HL.out.1 HL.out.2.1 HL.out.2.2).mono ?_
                               rintro e' wz5 ⟨v5, rfl, h5, hb1⟩
                               have hle := Nat.le_trans (Hid.out (by assumption) : Below wD.heap.size wD _).size hb1.size
                               have H5 := Lib.hid h5
                               clear h5
                               try (first
                                 | (have HT0 := (HT.out.keep hb1 : TreeAt _ _ (.int .i64 0) (.int .i64 0)); (try simp only [size_drew] at HT0); (try simp only [World.size_alloc] at HT0); (try simp only [size_drew] at HT0); have HT := Lib.hid HT0; clear HT0; obtain ⟨q0, q1, qf0, qf1⟩ := HT.out)
                                 | (have HT0 := ((TreeAt.new _ _ _ 36).keep hb1 : TreeAt _ _ (.int .i64 0) (.int .i64 0)); (try simp only [size_drew] at HT0); (try simp only [World.size_alloc] at HT0); (try simp only [size_drew] at HT0); have HT := Lib.hid HT0; clear HT0; obtain ⟨q0, q1, qf0, qf1⟩ := HT.out)
                                 | (have HT0 := ((TreeAt.new _ _ _ 36).keepD hb1 : TreeAt _ _ (.int .i64 0) (.int .i64 0)); (try simp only [size_drew] at HT0); (try simp only [World.size_alloc] at HT0); (try simp only [size_drew] at HT0); have HT := Lib.hid HT0; clear HT0; obtain ⟨q0, q1, qf0, qf1⟩ := HT.out)))
                            | (go_at_call 15
                               go_split_ands
                               refine (arrOf_any N _ W1 A1 ca1 a _ (by first | exact H5.out | exact H5.out.keep (Keep.alloc _ _)) (KA1.out _ (Hid.out (by assumption)))).mono ?_
                               rintro e' wz7 ⟨rfl, hb1⟩
                               have hle := Nat.le_trans (Hid.out (by assumption) : Below wD.heap.size wD _).size hb1.size
                               try (first
                                 | (have HT0 := (HT.out.keep hb1 : TreeAt _ _ (.int .i64 0) (.int .i64 0)); (try simp only [size_drew] at HT0); (try simp only [World.size_alloc] at HT0); (try simp only [size_drew] at HT0); have HT := Lib.hid HT0; clear HT0; obtain ⟨q0, q1, qf0, qf1⟩ := HT.out)
                                 | (have HT0 := ((TreeAt.new _ _ _ 36).keep hb1 : TreeAt _ _ (.int .i64 0) (.int .i64 0)); (try simp only [size_drew] at HT0); (try simp only [World.size_alloc] at HT0); (try simp only [size_drew] at HT0); have HT := Lib.hid HT0; clear HT0; obtain ⟨q0, q1, qf0, qf1⟩ := HT.out)
                                 | (have HT0 := ((TreeAt.new _ _ _ 36).keepD hb1 : TreeAt _ _ (.int .i64 0) (.int .i64 0)); (try simp only [size_drew] at HT0); (try simp only [World.size_alloc] at HT0); (try simp only [size_drew] at HT0); have HT := Lib.hid HT0; clear HT0; obtain ⟨q0, q1, qf0, qf1⟩ := HT.out)))))
                        all_goals
                          rename_i hS
                          obtain ⟨-, -, -, -, -, -, -, -, -, -, -, -, hbb⟩ := hS
                          go_wp2_with fail
                          go_meet
                          first
                            | exact ⟨_, rfl, rfl, by omega, Lib.hid (TreeAt.new _ _ _ _), hbb⟩
                            | exact ⟨_, rfl, rfl, by omega, Lib.hid (HT2.out.set _ _), hbb⟩
                            | exact ⟨_, rfl, rfl, by omega, Lib.hid (HT.out.set _ _), hbb⟩
                      case rest =>
                        obtain ⟨gy, rfl, rfl, hgy, HT3, HB⟩ := hcut
                        obtain ⟨wE, hwE⟩ : ∃ wz, wz = wc := ⟨_, rfl⟩
                        subst hwE
                        replace HW := Lib.hid (HW.out.trans (HB.out.mono HW.out.size))
                        replace BN := Lib.hid (BN.out.keep (Keep.below HB.out))
                        replace BT := Lib.hid (BT.out.keep (Keep.below HB.out))
                        replace BR := Lib.hid (BR.out.keep (Keep.below HB.out))
                        replace HT := Lib.hid (HT.out.keep HB.out)
                        replace HA1 := Lib.hid (HA1.out.keep (Keep.below HB.out))
                        clear HB n0 n1 c0 cc1 c2 a0 a1 a2 a3 a4
                        clear t0 t1
                        rw [HAV.out] at HT3 ⊢
                        dsimp only at HT3 ⊢
                        rw [HA2.out] at HT3
                        generalize (arrivals N W1 a).1 = y0 at *
                        clear HAV HA2 S2
                        obtain ⟨n0, n1⟩ := BN.out
                        obtain ⟨c0, cc1, c2⟩ := BT.out
                        obtain ⟨a0, a1, a2, a3, a4⟩ := BR.out
                        obtain ⟨t0, t1, -, -⟩ := HT.out
                        obtain ⟨s0, s1, -, -⟩ := HT3.out
                        have ee1 : (y == y) = true := by simp
                        have ee3 : decide (y = y) = true := by simp
                        go_wp2_with fail
                        go_ret
                        exact ⟨rfl, HW.out⟩
                  · have y1 : decide (y - a ≤ n) = false := decide_eq_false hyes
                    have hy2 : ¬ yes = 2 := fun e => hyes (HYES.out.1 e)
                    have y2 : (yes == 2) = false := by simpa using hy2
                    have y3 : (yes != 2) = true := by rw [bne, y2]; rfl
                    clear HYES hy2
                    obtain ⟨wC, hwC⟩ : ∃ wz, wz = w8 := ⟨_, rfl⟩
                    subst hwC
                    obtain ⟨n0, n1⟩ := BN.out
                    obtain ⟨c0, cc1, c2⟩ := BT.out
                    obtain ⟨a0, a1, a2, a3, a4⟩ := BR.out
                    obtain ⟨t0, t1, -, -⟩ := HT.out
                    go_wp2_with fail
                    go_cut [14, 15] from 124 to 129 (fun s1 s2 wx => ∃ (W1 : List Int) (A1 : Option Addr) (c1 : Nat), s1 = .slice A1 W1.length c1 ∧ s2 = .int .i64 (fastErr N (latest N) X Y a) ∧ Hid (ArrI wx A1 W1 c1) ∧ Hid (fastErr N (latest N) X Y a = 0 → Chain N (search N X a (latest N)).last (Y : Int).toNat W1.reverse) ∧ Hid (Below wC.heap.size wC wx))
                    case first =>
                      have HBd : Hid (Below wC.heap.size wC wC.drew) := Lib.hid (Below.refl _ _).drew
                      have MK : Hid (∀ w', Below wC.heap.size wC w' → w'.cell? ⟨w.heap.size, 0, none⟩ = some (.slice P N.places.length pc) ∧ w'.cell? ⟨w.heap.size, 1, none⟩ = some (.slice R N.roads.length rc) ∧ w'.cell? ⟨w.heap.size + 1, 0, none⟩ = some (.int .i64 X) ∧ w'.cell? ⟨w.heap.size + 1, 1, none⟩ = some (.int .i64 Y) ∧ w'.cell? ⟨w.heap.size + 1, 2, none⟩ = some (.int .i64 a) ∧ w'.cell? ⟨w.heap.size + 2, 0, none⟩ = some (.int .i64 U.brk) ∧ w'.cell? ⟨w.heap.size + 2, 1, none⟩ = some (.int .i64 U.rest) ∧ w'.cell? ⟨w.heap.size + 2, 2, none⟩ = some (.int .i64 U.stint) ∧ w'.cell? ⟨w.heap.size + 2, 3, none⟩ = some (.int .i64 U.shift) ∧ w'.cell? ⟨w.heap.size + 2, 4, none⟩ = some (.int .i64 U.week) ∧ w'.cell? ⟨gx, 0, none⟩ = some (.int .i64 x) ∧ w'.cell? ⟨gx, 1, none⟩ = some (.int .i64 y) ∧ Hid (Below wC.heap.size wC w')) :=
                        Lib.hid fun w' hw => ⟨Keep.below hw _ _ n0, Keep.below hw _ _ n1, Keep.below hw _ _ c0, Keep.below hw _ _ cc1, Keep.below hw _ _ c2, Keep.below hw _ _ a0, Keep.below hw _ _ a1, Keep.below hw _ _ a2, Keep.below hw _ _ a3, Keep.below hw _ _ a4, Keep.below hw _ _ t0, Keep.below hw _ _ t1, Lib.hid hw⟩
                      have KN : Hid (∀ w', Below wC.heap.size wC w' → RdNet w' (netV N P R pc rc) N) := Lib.hid fun w' hw => (hN0.out.keep (Keep.below (HW.out.trans (hw.mono HW.out.size))))
                      go_region_held3 (fun w' => w'.cell? ⟨w.heap.size, 0, none⟩ = some (.slice P N.places.length pc) ∧ w'.cell? ⟨w.heap.size, 1, none⟩ = some (.slice R N.roads.length rc) ∧ w'.cell? ⟨w.heap.size + 1, 0, none⟩ = some (.int .i64 X) ∧ w'.cell? ⟨w.heap.size + 1, 1, none⟩ = some (.int .i64 Y) ∧ w'.cell? ⟨w.heap.size + 1, 2, none⟩ = some (.int .i64 a) ∧ w'.cell? ⟨w.heap.size + 2, 0, none⟩ = some (.int .i64 U.brk) ∧ w'.cell? ⟨w.heap.size + 2, 1, none⟩ = some (.int .i64 U.rest) ∧ w'.cell? ⟨w.heap.size + 2, 2, none⟩ = some (.int .i64 U.stint) ∧ w'.cell? ⟨w.heap.size + 2, 3, none⟩ = some (.int .i64 U.shift) ∧ w'.cell? ⟨w.heap.size + 2, 4, none⟩ = some (.int .i64 U.week) ∧ w'.cell? ⟨gx, 0, none⟩ = some (.int .i64 x) ∧ w'.cell? ⟨gx, 1, none⟩ = some (.int .i64 y) ∧ Hid (Below wC.heap.size wC w'))
                        (first
                          | exact MK.out _ HBd.out
                          | (go_split_ands; exact ⟨by assumption, by assumption, by assumption, by assumption, by assumption, by assumption, by assumption, by assumption, by assumption, by assumption, by assumption, by assumption, by assumption⟩)
                          | (go_split_ands; exact MK.out _ (Below.trans (Hid.out (by assumption)) (hb1.mono (Hid.out (by assumption) : Below wC.heap.size wC _).size)))
                          | (go_split_ands; exact MK.out _ (Below.alloc (Hid.out (by assumption)) (Hid.out (by assumption) : Below wC.heap.size wC _).size _)))
                        ((first
                          | (go_at_call 10
                             go_split_ands
                             refine (copyNet_any N _ _ (KN.out _ (Hid.out (by assumption))) HL.out.1 HL.out.2.1 HL.out.2.2).mono ?_
                             rintro e' wz5 ⟨v5, rfl, h5, hb1⟩
                             have H5 := Lib.hid h5
                             clear h5)
                          | (go_at_call 14
                             go_split_ands
                             refine (fastL_any N _ X Y a _ (by first | exact H5.out | exact H5.out.keep (Keep.alloc _ _))).mono ?_
                             rintro e' wz7 ⟨Wn, An, cn, rfl, hn1, hn2, hn3, hb1⟩)))
                      all_goals
                        rename_i hS
                        obtain ⟨-, -, -, -, -, -, -, -, -, -, -, -, hbb⟩ := hS
                        go_wp2_with fail
                        go_meet
                        first
                          | exact ⟨Wn, An, cn, rfl, rfl, Lib.hid hn1, Lib.hid hn2, hbb⟩
                    case rest =>
                      obtain ⟨W1, A1, ca1, rfl, rfl, HA1, HC1, HB⟩ := hcut
                      obtain ⟨wD, hwD⟩ : ∃ wz, wz = wc := ⟨_, rfl⟩
                      subst hwD
                      replace HW := Lib.hid (HW.out.trans (HB.out.mono HW.out.size))
                      replace BN := Lib.hid (BN.out.keep (Keep.below HB.out))
                      replace BT := Lib.hid (BT.out.keep (Keep.below HB.out))
                      replace BR := Lib.hid (BR.out.keep (Keep.below HB.out))
                      replace HT := Lib.hid (HT.out.keep HB.out)
                      clear HB n0 n1 c0 cc1 c2 a0 a1 a2 a3 a4
                      clear t0 t1
                      have F2 : fastErr N (latest N) X Y a = 0 := by
                        unfold fastErr
                        rw [if_pos HEZ.out, Int.toNat_natCast, HYL.out, if_neg HY1.out]
                      have ch2 := HC1.out F2
                      rw [Int.toNat_natCast] at ch2
                      rw [F2]
                      clear F2 HC1
                      have S2 := Lib.hid (fast_way HE.out (latest_good HE.out) hXl hYl ta0 (by rw [HYL.out]; exact HY1.out) ch2)
                      clear ch2
                      have hwl := S2.out.2.2.2.2
                      have HAV := Lib.hid (show arrOf N W1 a = (arrivals N W1 a, 0) from if_pos (by
                        unfold avErr cwErr
                        rw [HE.out, if_pos rfl, S2.out.1, HTA.out]
                        rfl))
                      have HA2 := Lib.hid (show (arrivals N W1 a).2 = y from by rw [← HYL.out]; exact S2.out.2.2.1)
                      obtain ⟨n0, n1⟩ := BN.out
                      obtain ⟨c0, cc1, c2⟩ := BT.out
                      obtain ⟨a0, a1, a2, a3, a4⟩ := BR.out
                      obtain ⟨t0, t1, -, -⟩ := HT.out
                      go_wp2_with fail
                      go_cut [16, 17] from 133 to 140 (fun s1 s2 wx => ∃ g : Nat, s1 = .pointer (some ⟨g, 0, none⟩) ∧ s2 = .int .i64 (arrOf N W1 a).2 ∧ wD.heap.size ≤ g ∧ Hid (TreeAt wx g (.int .i64 (arrOf N W1 a).1.1) (.int .i64 (arrOf N W1 a).1.2)) ∧ Hid (Below wD.heap.size wD wx))
                      case first =>
                        have HBd : Hid (Below wD.heap.size wD wD.drew) := Lib.hid (Below.refl _ _).drew
                        have MK : Hid (∀ w', Below wD.heap.size wD w' → w'.cell? ⟨w.heap.size, 0, none⟩ = some (.slice P N.places.length pc) ∧ w'.cell? ⟨w.heap.size, 1, none⟩ = some (.slice R N.roads.length rc) ∧ w'.cell? ⟨w.heap.size + 1, 0, none⟩ = some (.int .i64 X) ∧ w'.cell? ⟨w.heap.size + 1, 1, none⟩ = some (.int .i64 Y) ∧ w'.cell? ⟨w.heap.size + 1, 2, none⟩ = some (.int .i64 a) ∧ w'.cell? ⟨w.heap.size + 2, 0, none⟩ = some (.int .i64 U.brk) ∧ w'.cell? ⟨w.heap.size + 2, 1, none⟩ = some (.int .i64 U.rest) ∧ w'.cell? ⟨w.heap.size + 2, 2, none⟩ = some (.int .i64 U.stint) ∧ w'.cell? ⟨w.heap.size + 2, 3, none⟩ = some (.int .i64 U.shift) ∧ w'.cell? ⟨w.heap.size + 2, 4, none⟩ = some (.int .i64 U.week) ∧ w'.cell? ⟨gx, 0, none⟩ = some (.int .i64 x) ∧ w'.cell? ⟨gx, 1, none⟩ = some (.int .i64 y) ∧ Hid (Below wD.heap.size wD w')) :=
                          Lib.hid fun w' hw => ⟨Keep.below hw _ _ n0, Keep.below hw _ _ n1, Keep.below hw _ _ c0, Keep.below hw _ _ cc1, Keep.below hw _ _ c2, Keep.below hw _ _ a0, Keep.below hw _ _ a1, Keep.below hw _ _ a2, Keep.below hw _ _ a3, Keep.below hw _ _ a4, Keep.below hw _ _ t0, Keep.below hw _ _ t1, Lib.hid hw⟩
                        have KN : Hid (∀ w', Below wD.heap.size wD w' → RdNet w' (netV N P R pc rc) N) := Lib.hid fun w' hw => (hN0.out.keep (Keep.below (HW.out.trans (hw.mono HW.out.size))))
                        have KA1 : Hid (∀ w', Below wD.heap.size wD w' → ArrI w' A1 W1 ca1) := Lib.hid fun w' hw => HA1.out.keep (Keep.below hw)
                        go_region_held3 (fun w' => w'.cell? ⟨w.heap.size, 0, none⟩ = some (.slice P N.places.length pc) ∧ w'.cell? ⟨w.heap.size, 1, none⟩ = some (.slice R N.roads.length rc) ∧ w'.cell? ⟨w.heap.size + 1, 0, none⟩ = some (.int .i64 X) ∧ w'.cell? ⟨w.heap.size + 1, 1, none⟩ = some (.int .i64 Y) ∧ w'.cell? ⟨w.heap.size + 1, 2, none⟩ = some (.int .i64 a) ∧ w'.cell? ⟨w.heap.size + 2, 0, none⟩ = some (.int .i64 U.brk) ∧ w'.cell? ⟨w.heap.size + 2, 1, none⟩ = some (.int .i64 U.rest) ∧ w'.cell? ⟨w.heap.size + 2, 2, none⟩ = some (.int .i64 U.stint) ∧ w'.cell? ⟨w.heap.size + 2, 3, none⟩ = some (.int .i64 U.shift) ∧ w'.cell? ⟨w.heap.size + 2, 4, none⟩ = some (.int .i64 U.week) ∧ w'.cell? ⟨gx, 0, none⟩ = some (.int .i64 x) ∧ w'.cell? ⟨gx, 1, none⟩ = some (.int .i64 y) ∧ Hid (Below wD.heap.size wD w'))
                          (first
                            | exact MK.out _ HBd.out
                            | (go_split_ands; exact ⟨by assumption, by assumption, by assumption, by assumption, by assumption, by assumption, by assumption, by assumption, by assumption, by assumption, by assumption, by assumption, by assumption⟩)
                            | (go_split_ands; exact MK.out _ (Below.trans (Hid.out (by assumption)) (hb1.mono (Hid.out (by assumption) : Below wD.heap.size wD _).size)))
                            | (go_split_ands; exact MK.out _ (Below.alloc (Hid.out (by assumption)) (Hid.out (by assumption) : Below wD.heap.size wD _).size _))
                            | (go_split_ands; exact MK.out _ (below_realloc (Hid.out (by assumption)) hle _))
                            | (go_split_ands; exact MK.out _ (Below.setCell (Below.setCell (Hid.out (by assumption)) (by show wD.heap.size ≤ _; first | exact Nat.le_refl _ | assumption | omega | (simp; done) | (simp; omega)) _) (by show wD.heap.size ≤ _; first | exact Nat.le_refl _ | assumption | omega | (simp; done) | (simp; omega)) _)))
                          ((first
                            | (go_at_call 10
                               go_split_ands
                               refine (copyNet_any N _ _ (KN.out _ (Hid.out (by assumption))) HL.out.1 HL.out.2.1 HL.out.2.2).mono ?_
                               rintro e' wz5 ⟨v5, rfl, h5, hb1⟩
                               have hle := Nat.le_trans (Hid.out (by assumption) : Below wD.heap.size wD _).size hb1.size
                               have H5 := Lib.hid h5
                               clear h5
                               try (first
                                 | (have HT0 := (HT.out.keep hb1 : TreeAt _ _ (.int .i64 0) (.int .i64 0)); (try simp only [size_drew] at HT0); (try simp only [World.size_alloc] at HT0); (try simp only [size_drew] at HT0); have HT := Lib.hid HT0; clear HT0; obtain ⟨q0, q1, qf0, qf1⟩ := HT.out)
                                 | (have HT0 := ((TreeAt.new _ _ _ 36).keep hb1 : TreeAt _ _ (.int .i64 0) (.int .i64 0)); (try simp only [size_drew] at HT0); (try simp only [World.size_alloc] at HT0); (try simp only [size_drew] at HT0); have HT := Lib.hid HT0; clear HT0; obtain ⟨q0, q1, qf0, qf1⟩ := HT.out)
                                 | (have HT0 := ((TreeAt.new _ _ _ 36).keepD hb1 : TreeAt _ _ (.int .i64 0) (.int .i64 0)); (try simp only [size_drew] at HT0); (try simp only [World.size_alloc] at HT0); (try simp only [size_drew] at HT0); have HT := Lib.hid HT0; clear HT0; obtain ⟨q0, q1, qf0, qf1⟩ := HT.out)))
                            | (go_at_call 15
                               go_split_ands
                               refine (arrOf_any N _ W1 A1 ca1 a _ (by first | exact H5.out | exact H5.out.keep (Keep.alloc _ _)) (KA1.out _ (Hid.out (by assumption)))).mono ?_
                               rintro e' wz7 ⟨rfl, hb1⟩
                               have hle := Nat.le_trans (Hid.out (by assumption) : Below wD.heap.size wD _).size hb1.size
                               try (first
                                 | (have HT0 := (HT.out.keep hb1 : TreeAt _ _ (.int .i64 0) (.int .i64 0)); (try simp only [size_drew] at HT0); (try simp only [World.size_alloc] at HT0); (try simp only [size_drew] at HT0); have HT := Lib.hid HT0; clear HT0; obtain ⟨q0, q1, qf0, qf1⟩ := HT.out)
                                 | (have HT0 := ((TreeAt.new _ _ _ 36).keep hb1 : TreeAt _ _ (.int .i64 0) (.int .i64 0)); (try simp only [size_drew] at HT0); (try simp only [World.size_alloc] at HT0); (try simp only [size_drew] at HT0); have HT := Lib.hid HT0; clear HT0; obtain ⟨q0, q1, qf0, qf1⟩ := HT.out)
                                 | (have HT0 := ((TreeAt.new _ _ _ 36).keepD hb1 : TreeAt _ _ (.int .i64 0) (.int .i64 0)); (try simp only [size_drew] at HT0); (try simp only [World.size_alloc] at HT0); (try simp only [size_drew] at HT0); have HT := Lib.hid HT0; clear HT0; obtain ⟨q0, q1, qf0, qf1⟩ := HT.out)))))
                        all_goals
                          rename_i hS
                          obtain ⟨-, -, -, -, -, -, -, -, -, -, -, -, hbb⟩ := hS
                          go_wp2_with fail
                          go_meet
                          first
                            | exact ⟨_, rfl, rfl, by omega, Lib.hid (TreeAt.new _ _ _ _), hbb⟩
                            | exact ⟨_, rfl, rfl, by omega, Lib.hid (HT2.out.set _ _), hbb⟩
                            | exact ⟨_, rfl, rfl, by omega, Lib.hid (HT.out.set _ _), hbb⟩
                      case rest =>
                        obtain ⟨gy, rfl, rfl, hgy, HT3, HB⟩ := hcut
                        obtain ⟨wE, hwE⟩ : ∃ wz, wz = wc := ⟨_, rfl⟩
                        subst hwE
                        replace HW := Lib.hid (HW.out.trans (HB.out.mono HW.out.size))
                        replace BN := Lib.hid (BN.out.keep (Keep.below HB.out))
                        replace BT := Lib.hid (BT.out.keep (Keep.below HB.out))
                        replace BR := Lib.hid (BR.out.keep (Keep.below HB.out))
                        replace HT := Lib.hid (HT.out.keep HB.out)
                        replace HA1 := Lib.hid (HA1.out.keep (Keep.below HB.out))
                        clear HB n0 n1 c0 cc1 c2 a0 a1 a2 a3 a4
                        clear t0 t1
                        rw [HAV.out] at HT3 ⊢
                        dsimp only at HT3 ⊢
                        rw [HA2.out] at HT3
                        generalize (arrivals N W1 a).1 = y0 at *
                        clear HAV HA2 S2
                        obtain ⟨n0, n1⟩ := BN.out
                        obtain ⟨c0, cc1, c2⟩ := BT.out
                        obtain ⟨a0, a1, a2, a3, a4⟩ := BR.out
                        obtain ⟨t0, t1, -, -⟩ := HT.out
                        obtain ⟨s0, s1, -, -⟩ := HT3.out
                        have ee1 : (y == y) = true := by simp
                        have ee3 : decide (y = y) = true := by simp
                        go_wp2_with fail
                        go_ret
                        exact ⟨rfl, HW.out⟩
                · have l1 : decide (y - a > 200000) = true := decide_eq_true (by omega)
                  have l2 : decide (200000 < y - a) = true := decide_eq_true (by omega)
                  have l3 : decide (x ≥ a) = true := decide_eq_true hax
                  have l4 : decide (a ≤ x) = true := decide_eq_true hax
                  have l5 : decide (y ≥ x) = true := decide_eq_true hxy
                  have l6 : decide (x ≤ y) = true := decide_eq_true hxy
                  obtain ⟨n0, n1⟩ := BN.out
                  obtain ⟨c0, cc1, c2⟩ := BT.out
                  obtain ⟨a0, a1, a2, a3, a4⟩ := BR.out
                  obtain ⟨t0, t1, -, -⟩ := HT.out
                  go_wp2_with fail
                  go_ret
                  exact ⟨rfl, HW.out⟩
              · exact absurd ⟨hax, hxy⟩ hin
        · have e1 : (drulesErr U == 0) = false := by simpa using hr
          have e2 : (drulesErr U != 0) = true := by simpa using hr
          clear hr
          go_wp2_with fail
          go_ret
          exact ⟨rfl, HW.out⟩
      · have e1 : (tripErr N f t a == 0) = false := by simpa using ht
        have e2 : (tripErr N f t a != 0) = true := by simpa using ht
        clear ht
        go_wp2_with fail
        go_ret
        exact ⟨rfl, HW.out⟩
    · have e1 : (netErr N == 0) = false := by simpa using he
      have e2 : (netErr N != 0) = true := by simpa using he
      clear he
      go_wp2_with fail
      go_ret
      exact ⟨rfl, HW.out⟩
end Go.Proofs.Ytjmaankkbdpikaa

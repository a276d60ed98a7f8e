/- The law of true arrivals: the earliest one lies in the estimate. No condition. -/
import Derived.Test.YthipneggplebcaaT26
import Derived.Test.YthipneggplebcaaT68p
import Derived.Deep.CutBlock
import Derived.Shelf.RegionOpen
namespace Go.Proofs.Ythipneggplebcaa
open Go.RowKit Fs

theorem RowV.int' {w : World} {g : Nat} {l : List Int} (h : RowV w g 3 (l.map (Value.int .i64))) {i : Nat} (hi : i < l.length) : w.cell? ⟨g, i, none⟩ = some (.int .i64 (listI l i)) := h.int hi
theorem rep_at {n k : Nat} (h : k < n) : ((List.replicate k (-1 : Int) ++ List.replicate (n - k) (0 : Int)).map (Value.int .i64))[k]? = some (.int .i64 0) := by
  rw [List.getElem?_map, List.getElem?_append_right (by rw [List.length_replicate]; exact Nat.le_refl _), List.length_replicate, Nat.sub_self, List.getElem?_replicate, if_pos (by omega)]
  rfl
theorem rep_set {n k : Nat} (h : k < n) : ((List.replicate k (-1 : Int) ++ List.replicate (n - k) (0 : Int)).map (Value.int .i64)).set k (.int .i64 (-1)) = (List.replicate (k + 1) (-1 : Int) ++ List.replicate (n - (k + 1)) (0 : Int)).map (Value.int .i64) := by
  rw [← List.map_set, List.set_append_right _ _ (by rw [List.length_replicate]; exact Nat.le_refl _), List.length_replicate, Nat.sub_self, show n - k = (n - (k + 1)) + 1 by omega, List.replicate_succ, List.set_cons_zero, List.replicate_succ', List.append_assoc]
  rfl
theorem Fs.few_seven {N : Net} (h : fewN N = true) (hE : netErr N = 0) : N.places.length ≤ 7 := by
  obtain ⟨h1, -, -, -⟩ := fewN_is h
  have := (net_sound hE).2.1
  omega
set_option linter.unusedSimpArgs false in
set_option maxHeartbeats 12800000 in
set_option maxRecDepth 100000 in
theorem law69_any (N : Net) (v : Value) (f t a : Int) (l : List Int) (A : Option Addr) (c : Nat) (w : World) (hN : RdNet w v N) (hA : ArrI w A l c) :
    Calls Try.prog 15 #[v, stripV f t a, .slice A l.length c] w fun e w' => e = .returned (.bool true) ∧ Below w.heap.size w w' := by
  obtain ⟨i0, hi, hz0, hz1, hz2⟩ := info_parts Try.infoInt
  have hN0 := Lib.hid hN
  obtain ⟨P, R, pc, rc, ar, rfl, mm⟩ := hN
  have M := Lib.hid mm
  have rb1 := mm.roads.le.1
  have rb2 := mm.roads.le.2
  have pb1 := mm.places.le.1
  have pb2 := mm.places.le.2
  clear mm
  have HA := Lib.hid hA
  have b1 := hA.le
  obtain ⟨ba1, ba2⟩ := b1
  clear hA
  have BN := Lib.hid ((BoxN.new w N P R pc rc 25).keep (Keep.alloc _ (.cells #[.int .i64 f, .int .i64 t, .int .i64 a] 63)))
  have BT := Lib.hid (TripAt.new1 w (.cells #[.slice P N.places.length pc, .slice R N.roads.length rc] 25) f t a 63)
  go_enter Try.func15, Try.ntmps15
  go_upto_region 1 with fail
  generalize hwb : (w.alloc _).alloc _ = wb at *
  have HW : Hid (Below w.heap.size w wb) := by rw [← hwb]; exact Lib.hid (((Below.refl _ _).alloc (Nat.le_refl _) _).alloc (by simp) _)
  clear hwb
  obtain ⟨n0, n1⟩ := BN.out
  obtain ⟨c0, c1, c2⟩ := BT.out
  go_wp2_with fail
  refine (streeted_any _).mono ?_
  rintro e' w1 ⟨rfl, hb1⟩
  replace HW := Lib.hid (HW.out.trans (hb1.mono HW.out.size))
  replace BN := Lib.hid (BN.out.keep (Keep.below hb1))
  replace BT := Lib.hid (BT.out.keep (Keep.below hb1))
  clear n0 n1 c0 c1 c2
  clear hb1
  obtain ⟨n0, n1⟩ := BN.out
  obtain ⟨c0, c1, c2⟩ := BT.out
  go_wp2_with fail
  refine (few_any N _ _ (hN0.out.keep (Keep.below HW.out))).mono ?_
  rintro e' w2 ⟨rfl, hb1⟩
  replace HW := Lib.hid (HW.out.trans (hb1.mono HW.out.size))
  replace BN := Lib.hid (BN.out.keep (Keep.below hb1))
  replace BT := Lib.hid (BT.out.keep (Keep.below hb1))
  clear n0 n1 c0 c1 c2
  clear hb1
  cases hf : fewN N with
  | false =>
    go_wp2_with fail
    go_ret
    exact ⟨rfl, HW.out⟩
  | true =>
    have HL := Lib.hid (few_lens hf)
    obtain ⟨n0, n1⟩ := BN.out
    obtain ⟨c0, c1, c2⟩ := BT.out
    go_wp2_with fail
    refine (rNetErr_any N _ _ (hN0.out.keep (Keep.below HW.out))).mono ?_
    rintro e' w3 ⟨rfl, hb1⟩
    replace HW := Lib.hid (HW.out.trans (hb1.mono HW.out.size))
    replace BN := Lib.hid (BN.out.keep (Keep.below hb1))
    replace BT := Lib.hid (BT.out.keep (Keep.below hb1))
    clear n0 n1 c0 c1 c2
    clear hb1
    by_cases he : netErr N = 0
    · have HE := Lib.hid he
      have h7 := few_seven hf he
      rw [he]
      clear he hf
      obtain ⟨n0, n1⟩ := BN.out
      obtain ⟨c0, c1, c2⟩ := BT.out
      go_wp2_with fail
      refine (rTripErr_any N _ f t a _ (hN0.out.keep (Keep.below HW.out))).mono ?_
      rintro e' w4 ⟨rfl, hb1⟩
      replace HW := Lib.hid (HW.out.trans (hb1.mono HW.out.size))
      replace BN := Lib.hid (BN.out.keep (Keep.below hb1))
      replace BT := Lib.hid (BT.out.keep (Keep.below hb1))
      clear n0 n1 c0 c1 c2
      clear hb1
      by_cases ht : tripErr N f t a = 0
      · rw [ht]
        obtain ⟨hpf, hpt, hta⟩ := tripErr_ok ht
        clear ht
        obtain ⟨f0, f1⟩ := isPlace_in hpf
        obtain ⟨t0, t1⟩ := isPlace_in hpt
        have hta := timeErr_ok hta
        obtain ⟨X, hX⟩ : ∃ X : Nat, f = X := ⟨_, (Int.toNat_of_nonneg f0).symm⟩
        obtain ⟨Y, hY⟩ : ∃ Y : Nat, t = Y := ⟨_, (Int.toNat_of_nonneg t0).symm⟩
        subst hX; subst hY
        clear hpf hpt
        have hXl : X < N.places.length := by omega
        have hYl : Y < N.places.length := by omega
        clear f0 f1 t0 t1
        by_cases h5 : a ≤ 500000
        · have d1 : decide (a > 500000) = false := decide_eq_false (by omega)
          have d2 : decide (500000 < a) = false := decide_eq_false (by omega)
          by_cases hlr : l.length < N.roads.length
          · have d3 : decide ((l.length : Int) < (N.roads.length : Int)) = true := decide_eq_true (by omega)
            have d4 : decide (l.length < N.roads.length) = true := decide_eq_true hlr
            obtain ⟨n0, n1⟩ := BN.out
            obtain ⟨c0, c1, c2⟩ := BT.out
            go_wp2_with fail
            go_ret
            exact ⟨rfl, HW.out⟩
          · have d3 : decide ((l.length : Int) < (N.roads.length : Int)) = false := decide_eq_false (by omega)
            have d4 : decide (l.length < N.roads.length) = false := decide_eq_false hlr
            have hrl : N.roads.length ≤ l.length := by omega
            obtain ⟨n0, n1⟩ := BN.out
            obtain ⟨c0, c1, c2⟩ := BT.out
            have hpn : N.places.length ≠ 0 := by omega
            go_wp2_with (at_make; refine wpList_make_full _ rfl (.tmp 48) (.tmp 48) 47 rfl _ 3 i0 (.int .i64 0) 1 Try.underlying47 hi hz0 hz1 .i64 .i64 N.places.length N.places.length N.places.length rfl rfl rfl rfl (by rw [hz2]; omega) (by unfold maxLen; omega) (Nat.le_refl _) ?_)
            intro w5 hown hg2
            have HB2 : Hid (Below w4.heap.size w4 w5) := Lib.hid ⟨hg2.os, hg2.tape, hg2.output, hg2.size, fun k hk => hg2.block k hk (by simp)⟩
            have HR2 : Hid (RowV w5 w4.heap.size 3 ((List.replicate N.places.length (0 : Int)).map (Value.int .i64))) := Lib.hid (by
              have := (RowV.of_own hown).1
              rw [toList_madeCells_one] at this
              rw [List.map_replicate]
              exact this)
            obtain ⟨g, hg⟩ : ∃ g, g = w4.heap.size := ⟨_, rfl⟩
            have hwg : w.heap.size + 1 < g := by
              have := World.block_lt_of_cell? w4 _ BT.out.c0
              dsimp only at this
              omega
            have HW4 := Lib.hid (show w.heap.size ≤ w4.heap.size from HW.out.size)
            rw [← hg] at HR2 ⊢
            have HG := Lib.hid hg
            clear hg
            clear hown hg2 n0 n1 c0 c1 c2
            go_wp2_with fail
            go_loopw [8] (fun i wr => ∃ k : Nat, k ≤ N.places.length ∧ i = .int .i64 k ∧ Hid (RowV wr g 3 ((List.replicate k (-1 : Int) ++ List.replicate (N.places.length - k) (0 : Int)).map (Value.int .i64))) ∧ Hid (Below w4.heap.size w4 wr)) (fun i _ => N.places.length - (intOf i).toNat)
            case atStart => exact ⟨0, Nat.zero_le _, rfl, HR2, HB2⟩
            case round =>
              obtain ⟨k, hk, rfl, HR, HBk⟩ := hrel
              by_cases hlt : k < N.places.length
              · have hkn : (k : Int) < (N.places.length : Int) := by omega
                have x0 := HR.out.cell k
                rw [rep_at hlt] at x0
                have xf := HR.out.frozen k
                go_wp2_with fail
                go_roundw
                case rel => exact ⟨k + 1, by omega, by go_num, Lib.hid (by have := HR.out.set k (.int .i64 (-1)); rwa [rep_set hlt] at this), Lib.hid (HBk.out.setCell (p := ⟨g, k, none⟩) (by dsimp only; have := HG.out; omega) _)⟩
                case measure => simp [intOf]; omega
              · obtain rfl : k = N.places.length := by omega
                rw [Nat.sub_self, List.replicate_zero, List.append_nil] at HR
                clear hlt hk
                obtain ⟨c0, c1, c2⟩ := BT.out.keep (Keep.below HBk.out)
                have hXn : (X : Int) < (N.places.length : Int) := by omega
                have x0 := HR.out.cell X
                rw [List.getElem?_map, List.getElem?_replicate, if_pos hXl] at x0
                have x0 : wr.cell? ⟨g, X, none⟩ = some (.int .i64 (-1)) := x0
                have xf := HR.out.frozen X
                have HS0 : Hid (RowV (wr.setCell ⟨g, X, none⟩ (.int .i64 a)) g 3 (((List.replicate N.places.length (-1 : Int)).set X a).map (Value.int .i64))) := Lib.hid (by rw [List.map_set]; exact HR.out.set X (.int .i64 a))
                have HSB := Lib.hid (HBk.out.setCell (p := ⟨g, X, none⟩) (by dsimp only; have := HG.out; omega) (.int .i64 a))
                have HF := Lib.hid (lab_facts HE.out hXl hta.1 hta.2)
                obtain ⟨rk, htr⟩ := tree_of HE.out hXl hta.1
                have HTR := Lib.hid htr
                have FS := search_found (net_joined HE.out) (soonest_good HE.out) hXl hta.1
                have HLO := Lib.hid (Low.start (N := N) (S := (search N X a (soonest N)).labels) hta.1 h5 FS.own)
                have HUP := Lib.hid (Upto.start htr hta.1)
                have HST := Lib.hid FS.step
                have HBA := Lib.hid (show a + 7200 * N.places.length ≤ 604800 by omega)
                clear htr FS
                go_wp2_with fail
                clear c0 c1 c2 x0 xf
                generalize (search N X a (soonest N)).labels = S at *
                generalize (search N X a (latest N)).labels = L at *
                generalize (search N X a (latest N)).last = last at *
                generalize hws : wr.setCell _ _ = ws at *
                clear hws HR HBk
                go_loopw [9] (fun i wr => ∃ (r : Nat) (z : List Int), r ≤ N.places.length ∧ i = .int .i64 r ∧ Hid (Low N S z) ∧ Hid (Upto N L last rk r 0 z) ∧ Hid (RowV wr g 3 (z.map (Value.int .i64))) ∧ Hid (Below w4.heap.size w4 wr)) (fun i _ => N.places.length - (intOf i).toNat)
                case atStart => exact ⟨0, _, Nat.zero_le _, rfl, HLO, HUP, HS0, HSB⟩
                case round =>
                  obtain ⟨r, z, hr, rfl, HLOr, HUPr, HRr, HBr⟩ := hrel
                  obtain ⟨n0, n1⟩ := BN.out.keep (Keep.below HBr.out)
                  by_cases hrlt : r < N.places.length
                  · have hrn : (r : Int) < (N.places.length : Int) := by omega
                    obtain ⟨wo, hwo⟩ : ∃ wo : World, wo = wr := ⟨_, rfl⟩
                    subst hwo
                    go_wp2_with fail
                    clear n0 n1
                    go_loopw [10] (fun i wr => ∃ (k : Nat) (z : List Int), k ≤ N.roads.length ∧ i = .int .i64 k ∧ Hid (Low N S z) ∧ Hid (Upto N L last rk r k z) ∧ Hid (RowV wr g 3 (z.map (Value.int .i64))) ∧ Hid (Below w4.heap.size w4 wr)) (fun i _ => N.roads.length - (intOf i).toNat)
                    case atStart => exact ⟨0, z, Nat.zero_le _, rfl, HLOr, HUPr, HRr, HBr⟩
                    case round =>
                      clear HLOr HUPr HRr HBr
                      clear z
                      obtain ⟨k, z, hk, rfl, HLOk, HUPk, HRk, HBk⟩ := hrel
                      have HX := Lib.hid (HW.out.trans (HBk.out.mono HW4.out))
                      obtain ⟨n0, n1⟩ := BN.out.keep (Keep.below HBk.out)
                      by_cases hlt : k < N.roads.length
                      · have hkn : (k : Int) < (N.roads.length : Int) := by omega
                        have hrr := M.out.roads.keep (Keep.below HX.out)
                        obtain ⟨rb, ro, hRa, qq⟩ := hrr.at_ hlt
                        subst hRa
                        obtain ⟨x0, x1, x2, x3, x4⟩ := qq
                        have BX := Lib.hid (BoxD.new wr (listD N.roads k) (ar.p k) (ar.pc k) 45)
                        obtain ⟨⟨j0, s1⟩, j1, d1⟩ := net_joined HE.out k hlt
                        obtain ⟨s, hs1⟩ : ∃ s : Nat, (listD N.roads k).src = s := ⟨_, (Int.toNat_of_nonneg j0).symm⟩
                        obtain ⟨d, hd1⟩ : ∃ d : Nat, (listD N.roads k).dst = d := ⟨_, (Int.toNat_of_nonneg j1).symm⟩
                        have HSD := Lib.hid (And.intro hs1 hd1)
                        have sl : s < N.places.length := by omega
                        have dl : d < N.places.length := by omega
                        have HSN := Lib.hid (show (listD N.roads k).src.toNat = s ∧ (listD N.roads k).dst.toNat = d by omega)
                        have hkl : k < l.length := by omega
                        have hkln : (k : Int) < (l.length : Int) := by omega
                        obtain ⟨p0', hp0⟩ : ∃ q, pmod (listI l k) 1001 = q := ⟨_, rfl⟩
                        have hpin := pmod_in (listI l k) (show (0 : Int) < 1001 by decide)
                        rw [hp0] at hpin
                        have HPM := Lib.hid hp0
                        have HNL := Lib.hid (HLOk.out.step HE.out HST.out HF.out.s2 HF.out.s1 hlt hpin.1 (show p0' ≤ 1000 by omega))
                        have HNU := Lib.hid (HUPk.out.step HTR.out HLOk.out HE.out HBA.out hlt hpin.1 (show p0' ≤ 1000 by omega))
                        have HTS := Lib.hid (show tstep N k p0' z = if listI z s < 0 ∨ 604800 < listI z s then z else if listI z d < 0 ∨ listI z s + tt N k (listI z s) p0' < listI z d then z.set d (listI z s + tt N k (listI z s) p0') else z by
                          unfold tstep; rw [HSN.out.1, HSN.out.2])
                        have hzl := HLOk.out.len
                        have hbs := HLOk.out.big s sl
                        have hbd := HLOk.out.big d dl
                        clear hrr hs1 hd1 j0 j1 s1 d1 hp0
                        go_upto_region 18 with fail
                        generalize hw6 : wr.alloc _ = w6 at *
                        have hB6 : Below wr.heap.size wr w6 := by rw [← hw6]; exact (Below.refl _ _).alloc (Nat.le_refl _) _
                        clear hw6 x0 x1 x2 x3 x4 n0 n1
                        have HB6 := Lib.hid (HBk.out.trans (hB6.mono HBk.out.size))
                        have HX6 := Lib.hid (HX.out.trans (hB6.mono HX.out.size))
                        have HR6 := Lib.hid (HRk.out.keep hB6)
                        clear hB6 HRk
                        obtain ⟨x0, x1, x2, x3, x4⟩ := BX.out
                        rw [HSD.out.1] at x1
                        rw [HSD.out.2] at x2
                        have sn : (s : Int) < (N.places.length : Int) := by omega
                        have dn : (d : Int) < (N.places.length : Int) := by omega
                        have ls := HR6.out.int' (i := s) (by omega)
                        have ld := HR6.out.int' (i := d) (by omega)
                        obtain ⟨u, hu⟩ : ∃ u, listI z s = u := ⟨_, rfl⟩
                        obtain ⟨y, hy⟩ : ∃ y, listI z d = y := ⟨_, rfl⟩
                        rw [hu] at ls hbs HTS
                        rw [hy] at ld hbd HTS
                        clear hu hy
                        by_cases c1 : u < 0
                        · have F := Lib.hid (HTS.out.trans (if_pos (.inl c1)))
                          have e1 : decide (u < 0) = true := decide_eq_true c1
                          rw [F.out] at HNL HNU
                          clear c1 ld
                          go_wp2_with fail
                          go_roundw
                          case rel => exact ⟨k + 1, z, by omega, by go_num, HNL, HNU, HR6, HB6⟩
                          case measure => simp [intOf]; omega
                        · have e1 : decide (u < 0) = false := decide_eq_false c1
                          by_cases c2 : 604800 < u
                          · have F := Lib.hid (HTS.out.trans (if_pos (.inr c2)))
                            have e2 : decide (u > 604800) = true := decide_eq_true c2
                            have e3 : decide (604800 < u) = true := decide_eq_true c2
                            rw [F.out] at HNL HNU
                            clear c1 c2 ld
                            go_wp2_with fail
                            go_roundw
                            case rel => exact ⟨k + 1, z, by omega, by go_num, HNL, HNU, HR6, HB6⟩
                            case measure => simp [intOf]; omega
                          · have e2 : decide (u > 604800) = false := decide_eq_false c2
                            have e3 : decide (604800 < u) = false := decide_eq_false c2
                            have F0 := Lib.hid (HTS.out.trans (if_neg (fun h => h.elim c1 c2)))
                            have hu0 : 0 ≤ u := by omega
                            have hu1 : u ≤ 604800 := by omega
                            have htt := tt_soon HE.out hlt u hpin.1 (show p0' ≤ 1000 by omega)
                            obtain ⟨pb, po, hAe, y0⟩ := (HA.out.keep (Keep.below HX6.out)).at_ hkl
                            subst hAe
                            obtain ⟨n0, n1⟩ := BN.out.keep (Keep.below HB6.out)
                            clear c1 c2
                            go_wp2_with fail
                            obtain ⟨C, Ci, Co⟩ := classOf w6
                            refine quietC (C := C) (by kernel_rfl) (by kernel_rfl) (Co.out _ (Below.refl _ _).drew) ?_
                            repeat (first
                              | go_big_quiet_skip
                              | (go_big_quiet_want; go_big_quiet_op; go_big_quiet_on)
                              | (refine quiet_yes (by rfl) ?_
                                 apply Exists.intro
                                 refine ⟨fun w' hC => ?_, ?_⟩
                                 · have hbb := Ci.out _ hC
                                   have zz0 := Keep.below hbb _ _ n0
                                   have zz1 := Keep.below hbb _ _ n1
                                   have zz2 := Keep.below hbb _ _ x0
                                   have zz3 := Keep.below hbb _ _ x1
                                   have zz4 := Keep.below hbb _ _ x2
                                   have zz5 := Keep.below hbb _ _ x3
                                   have zz6 := Keep.below hbb _ _ x4
                                   have zz7 := Keep.below hbb _ _ ls
                                   have zz8 := Keep.below hbb _ _ y0
                                   go_simp
                                   first
                                     | done
                                     | rfl
                                     | (go_at_call 73
                                        refine (modAll_any _ _).mono ?_
                                        rintro e' w1 ⟨rfl, rfl⟩
                                        rw [HPM.out]
                                        exact ⟨rfl, hC⟩)
                                     | (go_at_call 72
                                        refine (streetTrue_any N _ k u p0' _ (hN0.out.keep (Keep.below (HX6.out.trans (hbb.mono HX6.out.size)))) HE.out HL.out hlt hu0 hu1 hpin.1 (by omega)).mono ?_
                                        rintro e' w1 ⟨rfl, hb1⟩
                                        exact ⟨rfl, Co.out _ (hbb.trans (hb1.mono hbb.size))⟩)
                                 simp only [Act.put, List.setIfInBounds_toArray, List.set_cons_zero, List.set_cons_succ]))
                            refine wpQuiet_nil ?_
                            intro w7 hC7
                            have hb7 := Ci.out _ hC7
                            have HX7 := Lib.hid (HX6.out.trans (hb7.mono HX6.out.size))
                            have HB7 := Lib.hid (HB6.out.trans (hb7.mono HB6.out.size))
                            have HR7 := Lib.hid (HR6.out.keep hb7)
                            replace x1 := Keep.below hb7 _ _ x1
                            replace x2 := Keep.below hb7 _ _ x2
                            replace ls := Keep.below hb7 _ _ ls
                            replace ld := Keep.below hb7 _ _ ld
                            have fd := HR7.out.frozen d
                            clear hb7 hC7 Ci Co C n0 n1 y0 x0 x3 x4
                            obtain ⟨e, he⟩ : ∃ e, tt N k u p0' = e := ⟨_, rfl⟩
                            rw [he] at htt F0 ⊢
                            have hwr : IntKind.i64.wrap (u + e) = u + e := by rw [IntKind.wrap_i64]; omega
                            clear he
                            by_cases c3 : y < 0
                            · have F := Lib.hid (F0.out.trans (if_pos (.inl c3)))
                              have e4 : decide (y < 0) = true := decide_eq_true c3
                              rw [F.out] at HNL HNU
                              clear c3
                              go_wp2_with fail
                              go_roundw
                              case rel => exact ⟨k + 1, _, by omega, by go_num, HNL, HNU, Lib.hid (by rw [List.map_set]; exact HR7.out.set d (.int .i64 (u + e))), Lib.hid (HB7.out.setCell (p := ⟨g, d, none⟩) (by dsimp only; have := HG.out; omega) _)⟩
                              case measure => simp [intOf]; omega
                            · have e4 : decide (y < 0) = false := decide_eq_false c3
                              by_cases c4 : u + e < y
                              · have F := Lib.hid (F0.out.trans (if_pos (.inr c4)))
                                have e5 : decide (u + e < y) = true := decide_eq_true c4
                                rw [F.out] at HNL HNU
                                clear c3 c4
                                go_wp2_with fail
                                go_roundw
                                case rel => exact ⟨k + 1, _, by omega, by go_num, HNL, HNU, Lib.hid (by rw [List.map_set]; exact HR7.out.set d (.int .i64 (u + e))), Lib.hid (HB7.out.setCell (p := ⟨g, d, none⟩) (by dsimp only; have := HG.out; omega) _)⟩
                                case measure => simp [intOf]; omega
                              · have F := Lib.hid (F0.out.trans (if_neg (fun h => h.elim c3 c4)))
                                have e5 : decide (u + e < y) = false := decide_eq_false c4
                                rw [F.out] at HNL HNU
                                clear c3 c4
                                go_wp2_with fail
                                go_roundw
                                case rel => exact ⟨k + 1, z, by omega, by go_num, HNL, HNU, HR7, HB7⟩
                                case measure => simp [intOf]; omega
                      · obtain rfl : k = N.roads.length := by omega
                        have HUR := Lib.hid (HUPk.out.round (fun v hv hn => by obtain ⟨i, h1, h2, -⟩ := HTR.out.edge v hv hn; omega))
                        clear hlt hk
                        go_wp2_with fail
                        go_roundw
                        case rel => exact ⟨r + 1, z, by omega, by go_num, HLOk, HUR, HRk, HBk⟩
                        case measure => simp [intOf]; omega
                  · obtain rfl : r = N.places.length := by omega
                    clear hrlt hr
                    have HX := Lib.hid (HW.out.trans (HBr.out.mono HW4.out))
                    obtain ⟨c0, c1, c2⟩ := BT.out.keep (Keep.below HBr.out)
                    obtain ⟨wD, hwD⟩ : ∃ wz, wz = wr := ⟨_, rfl⟩
                    subst hwD
                    have HW' := HX
                    go_wp2_with fail
                    go_cut [15, 16] from 143 to 150 (fun s1 s2 wx => ∃ g : Nat, s1 = .pointer (some ⟨g, 0, none⟩) ∧ s2 = .int .i64 (estimate N X Y a).2 ∧ wD.heap.size ≤ g ∧ Hid (TreeAt wx g (.int .i64 (estimate N X Y a).1.1) (.int .i64 (estimate N X Y a).1.2)) ∧ Hid (Below wD.heap.size wD wx))
                    case first =>
                      have HBd : Hid (Below wD.heap.size wD wD.drew) := Lib.hid (Below.refl _ _).drew
                      have MK : Hid (∀ w', Below wD.heap.size wD w' → w'.cell? ⟨w.heap.size, 0, none⟩ = some (.slice P N.places.length pc) ∧ w'.cell? ⟨w.heap.size, 1, none⟩ = some (.slice R N.roads.length rc) ∧ w'.cell? ⟨w.heap.size + 1, 0, none⟩ = some (.int .i64 X) ∧ w'.cell? ⟨w.heap.size + 1, 1, none⟩ = some (.int .i64 Y) ∧ w'.cell? ⟨w.heap.size + 1, 2, none⟩ = some (.int .i64 a) ∧ Hid (Below wD.heap.size wD w')) :=
                        Lib.hid fun w' hw => ⟨Keep.below hw _ _ n0, Keep.below hw _ _ n1, Keep.below hw _ _ c0, Keep.below hw _ _ c1, Keep.below hw _ _ c2, Lib.hid hw⟩
                      have KN : Hid (∀ w', Below wD.heap.size wD w' → RdNet w' (netV N P R pc rc) N) := Lib.hid fun w' hw => (hN0.out.keep (Keep.below (HX.out.trans (hw.mono HX.out.size))))
                      go_region_held3 (fun w' => w'.cell? ⟨w.heap.size, 0, none⟩ = some (.slice P N.places.length pc) ∧ w'.cell? ⟨w.heap.size, 1, none⟩ = some (.slice R N.roads.length rc) ∧ w'.cell? ⟨w.heap.size + 1, 0, none⟩ = some (.int .i64 X) ∧ w'.cell? ⟨w.heap.size + 1, 1, none⟩ = some (.int .i64 Y) ∧ w'.cell? ⟨w.heap.size + 1, 2, none⟩ = some (.int .i64 a) ∧ Hid (Below wD.heap.size wD w'))
                        (first
                          | exact MK.out _ HBd.out
                          | (go_split_ands; exact ⟨by assumption, by assumption, by assumption, by assumption, by assumption, by assumption⟩)
                          | (go_split_ands; exact MK.out _ (Below.trans (Hid.out (by assumption)) (hb1.mono (Hid.out (by assumption) : Below wD.heap.size wD _).size)))
                          | (go_split_ands; exact MK.out _ (Below.alloc (Hid.out (by assumption)) (Hid.out (by assumption) : Below wD.heap.size wD _).size _))
                          | (go_split_ands; exact MK.out _ (below_realloc (Hid.out (by assumption)) hle _))
                          | (go_split_ands; exact MK.out _ (Below.setCell (Below.setCell (Hid.out (by assumption)) (by show wD.heap.size ≤ _; first | exact Nat.le_refl _ | assumption | omega | (simp; done) | (simp; omega)) _) (by show wD.heap.size ≤ _; first | exact Nat.le_refl _ | assumption | omega | (simp; done) | (simp; omega)) _)))
                        ((first
                          | (go_at_call 21
                             go_split_ands
                             refine (copyNet_any N _ _ (KN.out _ (Hid.out (by assumption))) HL.out.1 HL.out.2.1 HL.out.2.2).mono ?_
                             rintro e' wz5 ⟨v5, rfl, h5, hb1⟩
                             have hle := Nat.le_trans (Hid.out (by assumption) : Below wD.heap.size wD _).size hb1.size
                             have H5 := Lib.hid h5
                             clear h5
                             try (first
                               | (have HT0 := (HT.out.keep hb1 : TreeAt _ _ (.int .i64 0) (.int .i64 0)); (try simp only [size_drew] at HT0); (try simp only [World.size_alloc] at HT0); (try simp only [size_drew] at HT0); have HT := Lib.hid HT0; clear HT0; obtain ⟨q0, q1, qf0, qf1⟩ := HT.out)
                               | (have HT0 := ((TreeAt.new _ _ _ 35).keep hb1 : TreeAt _ _ (.int .i64 0) (.int .i64 0)); (try simp only [size_drew] at HT0); (try simp only [World.size_alloc] at HT0); (try simp only [size_drew] at HT0); have HT := Lib.hid HT0; clear HT0; obtain ⟨q0, q1, qf0, qf1⟩ := HT.out)
                               | (have HT0 := ((TreeAt.new _ _ _ 35).keepD hb1 : TreeAt _ _ (.int .i64 0) (.int .i64 0)); (try simp only [size_drew] at HT0); (try simp only [World.size_alloc] at HT0); (try simp only [size_drew] at HT0); have HT := Lib.hid HT0; clear HT0; obtain ⟨q0, q1, qf0, qf1⟩ := HT.out)))
                          | (go_at_call 43
                             go_split_ands
                             refine (estimate_any N _ X Y a _ (by first | exact H5.out | exact H5.out.keep (Keep.alloc _ _))).mono ?_
                             rintro e' wz7 ⟨rfl, hb1⟩
                             have hle := Nat.le_trans (Hid.out (by assumption) : Below wD.heap.size wD _).size hb1.size
                             try (first
                               | (have HT0 := (HT.out.keep hb1 : TreeAt _ _ (.int .i64 0) (.int .i64 0)); (try simp only [size_drew] at HT0); (try simp only [World.size_alloc] at HT0); (try simp only [size_drew] at HT0); have HT := Lib.hid HT0; clear HT0; obtain ⟨q0, q1, qf0, qf1⟩ := HT.out)
                               | (have HT0 := ((TreeAt.new _ _ _ 35).keep hb1 : TreeAt _ _ (.int .i64 0) (.int .i64 0)); (try simp only [size_drew] at HT0); (try simp only [World.size_alloc] at HT0); (try simp only [size_drew] at HT0); have HT := Lib.hid HT0; clear HT0; obtain ⟨q0, q1, qf0, qf1⟩ := HT.out)
                               | (have HT0 := ((TreeAt.new _ _ _ 35).keepD hb1 : TreeAt _ _ (.int .i64 0) (.int .i64 0)); (try simp only [size_drew] at HT0); (try simp only [World.size_alloc] at HT0); (try simp only [size_drew] at HT0); have HT := Lib.hid HT0; clear HT0; obtain ⟨q0, q1, qf0, qf1⟩ := HT.out)))))
                      all_goals
                        rename_i hS
                        obtain ⟨-, -, -, -, -, hbb⟩ := hS
                        go_wp2_with fail
                        go_meet
                        first
                          | exact ⟨_, rfl, rfl, by omega, Lib.hid (TreeAt.new _ _ _ _), hbb⟩
                          | exact ⟨_, rfl, rfl, by omega, Lib.hid (HT.out.set _ _), hbb⟩
                    case rest =>
                      obtain ⟨u1, rfl, rfl, hg1, HV, HB⟩ := hcut
                      obtain ⟨wE, hwE⟩ : ∃ wz, wz = wc := ⟨_, rfl⟩
                      subst hwE
                      have HZ := Lib.hid (HX.out.trans (HB.out.mono HX.out.size))
                      have HRE := Lib.hid (HRr.out.keep HB.out)
                      replace c0 := Keep.below HB.out _ _ c0
                      replace c1 := Keep.below HB.out _ _ c1
                      replace c2 := Keep.below HB.out _ _ c2
                      clear HB n0 n1
                      have hest := HF.out.est Y hYl
                      have hdone := HUPr.out.done HTR.out hYl
                      have hlow := HLOr.out.le Y hYl
                      have hbig := HLOr.out.big Y hYl
                      have hYn : (Y : Int) < (N.places.length : Int) := by omega
                      have hzl := HLOr.out.len
                      have ls := HRE.out.int' (i := Y) (by omega)
                      obtain ⟨u, hu⟩ : ∃ u, listI z Y = u := ⟨_, rfl⟩
                      rw [hu] at ls hdone hlow hbig
                      clear hu
                      by_cases h0 : u < 0
                      · have hL : listI L Y = -1 := by
                          by_cases e : listI L Y = -1
                          · exact e
                          · have := (hdone e).1; omega
                        have hS : listI S Y = -1 := by
                          by_cases e : listI S Y = -1
                          · exact e
                          · exact absurd hL (HF.out.both2 Y hYl e)
                        have hb : bound S L Y = ((0, 0), 12) := if_pos (.inl hS)
                        rw [hest, hb]
                        have e1 : decide (u < 0) = true := decide_eq_true h0
                        clear hest hdone hlow hb hL hS h0
                        go_wp2_with fail
                        go_ret
                        exact ⟨rfl, HZ.out⟩
                      · obtain ⟨hs1, hs2⟩ := hlow.resolve_left (by omega)
                        have hl1 := HF.out.both2 Y hYl hs1
                        have hl2 := (hdone hl1).2
                        have hb : bound S L Y = ((listI S Y, listI L Y), 0) := if_neg (fun h => h.elim hs1 hl1)
                        rw [hest, hb] at HV
                        rw [hest, hb]
                        have e1 : decide (u < 0) = false := decide_eq_false h0
                        have Z := Lib.hid (Fs.within_iff.2 (And.intro hs2 hl2))
                        obtain ⟨v0, v1, -, -⟩ := HV.out
                        clear hest hdone hlow hb hs1 hs2 hl1 hl2 h0
                        generalize listI S Y = p at *
                        generalize listI L Y = q at *
                        go_wp2_with fail
                        obtain ⟨C, Ci, Co⟩ := classOf wE
                        refine quietC (C := C) (by kernel_rfl) (by kernel_rfl) (Co.out _ (Below.refl _ _).drew) ?_
                        repeat (first
                          | go_big_quiet_skip
                          | (go_big_quiet_want; go_big_quiet_op; go_big_quiet_on)
                          | (refine quiet_yes (by rfl) ?_
                             apply Exists.intro
                             refine ⟨fun w' hC => ?_, ?_⟩
                             · have hbb := Ci.out _ hC
                               have zz0 := Keep.below hbb _ _ c0
                               have zz1 := Keep.below hbb _ _ c1
                               have zz2 := Keep.below hbb _ _ c2
                               have zz3 := Keep.below hbb _ _ v0
                               have zz4 := Keep.below hbb _ _ v1
                               have zz5 := Keep.below hbb _ _ ls
                               go_simp
                               first
                                 | done
                                 | rfl
                                 | (go_at_call 36
                                    refine (bwithin_any _ _ _ _).mono ?_
                                    rintro e' w1 ⟨rfl, rfl⟩
                                    rw [Z.out]
                                    exact ⟨rfl, hC⟩)
                             simp only [Act.put, List.setIfInBounds_toArray, List.set_cons_zero, List.set_cons_succ]))
                        refine wpQuiet_nil ?_
                        intro wF hC1
                        have HQ2 := Lib.hid (Ci.out _ hC1)
                        go_wp2
                        go_ret
                        exact ⟨rfl, HZ.out.trans (HQ2.out.mono HZ.out.size)⟩
        · have d1 : decide (a > 500000) = true := decide_eq_true (by omega)
          have d2 : decide (500000 < a) = true := decide_eq_true (by omega)
          clear h5
          obtain ⟨c0, c1, c2⟩ := BT.out
          go_wp2_with fail
          go_ret
          exact ⟨rfl, HW.out⟩
      · have e1 : (tripErr N f t a == 0) = false := by simpa using ht
        have e2 : (tripErr N f t a != 0) = true := by simpa using ht
        clear ht
        go_wp2_with fail
        go_ret
        exact ⟨rfl, HW.out⟩
    · have e1 : (netErr N == 0) = false := by simpa using he
      have e2 : (netErr N != 0) = true := by simpa using he
      clear he hf
      go_wp2_with fail
      go_ret
      exact ⟨rfl, HW.out⟩
end Go.Proofs.Ythipneggplebcaa

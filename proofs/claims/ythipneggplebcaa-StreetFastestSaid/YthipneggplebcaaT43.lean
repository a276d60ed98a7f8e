/- The reference's labels: going on along all roads as long as something becomes less. Conditions: the net is right; the time is small. -/
import Derived.Test.YthipneggplebcaaN2
import Derived.Test.YthipneggplebcaaT31
import Derived.Test.YthipneggplebcaaT36
import Derived.Test.YthipneggplebcaaT20
import Derived.Test.YthipneggplebcaaWQ
import Derived.Deep.LoopGhost
namespace Go.Proofs.Ythipneggplebcaa
open Go.RowKit Fs

theorem intVals_get {l : List Int} {i : Nat} (h : i < l.length) (ys : List Value) : (intVals l ++ ys)[i]? = some (.int .i64 (listI l i)) := by
  unfold intVals
  rw [List.getElem?_append_left (by simpa using h), List.getElem?_map, List.getElem?_eq_getElem h, listI_get h]
  rfl
theorem RowV.at_ {w : World} {g : Nat} {t : TypeId} {l : List Int} {ys : List Value} (h : RowV w g t (intVals l ++ ys)) {i : Nat} (hi : i < l.length) : w.cell? ⟨g, i, none⟩ = some (.int .i64 (listI l i)) := (h.cell i).trans (intVals_get hi ys)
theorem RowV.put {w : World} {g : Nat} {t : TypeId} {l : List Int} {ys : List Value} (h : RowV w g t (intVals l ++ ys)) {i : Nat} (hi : i < l.length) (x : Int) : RowV (w.setCell ⟨g, i, none⟩ (.int .i64 x)) g t (intVals (l.set i x) ++ ys) := by
  have := h.set i (.int .i64 x)
  rwa [List.set_append_left _ _ (by simpa [intVals] using hi), show (intVals l).set i (.int .i64 x) = intVals (l.set i x) by simp [intVals, List.map_set]] at this
theorem RowV.arr {w : World} {g c : Nat} {t : TypeId} {l : List Int} {ys : List Value} (h : RowV w g t (intVals l ++ ys)) (h1 : l.length ≤ c) (h2 : c ≤ maxLen) : ArrI w (some ⟨g, 0, none⟩) l c := by
  refine ⟨h1, by unfold maxLen at h2; omega, fun _ => ⟨g, 0, rfl, fun i j hi hj => ?_⟩⟩
  have hj0 : j = 0 := by omega
  subst hj0
  rw [show 0 + i * 1 + 0 = i by omega]
  exact h.at_ hi
theorem ownRow {w : World} {base : Nat} {t : TypeId} {v : Value} {l : List Int} (h : w.ownsRow base t 1 v l.length (intVals l)) (hl : 0 < l.length) :
    ∃ g c ys, v = .slice (some ⟨g, 0, none⟩) l.length c ∧ base ≤ g ∧ l.length ≤ c ∧ c ≤ maxLen ∧ RowV w g t (intVals l ++ ys) := by
  rcases h.2 with ⟨hv, hn⟩ | ⟨g, cap, cur, hv, hb, hh, h1, h2, h3, h4⟩
  · omega
  · refine ⟨g, cap, cur.toList.drop l.length, hv, hb, h1, h2, ?_⟩
    unfold RowV
    rw [← h4, Nat.mul_one, List.take_append_drop]
    exact hh
theorem rep_snoc (k : Nat) (x : Int) : List.replicate (k + 1) x = List.replicate k x ++ [x] := List.replicate_succ'
theorem Fs.left2_le (M : Int) (l : List Int) : 0 ≤ left2 M l := Nat.zero_le _

set_option maxHeartbeats 6400000 in
set_option maxRecDepth 100000 in
theorem rSoon_any (N : Net) (v : Value) (src : Nat) (L : Int) (w : World) (hN : RdNet w v N) (hE : netErr N = 0) (hs : src < N.places.length) (hL0 : 0 ≤ L) (hL1 : L ≤ 1000000) :
    Calls Try.prog 97 #[v, .int .i64 src, .int .i64 L, .bool false] w fun e w' => ∃ g c, e = .returned (.slice (some ⟨g, 0, none⟩) N.places.length c) ∧ w.heap.size ≤ g ∧ ArrI w' (some ⟨g, 0, none⟩) (search N src L (soonest N)).labels c ∧ Below w.heap.size w w' := by
  obtain ⟨i0, hi, hz0, hz1, hz2⟩ := info_parts Try.infoInt
  have hN0 := Lib.hid hN
  obtain ⟨P, R, pc, rc, ar, rfl, m⟩ := hN
  have M := Lib.hid m
  have rb1 := m.roads.le.1
  have rb2 := m.roads.le.2
  have pb1 := m.places.le.1
  have pb2 := m.places.le.2
  clear m
  have HE := Lib.hid hE
  have HS := Lib.hid (net_sound hE)
  have n20 := (net_sound hE).2.1
  have HJ := Lib.hid (net_joined hE)
  have HG := Lib.hid (soonest_good hE)
  have HSM := Lib.hid (soonest_small hE)
  clear hE
  have BN := Lib.hid (BoxN.new w N P R pc rc 25)
  go_enter Try.func97, Try.ntmps97
  go_upto_region 1 with fail
  generalize hwb : w.alloc _ = wb at *
  have HW : Hid (Below w.heap.size w wb) := by rw [← hwb]; exact Lib.hid ((Below.refl _ _).alloc (Nat.le_refl _) _)
  have HLT : Hid (w.heap.size < wb.heap.size) := by rw [← hwb]; exact Lib.hid (by simp)
  clear hwb
  go_wp2_with fail
  go_loopw [9, 10] (fun u i wr => ∃ k : Nat, k ≤ N.places.length ∧ i = .int .i64 k ∧ Hid (wr.ownsRow wb.heap.size 3 1 u (List.replicate k (-1 : Int)).length (intVals (List.replicate k (-1)))) ∧ Hid (Below wb.heap.size wb wr)) (fun _ i _ => N.places.length - (intOf i).toNat)
  case atStart => exact ⟨0, Nat.zero_le _, rfl, Lib.hid (World.ownsRow_nil _ _ _ _), Lib.hid (Below.refl _ _)⟩
  case round =>
    obtain ⟨k, hk, rfl, HO, HB⟩ := hrel
    obtain ⟨n0, n1⟩ := BN.out.keep (Keep.below HB.out)
    by_cases hlt : k < N.places.length
    · have hkn : (k : Int) < (N.places.length : Int) := by omega
      have hlen : (List.replicate k (-1 : Int)).length = k := by simp
      have hws : wb.heap.size ≤ wr.heap.size := HB.out.size
      go_wp2_with (at_builtin; refine wpList_append_own _ rfl (.tmp 22) (.tmp 23) 47 rfl wb.heap.size 3 i0 (.int .i64 0) 1 8 Try.underlying47 hi hz0 hz1 hz2 rfl (by decide) _ _ _ rfl (HO.out.alloc _) ⟨wr.heap.size, 0, none⟩ 1 1 [.int .i64 (-1)] rfl rfl ?c1 ?c2 ?c3 ?c4 ?c5 ?_)
      case c1 => exact news0 _ _ _
      case c2 => exact oneInt _
      case c3 => unfold maxLen; omega
      case c4 => omega
      case c5 => simp; omega
      intro v2 w2 hown2 hg2 _
      have HB2 := Lib.hid ((HB.out.alloc hws _).grown hg2 (by simp; omega) (fun j hj => (HO.out.lt j hj).1))
      have HO2 : Hid (w2.ownsRow wb.heap.size 3 1 v2 (List.replicate (k + 1) (-1 : Int)).length (intVals (List.replicate (k + 1) (-1)))) := by
        rw [rep_snoc, intVals_snoc, List.length_append, List.length_replicate]
        exact Lib.hid hown2
      clear hown2 hg2 hlen
      go_wp2_with fail
      go_roundw
      case rel => exact ⟨k + 1, by omega, by go_num, HO2, HB2⟩
      case measure => simp [intOf]; omega
    · obtain rfl : k = N.places.length := by omega
      clear hlt hk
      obtain ⟨g, c, ys, hv, hg, hc1, hc2, hrow⟩ := ownRow HO.out (by rw [List.length_replicate]; omega)
      subst hv
      rw [List.length_replicate] at hc1 ⊢
      have HG1 := Lib.hid hg
      have HC := Lib.hid (And.intro hc1 hc2)
      have hm := hc2
      unfold maxLen at hm
      have a0 := hrow.at_ (i := src) (by rw [List.length_replicate]; exact hs)
      have f0 := hrow.frozen src
      have HR := Lib.hid (hrow.put (i := src) (by rw [List.length_replicate]; exact hs) L)
      have hsn : (src : Int) < (N.places.length : Int) := by omega
      clear hrow hg
      go_wp2_with fail
      have HB3 := Lib.hid (HB.out.setCell (p := ⟨g, src, none⟩) HG1.out (.int .i64 L))
      generalize hw0 : wr.setCell _ _ = w0 at *
      clear hw0 a0 f0 n0 n1 HB HO hsn
      have HT := Lib.hid (Told2.start HJ.out HG.out hs hL0)
      go_loopg [11] (2 * left2 (L + 1900000) ((List.replicate N.places.length (-1)).set src L) + 1) (fun q u wr => ∃ (l : List Int) (b : Bool), u = .bool b ∧ Hid (q = 2 * left2 (L + 1900000) l + b.toNat) ∧ Hid (Told2 N (soonest N) src L l) ∧ Hid (b = false → Shut2 N (soonest N) l N.roads.length) ∧ Hid (RowV wr g 3 (intVals l ++ ys)) ∧ Hid (Below wb.heap.size wb wr))
      case atStart => exact ⟨_, true, rfl, Lib.hid rfl, HT, Lib.hid (fun h => by cases h), HR, HB3⟩
      case round =>
        obtain ⟨l, b, rfl, HQ, HTl, HCl, HRl, HBl⟩ := hrel
        clear HT HR HB3
        cases b with
        | false =>
          have F := Lib.hid (HTl.out.done HJ.out HG.out hs hL0 (HCl.out rfl))
          have hl := HTl.out.len
          have A := Lib.hid (HRl.out.arr (c := c) (by rw [hl]; exact HC.out.1) HC.out.2)
          have hwg : w.heap.size ≤ g := Nat.le_trans HW.out.size HG1.out
          clear hl
          go_wp2_with fail
          go_ret
          exact ⟨g, c, rfl, hwg, by rw [← F.out]; exact A.out, HW.out.trans (HBl.out.mono HW.out.size)⟩
        | true =>
          go_wp2_with fail
          go_loopw [11, 12] (fun u i wr => ∃ (l' : List Int) (b' : Bool) (k : Nat), k ≤ N.roads.length ∧ u = .bool b' ∧ i = .int .i64 k ∧ Hid (Told2 N (soonest N) src L l') ∧ Hid (b' = false → l' = l ∧ Shut2 N (soonest N) l' k) ∧ Hid (b' = true → left2 (L + 1900000) l' < left2 (L + 1900000) l) ∧ Hid (RowV wr g 3 (intVals l' ++ ys)) ∧ Hid (Below wb.heap.size wb wr)) (fun _ i _ => N.roads.length - (intOf i).toNat)
          case atStart => exact ⟨l, false, 0, Nat.zero_le _, rfl, rfl, HTl, Lib.hid (fun _ => ⟨rfl, fun i hi => absurd hi (Nat.not_lt_zero _)⟩), Lib.hid (fun h => by cases h), HRl, HBl⟩
          case round =>
            obtain ⟨l', b', k, hk, rfl, rfl, HTk, HF, HL, HRk, HBk⟩ := hrel
            obtain ⟨n0, n1⟩ := BN.out.keep (Keep.below HBk.out)
            by_cases hlt : k < N.roads.length
            · have hkn : (k : Int) < (N.roads.length : Int) := by omega
              have HX := Lib.hid (HW.out.trans (HBk.out.mono HW.out.size))
              have hrr := M.out.roads.keep (Keep.below HX.out)
              obtain ⟨rb, ro, hRa, qq⟩ := hrr.at_ hlt
              have HPr := Lib.hid (hrr.2 k hlt)
              have HRa := Lib.hid hRa
              obtain ⟨x0, x1, x2, x3, x4⟩ := qq
              rw [hRa] at n1
              have HOK := Lib.hid (net_roads_ok HE.out k hlt).pts
              have hlen := HTk.out.len
              obtain ⟨s1, d1⟩ := HTk.out.src_at HJ.out hlt
              obtain ⟨⟨j0, -⟩, j1, -⟩ := HJ.out k hlt
              obtain ⟨s, hs1⟩ : ∃ s : Nat, (listD N.roads k).src = s := ⟨_, (Int.toNat_of_nonneg j0).symm⟩
              obtain ⟨d, hd1⟩ : ∃ d : Nat, (listD N.roads k).dst = d := ⟨_, (Int.toNat_of_nonneg j1).symm⟩
              have HSD := Lib.hid (And.intro hs1 hd1)
              have es : (listD N.roads k).src.toNat = s := by omega
              have ed : (listD N.roads k).dst.toNat = d := by omega
              rw [es] at s1
              rw [ed] at d1
              have HSDN := Lib.hid (And.intro es ed)
              have BX := Lib.hid (BoxD.new wr (listD N.roads k) (ar.p k) (ar.pc k) 45)
              clear hrr hRa es ed hs1 hd1 j0 j1
              go_upto_region 14 with fail
              generalize hw6 : wr.alloc _ = w6 at *
              have hB6 : Below wr.heap.size wr w6 := by rw [← hw6]; exact (Below.refl _ _).alloc (Nat.le_refl _) _
              have hsz : wr.heap.size < w6.heap.size := by rw [← hw6]; simp
              clear hw6 x0 x1 x2 x3 x4 n0 n1
              have HB6 := Lib.hid (HBk.out.trans (hB6.mono HBk.out.size))
              have HR6 := Lib.hid (HRk.out.keep hB6)
              have HP := Lib.hid (HPr.out.keep (Keep.below hB6))
              have hgw : g ≠ wr.heap.size := by have := HRk.out.lt; omega
              have HGW := Lib.hid hgw
              clear hB6 hgw
              obtain ⟨x0, x1, x2, x3, x4⟩ := BX.out
              rw [HSD.out.1] at x1
              rw [HSD.out.2] at x2
              have sn : (s : Int) < (N.places.length : Int) := by omega
              have dn : (d : Int) < (N.places.length : Int) := by omega
              have ls := HR6.out.at_ (i := s) (by rw [hlen]; exact s1)
              have ld := HR6.out.at_ (i := d) (by rw [hlen]; exact d1)
              have fd := HR6.out.frozen d
              have hcap := HTk.out.cap' n20 s s1
              by_cases hz : listI l' s = -1
              · have HS1 : Hid (b' = false → l' = l ∧ Shut2 N (soonest N) l' (k + 1)) := Lib.hid fun hb => ⟨(HF.out hb).1, (HF.out hb).2.mono (fun hh => by rw [HSDN.out.1] at hh; exact absurd hz hh)⟩
                rw [hz] at ls
                clear hz ld
                go_wp2_with fail
                go_roundw
                case rel => exact ⟨l', b', k + 1, by omega, rfl, by go_num, HTk, HS1, HL, HR6, HB6⟩
                case measure => simp [intOf]; omega
              · have hz0 := (HTk.out.over s s1 hz).1
                have HZ := Lib.hid hz
                have HTS := Lib.hid (show (listI l' (listD N.roads k).dst.toNat = -1 ∨ (soonest N) k (listI l' (listD N.roads k).src.toNat) < listI l' (listD N.roads k).dst.toNat) → Told2 N (soonest N) src L (l'.set (listD N.roads k).dst.toNat ((soonest N) k (listI l' (listD N.roads k).src.toNat))) from fun h2 => HTk.out.step (i := k) HJ.out HG.out HSM.out hs hL0 hlt (by rw [HSDN.out.1]; exact hz) h2)
                have HSS : Hid (b' = false → ¬ (listI l' d = -1 ∨ (soonest N) k (listI l' s) < listI l' d) → l' = l ∧ Shut2 N (soonest N) l' (k + 1)) := Lib.hid fun hb hn => ⟨(HF.out hb).1, (HF.out hb).2.mono (fun _ => by rw [HSDN.out.1, HSDN.out.2]; omega)⟩
                rw [HSDN.out.1, HSDN.out.2] at HTS
                obtain ⟨z, hzz⟩ : ∃ z, listI l' s = z := ⟨_, rfl⟩
                rw [hzz] at ls hz0 hcap HTS HSS
                have dz : decide (z < 0) = false := decide_eq_false (by omega)
                have tk := takesAt_is HOK.out z
                obtain ⟨⟨tk0, tk1⟩, tk2, tk3⟩ := tk
                have HNX := Lib.hid (show (soonest N) k z = z + (takesAt (listD N.roads k).pts z).1 from rfl)
                have HF0 := Lib.hid (show ∀ (x y : Int) (w : World), (Instr.field 35 (.agg #[.int .i64 x, .int .i64 y]) 0).run Try.prog w = .ok (.int .i64 x) w from fun _ _ _ => by kernel_rfl)
                have HF1 := Lib.hid (show ∀ (x y : Int) (w : World), (Instr.field 35 (.agg #[.int .i64 x, .int .i64 y]) 1).run Try.prog w = .ok (.int .i64 y) w from fun _ _ _ => by kernel_rfl)
                have hwr1 : IntKind.i64.wrap (z + (takesAt (listD N.roads k).pts z).1) = z + (takesAt (listD N.roads k).pts z).1 := by rw [IntKind.wrap_i64]; omega
                have hwr2 : IntKind.i64.wrap (z + (takesAt (listD N.roads k).pts z).2) = z + (takesAt (listD N.roads k).pts z).2 := by rw [IntKind.wrap_i64]; omega
                clear hz hzz
                have hf0 := HF0.out
                have hf1 := HF1.out
                go_wp2_with fail
                obtain ⟨C, Ci, Co⟩ := classOf w6
                refine quietC (C := C) (by kernel_rfl) (by kernel_rfl) (Co.out _ (Below.refl _ _).drew) ?_
                repeat (first
                  | go_big_quiet_skip
                  | (go_big_quiet_want; go_big_quiet_op; go_big_quiet_on)
                  | (refine quiet_yes (by rfl) ?_
                     apply Exists.intro
                     refine ⟨fun w' hC => ?_, ?_⟩
                     · have hbb := Ci.out _ hC
                       have y0 := Keep.below hbb _ _ x0
                       have y1 := Keep.below hbb _ _ x1
                       have y2 := Keep.below hbb _ _ x2
                       have y3 := Keep.below hbb _ _ x3
                       have y4 := Keep.below hbb _ _ x4
                       have y5 := Keep.below hbb _ _ ls
                       go_simp
                       first
                         | done
                         | rfl
                         | (go_at_call 26
                            refine (rTakes_any ⟨(listD N.roads k).name, s, d, (listD N.roads k).metres, (listD N.roads k).pts⟩ _ _ z _ (HP.out.keep (Keep.below hbb)) HOK.out hz0 (by omega)).mono ?_
                            rintro e' w1 ⟨rfl, hb1⟩
                            exact ⟨rfl, Co.out _ (hbb.trans (hb1.mono hbb.size))⟩)
                     simp only [Act.put, List.setIfInBounds_toArray, List.set_cons_zero, List.set_cons_succ]))
                refine wpQuiet_nil ?_
                intro w7 hC7
                have hb7 := Ci.out _ hC7
                have HB7 := Lib.hid (HB6.out.trans (hb7.mono HB6.out.size))
                have HR7 := Lib.hid (HR6.out.keep hb7)
                replace HP := Lib.hid (HP.out.keep (Keep.below hb7))
                replace x0 := Keep.below hb7 _ _ x0
                replace x1 := Keep.below hb7 _ _ x1
                replace x2 := Keep.below hb7 _ _ x2
                replace x3 := Keep.below hb7 _ _ x3
                replace x4 := Keep.below hb7 _ _ x4
                replace ls := Keep.below hb7 _ _ ls
                replace ld := Keep.below hb7 _ _ ld
                replace fd := HR7.out.frozen d
                clear hb7 hC7 Ci Co C HB6 HR6
                have hys := HSM.out k z hlt hz0
                rw [← HNX.out]
                clear hwr1 hwr2
                generalize (soonest N) k z = y at *
                by_cases h2 : listI l' d = -1 ∨ y < listI l' d
                · have HT2 := Lib.hid (HTS.out h2)
                  have HM2 : Hid (left2 (L + 1900000) (l'.set d y) < left2 (L + 1900000) l) := Lib.hid (by
                    have h3 := left2_set (M := L + 1900000) (l := l') (i := d) (x := y) (by omega) (by omega) (by
                      have := HT2.out.cap' n20 d d1
                      rw [listI_set, if_pos ⟨rfl, by omega⟩] at this
                      exact this) h2
                    cases b' with
                    | true => have := HL.out rfl; omega
                    | false =>
                      have := (HF.out rfl).1
                      rw [this] at h3 ⊢
                      exact h3)
                  have HR9 := Lib.hid (HR7.out.put (i := d) (by omega) y)
                  have HB9 := Lib.hid (HB7.out.setCell (p := ⟨g, d, none⟩) HG1.out (.int .i64 y))
                  by_cases h2a : listI l' d = -1
                  · rw [h2a] at ld
                    clear h2 h2a hys
                    go_wp2_with fail
                    go_roundw
                    case rel => exact ⟨l'.set d y, true, k + 1, by omega, rfl, by go_num, HT2, Lib.hid (fun h => by cases h), Lib.hid (fun _ => HM2.out), HR9, HB9⟩
                    case measure => simp [intOf]; omega
                  · have h2b : y < listI l' d := h2.resolve_left h2a
                    have h2c := (HTk.out.over d d1 h2a).1
                    have e1 : decide (listI l' d < 0) = false := decide_eq_false (by omega)
                    have e2 : decide (y < listI l' d) = true := decide_eq_true h2b
                    clear h2 h2a hys h2b h2c
                    go_wp2_with fail
                    go_roundw
                    case rel => exact ⟨l'.set d y, true, k + 1, by omega, rfl, by go_num, HT2, Lib.hid (fun h => by cases h), Lib.hid (fun _ => HM2.out), HR9, HB9⟩
                    case measure => simp [intOf]; omega
                · have h2a : listI l' d ≠ -1 := fun h => h2 (.inl h)
                  have h2c := (HTk.out.over d d1 h2a).1
                  have HS2 := Lib.hid (show b' = false → l' = l ∧ Shut2 N (soonest N) l' (k + 1) from fun hb => HSS.out hb h2)
                  have e1 : decide (listI l' d < 0) = false := decide_eq_false (by omega)
                  have e2 : decide (y < listI l' d) = false := decide_eq_false (fun h => h2 (.inr h))
                  clear h2 h2a hys h2c
                  go_wp2_with fail
                  go_roundw
                  case rel => exact ⟨l', b', k + 1, by omega, rfl, by go_num, HTk, HS2, HL, HR7, HB7⟩
                  case measure => simp [intOf]; omega
            · obtain rfl : k = N.roads.length := by omega
              clear hlt hk
              go_wp2_with fail
              go_roundg (2 * left2 (L + 1900000) l' + b'.toNat)
              case rel => exact ⟨l', b', rfl, Lib.hid rfl, HTk, Lib.hid (fun hb => (HF.out hb).2), HRk, HBk⟩
              case measure =>
                have hq := HQ.out
                cases b' with
                | true => have := HL.out rfl; simp at hq ⊢; omega
                | false =>
                  have := (HF.out rfl).1
                  rw [this]
                  simp at hq ⊢
                  omega

set_option maxHeartbeats 6400000 in
set_option maxRecDepth 100000 in
theorem rLate_any (N : Net) (v : Value) (src : Nat) (L : Int) (w : World) (hN : RdNet w v N) (hE : netErr N = 0) (hs : src < N.places.length) (hL0 : 0 ≤ L) (hL1 : L ≤ 1000000) :
    Calls Try.prog 97 #[v, .int .i64 src, .int .i64 L, .bool true] w fun e w' => ∃ g c, e = .returned (.slice (some ⟨g, 0, none⟩) N.places.length c) ∧ w.heap.size ≤ g ∧ ArrI w' (some ⟨g, 0, none⟩) (search N src L (latest N)).labels c ∧ Below w.heap.size w w' := by
  obtain ⟨i0, hi, hz0, hz1, hz2⟩ := info_parts Try.infoInt
  have hN0 := Lib.hid hN
  obtain ⟨P, R, pc, rc, ar, rfl, m⟩ := hN
  have M := Lib.hid m
  have rb1 := m.roads.le.1
  have rb2 := m.roads.le.2
  have pb1 := m.places.le.1
  have pb2 := m.places.le.2
  clear m
  have HE := Lib.hid hE
  have HS := Lib.hid (net_sound hE)
  have n20 := (net_sound hE).2.1
  have HJ := Lib.hid (net_joined hE)
  have HG := Lib.hid (latest_good hE)
  have HSM := Lib.hid (latest_small hE)
  clear hE
  have BN := Lib.hid (BoxN.new w N P R pc rc 25)
  go_enter Try.func97, Try.ntmps97
  go_upto_region 1 with fail
  generalize hwb : w.alloc _ = wb at *
  have HW : Hid (Below w.heap.size w wb) := by rw [← hwb]; exact Lib.hid ((Below.refl _ _).alloc (Nat.le_refl _) _)
  have HLT : Hid (w.heap.size < wb.heap.size) := by rw [← hwb]; exact Lib.hid (by simp)
  clear hwb
  go_wp2_with fail
  go_loopw [9, 10] (fun u i wr => ∃ k : Nat, k ≤ N.places.length ∧ i = .int .i64 k ∧ Hid (wr.ownsRow wb.heap.size 3 1 u (List.replicate k (-1 : Int)).length (intVals (List.replicate k (-1)))) ∧ Hid (Below wb.heap.size wb wr)) (fun _ i _ => N.places.length - (intOf i).toNat)
  case atStart => exact ⟨0, Nat.zero_le _, rfl, Lib.hid (World.ownsRow_nil _ _ _ _), Lib.hid (Below.refl _ _)⟩
  case round =>
    obtain ⟨k, hk, rfl, HO, HB⟩ := hrel
    obtain ⟨n0, n1⟩ := BN.out.keep (Keep.below HB.out)
    by_cases hlt : k < N.places.length
    · have hkn : (k : Int) < (N.places.length : Int) := by omega
      have hlen : (List.replicate k (-1 : Int)).length = k := by simp
      have hws : wb.heap.size ≤ wr.heap.size := HB.out.size
      go_wp2_with (at_builtin; refine wpList_append_own _ rfl (.tmp 22) (.tmp 23) 47 rfl wb.heap.size 3 i0 (.int .i64 0) 1 8 Try.underlying47 hi hz0 hz1 hz2 rfl (by decide) _ _ _ rfl (HO.out.alloc _) ⟨wr.heap.size, 0, none⟩ 1 1 [.int .i64 (-1)] rfl rfl ?c1 ?c2 ?c3 ?c4 ?c5 ?_)
      case c1 => exact news0 _ _ _
      case c2 => exact oneInt _
      case c3 => unfold maxLen; omega
      case c4 => omega
      case c5 => simp; omega
      intro v2 w2 hown2 hg2 _
      have HB2 := Lib.hid ((HB.out.alloc hws _).grown hg2 (by simp; omega) (fun j hj => (HO.out.lt j hj).1))
      have HO2 : Hid (w2.ownsRow wb.heap.size 3 1 v2 (List.replicate (k + 1) (-1 : Int)).length (intVals (List.replicate (k + 1) (-1)))) := by
        rw [rep_snoc, intVals_snoc, List.length_append, List.length_replicate]
        exact Lib.hid hown2
      clear hown2 hg2 hlen
      go_wp2_with fail
      go_roundw
      case rel => exact ⟨k + 1, by omega, by go_num, HO2, HB2⟩
      case measure => simp [intOf]; omega
    · obtain rfl : k = N.places.length := by omega
      clear hlt hk
      obtain ⟨g, c, ys, hv, hg, hc1, hc2, hrow⟩ := ownRow HO.out (by rw [List.length_replicate]; omega)
      subst hv
      rw [List.length_replicate] at hc1 ⊢
      have HG1 := Lib.hid hg
      have HC := Lib.hid (And.intro hc1 hc2)
      have hm := hc2
      unfold maxLen at hm
      have a0 := hrow.at_ (i := src) (by rw [List.length_replicate]; exact hs)
      have f0 := hrow.frozen src
      have HR := Lib.hid (hrow.put (i := src) (by rw [List.length_replicate]; exact hs) L)
      have hsn : (src : Int) < (N.places.length : Int) := by omega
      clear hrow hg
      go_wp2_with fail
      have HB3 := Lib.hid (HB.out.setCell (p := ⟨g, src, none⟩) HG1.out (.int .i64 L))
      generalize hw0 : wr.setCell _ _ = w0 at *
      clear hw0 a0 f0 n0 n1 HB HO hsn
      have HT := Lib.hid (Told2.start HJ.out HG.out hs hL0)
      go_loopg [11] (2 * left2 (L + 1900000) ((List.replicate N.places.length (-1)).set src L) + 1) (fun q u wr => ∃ (l : List Int) (b : Bool), u = .bool b ∧ Hid (q = 2 * left2 (L + 1900000) l + b.toNat) ∧ Hid (Told2 N (latest N) src L l) ∧ Hid (b = false → Shut2 N (latest N) l N.roads.length) ∧ Hid (RowV wr g 3 (intVals l ++ ys)) ∧ Hid (Below wb.heap.size wb wr))
      case atStart => exact ⟨_, true, rfl, Lib.hid rfl, HT, Lib.hid (fun h => by cases h), HR, HB3⟩
      case round =>
        obtain ⟨l, b, rfl, HQ, HTl, HCl, HRl, HBl⟩ := hrel
        clear HT HR HB3
        cases b with
        | false =>
          have F := Lib.hid (HTl.out.done HJ.out HG.out hs hL0 (HCl.out rfl))
          have hl := HTl.out.len
          have A := Lib.hid (HRl.out.arr (c := c) (by rw [hl]; exact HC.out.1) HC.out.2)
          have hwg : w.heap.size ≤ g := Nat.le_trans HW.out.size HG1.out
          clear hl
          go_wp2_with fail
          go_ret
          exact ⟨g, c, rfl, hwg, by rw [← F.out]; exact A.out, HW.out.trans (HBl.out.mono HW.out.size)⟩
        | true =>
          go_wp2_with fail
          go_loopw [11, 12] (fun u i wr => ∃ (l' : List Int) (b' : Bool) (k : Nat), k ≤ N.roads.length ∧ u = .bool b' ∧ i = .int .i64 k ∧ Hid (Told2 N (latest N) src L l') ∧ Hid (b' = false → l' = l ∧ Shut2 N (latest N) l' k) ∧ Hid (b' = true → left2 (L + 1900000) l' < left2 (L + 1900000) l) ∧ Hid (RowV wr g 3 (intVals l' ++ ys)) ∧ Hid (Below wb.heap.size wb wr)) (fun _ i _ => N.roads.length - (intOf i).toNat)
          case atStart => exact ⟨l, false, 0, Nat.zero_le _, rfl, rfl, HTl, Lib.hid (fun _ => ⟨rfl, fun i hi => absurd hi (Nat.not_lt_zero _)⟩), Lib.hid (fun h => by cases h), HRl, HBl⟩
          case round =>
            obtain ⟨l', b', k, hk, rfl, rfl, HTk, HF, HL, HRk, HBk⟩ := hrel
            obtain ⟨n0, n1⟩ := BN.out.keep (Keep.below HBk.out)
            by_cases hlt : k < N.roads.length
            · have hkn : (k : Int) < (N.roads.length : Int) := by omega
              have HX := Lib.hid (HW.out.trans (HBk.out.mono HW.out.size))
              have hrr := M.out.roads.keep (Keep.below HX.out)
              obtain ⟨rb, ro, hRa, qq⟩ := hrr.at_ hlt
              have HPr := Lib.hid (hrr.2 k hlt)
              have HRa := Lib.hid hRa
              obtain ⟨x0, x1, x2, x3, x4⟩ := qq
              rw [hRa] at n1
              have HOK := Lib.hid (net_roads_ok HE.out k hlt).pts
              have hlen := HTk.out.len
              obtain ⟨s1, d1⟩ := HTk.out.src_at HJ.out hlt
              obtain ⟨⟨j0, -⟩, j1, -⟩ := HJ.out k hlt
              obtain ⟨s, hs1⟩ : ∃ s : Nat, (listD N.roads k).src = s := ⟨_, (Int.toNat_of_nonneg j0).symm⟩
              obtain ⟨d, hd1⟩ : ∃ d : Nat, (listD N.roads k).dst = d := ⟨_, (Int.toNat_of_nonneg j1).symm⟩
              have HSD := Lib.hid (And.intro hs1 hd1)
              have es : (listD N.roads k).src.toNat = s := by omega
              have ed : (listD N.roads k).dst.toNat = d := by omega
              rw [es] at s1
              rw [ed] at d1
              have HSDN := Lib.hid (And.intro es ed)
              have BX := Lib.hid (BoxD.new wr (listD N.roads k) (ar.p k) (ar.pc k) 45)
              clear hrr hRa es ed hs1 hd1 j0 j1
              go_upto_region 14 with fail
              generalize hw6 : wr.alloc _ = w6 at *
              have hB6 : Below wr.heap.size wr w6 := by rw [← hw6]; exact (Below.refl _ _).alloc (Nat.le_refl _) _
              have hsz : wr.heap.size < w6.heap.size := by rw [← hw6]; simp
              clear hw6 x0 x1 x2 x3 x4 n0 n1
              have HB6 := Lib.hid (HBk.out.trans (hB6.mono HBk.out.size))
              have HR6 := Lib.hid (HRk.out.keep hB6)
              have HP := Lib.hid (HPr.out.keep (Keep.below hB6))
              have hgw : g ≠ wr.heap.size := by have := HRk.out.lt; omega
              have HGW := Lib.hid hgw
              clear hB6 hgw
              obtain ⟨x0, x1, x2, x3, x4⟩ := BX.out
              rw [HSD.out.1] at x1
              rw [HSD.out.2] at x2
              have sn : (s : Int) < (N.places.length : Int) := by omega
              have dn : (d : Int) < (N.places.length : Int) := by omega
              have ls := HR6.out.at_ (i := s) (by rw [hlen]; exact s1)
              have ld := HR6.out.at_ (i := d) (by rw [hlen]; exact d1)
              have fd := HR6.out.frozen d
              have hcap := HTk.out.cap' n20 s s1
              by_cases hz : listI l' s = -1
              · have HS1 : Hid (b' = false → l' = l ∧ Shut2 N (latest N) l' (k + 1)) := Lib.hid fun hb => ⟨(HF.out hb).1, (HF.out hb).2.mono (fun hh => by rw [HSDN.out.1] at hh; exact absurd hz hh)⟩
                rw [hz] at ls
                clear hz ld
                go_wp2_with fail
                go_roundw
                case rel => exact ⟨l', b', k + 1, by omega, rfl, by go_num, HTk, HS1, HL, HR6, HB6⟩
                case measure => simp [intOf]; omega
              · have hz0 := (HTk.out.over s s1 hz).1
                have HZ := Lib.hid hz
                have HTS := Lib.hid (show (listI l' (listD N.roads k).dst.toNat = -1 ∨ (latest N) k (listI l' (listD N.roads k).src.toNat) < listI l' (listD N.roads k).dst.toNat) → Told2 N (latest N) src L (l'.set (listD N.roads k).dst.toNat ((latest N) k (listI l' (listD N.roads k).src.toNat))) from fun h2 => HTk.out.step (i := k) HJ.out HG.out HSM.out hs hL0 hlt (by rw [HSDN.out.1]; exact hz) h2)
                have HSS : Hid (b' = false → ¬ (listI l' d = -1 ∨ (latest N) k (listI l' s) < listI l' d) → l' = l ∧ Shut2 N (latest N) l' (k + 1)) := Lib.hid fun hb hn => ⟨(HF.out hb).1, (HF.out hb).2.mono (fun _ => by rw [HSDN.out.1, HSDN.out.2]; omega)⟩
                rw [HSDN.out.1, HSDN.out.2] at HTS
                obtain ⟨z, hzz⟩ : ∃ z, listI l' s = z := ⟨_, rfl⟩
                rw [hzz] at ls hz0 hcap HTS HSS
                have dz : decide (z < 0) = false := decide_eq_false (by omega)
                have tk := takesAt_is HOK.out z
                obtain ⟨⟨tk0, tk1⟩, tk2, tk3⟩ := tk
                have HNX := Lib.hid (show (latest N) k z = z + (takesAt (listD N.roads k).pts z).2 from rfl)
                have HF0 := Lib.hid (show ∀ (x y : Int) (w : World), (Instr.field 35 (.agg #[.int .i64 x, .int .i64 y]) 0).run Try.prog w = .ok (.int .i64 x) w from fun _ _ _ => by kernel_rfl)
                have HF1 := Lib.hid (show ∀ (x y : Int) (w : World), (Instr.field 35 (.agg #[.int .i64 x, .int .i64 y]) 1).run Try.prog w = .ok (.int .i64 y) w from fun _ _ _ => by kernel_rfl)
                have hwr1 : IntKind.i64.wrap (z + (takesAt (listD N.roads k).pts z).1) = z + (takesAt (listD N.roads k).pts z).1 := by rw [IntKind.wrap_i64]; omega
                have hwr2 : IntKind.i64.wrap (z + (takesAt (listD N.roads k).pts z).2) = z + (takesAt (listD N.roads k).pts z).2 := by rw [IntKind.wrap_i64]; omega
                clear hz hzz
                have hf0 := HF0.out
                have hf1 := HF1.out
                go_wp2_with fail
                obtain ⟨C, Ci, Co⟩ := classOf w6
                refine quietC (C := C) (by kernel_rfl) (by kernel_rfl) (Co.out _ (Below.refl _ _).drew) ?_
                repeat (first
                  | go_big_quiet_skip
                  | (go_big_quiet_want; go_big_quiet_op; go_big_quiet_on)
                  | (refine quiet_yes (by rfl) ?_
                     apply Exists.intro
                     refine ⟨fun w' hC => ?_, ?_⟩
                     · have hbb := Ci.out _ hC
                       have y0 := Keep.below hbb _ _ x0
                       have y1 := Keep.below hbb _ _ x1
                       have y2 := Keep.below hbb _ _ x2
                       have y3 := Keep.below hbb _ _ x3
                       have y4 := Keep.below hbb _ _ x4
                       have y5 := Keep.below hbb _ _ ls
                       go_simp
                       first
                         | done
                         | rfl
                         | (go_at_call 26
                            refine (rTakes_any ⟨(listD N.roads k).name, s, d, (listD N.roads k).metres, (listD N.roads k).pts⟩ _ _ z _ (HP.out.keep (Keep.below hbb)) HOK.out hz0 (by omega)).mono ?_
                            rintro e' w1 ⟨rfl, hb1⟩
                            exact ⟨rfl, Co.out _ (hbb.trans (hb1.mono hbb.size))⟩)
                     simp only [Act.put, List.setIfInBounds_toArray, List.set_cons_zero, List.set_cons_succ]))
                refine wpQuiet_nil ?_
                intro w7 hC7
                have hb7 := Ci.out _ hC7
                have HB7 := Lib.hid (HB6.out.trans (hb7.mono HB6.out.size))
                have HR7 := Lib.hid (HR6.out.keep hb7)
                replace HP := Lib.hid (HP.out.keep (Keep.below hb7))
                replace x0 := Keep.below hb7 _ _ x0
                replace x1 := Keep.below hb7 _ _ x1
                replace x2 := Keep.below hb7 _ _ x2
                replace x3 := Keep.below hb7 _ _ x3
                replace x4 := Keep.below hb7 _ _ x4
                replace ls := Keep.below hb7 _ _ ls
                replace ld := Keep.below hb7 _ _ ld
                replace fd := HR7.out.frozen d
                clear hb7 hC7 Ci Co C HB6 HR6
                go_wp2_with fail
                obtain ⟨C, Ci, Co⟩ := classOf w7
                refine quietC (C := C) (by kernel_rfl) (by kernel_rfl) (Co.out _ (Below.refl _ _).drew) ?_
                repeat (first
                  | go_big_quiet_skip
                  | (go_big_quiet_want; go_big_quiet_op; go_big_quiet_on)
                  | (refine quiet_yes (by rfl) ?_
                     apply Exists.intro
                     refine ⟨fun w' hC => ?_, ?_⟩
                     · have hbb := Ci.out _ hC
                       have y0 := Keep.below hbb _ _ x0
                       have y1 := Keep.below hbb _ _ x1
                       have y2 := Keep.below hbb _ _ x2
                       have y3 := Keep.below hbb _ _ x3
                       have y4 := Keep.below hbb _ _ x4
                       have y5 := Keep.below hbb _ _ ls
                       go_simp
                       first
                         | done
                         | rfl
                         | (go_at_call 26
                            refine (rTakes_any ⟨(listD N.roads k).name, s, d, (listD N.roads k).metres, (listD N.roads k).pts⟩ _ _ z _ (HP.out.keep (Keep.below hbb)) HOK.out hz0 (by omega)).mono ?_
                            rintro e' w1 ⟨rfl, hb1⟩
                            exact ⟨rfl, Co.out _ (hbb.trans (hb1.mono hbb.size))⟩)
                     simp only [Act.put, List.setIfInBounds_toArray, List.set_cons_zero, List.set_cons_succ]))
                refine wpQuiet_nil ?_
                intro w8 hC8
                have hb8 := Ci.out _ hC8
                replace HB7 := Lib.hid (HB7.out.trans (hb8.mono HB7.out.size))
                replace HR7 := Lib.hid (HR7.out.keep hb8)
                replace x2 := Keep.below hb8 _ _ x2
                replace ld := Keep.below hb8 _ _ ld
                replace fd := HR7.out.frozen d
                clear hb8 hC8 Ci Co C ls x0 x1 x3 x4
                have hys := HSM.out k z hlt hz0
                rw [← HNX.out]
                clear hwr1 hwr2
                generalize (latest N) k z = y at *
                by_cases h2 : listI l' d = -1 ∨ y < listI l' d
                · have HT2 := Lib.hid (HTS.out h2)
                  have HM2 : Hid (left2 (L + 1900000) (l'.set d y) < left2 (L + 1900000) l) := Lib.hid (by
                    have h3 := left2_set (M := L + 1900000) (l := l') (i := d) (x := y) (by omega) (by omega) (by
                      have := HT2.out.cap' n20 d d1
                      rw [listI_set, if_pos ⟨rfl, by omega⟩] at this
                      exact this) h2
                    cases b' with
                    | true => have := HL.out rfl; omega
                    | false =>
                      have := (HF.out rfl).1
                      rw [this] at h3 ⊢
                      exact h3)
                  have HR9 := Lib.hid (HR7.out.put (i := d) (by omega) y)
                  have HB9 := Lib.hid (HB7.out.setCell (p := ⟨g, d, none⟩) HG1.out (.int .i64 y))
                  by_cases h2a : listI l' d = -1
                  · rw [h2a] at ld
                    clear h2 h2a hys
                    go_wp2_with fail
                    go_roundw
                    case rel => exact ⟨l'.set d y, true, k + 1, by omega, rfl, by go_num, HT2, Lib.hid (fun h => by cases h), Lib.hid (fun _ => HM2.out), HR9, HB9⟩
                    case measure => simp [intOf]; omega
                  · have h2b : y < listI l' d := h2.resolve_left h2a
                    have h2c := (HTk.out.over d d1 h2a).1
                    have e1 : decide (listI l' d < 0) = false := decide_eq_false (by omega)
                    have e2 : decide (y < listI l' d) = true := decide_eq_true h2b
                    clear h2 h2a hys h2b h2c
                    go_wp2_with fail
                    go_roundw
                    case rel => exact ⟨l'.set d y, true, k + 1, by omega, rfl, by go_num, HT2, Lib.hid (fun h => by cases h), Lib.hid (fun _ => HM2.out), HR9, HB9⟩
                    case measure => simp [intOf]; omega
                · have h2a : listI l' d ≠ -1 := fun h => h2 (.inl h)
                  have h2c := (HTk.out.over d d1 h2a).1
                  have HS2 := Lib.hid (show b' = false → l' = l ∧ Shut2 N (latest N) l' (k + 1) from fun hb => HSS.out hb h2)
                  have e1 : decide (listI l' d < 0) = false := decide_eq_false (by omega)
                  have e2 : decide (y < listI l' d) = false := decide_eq_false (fun h => h2 (.inr h))
                  clear h2 h2a hys h2c
                  go_wp2_with fail
                  go_roundw
                  case rel => exact ⟨l', b', k + 1, by omega, rfl, by go_num, HTk, HS2, HL, HR7, HB7⟩
                  case measure => simp [intOf]; omega
            · obtain rfl : k = N.roads.length := by omega
              clear hlt hk
              go_wp2_with fail
              go_roundg (2 * left2 (L + 1900000) l' + b'.toNat)
              case rel => exact ⟨l', b', rfl, Lib.hid rfl, HTk, Lib.hid (fun hb => (HF.out hb).2), HRk, HBk⟩
              case measure =>
                have hq := HQ.out
                cases b' with
                | true => have := HL.out rfl; simp at hq ⊢; omega
                | false =>
                  have := (HF.out rfl).1
                  rw [this]
                  simp at hq ⊢
                  omega
end Go.Proofs.Ythipneggplebcaa

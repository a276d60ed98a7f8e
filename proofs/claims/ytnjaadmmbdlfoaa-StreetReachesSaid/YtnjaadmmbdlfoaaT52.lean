/- Lists that are the same; ways that join places, and their metres, as the reference tells them. Conditions: the net can be read; a way is right. -/
import Derived.Test.YtnjaadmmbdlfoaaT38
import Derived.Test.YtnjaadmmbdlfoaaT43
import Derived.Test.YtnjaadmmbdlfoaaT25
import Derived.Deep.RegionHeld3
import Derived.Deep.CutRange
import Derived.Test.YtnjaadmmbdlfoaaT49
import Derived.Test.YtnjaadmmbdlfoaaT44
namespace Go.Proofs.Ytnjaadmmbdlfoaa
open Go.RowKit Fs

set_option maxHeartbeats 800000 in
set_option maxRecDepth 100000 in
/-- Two rows that read as the same list are the same. -/
theorem ints_same (l : List Int) (A B : Option Addr) (c d : Nat) (w : World) (hA : ArrI w A l c) (hB : ArrI w B l d) :
    Calls Try.prog 17 #[.slice A l.length c, .slice B l.length d] w fun e w' => e = .returned (.bool true) ∧ Below w.heap.size w w' := by
  have b1 := hA.le.1
  have b2 := hA.le.2
  have b3 := hB.le.1
  have b4 := hB.le.2
  have HA := Lib.hid hA
  have HB := Lib.hid hB
  clear hA hB
  go_enter Try.func17, Try.ntmps17
  go_wp2_with fail
  go_loopw [5] (fun i wr => ∃ k : Nat, k ≤ l.length ∧ i = .int .i64 k ∧ Hid (Below w.heap.size w wr)) (fun i _ => l.length - (intOf i).toNat)
  case atStart => exact ⟨0, Nat.zero_le _, rfl, Lib.hid (Below.refl _ _)⟩
  case round =>
    obtain ⟨k, hk, rfl, HX⟩ := hrel
    by_cases hlt : k < l.length
    · have hkn : (k : Int) < (l.length : Int) := by omega
      obtain ⟨b1', o1, h1, c1⟩ := (HA.out.keep (Keep.below HX.out)).at_ hlt
      obtain ⟨b2', o2, h2, c2⟩ := (HB.out.keep (Keep.below HX.out)).at_ hlt
      subst h1; subst h2
      have e1 : (listI l k == listI l k) = true := by simp
      have e2 : (listI l k != listI l k) = false := by simp
      go_wp2_with fail
      go_quiet (fail)
      go_wp2_with fail
      go_roundw
      case rel => exact ⟨k + 1, by omega, by go_num, Lib.hid (bdrewN HX.out _)⟩
      case measure => simp [intOf]; omega
    · obtain rfl : k = l.length := by omega
      clear hlt hk
      go_wp2_with fail
      go_ret
      exact ⟨rfl, HX.out⟩

/-- A way joins two places. -/
def Fs.JoinsIs (N : Net) (l : List Int) (f t : Int) : Prop := if l.length = 0 then f = t else (listD N.roads (listI l 0).toNat).src = f ∧ (listD N.roads (listI l (l.length - 1)).toNat).dst = t
instance (N : Net) (l : List Int) (f t : Int) : Decidable (JoinsIs N l f t) := by unfold JoinsIs; infer_instance
end Go.Proofs.Ytnjaadmmbdlfoaa
/- The reference's heights: going on along all roads as long as something becomes less. Condition: the net is right. -/
namespace Go.Proofs.Ytnjaadmmbdlfoaa
open Go.RowKit Fs

set_option maxHeartbeats 6400000 in
set_option maxRecDepth 100000 in
theorem rHts_any (N : Net) (v : Value) (src : Nat) (w : World) (hN : RdNet w v N) (hE : netErr N = 0) (hs : src < N.places.length) :
    Calls Try.prog 40 #[v, .int .i64 src] w fun e w' => ∃ g c, e = .returned (.slice (some ⟨g, 0, none⟩) N.places.length c) ∧ w.heap.size ≤ g ∧ ArrI w' (some ⟨g, 0, none⟩) (search N src 0 (further N)).labels c ∧ Below w.heap.size w w' := by
  obtain ⟨i0, hi, hz0, hz1, hz2⟩ := info_parts Try.infoInt
  have hN0 := Lib.hid hN
  obtain ⟨P, R, pc, rc, ar, rfl, m⟩ := hN
  have M := Lib.hid m
  have rb1 := m.roads.le.1
  have rb2 := m.roads.le.2
  have pb1 := m.places.le.1
  have pb2 := m.places.le.2
  clear m
  have HE := Lib.hid hE
  have HS := Lib.hid (net_sound hE)
  have n20 := (net_sound hE).2.1
  have HJ := Lib.hid (net_joined hE)
  have HG := Lib.hid (further_good hE)
  have HSM := Lib.hid (further_small hE)
  clear hE
  have BN := Lib.hid (BoxN.new w N P R pc rc 25)
  go_enter Try.func40, Try.ntmps40
  go_upto_region 1 with fail
  generalize hwb : w.alloc _ = wb at *
  have HW : Hid (Below w.heap.size w wb) := by rw [← hwb]; exact Lib.hid ((Below.refl _ _).alloc (Nat.le_refl _) _)
  have HLT : Hid (w.heap.size < wb.heap.size) := by rw [← hwb]; exact Lib.hid (by simp)
  clear hwb
  go_wp2_with fail
  go_loopw [5, 6] (fun u i wr => ∃ k : Nat, k ≤ N.places.length ∧ i = .int .i64 k ∧ Hid (wr.ownsRow wb.heap.size 3 1 u (List.replicate k (-1 : Int)).length (intVals (List.replicate k (-1)))) ∧ Hid (Below wb.heap.size wb wr)) (fun _ i _ => N.places.length - (intOf i).toNat)
  case atStart => exact ⟨0, Nat.zero_le _, rfl, Lib.hid (World.ownsRow_nil _ _ _ _), Lib.hid (Below.refl _ _)⟩
  case round =>
    obtain ⟨k, hk, rfl, HO, HB⟩ := hrel
    obtain ⟨n0, n1⟩ := BN.out.keep (Keep.below HB.out)
    by_cases hlt : k < N.places.length
    · have hkn : (k : Int) < (N.places.length : Int) := by omega
      have hlen : (List.replicate k (-1 : Int)).length = k := by simp
      have hws : wb.heap.size ≤ wr.heap.size := HB.out.size
      go_wp2_with (at_builtin; refine wpList_append_own _ rfl (.tmp 18) (.tmp 19) 29 rfl wb.heap.size 3 i0 (.int .i64 0) 1 8 Try.underlying29 hi hz0 hz1 hz2 rfl (by decide) _ _ _ rfl (HO.out.alloc _) ⟨wr.heap.size, 0, none⟩ 1 1 [.int .i64 (-1)] rfl rfl ?c1 ?c2 ?c3 ?c4 ?c5 ?_)
      case c1 => exact news0 _ _ _
      case c2 => exact oneInt _
      case c3 => unfold maxLen; omega
      case c4 => omega
      case c5 => simp; omega
      intro v2 w2 hown2 hg2 _
      have HB2 := Lib.hid ((HB.out.alloc hws _).grown hg2 (by simp; omega) (fun j hj => (HO.out.lt j hj).1))
      have HO2 : Hid (w2.ownsRow wb.heap.size 3 1 v2 (List.replicate (k + 1) (-1 : Int)).length (intVals (List.replicate (k + 1) (-1)))) := by
        rw [rep_snoc, intVals_snoc, List.length_append, List.length_replicate]
        exact Lib.hid hown2
      clear hown2 hg2 hlen
      go_wp2_with fail
      go_roundw
      case rel => exact ⟨k + 1, by omega, by go_num, HO2, HB2⟩
      case measure => simp [intOf]; omega
    · obtain rfl : k = N.places.length := by omega
      clear hlt hk
      obtain ⟨g, c, ys, hv, hg, hc1, hc2, hrow⟩ := ownRow HO.out (by rw [List.length_replicate]; omega)
      subst hv
      rw [List.length_replicate] at hc1 ⊢
      have HG1 := Lib.hid hg
      have HC := Lib.hid (And.intro hc1 hc2)
      have hm := hc2
      unfold maxLen at hm
      have a0 := hrow.at_ (i := src) (by rw [List.length_replicate]; exact hs)
      have f0 := hrow.frozen src
      have HR := Lib.hid (hrow.put (i := src) (by rw [List.length_replicate]; exact hs) 0)
      have hsn : (src : Int) < (N.places.length : Int) := by omega
      clear hrow hg
      go_wp2_with fail
      have HB3 := Lib.hid (HB.out.setCell (p := ⟨g, src, none⟩) HG1.out (.int .i64 0))
      generalize hw0 : wr.setCell _ _ = w0 at *
      clear hw0 a0 f0 n0 n1 HB HO hsn
      have HT := Lib.hid (Told2.start HJ.out HG.out hs (Int.le_refl 0))
      go_loopg [7] (2 * left2 1900000 ((List.replicate N.places.length (-1)).set src 0) + 1) (fun q u wr => ∃ (l : List Int) (b : Bool), u = .bool b ∧ Hid (q = 2 * left2 1900000 l + b.toNat) ∧ Hid (Told2 N (further N) src 0 l) ∧ Hid (b = false → Shut2 N (further N) l N.roads.length) ∧ Hid (RowV wr g 3 (intVals l ++ ys)) ∧ Hid (Below wb.heap.size wb wr))
      case atStart => exact ⟨_, true, rfl, Lib.hid rfl, HT, Lib.hid (fun h => by cases h), HR, HB3⟩
      case round =>
        obtain ⟨l, b, rfl, HQ, HTl, HCl, HRl, HBl⟩ := hrel
        clear HT HR HB3
        cases b with
        | false =>
          have F := Lib.hid (HTl.out.done HJ.out HG.out hs (Int.le_refl 0) (HCl.out rfl))
          have hl := HTl.out.len
          have A := Lib.hid (HRl.out.arr (c := c) (by rw [hl]; exact HC.out.1) HC.out.2)
          have hwg : w.heap.size ≤ g := Nat.le_trans HW.out.size HG1.out
          clear hl
          go_wp2_with fail
          go_ret
          exact ⟨g, c, rfl, hwg, by rw [← F.out]; exact A.out, HW.out.trans (HBl.out.mono HW.out.size)⟩
        | true =>
          go_wp2_with fail
          go_loopw [7, 8] (fun u i wr => ∃ (l' : List Int) (b' : Bool) (k : Nat), k ≤ N.roads.length ∧ u = .bool b' ∧ i = .int .i64 k ∧ Hid (Told2 N (further N) src 0 l') ∧ Hid (b' = false → l' = l ∧ Shut2 N (further N) l' k) ∧ Hid (b' = true → left2 1900000 l' < left2 1900000 l) ∧ Hid (RowV wr g 3 (intVals l' ++ ys)) ∧ Hid (Below wb.heap.size wb wr)) (fun _ i _ => N.roads.length - (intOf i).toNat)
          case atStart => exact ⟨l, false, 0, Nat.zero_le _, rfl, rfl, HTl, Lib.hid (fun _ => ⟨rfl, fun i hi => absurd hi (Nat.not_lt_zero _)⟩), Lib.hid (fun h => by cases h), HRl, HBl⟩
          case round =>
            obtain ⟨l', b', k, hk, rfl, rfl, HTk, HF, HL, HRk, HBk⟩ := hrel
            obtain ⟨n0, n1⟩ := BN.out.keep (Keep.below HBk.out)
            by_cases hlt : k < N.roads.length
            · have hkn : (k : Int) < (N.roads.length : Int) := by omega
              have HX := Lib.hid (HW.out.trans (HBk.out.mono HW.out.size))
              have hrr := M.out.roads.keep (Keep.below HX.out)
              obtain ⟨rb, ro, hRa, qq⟩ := hrr.at_ hlt
              have HPr := Lib.hid (hrr.2 k hlt)
              have HRa := Lib.hid hRa
              obtain ⟨x0, x1, x2, x3, x4⟩ := qq
              rw [hRa] at n1
              have HOK := Lib.hid (net_roads_ok HE.out k hlt).pts
              have hlen := HTk.out.len
              obtain ⟨s1, d1⟩ := HTk.out.src_at HJ.out hlt
              obtain ⟨⟨j0, -⟩, j1, -⟩ := HJ.out k hlt
              obtain ⟨s, hs1⟩ : ∃ s : Nat, (listD N.roads k).src = s := ⟨_, (Int.toNat_of_nonneg j0).symm⟩
              obtain ⟨d, hd1⟩ : ∃ d : Nat, (listD N.roads k).dst = d := ⟨_, (Int.toNat_of_nonneg j1).symm⟩
              have HSD := Lib.hid (And.intro hs1 hd1)
              have es : (listD N.roads k).src.toNat = s := by omega
              have ed : (listD N.roads k).dst.toNat = d := by omega
              rw [es] at s1
              rw [ed] at d1
              have HSDN := Lib.hid (And.intro es ed)
              have BX := Lib.hid (BoxD.new wr (listD N.roads k) (ar.p k) (ar.pc k) 68)
              clear hrr hRa es ed hs1 hd1 j0 j1
              go_upto_region 14 with fail
              generalize hw6 : wr.alloc _ = w6 at *
              have hB6 : Below wr.heap.size wr w6 := by rw [← hw6]; exact (Below.refl _ _).alloc (Nat.le_refl _) _
              have hsz : wr.heap.size < w6.heap.size := by rw [← hw6]; simp
              clear hw6 x0 x1 x2 x3 x4 n0 n1
              have HB6 := Lib.hid (HBk.out.trans (hB6.mono HBk.out.size))
              have HR6 := Lib.hid (HRk.out.keep hB6)
              have HP := Lib.hid (HPr.out.keep (Keep.below hB6))
              have hgw : g ≠ wr.heap.size := by have := HRk.out.lt; omega
              have HGW := Lib.hid hgw
              clear hB6 hgw
              obtain ⟨x0, x1, x2, x3, x4⟩ := BX.out
              rw [HSD.out.1] at x1
              rw [HSD.out.2] at x2
              have sn : (s : Int) < (N.places.length : Int) := by omega
              have dn : (d : Int) < (N.places.length : Int) := by omega
              have ls := HR6.out.at_ (i := s) (by rw [hlen]; exact s1)
              have ld := HR6.out.at_ (i := d) (by rw [hlen]; exact d1)
              have fd := HR6.out.frozen d
              have hcap := HTk.out.cap' n20 s s1
              by_cases hz : listI l' s = -1
              · have HS1 : Hid (b' = false → l' = l ∧ Shut2 N (further N) l' (k + 1)) := Lib.hid fun hb => ⟨(HF.out hb).1, (HF.out hb).2.mono (fun hh => by rw [HSDN.out.1] at hh; exact absurd hz hh)⟩
                rw [hz] at ls
                clear hz
                obtain ⟨C, Ci, Co⟩ := classOf w6
                refine quietC (C := C) (by kernel_rfl) (by kernel_rfl) (Co.out _ (Below.refl _ _).drew) ?_
                repeat (first
                  | go_big_quiet_skip
                  | (go_big_quiet_want; go_big_quiet_op; go_big_quiet_on)
                  | (refine quiet_yes (by rfl) ?_
                     apply Exists.intro
                     refine ⟨fun w' hC => ?_, ?_⟩
                     · have hbb := Ci.out _ hC
                       have y1 := Keep.below hbb _ _ x1
                       have y2 := Keep.below hbb _ _ x2
                       have y3 := Keep.below hbb _ _ x3
                       have y5 := Keep.below hbb _ _ ls
                       go_simp
                       first
                         | done
                         | rfl
                     simp only [Act.put, List.setIfInBounds_toArray, List.set_cons_zero, List.set_cons_succ]))
                refine wpQuiet_nil ?_
                intro w7 hC7
                have hb7 := Ci.out _ hC7
                have HB7 := Lib.hid (HB6.out.trans (hb7.mono HB6.out.size))
                have HR7 := Lib.hid (HR6.out.keep hb7)
                replace x1 := Keep.below hb7 _ _ x1
                replace x2 := Keep.below hb7 _ _ x2
                replace ls := Keep.below hb7 _ _ ls
                replace ld := Keep.below hb7 _ _ ld
                replace fd := HR7.out.frozen d
                clear hb7 hC7 Ci Co C HB6 HR6
                go_wp2_with fail
                go_roundw
                case rel => exact ⟨l', b', k + 1, by omega, rfl, by go_num, HTk, HS1, HL, HR7, HB7⟩
                case measure => simp [intOf]; omega
              · have hz0 := (HTk.out.over s s1 hz).1
                have HZ := Lib.hid hz
                have HTS := Lib.hid (show (listI l' (listD N.roads k).dst.toNat = -1 ∨ (further N) k (listI l' (listD N.roads k).src.toNat) < listI l' (listD N.roads k).dst.toNat) → Told2 N (further N) src 0 (l'.set (listD N.roads k).dst.toNat ((further N) k (listI l' (listD N.roads k).src.toNat))) from fun h2 => HTk.out.step (i := k) HJ.out HG.out HSM.out hs (Int.le_refl 0) hlt (by rw [HSDN.out.1]; exact hz) h2)
                have HSS : Hid (b' = false → ¬ (listI l' d = -1 ∨ (further N) k (listI l' s) < listI l' d) → l' = l ∧ Shut2 N (further N) l' (k + 1)) := Lib.hid fun hb hn => ⟨(HF.out hb).1, (HF.out hb).2.mono (fun _ => by rw [HSDN.out.1, HSDN.out.2]; omega)⟩
                rw [HSDN.out.1, HSDN.out.2] at HTS
                obtain ⟨z, hzz⟩ : ∃ z, listI l' s = z := ⟨_, rfl⟩
                rw [hzz] at ls hz0 hcap HTS HSS
                have dz : decide (z ≥ 0) = true := decide_eq_true hz0
                have dz2 : decide (0 ≤ z) = true := decide_eq_true hz0
                have hme := (net_roads_ok HE.out k hlt).metres
                have HNX := Lib.hid (show further N k z = z + (listD N.roads k).metres from rfl)
                have hwr1 : IntKind.i64.wrap (z + (listD N.roads k).metres) = z + (listD N.roads k).metres := by rw [IntKind.wrap_i64]; omega
                clear hz hzz
                obtain ⟨C, Ci, Co⟩ := classOf w6
                refine quietC (C := C) (by kernel_rfl) (by kernel_rfl) (Co.out _ (Below.refl _ _).drew) ?_
                repeat (first
                  | go_big_quiet_skip
                  | (go_big_quiet_want; go_big_quiet_op; go_big_quiet_on)
                  | (refine quiet_yes (by rfl) ?_
                     apply Exists.intro
                     refine ⟨fun w' hC => ?_, ?_⟩
                     · have hbb := Ci.out _ hC
                       have y1 := Keep.below hbb _ _ x1
                       have y2 := Keep.below hbb _ _ x2
                       have y3 := Keep.below hbb _ _ x3
                       have y5 := Keep.below hbb _ _ ls
                       go_simp
                       first
                         | done
                         | rfl
                     simp only [Act.put, List.setIfInBounds_toArray, List.set_cons_zero, List.set_cons_succ]))
                refine wpQuiet_nil ?_
                intro w7 hC7
                have hb7 := Ci.out _ hC7
                have HB7 := Lib.hid (HB6.out.trans (hb7.mono HB6.out.size))
                have HR7 := Lib.hid (HR6.out.keep hb7)
                replace x1 := Keep.below hb7 _ _ x1
                replace x2 := Keep.below hb7 _ _ x2
                replace ls := Keep.below hb7 _ _ ls
                replace ld := Keep.below hb7 _ _ ld
                replace fd := HR7.out.frozen d
                clear hb7 hC7 Ci Co C HB6 HR6
                have hys := HSM.out k z hlt hz0
                rw [← HNX.out]
                clear hwr1
                generalize (further N) k z = y at *
                by_cases h2 : listI l' d = -1 ∨ y < listI l' d
                · have HT2 := Lib.hid (HTS.out h2)
                  have HM2 : Hid (left2 1900000 (l'.set d y) < left2 1900000 l) := Lib.hid (by
                    have h3 := left2_set (M := 1900000) (l := l') (i := d) (x := y) (by omega) (by omega) (by
                      have := HT2.out.cap' n20 d d1
                      rw [listI_set, if_pos ⟨rfl, by omega⟩] at this
                      omega) h2
                    cases b' with
                    | true => have := HL.out rfl; omega
                    | false =>
                      have := (HF.out rfl).1
                      rw [this] at h3 ⊢
                      exact h3)
                  have HR9 := Lib.hid (HR7.out.put (i := d) (by omega) y)
                  have HB9 := Lib.hid (HB7.out.setCell (p := ⟨g, d, none⟩) HG1.out (.int .i64 y))
                  by_cases h2a : listI l' d = -1
                  · rw [h2a] at ld
                    clear h2 h2a hys
                    go_wp2_with fail
                    go_roundw
                    case rel => exact ⟨l'.set d y, true, k + 1, by omega, rfl, by go_num, HT2, Lib.hid (fun h => by cases h), Lib.hid (fun _ => HM2.out), HR9, HB9⟩
                    case measure => simp [intOf]; omega
                  · have h2b : y < listI l' d := h2.resolve_left h2a
                    have h2c := (HTk.out.over d d1 h2a).1
                    have e1 : decide (listI l' d < 0) = false := decide_eq_false (by omega)
                    have e2 : decide (y < listI l' d) = true := decide_eq_true h2b
                    clear h2 h2a hys h2b h2c
                    go_wp2_with fail
                    go_roundw
                    case rel => exact ⟨l'.set d y, true, k + 1, by omega, rfl, by go_num, HT2, Lib.hid (fun h => by cases h), Lib.hid (fun _ => HM2.out), HR9, HB9⟩
                    case measure => simp [intOf]; omega
                · have h2a : listI l' d ≠ -1 := fun h => h2 (.inl h)
                  have h2c := (HTk.out.over d d1 h2a).1
                  have HS2 := Lib.hid (show b' = false → l' = l ∧ Shut2 N (further N) l' (k + 1) from fun hb => HSS.out hb h2)
                  have e1 : decide (listI l' d < 0) = false := decide_eq_false (by omega)
                  have e2 : decide (y < listI l' d) = false := decide_eq_false (fun h => h2 (.inr h))
                  clear h2 h2a hys h2c
                  go_wp2_with fail
                  go_roundw
                  case rel => exact ⟨l', b', k + 1, by omega, rfl, by go_num, HTk, HS2, HL, HR7, HB7⟩
                  case measure => simp [intOf]; omega
            · obtain rfl : k = N.roads.length := by omega
              clear hlt hk
              go_wp2_with fail
              go_roundg (2 * left2 1900000 l' + b'.toNat)
              case rel => exact ⟨l', b', rfl, Lib.hid rfl, HTk, Lib.hid (fun hb => (HF.out hb).2), HRk, HBk⟩
              case measure =>
                have hq := HQ.out
                cases b' with
                | true => have := HL.out rfl; simp at hq ⊢; omega
                | false =>
                  have := (HF.out rfl).1
                  rw [this]
                  simp at hq ⊢
                  omega
end Go.Proofs.Ytnjaadmmbdlfoaa
/- HeightsFrom; and what a shortest way is like. Condition: the net can be read. -/
namespace Go.Proofs.Ytnjaadmmbdlfoaa
open Go.RowKit Fs

theorem arr1New (w : World) (x : Int) (ty : TypeId) : ArrI (w.alloc (.cells #[.int .i64 x] ty)) (some ⟨w.heap.size, 0, none⟩) [x] 1 := by
  refine ⟨Nat.le_refl _, by decide, fun _ => ⟨w.heap.size, 0, rfl, fun i j hi hj => ?_⟩⟩
  have hj0 : j = 0 := by omega
  have hi : i < 1 := hi
  have hi0 : i = 0 := by omega
  subst hj0; subst hi0
  exact cellNew w _ _ 0
theorem Fs.place_one (N : Net) (f : Int) : placesErr N [f] = if isPlace N f then 0 else 6 := by
  unfold placesErr
  show fst _ 1 = _
  cases h1 : isPlace N f with
  | false => exact (fst_hit (k := 0) (by decide) (fun j hj => absurd hj (Nat.not_lt_zero _)) (by show (if isPlace N f then (0 : Int) else 6) ≠ 0; rw [h1]; decide)).1.trans (by show (if isPlace N f then (0 : Int) else 6) = _; rw [h1])
  | true =>
    refine fst_none fun j hj => ?_
    obtain rfl : j = 0 := by omega
    show (if isPlace N f then (0 : Int) else 6) = 0
    rw [h1]
    rfl
def Fs.hfErr (N : Net) (f : Int) : Int := fst (listI [netErr N, placesErr N [f]]) 2
def Fs.hfList (N : Net) (f : Int) : List Int := if hfErr N f = 0 then heights N f else []
theorem Fs.hfErr_ok {N : Net} {f : Int} (h : hfErr N f = 0) : netErr N = 0 ∧ 0 ≤ f ∧ f < N.places.length :=
  ⟨fst_zero h 0 (by decide), place_in (fst_zero h 1 (by decide) : placesErr N [f] = 0) (k := 0) (by show 0 < 1; decide)⟩
theorem Fs.heights_len (N : Net) (f : Int) : (heights N f).length = N.places.length := search_len.1

/-! ### the way back is a way -/
theorem listI_app1 {l m : List Int} {i : Nat} (h : i < l.length) : listI (l ++ m) i = listI l i := by
  unfold listI
  rw [List.getD_eq_getElem?_getD, List.getD_eq_getElem?_getD, List.getElem?_append_left h]
theorem listI_app2 {l : List Int} {x : Int} : listI (l ++ [x]) l.length = x := by
  unfold listI
  rw [List.getD_eq_getElem?_getD, List.getElem?_append_right (Nat.le_refl _)]
  simp
theorem Fs.along_app (nx : Nat → Int → Int) (l m : List Int) (x : Int) : ∀ k, k ≤ l.length → alongTo nx k (l ++ m) x = alongTo nx k l x
  | 0, _ => rfl
  | k + 1, hk => by
    show nx (listI (l ++ m) k).toNat _ = nx (listI l k).toNat _
    rw [along_app nx l m x k (by omega), listI_app1 (by omega)]
theorem Fs.joins_none {N : Net} {l : List Int} {f t : Int} (h : l.length = 0) (h2 : f = t) : JoinsIs N l f t := by unfold JoinsIs; rw [if_pos h]; exact h2
theorem Fs.joins_some {N : Net} {l : List Int} {f t : Int} (h : l.length ≠ 0) (h2 : JoinsIs N l f t) : (listD N.roads (listI l 0).toNat).src = f ∧ (listD N.roads (listI l (l.length - 1)).toNat).dst = t := by unfold JoinsIs at h2; rwa [if_neg h] at h2
structure Fs.WayIs (N : Net) (nx : Nat → Int → Int) (src z : Nat) (L y : Int) (l : List Int) : Prop where
  inside : ∀ j, j < l.length → 0 ≤ listI l j ∧ listI l j < N.roads.length
  hops : ∀ j, 0 < j → j < l.length → (listD N.roads (listI l (j - 1)).toNat).dst = (listD N.roads (listI l j).toNat).src
  joins : JoinsIs N l src z
  along : alongTo nx l.length l L = y
theorem Fs.Found.chain {N : Net} {nx : Nat → Int → Int} {src : Nat} {L : Int} {s : St} (hs : src < N.places.length) (hF : Found N nx src L s) (hJ : Joined N) : ∃ rk : Nat → Nat, (∀ z, z < N.places.length → rk z ≤ N.places.length) ∧ ∀ z l, Chain N s.last z l → z < N.places.length → listI s.labels z ≠ -1 → l.length ≤ rk z ∧ WayIs N nx src z L (listI s.labels z) l.reverse := by
  obtain ⟨rk, ht⟩ := hF.tree
  refine ⟨fun z => if listI s.last z = -1 then 0 else rk z, fun z hz => ?_, fun z l hc => ?_⟩
  · dsimp only
    by_cases e : listI s.last z = -1
    · rw [if_pos e]; exact Nat.zero_le _
    · rw [if_neg e]; have := (ht z hz e).1; omega
  · induction hc with
    | stop z hl =>
      intro hz hy
      rcases hF.back z hz hl with h | h
      · subst h
        exact ⟨Nat.zero_le _, fun j hj => absurd hj (Nat.not_lt_zero _), fun j _ hj => absurd hj (Nat.not_lt_zero _), joins_none rfl rfl, hF.own.symm⟩
      · exact absurd h hy
    | go z i l hl hc ih =>
      intro hz hy
      have hne : listI s.last z ≠ -1 := by rw [hl]; omega
      obtain ⟨h1, i', h2, h3, h4, h5, h6, h7⟩ := ht z hz hne
      obtain rfl : i = i' := by rw [hl] at h3; omega
      obtain ⟨⟨s0, s1⟩, -⟩ := hJ i h2
      obtain ⟨k1, k2⟩ := ih (by omega) h5
      have hrl : (l.reverse).length = l.length := List.length_reverse
      have hrev : ((i : Int) :: l).reverse = l.reverse ++ [(i : Int)] := List.reverse_cons
      have hlen : (((i : Int) :: l).reverse).length = l.length + 1 := by simp
      refine ⟨?_, ⟨fun j hj => ?_, fun j hj0 hj => ?_, ?_, ?_⟩⟩
      · show l.length + 1 ≤ if listI s.last z = -1 then 0 else rk z
        rw [if_neg hne]
        dsimp only at k1
        by_cases e : listI s.last (listD N.roads i).src.toNat = -1
        · rw [if_pos e] at k1; omega
        · rw [if_neg e] at k1; omega
      · rw [hlen] at hj
        rw [hrev]
        by_cases e : j = l.length
        · subst e
          have := listI_app2 (l := l.reverse) (x := (i : Int))
          rw [hrl] at this
          rw [this]; omega
        · rw [listI_app1 (by rw [hrl]; omega)]
          exact k2.inside j (by rw [hrl]; omega)
      · rw [hlen] at hj
        rw [hrev]
        by_cases e : j = l.length
        · subst e
          have := listI_app2 (l := l.reverse) (x := (i : Int))
          rw [hrl] at this
          rw [this, listI_app1 (by rw [hrl]; omega), Int.toNat_natCast]
          have := (joins_some (by rw [hrl]; omega) k2.joins).2
          rw [hrl] at this
          rw [this]
          omega
        · rw [listI_app1 (by rw [hrl]; omega), listI_app1 (by rw [hrl]; omega)]
          exact k2.hops j hj0 (by rw [hrl]; omega)
      · have hlast := listI_app2 (l := l.reverse) (x := (i : Int))
        rw [hrl] at hlast
        unfold JoinsIs
        rw [hlen, if_neg (by omega), hrev, Nat.add_sub_cancel, hlast, Int.toNat_natCast]
        refine ⟨?_, h4⟩
        by_cases e : l.length = 0
        · have e0 := k2.joins
          unfold JoinsIs at e0
          rw [hrl, if_pos e] at e0
          rw [e] at hlast
          rw [hlast, Int.toNat_natCast]
          omega
        · rw [listI_app1 (by rw [hrl]; omega)]
          exact (joins_some (by rw [hrl]; omega) k2.joins).1
      · rw [hlen, hrev]
        show nx (listI (l.reverse ++ [(i : Int)]) l.length).toNat (alongTo nx l.length (l.reverse ++ [(i : Int)]) L) = _
        have := listI_app2 (l := l.reverse) (x := (i : Int))
        rw [hrl] at this
        rw [this, along_app nx _ _ _ _ (by rw [hrl]; exact Nat.le_refl _), Int.toNat_natCast, h6]
        have := k2.along
        rw [hrl] at this
        rw [this]
end Go.Proofs.Ytnjaadmmbdlfoaa
/- What holds of heights and shortest ways: plain. Conditions: the net is right; the places are places. -/
namespace Go.Proofs.Ytnjaadmmbdlfoaa
open Go.RowKit Fs

theorem Fs.found_bound {N : Net} {nx : Nat → Int → Int} {src : Nat} {L : Int} (hN : Joined N) (hg : Good N nx) (hm : Small N nx) (hs : src < N.places.length) (hL : 0 ≤ L) :
    ∀ z, z < N.places.length → listI (search N src L nx).labels z ≠ -1 → 0 ≤ listI (search N src L nx).labels z ∧ listI (search N src L nx).labels z ≤ L + 100000 * N.places.length := by
  have F := search_found hN hg hs hL
  generalize search N src L nx = S at *
  obtain ⟨rk, ht⟩ := F.tree
  have key : ∀ n z, rk z ≤ n → z < N.places.length → listI S.labels z ≠ -1 → 0 ≤ listI S.labels z ∧ (listI S.last z ≠ -1 → listI S.labels z ≤ L + 100000 * rk z) ∧ (listI S.last z = -1 → listI S.labels z ≤ L) := by
    intro n
    induction n with
    | zero =>
      intro z hr hz hl
      have hle := F.least z hz
      refine ⟨by omega, fun e => ?_, fun e => ?_⟩
      · obtain ⟨-, i, -, -, -, -, -, h6⟩ := ht z hz e
        omega
      · rcases F.back z hz e with h1 | h1
        · subst h1; rw [F.own]; exact Int.le_refl _
        · exact absurd h1 hl
    | succ n ih =>
      intro z hr hz hl
      have hle := F.least z hz
      refine ⟨by omega, fun e => ?_, fun e => ?_⟩
      · obtain ⟨-, i, h1, h2, h3, h4, h5, h6⟩ := ht z hz e
        have hj := hN i h1
        obtain ⟨k0, k1, k2⟩ := ih (listD N.roads i).src.toNat (by omega) (by omega) h4
        have hsm := hm i _ h1 k0
        by_cases e2 : listI S.last (listD N.roads i).src.toNat = -1
        · have := k2 e2; omega
        · have := k1 e2; omega
      · rcases F.back z hz e with h1 | h1
        · subst h1; rw [F.own]; exact Int.le_refl _
        · exact absurd h1 hl
  intro z hz hl
  obtain ⟨k0, k1, k2⟩ := key (rk z) z (Nat.le_refl _) hz hl
  refine ⟨k0, ?_⟩
  by_cases e : listI S.last z = -1
  · have := k2 e; omega
  · have := k1 e
    have := (ht z hz e).1
    omega
/-- No way is less than the labels. -/
theorem Fs.along_over {N : Net} {nx : Nat → Int → Int} {src : Nat} {L : Int} {s : St} (hF : Found N nx src L s) (hN : Joined N) (hg : Good N nx) (hs : src < N.places.length) (hL : 0 ≤ L) {l : List Int} (hw : wayErr N l = 0) (h0 : l.length ≠ 0 → (listD N.roads (listI l 0).toNat).src = (src : Int)) :
    ∀ k, k < l.length → listI s.labels (listD N.roads (listI l k).toNat).dst.toNat ≠ -1 ∧ listI s.labels (listD N.roads (listI l k).toNat).dst.toNat ≤ alongTo nx (k + 1) l L
  | 0, hk => by
    have hr := ((way_ok hw).2 0 hk).1
    have h := h0 (by omega)
    have st := hF.step (listI l 0).toNat (by omega)
    rw [h, Int.toNat_natCast, hF.own] at st
    exact st (by omega)
  | k + 1, hk => by
    have ih := along_over hF hN hg hs hL hw h0 k (by omega)
    have hr := ((way_ok hw).2 (k + 1) hk)
    have hj := hr.2 (by omega)
    rw [Nat.add_sub_cancel] at hj
    have hr := hr.1
    have st := hF.step (listI l (k + 1)).toNat (by omega)
    rw [← hj] at st
    have st := st ih.1
    have hjn := hN (listI l k).toNat (by have := ((way_ok hw).2 k (by omega)).1; omega)
    have hle : 0 ≤ listI s.labels (listD N.roads (listI l k).toNat).dst.toNat := by
      rcases hF.least (listD N.roads (listI l k).toNat).dst.toNat (by omega) with h | h
      · exact absurd h ih.1
      · omega
    have hm := hg.mono (listI l (k + 1)).toNat _ _ (by omega) hle ih.2
    refine ⟨st.1, ?_⟩
    show _ ≤ nx (listI l (k + 1)).toNat (alongTo nx (k + 1) l L)
    omega
theorem Fs.along_joins {N : Net} {nx : Nat → Int → Int} {src t : Nat} {L : Int} {s : St} (hF : Found N nx src L s) (hN : Joined N) (hg : Good N nx) (hs : src < N.places.length) (hL : 0 ≤ L) {l : List Int} (hw : wayErr N l = 0) (hj : JoinsIs N l src t) :
    listI s.labels t ≠ -1 ∧ listI s.labels t ≤ alongTo nx l.length l L := by
  by_cases e : l.length = 0
  · unfold JoinsIs at hj
    rw [if_pos e] at hj
    have : src = t := by omega
    subst this
    rw [e, hF.own]
    exact ⟨by omega, Int.le_refl _⟩
  · have j := joins_some e hj
    have := along_over hF hN hg hs hL hw (fun _ => j.1) (l.length - 1) (by omega)
    rw [j.2, Int.toNat_natCast, show l.length - 1 + 1 = l.length by omega] at this
    exact this
theorem Fs.further_found {N : Net} (hE : netErr N = 0) {f : Nat} (hf : f < N.places.length) : Found N (further N) f 0 (search N f 0 (further N)) := search_found (net_joined hE) (further_good hE) hf (Int.le_refl 0)
theorem Fs.way_zero {N : Net} {l : List Int} (h1 : l.length ≤ 200) (h2 : ∀ j, j < l.length → 0 ≤ listI l j ∧ listI l j < N.roads.length) (h3 : ∀ j, 0 < j → j < l.length → (listD N.roads (listI l (j - 1)).toNat).dst = (listD N.roads (listI l j).toNat).src) : wayErr N l = 0 := by
  refine (way_none (by omega) fun j hj => ?_).1
  refine hop_yes ?_ ?_
  · have := h2 j hj
    exact Fs.within_iff.2 ⟨this.1, by omega⟩
  · rintro ⟨hj0, hne⟩
    exact hne (h3 j hj0 hj)
theorem Fs.shortest_way {N : Net} (hE : netErr N = 0) {f t : Nat} (hf : f < N.places.length) (ht : t < N.places.length) {W : List Int} (hy : listI (heights N f) t ≠ -1) (hc : Chain N (search N f 0 (further N)).last t W.reverse) :
    wayErr N W = 0 ∧ JoinsIs N W f t ∧ metresTo N W = listI (heights N f) t ∧ (∀ j, j < W.length → 0 ≤ listI W j ∧ listI W j < N.roads.length) ∧ W.length ≤ 200 := by
  obtain ⟨rk, h1, h2⟩ := (further_found hE hf).chain hf (net_joined hE)
  obtain ⟨k1, k2⟩ := h2 t _ hc ht hy
  rw [List.reverse_reverse] at k2
  rw [List.length_reverse] at k1
  have := h1 t ht
  have := (net_sound hE).2.1
  exact ⟨way_zero (by omega) k2.inside k2.hops, k2.joins, k2.along, k2.inside, by omega⟩
theorem Fs.heights_proved {N : Net} (hE : netErr N = 0) {f t : Nat} (hf : f < N.places.length) (ht : t < N.places.length) (hy : listI (heights N f) t ≠ -1) : chHeights N f t (heights N f) = (listI (heights N f) t, 0) := by
  have F := further_found hE hf
  have hlen : (heights N f).length = N.places.length := heights_len N f
  have h20 := (net_sound hE).2.1
  rw [rHeights_same hE hf ht]
  unfold rHeights
  rw [if_pos hlen, if_pos (show LabIn (heights N f) from fun j hj => by
    rw [hlen] at hj
    by_cases e : listI (heights N f) j = -1
    · rw [e]; rfl
    · have := found_bound (net_joined hE) (further_good hE) (further_small hE) hf (Int.le_refl 0) j hj e
      exact Fs.within_iff.2 ⟨by have := this.1; show -1 ≤ listI (search N f 0 (further N)).labels j; omega, by have := this.2; show listI (search N f 0 (further N)).labels j ≤ _; omega⟩)]
  unfold chRes
  rw [if_neg, if_neg hy]
  rintro (h | h)
  · exact h F.own
  · refine h fun i hi => ?_
    by_cases e : listI (heights N f) (listD N.roads i).src.toNat = -1
    · exact .inl e
    · exact .inr (F.step i hi e)
theorem Fs.metOf_ok {N : Net} {l : List Int} (h1 : netErr N = 0) (h2 : wayErr N l = 0) : metOf N l = (metresTo N l, 0) := if_pos (by unfold cwErr; rw [if_pos h1, h2])
theorem Fs.way_longer {N : Net} (hE : netErr N = 0) {f t : Nat} (hf : f < N.places.length) {l : List Int} (hw : wayErr N l = 0) (hj : JoinsIs N l f t) : listI (heights N f) t ≤ metresTo N l :=
  (along_joins (further_found hE hf) (net_joined hE) (further_good hE) hf (Int.le_refl 0) hw hj).2
theorem Fs.hfErr_net {N : Net} {f : Int} (h : netErr N ≠ 0) : hfErr N f = netErr N ∧ hfList N f = [] := by
  have e : hfErr N f = netErr N := by unfold hfErr; rw [fst2, if_neg h]
  exact ⟨e, if_neg (by rw [e]; exact h)⟩
theorem Fs.hfErr_place {N : Net} {f : Int} (h : netErr N = 0) (h2 : isPlace N f = false) : hfErr N f = 6 ∧ hfList N f = [] := by
  have e : hfErr N f = 6 := by unfold hfErr; rw [fst2, if_pos h, place_one, h2]; rfl
  exact ⟨e, if_neg (by rw [e]; decide)⟩
theorem Fs.hfErr_fine {N : Net} {f : Int} (h : netErr N = 0) (h2 : isPlace N f = true) : hfErr N f = 0 ∧ hfList N f = heights N f := by
  have e : hfErr N f = 0 := by unfold hfErr; rw [fst2, if_pos h, place_one, h2]; rfl
  exact ⟨e, if_pos e⟩
theorem Fs.shErr_is (N : Net) (f t : Int) : shErr N f t = if netErr N = 0 then (if isPlace N f = true ∧ isPlace N t = true then 0 else 6) else netErr N := by
  unfold shErr; rw [fst2, place_two]
theorem Fs.shortest_bad {N : Net} {f t e : Int} (h : shErr N f t = e) (h2 : e ≠ 0) : shortest N f t = (0, e) := by
  unfold shortest; rw [if_neg (by rw [h]; exact h2), h]
end Go.Proofs.Ytnjaadmmbdlfoaa

/- How long a road takes, as the reference tells it: the walk. Conditions: its points are right; the time is small. -/
import Derived.Test.YtbilomkoijomiaaT36
import Derived.Deep.RegionHeld3
namespace Go.Proofs.Ytbilomkoijomiaa
open Go.RowKit Fs

set_option maxHeartbeats 3200000 in
set_option maxRecDepth 100000 in
theorem rTakes_any (r : Rd) (A : Option Addr) (c : Nat) (a : Int) (w : World) (h : ArrP w A r.pts c) (hl : PtsOk r.pts) (h0 : 0 ≤ a) (h9 : a ≤ 1000000000000) :
    Calls Try.prog 23 #[rdV r A c, .int .i64 a] w fun e w' => e = .returned (.agg #[.int .i64 (takesAt r.pts a).1, .int .i64 (takesAt r.pts a).2]) ∧ Below w.heap.size w w' := by
  obtain ⟨nm, sr, ds, me, l⟩ := r
  dsimp only at h hl ⊢
  have b1 := h.le.1
  have b2 := h.le.2
  have HL := Lib.hid hl
  have hn8 := hl.2.1
  have hn0 : 0 < l.length := Nat.pos_of_ne_zero hl.1
  have t0 := Int.emod_nonneg a (show (86400 : Int) ≠ 0 by decide)
  have t1 := Int.emod_lt_of_pos a (show (0 : Int) < 86400 by decide)
  obtain ⟨b, o, rfl, -⟩ := h.at_ hn0
  have HA := Lib.hid (ArrP.keep (Keep.alloc _ (.cells #[.int .i64 0, .int .i64 0] 35)) (ArrP.keep (Keep.alloc w (.cells #[.string nm, .int .i64 sr, .int .i64 ds, .int .i64 me, .slice (some ⟨b, o, none⟩) l.length c] 45)) h))
  have BX := Lib.hid ((BoxD.new w ⟨nm, sr, ds, me, l⟩ (some ⟨b, o, none⟩) c 45).keep (Keep.alloc _ (.cells #[.int .i64 0, .int .i64 0] 35)))
  have RV := Lib.hid (show MarkAt ((w.alloc (.cells #[.string nm, .int .i64 sr, .int .i64 ds, .int .i64 me, .slice (some ⟨b, o, none⟩) l.length c] 45)).alloc (.cells #[.int .i64 0, .int .i64 0] 35)) (w.heap.size + 1) from by
    have := MarkAt.new (w.alloc (.cells #[.string nm, .int .i64 sr, .int .i64 ds, .int .i64 me, .slice (some ⟨b, o, none⟩) l.length c] 45)) 35
    simpa using this)
  go_enter Try.func23, Try.ntmps23
  go_upto_region 1 with fail
  generalize hwb : (w.alloc _).alloc _ = wb at *
  have HW : Hid (Below w.heap.size w wb) := by rw [← hwb]; exact Lib.hid (((Below.refl _ _).alloc (Nat.le_refl _) _).alloc (by simp) _)
  have HLT : Hid (w.heap.size + 1 < wb.heap.size) := by rw [← hwb]; exact Lib.hid (by simp)
  clear hwb h hl
  obtain ⟨x0, x1, x2, x3, x4⟩ := BX.out
  dsimp only at x4
  clear x0 x1 x2 x3
  go_wp2_with (go_at_call 56; refine (mod_any a 86400 _ (by omega) (by omega) (by omega) (by omega)).mono ?_; rintro e w' ⟨rfl, rfl⟩)
  go_loop [6, 7] (fun u v => ∃ i k : Nat, i ≤ l.length ∧ u = .int .i64 k ∧ v = .int .i64 i ∧ k < l.length ∧ Hid (k = refK (behind l (a % 86400)) l.length i)) (fun u v => l.length - (intOf v).toNat)
  case atStart => exact ⟨0, l.length - 1, Nat.zero_le _, by simp; omega, rfl, by omega, Lib.hid (by unfold refK; rw [Nat.zero_min, if_pos rfl])⟩
  case round =>
    obtain ⟨i, k, hi, rfl, rfl, hkl, Hk⟩ := hrel
    by_cases hlt : i < l.length
    · obtain ⟨b', o', e', c0, -, -⟩ := HA.out.at_ hlt
      obtain ⟨rfl, rfl⟩ : b = b' ∧ o = o' := by simpa using e'
      clear e'
      by_cases hle : (listP l i).hour ≤ a % 86400
      · have F : Hid (i = refK (behind l (a % 86400)) l.length (i + 1)) := Lib.hid (refK_yes HL.out hlt hle).symm
        have d1 : decide ((listP l i).hour ≤ a % 86400) = true := decide_eq_true hle
        clear hle
        go_wp2
        go_round
        case rel => exact ⟨i + 1, i, by omega, rfl, by go_num, hlt, F⟩
        case measure => simp [intOf]; omega
      · have F : Hid (k = refK (behind l (a % 86400)) l.length (i + 1)) := Lib.hid (Hk.out.trans (refK_no (by omega)).symm)
        have d1 : decide ((listP l i).hour ≤ a % 86400) = false := decide_eq_false (by omega)
        clear hle
        go_wp2
        go_round
        case rel => exact ⟨i + 1, k, by omega, rfl, by go_num, hkl, F⟩
        case measure => simp [intOf]; omega
    · obtain rfl : i = l.length := by omega
      have HK : Hid (k = prevOf l (a % 86400)) := Lib.hid (Hk.out.trans (refK_end HL.out.1 _))
      clear hlt hi Hk
      obtain ⟨i2, hi2, hl2, x2⟩ := next_is hkl
      have HN : Hid (i2 = nextOf l (a % 86400)) := Lib.hid (by rw [hi2, HK.out]; exact (next_prev l (a % 86400) HL.out.1).1.symm)
      clear hi2
      have R1 := Lib.hid (ptRight_is (HL.out.right hkl))
      have R2 := Lib.hid (ptRight_is (HL.out.right hl2))
      have hnil : l ≠ [] := fun e => by rw [e] at hn0; exact absurd hn0 (Nat.lt_irrefl _)
      obtain ⟨b', o', e', p0, p1, p2⟩ := HA.out.at_ hkl
      obtain ⟨rfl, rfl⟩ : b = b' ∧ o = o' := by simpa using e'
      clear e'
      obtain ⟨b', o', e', q0, q1, q2⟩ := HA.out.at_ hl2
      obtain ⟨rfl, rfl⟩ : b = b' ∧ o = o' := by simpa using e'
      clear e'
      have p0b := fun y z => Keep.alloc (wb.alloc y) z _ _ (Keep.alloc wb y _ _ p0)
      have p0a := fun y => Keep.alloc wb y _ _ p0
      have p1b := fun y z => Keep.alloc (wb.alloc y) z _ _ (Keep.alloc wb y _ _ p1)
      have p1a := fun y => Keep.alloc wb y _ _ p1
      have p2b := fun y z => Keep.alloc (wb.alloc y) z _ _ (Keep.alloc wb y _ _ p2)
      have p2a := fun y => Keep.alloc wb y _ _ p2
      have q0b := fun y z => Keep.alloc (wb.alloc y) z _ _ (Keep.alloc wb y _ _ q0)
      have q0a := fun y => Keep.alloc wb y _ _ q0
      have q1b := fun y z => Keep.alloc (wb.alloc y) z _ _ (Keep.alloc wb y _ _ q1)
      have q1a := fun y => Keep.alloc wb y _ _ q1
      have q2b := fun y z => Keep.alloc (wb.alloc y) z _ _ (Keep.alloc wb y _ _ q2)
      have q2a := fun y => Keep.alloc wb y _ _ q2
      have x4b := fun y z => Keep.alloc (wb.alloc y) z _ _ (Keep.alloc wb y _ _ x4)
      have x4a := fun y => Keep.alloc wb y _ _ x4
      go_wp2_with fail
      go_cut [8, 9] from 34 to 48 (fun s8 s9 wx => ∃ g1 g2 : Nat, w.heap.size + 1 < g1 ∧ w.heap.size + 1 < g2 ∧ s8 = .pointer (some ⟨g1, 0, none⟩) ∧ s9 = .pointer (some ⟨g2, 0, none⟩) ∧ Hid (PtAt wx g1 (listP l k)) ∧ Hid (PtAt wx g2 (listP l i2)) ∧ Hid (Below wb.heap.size wb wx))
      case first =>
        go_region
        all_goals
          go_wp2_with fail
          go_meet
          first
            | exact ⟨wb.heap.size, wb.heap.size + 1, HLT.out, Nat.lt_succ_of_lt HLT.out, rfl, rfl, Lib.hid ((PtAt.new wb _ _).keep ((Keep.alloc _ _).trans (Keep.drew _))), Lib.hid ((PtAt.new1 wb _ _ _).keep (Keep.drew _)), Lib.hid (((Below.refl _ _).alloc (Nat.le_refl _) _).alloc (by simp) _).drew⟩
            | exact ⟨wb.heap.size + 1, wb.heap.size, Nat.lt_succ_of_lt HLT.out, HLT.out, rfl, rfl, Lib.hid ((PtAt.new1 wb _ _ _).keep (Keep.drew _)), Lib.hid ((PtAt.new wb _ _).keep ((Keep.alloc _ _).trans (Keep.drew _))), Lib.hid (((Below.refl _ _).alloc (Nat.le_refl _) _).alloc (by simp) _).drew⟩
      case rest =>
        obtain ⟨g1, g2, lt1, lt2, rfl, rfl, PK, PJ, HBc⟩ := hcut
        clear p0 p0a p0b p1 p1a p1b p2 p2a p2b q0 q0a q0b q1 q1a q1b q2 q2a q2b x4 x4a x4b
        obtain ⟨wp, hwp⟩ : ∃ wp, wp = wc := ⟨_, rfl⟩
        subst hwp
        obtain ⟨k0, k1, k2⟩ := PK.out
        obtain ⟨j0, j1, j2⟩ := PJ.out
        have HBp := Lib.hid (HW.out.trans (HBc.out.mono HW.out.size))
        have RVp := Lib.hid (RV.out.below HBc.out RV.out.lt)
        obtain ⟨r0, r1, rf0, rf1⟩ := RVp.out
        clear HBc
        have G := Lib.hid (show ((listP l i2).hour - (listP l k).hour) % 86400 = gapOf l (a % 86400) by rw [HN.out, HK.out]; rfl)
        have O := Lib.hid (show (a % 86400 - (listP l k).hour) % 86400 = offOf l (a % 86400) by rw [HK.out]; rfl)
        have G0 : 0 ≤ gapOf l (a % 86400) ∧ gapOf l (a % 86400) < 86400 := by unfold gapOf; omega
        have O0 : 0 ≤ offOf l (a % 86400) ∧ offOf l (a % 86400) < 86400 := by unfold offOf; omega
        obtain ⟨ph0, ph1⟩ := R1.out.1
        obtain ⟨qh0, qh1⟩ := R2.out.1
        by_cases hz : gapOf l (a % 86400) = 0
        · have d1 : (gapOf l (a % 86400) == 0) = true := by simpa using hz
          have HT := Lib.hid (takesAt_one HL.out hz)
          clear hz
          go_wp2_with (go_at_call 56; refine (mod_any _ 86400 _ (by omega) (by omega) (by omega) (by omega)).mono ?_; rintro e w' ⟨rfl, rfl⟩; rw [G.out])
          refine bodyPost_ret (v := .agg #[.int .i64 (listP l k).lo, .int .i64 (listP l k).hi]) (by simp [results, Try.results23, go_sem, r0, r1]) rfl ⟨by rw [HT.out, HK.out], ?_⟩
          exact ((HBp.out.setCell (p := ⟨w.heap.size + 1, 0, none⟩) (by simp) _).setCell (p := ⟨w.heap.size + 1, 1, none⟩) (by simp) _)
        · have d1 : (gapOf l (a % 86400) == 0) = false := by simpa using hz
          have HT := Lib.hid (takesAt_two HL.out hz)
          have hg1 : 1 ≤ gapOf l (a % 86400) := by omega
          clear hz
          go_wp2_with (go_at_call 56; refine (mod_any _ 86400 _ (by omega) (by omega) (by omega) (by omega)).mono ?_; rintro e w' ⟨rfl, rfl⟩; first | rw [G.out] | rw [O.out])
          go_cut [] from 64 to 82 (fun wx => Hid (wx.cell? ⟨w.heap.size + 1, 0, none⟩ = some (.int .i64 (takesAt l a).1)) ∧ Hid (wx.cell? ⟨w.heap.size + 1, 1, none⟩ = some (.int .i64 (takesAt l a).2)) ∧ Hid (Below w.heap.size w wx))
          case first =>
            go_region_held3 (fun w' => w'.cell? ⟨g1, 1, none⟩ = some (.int .i64 (listP l k).lo) ∧ w'.cell? ⟨g1, 2, none⟩ = some (.int .i64 (listP l k).hi) ∧ w'.cell? ⟨g2, 1, none⟩ = some (.int .i64 (listP l i2).lo) ∧ w'.cell? ⟨g2, 2, none⟩ = some (.int .i64 (listP l i2).hi))
              (first
                | exact ⟨k1, k2, j1, j2⟩
                | (go_split_ands; exact ⟨by assumption, by assumption, by assumption, by assumption⟩)
                | exact ⟨cell_two _ _ _ _ _ _ k1 lt1, cell_two _ _ _ _ _ _ k2 lt1, cell_two _ _ _ _ _ _ j1 lt2, cell_two _ _ _ _ _ _ j2 lt2⟩)
              ((first
                | (go_at_call 74
                   go_split_ands
                   refine (between_any _ _ _ _ _ (by first | exact R1.out.2.1 | exact R1.out.2.2) (by first | exact R2.out.2.1 | exact R2.out.2.2) (by omega) (by omega)).mono ?_
                   rintro e' w' ⟨rfl, rfl⟩)))
            all_goals
              go_wp2_with fail
              go_meet
              rw [HT.out, ← HK.out, ← HN.out]
              exact ⟨Lib.hid (mark_two RVp.out _ _).1, Lib.hid (mark_two RVp.out _ _).2, Lib.hid ((HBp.out.setCell (p := ⟨w.heap.size + 1, 0, none⟩) (by simp) _).setCell (p := ⟨w.heap.size + 1, 1, none⟩) (by simp) _).drew⟩
          case rest =>
            obtain ⟨R0, R1', HBr⟩ := hcut
            have r0 := R0.out
            have r1 := R1'.out
            go_wp2_with fail
            exact bodyPost_ret (v := .agg #[.int .i64 (takesAt l a).1, .int .i64 (takesAt l a).2]) (by simp [results, Try.results23, go_sem, r0, r1]) rfl ⟨rfl, HBr.out⟩
end Go.Proofs.Ytbilomkoijomiaa

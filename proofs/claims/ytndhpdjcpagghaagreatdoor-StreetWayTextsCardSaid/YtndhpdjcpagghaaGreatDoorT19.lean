/- The estimate of a trip. No condition. -/
import Derived.Test.YtndhpdjcpagghaaGreatDoorT17
namespace Go.Proofs.YtndhpdjcpagghaaGreatDoor
open Go.RowKit Fs

def Fs.estErr (N : Net) (f t a : Int) : Int := fst (listI [netErr N, tripErr N f t a]) 2
def Fs.estimate (N : Net) (f t a : Int) : (Int × Int) × Int :=
  if estErr N f t a ≠ 0 then ((0, 0), estErr N f t a) else bound (search N f a (soonest N)).labels (search N f a (latest N)).labels t.toNat
theorem Fs.estErr_ok {N : Net} {f t a : Int} (h : estErr N f t a = 0) : netErr N = 0 ∧ tripErr N f t a = 0 := ⟨fst_zero h 0 (by decide), fst_zero h 1 (by decide)⟩
theorem Fs.search_len {N : Net} {nx : Nat → Int → Int} {s L : Int} : ((search N s L nx).labels.length = N.places.length) ∧ (search N s L nx).last.length = N.places.length := by
  have one : ∀ p st i, (relax N nx p st i).labels.length = st.labels.length ∧ (relax N nx p st i).last.length = st.last.length := fun p st i => by
    unfold relax
    split
    · exact ⟨rfl, rfl⟩
    · split
      · exact ⟨List.length_set, List.length_set⟩
      · exact ⟨rfl, rfl⟩
  have many : ∀ p st k, (relaxTo N nx p st k).labels.length = st.labels.length ∧ (relaxTo N nx p st k).last.length = st.last.length := fun p st k => by
    induction k with
    | zero => exact ⟨rfl, rfl⟩
    | succ k ih => rw [relaxTo, (one _ _ _).1, (one _ _ _).2]; exact ih
  have all : ∀ f st, (rounds N nx f st).labels.length = st.labels.length ∧ (rounds N nx f st).last.length = st.last.length := fun f => by
    induction f with
    | zero => exact fun st => ⟨rfl, rfl⟩
    | succ f ih =>
      intro st
      rw [rounds]
      split
      · exact ⟨rfl, rfl⟩
      · rw [(ih _).1, (ih _).2]
        unfold oneRound
        rw [(many _ _ _).1, (many _ _ _).2]
        exact ⟨rfl, rfl⟩
  unfold search
  rw [(all _ _).1, (all _ _).2]
  simp [Fs.start]

set_option maxHeartbeats 6400000 in
set_option maxRecDepth 100000 in
theorem estimate_any (N : Net) (v : Value) (f t a : Int) (w : World) (hN : RdNet w v N) :
    Calls Tryz.prog 24 #[v, stripV f t a] w fun e w' => e = .returned (.tuple #[.agg #[.int .i64 (estimate N f t a).1.1, .int .i64 (estimate N f t a).1.2], .int .i64 (estimate N f t a).2]) ∧ Below w.heap.size w w' := by
  have hN0 := Lib.hid hN
  obtain ⟨P, R, pc, rc, ar, rfl, m⟩ := hN
  clear m
  have BN := Lib.hid ((BoxN.new w N P R pc rc 25).keep ((Keep.alloc _ (.cells #[.int .i64 f, .int .i64 t, .int .i64 a] 60)).trans (Keep.alloc _ (.cells #[.int .i64 0, .int .i64 0] 54))))
  have BT := Lib.hid ((TripAt.new1 w (.cells #[.slice P N.places.length pc, .slice R N.roads.length rc] 25) f t a 60).keep (Keep.alloc _ (.cells #[.int .i64 0, .int .i64 0] 54)))
  have RT := Lib.hid (show MarkAt (((w.alloc (.cells #[.slice P N.places.length pc, .slice R N.roads.length rc] 25)).alloc (.cells #[.int .i64 f, .int .i64 t, .int .i64 a] 60)).alloc (.cells #[.int .i64 0, .int .i64 0] 54)) (w.heap.size + 1 + 1) from by
    have := MarkAt.new ((w.alloc (.cells #[.slice P N.places.length pc, .slice R N.roads.length rc] 25)).alloc (.cells #[.int .i64 f, .int .i64 t, .int .i64 a] 60)) 54
    simpa using this)
  go_enter Tryz.func24, Tryz.ntmps24
  go_upto_region 1 with fail
  generalize hwb : ((w.alloc _).alloc _).alloc _ = wb at *
  have HW : Hid (Below w.heap.size w wb) := by rw [← hwb]; exact Lib.hid ((((Below.refl _ _).alloc (Nat.le_refl _) _).alloc (by simp) _).alloc (by simp; omega) _)
  have HWS : Hid (w.heap.size + 3 = wb.heap.size) := by rw [← hwb]; exact Lib.hid (by simp)
  clear hwb
  obtain ⟨n0, n1⟩ := BN.out
  obtain ⟨c0, c1, c2⟩ := BT.out
  go_cut [6] from 7 to 13 (fun s wx => s = .int .i64 (estErr N f t a) ∧ Hid (Below wb.heap.size wb wx))
  case first =>
    have HBd : Hid (Below wb.heap.size wb wb.drew) := Lib.hid (Below.refl _ _).drew
    have MK : Hid (∀ w', Below wb.heap.size wb w' → w'.cell? ⟨w.heap.size, 0, none⟩ = some (.slice P N.places.length pc) ∧ w'.cell? ⟨w.heap.size, 1, none⟩ = some (.slice R N.roads.length rc) ∧ w'.cell? ⟨w.heap.size + 1, 0, none⟩ = some (.int .i64 f) ∧ w'.cell? ⟨w.heap.size + 1, 1, none⟩ = some (.int .i64 t) ∧ w'.cell? ⟨w.heap.size + 1, 2, none⟩ = some (.int .i64 a) ∧ Hid (Below wb.heap.size wb w')) :=
      Lib.hid fun w' hw => ⟨Keep.below hw _ _ n0, Keep.below hw _ _ n1, Keep.below hw _ _ c0, Keep.below hw _ _ c1, Keep.below hw _ _ c2, Lib.hid hw⟩
    go_region_held3 (fun w' => w'.cell? ⟨w.heap.size, 0, none⟩ = some (.slice P N.places.length pc) ∧ w'.cell? ⟨w.heap.size, 1, none⟩ = some (.slice R N.roads.length rc) ∧ w'.cell? ⟨w.heap.size + 1, 0, none⟩ = some (.int .i64 f) ∧ w'.cell? ⟨w.heap.size + 1, 1, none⟩ = some (.int .i64 t) ∧ w'.cell? ⟨w.heap.size + 1, 2, none⟩ = some (.int .i64 a) ∧ Hid (Below wb.heap.size wb w'))
      (first
        | exact MK.out _ HBd.out
        | (go_split_ands; exact ⟨by assumption, by assumption, by assumption, by assumption, by assumption, by assumption⟩)
        | (go_split_ands; exact MK.out _ (Below.trans (Hid.out (by assumption)) (hb1.mono (Hid.out (by assumption) : Below wb.heap.size wb _).size)))
        | (go_split_ands; exact MK.out _ (Below.alloc (Hid.out (by assumption)) (Hid.out (by assumption) : Below wb.heap.size wb _).size _)))
      ((first
          | (go_at_call 30
             go_split_ands
             refine (errNet_any N _ _ (hN0.out.keep (Keep.below (HW.out.trans ((Hid.out (by assumption) : Below wb.heap.size wb _).mono HW.out.size))))).mono ?_
             rintro e' w1 ⟨rfl, hb1⟩)
          | (go_at_call 55
             go_split_ands
             refine (tripErr_any N _ f t a _ (hN0.out.keep (Keep.below (HW.out.trans ((Hid.out (by assumption) : Below wb.heap.size wb _).mono HW.out.size))))).mono ?_
             rintro e' w1 ⟨rfl, hb1⟩)
          | (go_at_call 51
             refine (firstError_any [netErr N, tripErr N f t a] _ _ _ (by first | exact arr2New _ _ _ _ | exact ArrI.keep (Keep.drew _) (arr2New _ _ _ _))).mono ?_
             rintro e' w1 ⟨rfl, rfl⟩)))
    all_goals
      rename_i hS
      obtain ⟨-, -, -, -, -, hbb⟩ := hS
      go_wp2_with fail
      go_meet
      exact ⟨rfl, hbb⟩
  case rest =>
    obtain ⟨rfl, HB⟩ := hcut
    obtain ⟨wp, hwp⟩ : ∃ wp, wp = wc := ⟨_, rfl⟩
    subst hwp
    clear n0 n1 c0 c1 c2
    have HX := Lib.hid (HW.out.trans (HB.out.mono HW.out.size))
    obtain ⟨r0, r1, rf0, rf1⟩ := RT.out.below HB.out RT.out.lt
    by_cases he : estErr N f t a = 0
    · have hEE := Lib.hid (estErr_ok he)
      have hPP := Lib.hid (tripErr_ok hEE.out.2)
      have HF := Lib.hid (show estimate N f t a = bound (search N f a (soonest N)).labels (search N f a (latest N)).labels t.toNat from if_neg (by rw [he]; decide))
      have HZ := Lib.hid he
      rw [he]
      clear he
      obtain ⟨s, hs⟩ : ∃ s : Nat, f = s := ⟨_, (Int.toNat_of_nonneg (Fs.within_iff.1 hPP.out.1).1).symm⟩
      obtain ⟨u, hu⟩ : ∃ u : Nat, t = u := ⟨_, (Int.toNat_of_nonneg (Fs.within_iff.1 hPP.out.2.1).1).symm⟩
      have hsl : s < N.places.length := by have := (Fs.within_iff.1 hPP.out.1).2; omega
      have hul : u < N.places.length := by have := (Fs.within_iff.1 hPP.out.2.1).2; omega
      have hta : 0 ≤ a ∧ a ≤ 604800 := by
        have h := hPP.out.2.2
        unfold timeErr at h
        cases hw : within a 0 604800 with
        | true => exact Fs.within_iff.1 hw
        | false => rw [hw] at h; cases h
      subst hs
      subst hu
      obtain ⟨n0, n1⟩ := BN.out.keep (Keep.below HB.out)
      obtain ⟨c0, c1, c2⟩ := BT.out.keep (Keep.below HB.out)
      go_wp2_with fail
      go_cut [5] from 18 to 27 (fun x wx => x = .int .i64 (estimate N (s : Int) (u : Int) a).2 ∧ Hid (wx.cell? ⟨w.heap.size + 1 + 1, 0, none⟩ = some (.int .i64 (estimate N (s : Int) (u : Int) a).1.1)) ∧ Hid (wx.cell? ⟨w.heap.size + 1 + 1, 1, none⟩ = some (.int .i64 (estimate N (s : Int) (u : Int) a).1.2)) ∧ Hid (Below w.heap.size w wx))
      case first =>
        have HWB := Lib.hid (show w.heap.size + 2 ≤ wp.heap.size by have := HWS.out; have := HB.out.size; omega)
        have HBd : Hid (Below (w.heap.size + 2) wp wp.drew) := Lib.hid (Below.refl _ _).drew
        have MK : Hid (∀ w', Below (w.heap.size + 2) wp w' → w'.cell? ⟨w.heap.size, 0, none⟩ = some (.slice P N.places.length pc) ∧ w'.cell? ⟨w.heap.size, 1, none⟩ = some (.slice R N.roads.length rc) ∧ w'.cell? ⟨w.heap.size + 1, 0, none⟩ = some (.int .i64 (s : Int)) ∧ w'.cell? ⟨w.heap.size + 1, 1, none⟩ = some (.int .i64 (u : Int)) ∧ w'.cell? ⟨w.heap.size + 1, 2, none⟩ = some (.int .i64 a) ∧ Hid (Below (w.heap.size + 2) wp w')) :=
          Lib.hid fun w' hw => ⟨(hw.cell (p := ⟨w.heap.size, 0, none⟩) (by dsimp only; omega)).trans n0, (hw.cell (p := ⟨w.heap.size, 1, none⟩) (by dsimp only; omega)).trans n1, (hw.cell (p := ⟨w.heap.size + 1, 0, none⟩) (by dsimp only; omega)).trans c0, (hw.cell (p := ⟨w.heap.size + 1, 1, none⟩) (by dsimp only; omega)).trans c1, (hw.cell (p := ⟨w.heap.size + 1, 2, none⟩) (by dsimp only; omega)).trans c2, Lib.hid hw⟩
        have RTn : Hid (MarkAt wp.drew (w.heap.size + 1 + 1)) := Lib.hid ⟨r0, r1, rf0, rf1⟩
        have HE2 := hEE.out.1
        have hta0 := hta.1
        have hta2 : a ≤ 1000000 := Int.le_trans hta.2 (by decide)
        have KN : Hid (∀ w', Below (w.heap.size + 2) wp w' → RdNet w' (netV N P R pc rc) N) := Lib.hid fun w' hw => (hN0.out.keep (Keep.below (HX.out.trans (hw.mono (Nat.le_add_right _ _)))))
        go_region_held3 (fun w' => w'.cell? ⟨w.heap.size, 0, none⟩ = some (.slice P N.places.length pc) ∧ w'.cell? ⟨w.heap.size, 1, none⟩ = some (.slice R N.roads.length rc) ∧ w'.cell? ⟨w.heap.size + 1, 0, none⟩ = some (.int .i64 (s : Int)) ∧ w'.cell? ⟨w.heap.size + 1, 1, none⟩ = some (.int .i64 (u : Int)) ∧ w'.cell? ⟨w.heap.size + 1, 2, none⟩ = some (.int .i64 a) ∧ Hid (Below (w.heap.size + 2) wp w'))
          (first
            | exact MK.out _ HBd.out
            | (go_split_ands; exact MK.out _ (Below.trans (Hid.out (by assumption)) (hb1.mono (Nat.le_trans HWB.out (Hid.out (by assumption) : Below (w.heap.size + 2) wp _).size))))
            | (go_split_ands; exact MK.out _ (Below.setCell (p := ⟨w.heap.size + 1 + 1, 1, none⟩) (Below.setCell (p := ⟨w.heap.size + 1 + 1, 0, none⟩) (Hid.out (by assumption)) (Nat.le_refl _) _) (Nat.le_refl _) _)))
          ((first
              | (go_at_call 57
                 go_split_ands
                 refine (earliest_any N _ s a _ (KN.out _ (Hid.out (by assumption))) HE2 hsl hta0 hta2).mono ?_
                 rintro e' w1 ⟨g1, g2, rfl, h1, h2, hb1⟩
                 have H1 := Lib.hid h1
                 have H2 := Lib.hid h2
                 have RTn := Lib.hid (MarkAt.below (RTn.out) hb1 (MarkAt.lt (RTn.out)))
                 clear h1 h2
                 obtain ⟨r0, r1, rf0, rf1⟩ := RTn.out)
              | (go_at_call 56
                 go_split_ands
                 refine (boundOf_any (search N s a (soonest N)).labels (search N s a (latest N)).labels g1 g2 N.places.length u s a _ H1.out H2.out search_len.1 search_len.1 hul).mono ?_
                 rintro e' w1 ⟨rfl, hb1⟩
                 have RTn := Lib.hid (MarkAt.below (RTn.out) hb1 (MarkAt.lt (RTn.out)))
                 obtain ⟨r0, r1, rf0, rf1⟩ := RTn.out)))
        all_goals
          rename_i hS
          obtain ⟨-, -, -, -, -, hbb⟩ := hS
          have HFF := HF.out
          rw [Int.toNat_natCast] at HFF
          go_wp2_with fail
          go_meet
          rw [HFF]
          exact ⟨rfl, Lib.hid ((World.cell?_setCell_other _ _ _ _ (by simp)).trans (World.cell?_setCell_same _ _ _ RTn.out.c0)), Lib.hid (World.cell?_setCell_same _ _ _ ((World.cell?_setCell_other _ _ _ _ (by simp)).trans RTn.out.c1)), Lib.hid (HX.out.trans (hbb.out.mono (Nat.le_add_right _ _)))⟩
      case rest =>
        obtain ⟨rfl, R0, R1, HBF⟩ := hcut
        have q0 := R0.out
        have q1 := R1.out
        go_wp2_with fail
        exact bodyPost_ret (v := .tuple #[.agg #[.int .i64 (estimate N (s : Int) (u : Int) a).1.1, .int .i64 (estimate N (s : Int) (u : Int) a).1.2], .int .i64 (estimate N (s : Int) (u : Int) a).2]) (by simp [results, Tryz.results24, go_sem, q0, q1]) rfl ⟨rfl, HBF.out⟩
    · have hz : (estErr N f t a == 0) = false := by simpa using he
      have HF := Lib.hid (show estimate N f t a = ((0, 0), estErr N f t a) from if_pos he)
      clear he
      go_wp2_with fail
      refine bodyPost_ret (v := .tuple #[.agg #[.int .i64 0, .int .i64 0], .int .i64 (estErr N f t a)]) (by simp [results, Tryz.results24, go_sem, r0, r1]) rfl ⟨by rw [HF.out], ?_⟩
      exact ((HX.out.setCell (p := ⟨w.heap.size + 1 + 1, 0, none⟩) (by dsimp only; omega) _).setCell (p := ⟨w.heap.size + 1 + 1, 1, none⟩) (by dsimp only; omega) _)
end Go.Proofs.YtndhpdjcpagghaaGreatDoor

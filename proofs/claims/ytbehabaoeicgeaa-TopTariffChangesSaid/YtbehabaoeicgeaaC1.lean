/- The error of a place, the rule at it, and a later moment. Condition: there are at most a million rules. -/
import Derived.Test.YtbehabaoeicgeaaW9e
namespace Go.Proofs.Ytbehabaoeicgeaa
open Go.RowKit Fs

def Fs.errPlace (T : Tar) (z d t : Int) : Int := if errTar T ≠ 0 then errTar T else if isZone T z then errMoment d t else 6
def Fs.ruleAtP (T : Tar) (z d t : Int) : Int × Int := if errPlace T z d t ≠ 0 then (0, errPlace T z d t) else rAt T z d t
def Fs.laterP (d t s : Int) : (Int × Int) × Int :=
  if errMoment d t ≠ 0 then ((0, 0), errMoment d t) else if within s 0 100000000 then (if errMoment (later d t s).1 (later d t s).2 ≠ 0 then ((0, 0), errMoment (later d t s).1 (later d t s).2) else (later d t s, 0)) else ((0, 0), 2)
/-- A place's three cells. -/
structure PlaceAt (w : World) (g : Nat) (z d t : Int) : Prop where
  c0 : w.cell? ⟨g, 0, none⟩ = some (.int .i64 z)
  c1 : w.cell? ⟨g, 1, none⟩ = some (.int .i64 d)
  c2 : w.cell? ⟨g, 2, none⟩ = some (.int .i64 t)
theorem PlaceAt.keep {w w' : World} (k : Keep w w') {g : Nat} {z d t : Int} (m : PlaceAt w g z d t) : PlaceAt w' g z d t := ⟨k _ _ m.c0, k _ _ m.c1, k _ _ m.c2⟩
abbrev placeV (z d t : Int) : Value := .agg #[.int .i64 z, .int .i64 d, .int .i64 t]

set_option maxHeartbeats 1600000 in
set_option maxRecDepth 100000 in
theorem place_any (T : Tar) (v : Value) (zz d t : Int) (w : World) (hT : RdTar w v T) :
    Calls Try.prog 25 #[v, placeV zz d t] w fun e w' => e = .returned (.int .i64 (errPlace T zz d t)) ∧ Below w.heap.size w w' := by
  have hT0 := hT
  obtain ⟨z, h, r, e, f, zc, hc, rc, ec, fc, a, rfl, m⟩ := hT
  clear m
  have BT := Lib.hid ((BoxT.new w T z h r e f zc hc rc ec fc 28).keep (Keep.alloc _ (.cells #[.int .i64 zz, .int .i64 d, .int .i64 t] 53)))
  have BP := Lib.hid (show PlaceAt _ (w.heap.size + 1) zz d t from ⟨cellNew1 w (.cells #[.string T.name, .int .i64 T.unit, .int .i64 T.step, .slice z T.zones.length zc, .slice h T.hols.length hc, .slice r T.rules.length rc, .slice e T.extras.length ec, .slice f T.fixed.length fc] 28) #[.int .i64 zz, .int .i64 d, .int .i64 t] 53 0, cellNew1 _ _ _ _ 1, cellNew1 _ _ _ _ 2⟩)
  go_enter Try.func25, Try.ntmps25
  go_upto_region 1 with fail
  generalize hwb : (w.alloc _).alloc _ = wb at *
  have HBW : Hid (Below w.heap.size w wb) := by rw [← hwb]; exact Lib.hid (((Below.refl _ _).alloc (Nat.le_refl _) _).alloc (by simp) _)
  clear hwb
  obtain ⟨t0, t1, t2, t3, t4, t5, t6, t7⟩ := BT.out
  go_wp2_with fail
  refine (tarErr_any T _ _ (hT0.keep (Keep.below HBW.out))).mono ?_
  rintro e' w1 ⟨rfl, hb1⟩
  have HW1 := Lib.hid (HBW.out.trans (hb1.mono HBW.out.size))
  have BT1 := Lib.hid (BT.out.keep (Keep.below hb1))
  have BP1 := Lib.hid (BP.out.keep (Keep.below hb1))
  clear hb1 t0 t1 t2 t3 t4 t5 t6 t7 BT BP HBW
  by_cases h1 : errTar T = 0
  · have d1 : (errTar T != 0) = false := by simpa using h1
    have F1 := Lib.hid (show errPlace T zz d t = if isZone T zz then errMoment d t else 6 by unfold errPlace; rw [if_neg (fun hh => hh h1)])
    clear h1
    obtain ⟨t0, t1, t2, t3, t4, t5, t6, t7⟩ := BT1.out
    obtain ⟨p0, p1, p2⟩ := BP1.out
    go_wp2_with fail
    refine (isZone_any T _ _ _ (hT0.keep (Keep.below HW1.out))).mono ?_
    rintro e' w2 ⟨rfl, hb2⟩
    have HW2 := Lib.hid (HW1.out.trans (hb2.mono HW1.out.size))
    have BP2 := Lib.hid (BP1.out.keep (Keep.below hb2))
    clear hb2 t0 t1 t2 t3 t4 t5 t6 t7 p0 p1 p2
    cases h2 : isZone T zz with
    | true =>
      have F2 := Lib.hid (show errPlace T zz d t = errMoment d t by rw [F1.out, if_pos h2])
      clear h2
      obtain ⟨p0, p1, p2⟩ := BP2.out
      go_wp2_with fail
      refine (moment_any _ _ _).mono ?_
      rintro e' w3 ⟨rfl, hb3⟩
      have HW3 := Lib.hid (HW2.out.trans (hb3.mono HW2.out.size))
      clear hb3
      go_wp2_with fail
      go_ret
      exact ⟨by rw [F2.out]; rfl, HW3.out⟩
    | false =>
      have F2 := Lib.hid (show errPlace T zz d t = 6 by rw [F1.out, if_neg (by rw [h2]; decide)])
      clear h2
      go_wp2_with fail
      go_ret
      exact ⟨by rw [F2.out]; rfl, HW2.out⟩
  · have d1 : (errTar T != 0) = true := by simpa using h1
    have F1 := Lib.hid (show errPlace T zz d t = errTar T by unfold errPlace; rw [if_pos h1])
    clear h1
    go_wp2_with fail
    go_ret
    exact ⟨by rw [F1.out]; rfl, HW1.out⟩
theorem place_date {T : Tar} {z d t : Int} (h : errPlace T z d t = 0) : errTar T = 0 ∧ errMoment d t = 0 := by
  unfold errPlace at h
  by_cases h1 : errTar T = 0
  · rw [if_neg (fun hh => hh h1)] at h
    split at h
    · exact ⟨h1, h⟩
    · simp at h
  · rw [if_pos h1] at h
    exact absurd h h1
set_option maxHeartbeats 1600000 in
set_option maxRecDepth 100000 in
theorem ruleAtP_any (T : Tar) (v : Value) (zz d t : Int) (w : World) (hT : RdTar w v T) (hn : T.rules.length ≤ 1000000) :
    Calls Try.prog 13 #[v, placeV zz d t] w fun e w' => e = .returned (.tuple #[.int .i64 (ruleAtP T zz d t).1, .int .i64 (ruleAtP T zz d t).2]) ∧ Below w.heap.size w w' := by
  have hT0 := hT
  obtain ⟨z, h, r, e, f, zc, hc, rc, ec, fc, a, rfl, m⟩ := hT
  clear m
  have BT := Lib.hid ((BoxT.new w T z h r e f zc hc rc ec fc 28).keep (Keep.alloc _ (.cells #[.int .i64 zz, .int .i64 d, .int .i64 t] 53)))
  have BP := Lib.hid (show PlaceAt _ (w.heap.size + 1) zz d t from ⟨cellNew1 w (.cells #[.string T.name, .int .i64 T.unit, .int .i64 T.step, .slice z T.zones.length zc, .slice h T.hols.length hc, .slice r T.rules.length rc, .slice e T.extras.length ec, .slice f T.fixed.length fc] 28) #[.int .i64 zz, .int .i64 d, .int .i64 t] 53 0, cellNew1 _ _ _ _ 1, cellNew1 _ _ _ _ 2⟩)
  go_enter Try.func13, Try.ntmps13
  go_upto_region 1 with fail
  generalize hwb : (w.alloc _).alloc _ = wb at *
  have HBW : Hid (Below w.heap.size w wb) := by rw [← hwb]; exact Lib.hid (((Below.refl _ _).alloc (Nat.le_refl _) _).alloc (by simp) _)
  clear hwb
  obtain ⟨t0, t1, t2, t3, t4, t5, t6, t7⟩ := BT.out
  obtain ⟨p0, p1, p2⟩ := BP.out
  go_wp2_with fail
  refine (place_any T _ zz d t _ (hT0.keep (Keep.below HBW.out))).mono ?_
  rintro e' w1 ⟨rfl, hb1⟩
  have HW1 := Lib.hid (HBW.out.trans (hb1.mono HBW.out.size))
  have BT1 := Lib.hid (BT.out.keep (Keep.below hb1))
  have BP1 := Lib.hid (BP.out.keep (Keep.below hb1))
  clear hb1 t0 t1 t2 t3 t4 t5 t6 t7 p0 p1 p2 BT BP HBW
  by_cases h1 : errPlace T zz d t = 0
  · have d1 : (errPlace T zz d t != 0) = false := by simpa using h1
    have F1 := Lib.hid (show ruleAtP T zz d t = rAt T zz d t by unfold ruleAtP; rw [if_neg (fun hh => hh h1)])
    obtain ⟨⟨m0, -⟩, -⟩ := moment_ok (place_date h1).2
    clear h1
    obtain ⟨t0, t1, t2, t3, t4, t5, t6, t7⟩ := BT1.out
    obtain ⟨p0, p1, p2⟩ := BP1.out
    go_wp2_with fail
    refine (ruleAt_any T _ zz d t _ (hT0.keep (Keep.below HW1.out)) m0 hn).mono ?_
    rintro e' w2 ⟨rfl, hb2⟩
    have HW2 := Lib.hid (HW1.out.trans (hb2.mono HW1.out.size))
    clear hb2 t0 t1 t2 t3 t4 t5 t6 t7 p0 p1 p2
    go_wp2_with fail
    go_ret2
    exact ⟨by rw [F1.out]; rfl, HW2.out⟩
  · have d1 : (errPlace T zz d t != 0) = true := by simpa using h1
    have F1 := Lib.hid (show ruleAtP T zz d t = (0, errPlace T zz d t) by unfold ruleAtP; rw [if_pos h1])
    clear h1
    go_wp2_with fail
    go_ret2
    exact ⟨by rw [F1.out]; rfl, HW1.out⟩

set_option maxHeartbeats 1600000 in
set_option maxRecDepth 100000 in
theorem laterP_any (d t s : Int) (w : World) :
    Calls Try.prog 15 #[.agg #[.int .i64 d, .int .i64 t], .int .i64 s] w fun e w' => e = .returned (.tuple #[pairVal (laterP d t s).1, .int .i64 (laterP d t s).2]) ∧ Below w.heap.size w w' := by
  have BM := Lib.hid ((PairAt.new w d t 30).below ((Below.refl _ _).alloc (Nat.le_refl _) (.cells #[.int .i64 0, .int .i64 0] 30)) (by simp))
  have BR := Lib.hid (PairAt.new (w.alloc (.cells #[.int .i64 d, .int .i64 t] 30)) 0 0 30)
  have hsz0 : (w.alloc (.cells #[.int .i64 d, .int .i64 t] 30)).heap.size = w.heap.size + 1 := by simp
  rw [hsz0] at BR
  clear hsz0
  go_enter Try.func15, Try.ntmps15
  go_upto_region 1 with fail
  generalize hwb : (w.alloc _).alloc _ = wb at *
  have HBW : Hid (Below w.heap.size w wb) := by rw [← hwb]; exact Lib.hid (((Below.refl _ _).alloc (Nat.le_refl _) _).alloc (by simp) _)
  clear hwb
  obtain ⟨p0, p1, -, -⟩ := BM.out
  go_wp2_with fail
  refine (moment_any _ _ _).mono ?_
  rintro e' w1 ⟨rfl, hb1⟩
  have HW1 := Lib.hid (HBW.out.trans (hb1.mono HBW.out.size))
  have BM1 := Lib.hid (BM.out.below hb1 BM.out.lt)
  have BR1 := Lib.hid (BR.out.below hb1 BR.out.lt)
  clear hb1 p0 p1 HBW BM BR
  by_cases h1 : errMoment d t = 0
  · have d1 : (errMoment d t != 0) = false := by simpa using h1
    obtain ⟨⟨m0, m1⟩, m2, m3⟩ := moment_ok h1
    have F1 := Lib.hid (show laterP d t s = if within s 0 100000000 then (if errMoment (later d t s).1 (later d t s).2 ≠ 0 then ((0, 0), errMoment (later d t s).1 (later d t s).2) else (later d t s, 0)) else ((0, 0), 2) by unfold laterP; rw [if_neg (fun hh => hh h1)])
    clear h1
    cases h2 : within s 0 100000000 with
    | false =>
      have F2 := Lib.hid (show laterP d t s = ((0, 0), 2) by rw [F1.out, if_neg (by rw [h2]; decide)])
      have X1 := Lib.hid h2
      clear h2
      have HR7 := Lib.hid (BR1.out.set 0 0)
      have HW7 := Lib.hid (PairAt.under (g := w.heap.size + 1) HW1.out (by omega) 0 0)
      obtain ⟨x0, x1, z0, z1⟩ := BR1.out
      go_wp2_with (go_at_call 31; refine (within_any _ _ _ _).mono ?_; rintro e' w' ⟨rfl, rfl⟩; rw [X1.out])
      generalize ((w1.setCell _ _).setCell _ _) = w7 at *
      clear x0 x1 z0 z1
      obtain ⟨c0, c1, -, -⟩ := HR7.out
      exact bodyPost_ret (v := .tuple #[.agg #[.int .i64 0, .int .i64 0], .int .i64 2]) (by simp [results, Try.results15, go_sem, c0, c1]) rfl ⟨by rw [F2.out], HW7.out⟩
    | true =>
      have F2 := Lib.hid (show laterP d t s = if errMoment (later d t s).1 (later d t s).2 ≠ 0 then ((0, 0), errMoment (later d t s).1 (later d t s).2) else (later d t s, 0) by rw [F1.out, if_pos h2])
      have X1 := Lib.hid h2
      obtain ⟨s0, s1⟩ := within_true h2
      clear h2
      obtain ⟨p0, p1, -, -⟩ := BM1.out
      go_wp2_with (go_at_call 31; refine (within_any _ _ _ _).mono ?_; rintro e' w' ⟨rfl, rfl⟩; rw [X1.out])
      refine (later_any d t s _ m0 m1 m2 m3 s0 s1).mono ?_
      rintro e' w2 ⟨rfl, hb2⟩
      have HW2 := Lib.hid (HW1.out.trans (hb2.mono HW1.out.size))
      have BR2 := Lib.hid (BR1.out.below hb2 BR1.out.lt)
      have hs2 := BR2.out.lt
      clear hb2 p0 p1
      have BRa := Lib.hid (BR2.out.below ((Below.refl _ _).alloc (Nat.le_refl _) (.cells #[.int .i64 (later d t s).1, .int .i64 (later d t s).2] 30)) hs2)
      have HWa := Lib.hid (HW2.out.alloc (by omega) (.cells #[.int .i64 (later d t s).1, .int .i64 (later d t s).2] 30))
      have BNa := Lib.hid (PairAt.new w2 (later d t s).1 (later d t s).2 30)
      go_upto_region 7 with fail
      generalize w2.alloc _ = w3 at *
      obtain ⟨y0, y1, -, -⟩ := BNa.out
      go_wp2_with fail
      refine (moment_any _ _ _).mono ?_
      rintro e' w4 ⟨rfl, hb4⟩
      have HW4 := Lib.hid (HWa.out.trans (hb4.mono HWa.out.size))
      have BR4 := Lib.hid (BRa.out.below hb4 BRa.out.lt)
      have BN4 := Lib.hid (BNa.out.below hb4 BNa.out.lt)
      clear hb4 y0 y1
      by_cases h3 : errMoment (later d t s).1 (later d t s).2 = 0
      · have d3 : (errMoment (later d t s).1 (later d t s).2 != 0) = false := by simpa using h3
        have F3 := Lib.hid (show laterP d t s = (later d t s, 0) by rw [F2.out, if_neg (fun hh => hh h3)])
        clear h3
        have HR7 := Lib.hid (BR4.out.set (later d t s).1 (later d t s).2)
        have HW7 := Lib.hid (PairAt.under (g := w.heap.size + 1) HW4.out (by omega) (later d t s).1 (later d t s).2)
        obtain ⟨x0, x1, z0, z1⟩ := BR4.out
        obtain ⟨y0, y1, -, -⟩ := BN4.out
        go_wp2_with fail
        generalize ((w4.setCell _ _).setCell _ _) = w7 at *
        clear x0 x1 z0 z1 y0 y1
        obtain ⟨c0, c1, -, -⟩ := HR7.out
        exact bodyPost_ret (v := .tuple #[.agg #[.int .i64 (later d t s).1, .int .i64 (later d t s).2], .int .i64 0]) (by simp [results, Try.results15, go_sem, c0, c1]) rfl ⟨by rw [F3.out], HW7.out⟩
      · have d3 : (errMoment (later d t s).1 (later d t s).2 != 0) = true := by simpa using h3
        have F3 := Lib.hid (show laterP d t s = ((0, 0), errMoment (later d t s).1 (later d t s).2) by rw [F2.out, if_pos h3])
        clear h3
        have HR7 := Lib.hid (BR4.out.set 0 0)
        have HW7 := Lib.hid (PairAt.under (g := w.heap.size + 1) HW4.out (by omega) 0 0)
        obtain ⟨x0, x1, z0, z1⟩ := BR4.out
        go_wp2_with fail
        generalize ((w4.setCell _ _).setCell _ _) = w7 at *
        clear x0 x1 z0 z1
        obtain ⟨c0, c1, -, -⟩ := HR7.out
        exact bodyPost_ret (v := .tuple #[.agg #[.int .i64 0, .int .i64 0], .int .i64 (errMoment (later d t s).1 (later d t s).2)]) (by simp [results, Try.results15, go_sem, c0, c1]) rfl ⟨by rw [F3.out], HW7.out⟩
  · have d1 : (errMoment d t != 0) = true := by simpa using h1
    have F1 := Lib.hid (show laterP d t s = ((0, 0), errMoment d t) by unfold laterP; rw [if_pos h1])
    clear h1
    have HR7 := Lib.hid (BR1.out.set 0 0)
    have HW7 := Lib.hid (PairAt.under (g := w.heap.size + 1) HW1.out (by omega) 0 0)
    obtain ⟨x0, x1, z0, z1⟩ := BR1.out
    go_wp2_with fail
    generalize ((w1.setCell _ _).setCell _ _) = w7 at *
    clear x0 x1 z0 z1
    obtain ⟨c0, c1, -, -⟩ := HR7.out
    exact bodyPost_ret (v := .tuple #[.agg #[.int .i64 0, .int .i64 0], .int .i64 (errMoment d t)]) (by simp [results, Try.results15, go_sem, c0, c1]) rfl ⟨by rw [F1.out], HW7.out⟩
end Go.Proofs.Ytbehabaoeicgeaa

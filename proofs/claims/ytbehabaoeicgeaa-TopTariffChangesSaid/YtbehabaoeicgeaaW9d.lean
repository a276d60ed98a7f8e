/- The fare by the law of any trip. Condition: there are at most a million rules. -/
import Derived.Test.YtbehabaoeicgeaaW9c
namespace Go.Proofs.Ytbehabaoeicgeaa
open Go.RowKit Fs

theorem Fs.rAt_in {T : Tar} {z d t : Int} (h : (rAt T z d t).2 = 0) : 0 ≤ (rAt T z d t).1 ∧ (rAt T z d t).1 < T.rules.length := by
  unfold rAt only at *
  split at h
  · simp at h
  · rename_i h0
    split at h
    · rename_i h1
      rw [if_neg h0, if_pos h1]
      have hm : listI (rThere T (rOn T d) z t) 0 ∈ rThere T (rOn T d) z t := by
        unfold listI
        rw [List.getD_eq_getElem?_getD, List.getElem?_eq_getElem (by omega)]
        simp
      have hm2 : listI (rThere T (rOn T d) z t) 0 ∈ rOn T d := by
        unfold rThere thereTo at hm
        simp only [List.mem_map, List.mem_filter, List.mem_range] at hm
        obtain ⟨i, ⟨hi, -⟩, he⟩ := hm
        unfold rThere thereTo
        rw [← he]
        unfold listI
        rw [List.getD_eq_getElem?_getD, List.getElem?_eq_getElem hi]
        simp
      exact ⟨(rOn_mem hm2).1, (rOn_mem hm2).2.1⟩
    · simp at h
theorem Fs.rules_ok {T : Tar} {X : Trip} (h : rulesErr T X = 0) : (checkTrip' T X).2 = 0 ∧ RulesIn T X (rulesL T X) := by
  unfold rulesErr at h
  by_cases h1 : (checkTrip' T X).2 = 0
  · rw [if_neg (fun hh => hh h1)] at h
    refine ⟨h1, rulesL_length T X, fun k hk => ?_⟩
    have hs : sErr T X k = 0 := fst_zero h k hk
    unfold sErr at hs
    split at hs
    · exact absurd hs (by assumption)
    · rw [rulesL_at hk]
      exact rAt_in hs
  · rw [if_pos h1] at h
    exact absurd h h1
/-- The fare by the law, and its error. -/
def Fs.fareOf (T : Tar) (X : Trip) : Fare × Int :=
  if rulesErr T X ≠ 0 then (fare0, rulesErr T X) else if fareE T X ≠ 0 then (fare0, fareE T X)
  else if 1000000000 < (fareV 0 T X (rulesL T X)).total then (fare0, 8) else (fareV 0 T X (rulesL T X), 0)
abbrev fareVal (f : Fare) : Value := .agg #[.int .i64 f.start, .int .i64 f.driven, .int .i64 f.extras, .int .i64 f.total]

theorem FareAt.under {w : World} {g : Nat} {a b c d : Int} (_m : FareAt w g a b c d) {B : Nat} {W : World} (hb : Below B W w) (hB : B ≤ g) (a' b' c' d' : Int) :
    Below B W ((((w.setCell ⟨g, 0, none⟩ (.int .i64 a')).setCell ⟨g, 1, none⟩ (.int .i64 b')).setCell ⟨g, 2, none⟩ (.int .i64 c')).setCell ⟨g, 3, none⟩ (.int .i64 d')) :=
  (((hb.setCell (p := ⟨g, 0, none⟩) hB _).setCell (p := ⟨g, 1, none⟩) hB _).setCell (p := ⟨g, 2, none⟩) hB _).setCell (p := ⟨g, 3, none⟩) hB _

set_option maxHeartbeats 1600000 in
set_option maxRecDepth 100000 in
theorem fareOf_any (T : Tar) (X : Trip) (v x : Value) (w : World) (hT : RdTar w v T) (hX : RdTrip w x X) (hn : T.rules.length ≤ 1000000) :
    Calls Try.prog 10 #[v, x] w fun e w' => e = .returned (.tuple #[fareVal (fareOf T X).1, .int .i64 (fareOf T X).2]) ∧ Below w.heap.size w w' := by
  have hT0 := hT
  have hX0 := hX
  obtain ⟨z, h, r, e, f, zc, hc, rc, ec, fc, a, rfl, m⟩ := hT
  obtain ⟨xe, xs, xec, xsc, rfl, x1, x2⟩ := hX
  clear m x1 x2
  have BT := Lib.hid (((BoxT.new w T z h r e f zc hc rc ec fc 28).keep (Keep.alloc _ (.cells #[.int .i64 X.date, .int .i64 X.time, .bool X.fixed, .slice xe X.extras.length xec, .slice xs X.segs.length xsc] 33))).keep (Keep.alloc _ (.cells #[.int .i64 0, .int .i64 0, .int .i64 0, .int .i64 0] 42)))
  have BX := Lib.hid ((BoxX.new1 w (.cells #[.string T.name, .int .i64 T.unit, .int .i64 T.step, .slice z T.zones.length zc, .slice h T.hols.length hc, .slice r T.rules.length rc, .slice e T.extras.length ec, .slice f T.fixed.length fc] 28) X xe xs xec xsc 33).keep (Keep.alloc _ (.cells #[.int .i64 0, .int .i64 0, .int .i64 0, .int .i64 0] 42)))
  have HF0 := Lib.hid (FareAt.new ((w.alloc (.cells #[.string T.name, .int .i64 T.unit, .int .i64 T.step, .slice z T.zones.length zc, .slice h T.hols.length hc, .slice r T.rules.length rc, .slice e T.extras.length ec, .slice f T.fixed.length fc] 28)).alloc (.cells #[.int .i64 X.date, .int .i64 X.time, .bool X.fixed, .slice xe X.extras.length xec, .slice xs X.segs.length xsc] 33)) 0 0 0 0 42)
  have hsz0 : ((w.alloc (.cells #[.string T.name, .int .i64 T.unit, .int .i64 T.step, .slice z T.zones.length zc, .slice h T.hols.length hc, .slice r T.rules.length rc, .slice e T.extras.length ec, .slice f T.fixed.length fc] 28)).alloc (.cells #[.int .i64 X.date, .int .i64 X.time, .bool X.fixed, .slice xe X.extras.length xec, .slice xs X.segs.length xsc] 33)).heap.size = w.heap.size + 1 + 1 := by simp
  rw [hsz0] at HF0
  clear hsz0
  go_enter Try.func10, Try.ntmps10
  go_upto_region 1 with fail
  generalize hwb : ((w.alloc _).alloc _).alloc _ = wb at *
  have hsz : wb.heap.size = w.heap.size + 1 + 1 + 1 := by rw [← hwb]; simp
  have HBW : Hid (Below w.heap.size w wb) := by rw [← hwb]; exact Lib.hid ((((Below.refl _ _).alloc (Nat.le_refl _) _).alloc (by simp) _).alloc (by simp; omega) _)
  clear hwb
  obtain ⟨t0, t1, t2, t3, t4, t5, t6, t7⟩ := BT.out
  obtain ⟨p0, p1, p2, p3, p4⟩ := BX.out
  go_wp2_with fail
  refine (rulesOf_any T X _ _ _ (hT0.keep (Keep.below HBW.out)) (hX0.keep (Keep.below HBW.out)) hn).mono ?_
  rintro e' w1 ⟨hb1, ⟨he, rfl⟩ | ⟨he, A, c, rfl, ha⟩⟩
  · have d1 : (rulesErr T X != 0) = true := by simpa using he
    have HR1 := Lib.hid (HF0.out.below hb1 (by omega))
    have HW1 := Lib.hid (HBW.out.trans (hb1.mono HBW.out.size))
    have HR7 := Lib.hid (HR1.out.set 0 0 0 0)
    have HW7 := Lib.hid (HR1.out.under HW1.out (by omega) 0 0 0 0)
    have HV := Lib.hid (show fareOf T X = (fare0, rulesErr T X) by unfold fareOf; rw [if_pos he])
    clear hb1 t0 t1 t2 t3 t4 t5 t6 t7 p0 p1 p2 p3 p4 he
    obtain ⟨x0, x1, x2, x3, z0, z1, z2, z3⟩ := HR1.out
    go_wp2_with fail
    generalize ((((w1.setCell _ _).setCell _ _).setCell _ _).setCell _ _) = w7 at *
    clear x0 x1 x2 x3 z0 z1 z2 z3
    obtain ⟨m0, m1, m2, m3, -, -, -, -⟩ := HR7.out
    exact bodyPost_ret (v := .tuple #[.agg #[.int .i64 0, .int .i64 0, .int .i64 0, .int .i64 0], .int .i64 (rulesErr T X)]) (by simp [results, Try.results10, go_sem, m0, m1, m2, m3]) rfl ⟨by rw [HV.out]; rfl, HW7.out⟩
  · have d1 : ((0 : Int) != 0) = false := rfl
    obtain ⟨hok, hri⟩ := rules_ok he
    have HR1 := Lib.hid (HF0.out.below hb1 (by omega))
    have HW1 := Lib.hid (HBW.out.trans (hb1.mono HBW.out.size))
    obtain ⟨t0, t1, t2, t3, t4, t5, t6, t7⟩ := BT.out.keep (Keep.below hb1)
    obtain ⟨p0, p1, p2, p3, p4⟩ := BX.out.keep (Keep.below hb1)
    have HE := Lib.hid he
    have HOK := Lib.hid hok
    have HRI := Lib.hid hri
    have HA := Lib.hid ha
    have hs1 := HR1.out.lt
    clear hb1 he hok hri ha BT BX HF0 hsz
    go_wp2_with fail
    refine (fareBy_any 0 T X _ _ (rulesL T X) _ _ _ (hT0.keep (Keep.below HW1.out)) (hX0.keep (Keep.below HW1.out)) HA.out HOK.out HRI.out).mono ?_
    rintro e' w2 ⟨rfl, hb2⟩
    have HR2 := Lib.hid (HR1.out.below hb2 hs1)
    have HW2 := Lib.hid (HW1.out.trans (hb2.mono HW1.out.size))
    have hs2 := HR2.out.lt
    clear hb2 t0 t1 t2 t3 t4 t5 t6 t7 p0 p1 p2 p3 p4 hs1
    have HRa := Lib.hid (HR2.out.below ((Below.refl _ _).alloc (Nat.le_refl _) (.cells #[.int .i64 (fareV 0 T X (rulesL T X)).start, .int .i64 (fareV 0 T X (rulesL T X)).driven, .int .i64 (fareV 0 T X (rulesL T X)).extras, .int .i64 (fareV 0 T X (rulesL T X)).total] 42)) hs2)
    have HWa := Lib.hid (HW2.out.alloc (by omega) (.cells #[.int .i64 (fareV 0 T X (rulesL T X)).start, .int .i64 (fareV 0 T X (rulesL T X)).driven, .int .i64 (fareV 0 T X (rulesL T X)).extras, .int .i64 (fareV 0 T X (rulesL T X)).total] 42))
    have HFa := Lib.hid (FareAt.new w2 (fareV 0 T X (rulesL T X)).start (fareV 0 T X (rulesL T X)).driven (fareV 0 T X (rulesL T X)).extras (fareV 0 T X (rulesL T X)).total 42)
    go_upto_region 5 with fail
    generalize w2.alloc _ = w3 at *
    by_cases h2 : fareE T X = 0
    · have d2 : (fareE T X != 0) = false := by simpa using h2
      by_cases h3 : 1000000000 < (fareV 0 T X (rulesL T X)).total
      · have d3 : decide ((fareV 0 T X (rulesL T X)).total > 1000000000) = true := decide_eq_true h3
        have d3' : decide (1000000000 < (fareV 0 T X (rulesL T X)).total) = true := decide_eq_true h3
        have HR7 := Lib.hid (HRa.out.set 0 0 0 0)
        have HW7 := Lib.hid (HRa.out.under HWa.out (by omega) 0 0 0 0)
        have HV := Lib.hid (show fareOf T X = (fare0, 8) by unfold fareOf; rw [if_neg (fun hh => hh HE.out), if_neg (fun hh => hh h2), if_pos h3])
        obtain ⟨y0, y1, y2, y3, -, -, -, -⟩ := HFa.out
        obtain ⟨x0, x1, x2, x3, z0, z1, z2, z3⟩ := HRa.out
        go_wp2_with fail
        generalize ((((w3.setCell _ _).setCell _ _).setCell _ _).setCell _ _) = w7 at *
        clear x0 x1 x2 x3 z0 z1 z2 z3 y0 y1 y2 y3
        obtain ⟨m0, m1, m2, m3, -, -, -, -⟩ := HR7.out
        exact bodyPost_ret (v := .tuple #[.agg #[.int .i64 0, .int .i64 0, .int .i64 0, .int .i64 0], .int .i64 8]) (by simp [results, Try.results10, go_sem, m0, m1, m2, m3]) rfl ⟨by rw [HV.out]; rfl, HW7.out⟩
      · have d3 : decide ((fareV 0 T X (rulesL T X)).total > 1000000000) = false := decide_eq_false h3
        have d3' : decide (1000000000 < (fareV 0 T X (rulesL T X)).total) = false := decide_eq_false h3
        have HR7 := Lib.hid (HRa.out.set (fareV 0 T X (rulesL T X)).start (fareV 0 T X (rulesL T X)).driven (fareV 0 T X (rulesL T X)).extras (fareV 0 T X (rulesL T X)).total)
        have HW7 := Lib.hid (HRa.out.under HWa.out (by omega) (fareV 0 T X (rulesL T X)).start (fareV 0 T X (rulesL T X)).driven (fareV 0 T X (rulesL T X)).extras (fareV 0 T X (rulesL T X)).total)
        have HV := Lib.hid (show fareOf T X = (fareV 0 T X (rulesL T X), 0) by unfold fareOf; rw [if_neg (fun hh => hh HE.out), if_neg (fun hh => hh h2), if_neg h3])
        obtain ⟨y0, y1, y2, y3, -, -, -, -⟩ := HFa.out
        obtain ⟨x0, x1, x2, x3, z0, z1, z2, z3⟩ := HRa.out
        go_wp2_with fail
        generalize ((((w3.setCell _ _).setCell _ _).setCell _ _).setCell _ _) = w7 at *
        clear x0 x1 x2 x3 z0 z1 z2 z3 y0 y1 y2 y3
        obtain ⟨m0, m1, m2, m3, -, -, -, -⟩ := HR7.out
        exact bodyPost_ret (v := .tuple #[fareVal (fareV 0 T X (rulesL T X)), .int .i64 0]) (by simp [results, Try.results10, go_sem, m0, m1, m2, m3]) rfl ⟨by rw [HV.out], HW7.out⟩
    · have d2 : (fareE T X != 0) = true := by simpa using h2
      have HR7 := Lib.hid (HRa.out.set 0 0 0 0)
      have HW7 := Lib.hid (HRa.out.under HWa.out (by omega) 0 0 0 0)
      have HV := Lib.hid (show fareOf T X = (fare0, fareE T X) by unfold fareOf; rw [if_neg (fun hh => hh HE.out), if_pos h2])
      clear h2
      obtain ⟨x0, x1, x2, x3, z0, z1, z2, z3⟩ := HRa.out
      go_wp2_with fail
      generalize ((((w3.setCell _ _).setCell _ _).setCell _ _).setCell _ _) = w7 at *
      clear x0 x1 x2 x3 z0 z1 z2 z3
      obtain ⟨m0, m1, m2, m3, -, -, -, -⟩ := HR7.out
      exact bodyPost_ret (v := .tuple #[.agg #[.int .i64 0, .int .i64 0, .int .i64 0, .int .i64 0], .int .i64 (fareE T X)]) (by simp [results, Try.results10, go_sem, m0, m1, m2, m3]) rfl ⟨by rw [HV.out]; rfl, HW7.out⟩
end Go.Proofs.Ytbehabaoeicgeaa

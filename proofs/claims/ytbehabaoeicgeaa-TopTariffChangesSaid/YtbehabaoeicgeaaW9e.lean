/- The range of a trip's fares. Conditions: the trip is accepted and the rules are its rules, or there are at most a million rules. -/
import Derived.Test.YtbehabaoeicgeaaW9d
namespace Go.Proofs.Ytbehabaoeicgeaa
open Go.RowKit Fs

/-- The two cells of a range, which may be written. -/
structure PairAt (w : World) (g : Nat) (a b : Int) : Prop where
  c0 : w.cell? ⟨g, 0, none⟩ = some (.int .i64 a)
  c1 : w.cell? ⟨g, 1, none⟩ = some (.int .i64 b)
  f0 : w.frozen? ⟨g, 0, none⟩ = false
  f1 : w.frozen? ⟨g, 1, none⟩ = false
theorem PairAt.lt {w : World} {g : Nat} {a b : Int} (m : PairAt w g a b) : g < w.heap.size := World.block_lt_of_cell? w _ m.c0
theorem PairAt.below {B : Nat} {w w' : World} {g : Nat} {a b : Int} (m : PairAt w g a b) (h : Below B w w') (hg : g < B) : PairAt w' g a b :=
  ⟨(h.cell (p := ⟨g, 0, none⟩) hg).trans m.c0, (h.cell (p := ⟨g, 1, none⟩) hg).trans m.c1, (h.frozen (p := ⟨g, 0, none⟩) hg).trans m.f0, (h.frozen (p := ⟨g, 1, none⟩) hg).trans m.f1⟩
theorem PairAt.new (w : World) (a b : Int) (t : TypeId) : PairAt (w.alloc (.cells #[.int .i64 a, .int .i64 b] t)) w.heap.size a b :=
  ⟨cellNew _ _ _ _, cellNew _ _ _ _, frozenNew _ _ _ _, frozenNew _ _ _ _⟩
theorem PairAt.set {w : World} {g : Nat} {a b : Int} (m : PairAt w g a b) (a' b' : Int) : PairAt ((w.setCell ⟨g, 0, none⟩ (.int .i64 a')).setCell ⟨g, 1, none⟩ (.int .i64 b')) g a' b' := by
  obtain ⟨c0, c1, f0, f1⟩ := m
  constructor
  · simp [World.cell?_setCell_other, World.cell?_setCell_same _ _ _ c0]
  · simp [World.cell?_setCell_other, World.cell?_setCell_same', c1]
  · simpa [World.frozen?_setCell] using f0
  · simpa [World.frozen?_setCell] using f1
theorem PairAt.under {w : World} {g : Nat} {B : Nat} {W : World} (hb : Below B W w) (hB : B ≤ g) (a' b' : Int) :
    Below B W ((w.setCell ⟨g, 0, none⟩ (.int .i64 a')).setCell ⟨g, 1, none⟩ (.int .i64 b')) :=
  (hb.setCell (p := ⟨g, 0, none⟩) hB _).setCell (p := ⟨g, 1, none⟩) hB _
/-- The range of the fares of a trip by its rules, and its error. -/
def Fs.rangeBy (T : Tar) (X : Trip) (rl : List Int) : (Int × Int) × Int :=
  if fareE T X ≠ 0 then ((0, 0), fareE T X) else if 1000000000 < (fareV 1 T X rl).total then ((0, 0), 8) else (((fareV 0 T X rl).total, (fareV 1 T X rl).total), 0)
abbrev pairVal (p : Int × Int) : Value := .agg #[.int .i64 p.1, .int .i64 p.2]
def Fs.rangeOf (T : Tar) (X : Trip) : (Int × Int) × Int := if rulesErr T X ≠ 0 then ((0, 0), rulesErr T X) else rangeBy T X (rulesL T X)

set_option maxHeartbeats 1600000 in
set_option maxRecDepth 100000 in
theorem rangeFrom_any (T : Tar) (X : Trip) (v x : Value) (rl : List Int) (A : Option Addr) (c : Nat) (w : World) (hT : RdTar w v T) (hX : RdTrip w x X) (hA : ArrI w A rl c) (hok : (checkTrip' T X).2 = 0) (hri : RulesIn T X rl) :
    Calls Try.prog 24 #[v, x, x, .slice A rl.length c] w fun e w' => e = .returned (.tuple #[pairVal (rangeBy T X rl).1, .int .i64 (rangeBy T X rl).2]) ∧ Below w.heap.size w w' := by
  have hT0 := hT
  have hX0 := hX
  obtain ⟨z, h, r, e, f, zc, hc, rc, ec, fc, a, rfl, m⟩ := hT
  obtain ⟨xe, xs, xec, xsc, rfl, x1, x2⟩ := hX
  have HOK := Lib.hid hok
  have HRI := Lib.hid hri
  have HA := Lib.hid hA
  clear m x1 x2 hok hri hA
  have BT := Lib.hid ((((BoxT.new w T z h r e f zc hc rc ec fc 28).keep (Keep.alloc _ (.cells #[.int .i64 X.date, .int .i64 X.time, .bool X.fixed, .slice xe X.extras.length xec, .slice xs X.segs.length xsc] 33))).keep (Keep.alloc _ (.cells #[.int .i64 X.date, .int .i64 X.time, .bool X.fixed, .slice xe X.extras.length xec, .slice xs X.segs.length xsc] 33))).keep (Keep.alloc _ (.cells #[.int .i64 0, .int .i64 0] 48)))
  have BX := Lib.hid (((BoxX.new1 w (.cells #[.string T.name, .int .i64 T.unit, .int .i64 T.step, .slice z T.zones.length zc, .slice h T.hols.length hc, .slice r T.rules.length rc, .slice e T.extras.length ec, .slice f T.fixed.length fc] 28) X xe xs xec xsc 33).keep (Keep.alloc _ (.cells #[.int .i64 X.date, .int .i64 X.time, .bool X.fixed, .slice xe X.extras.length xec, .slice xs X.segs.length xsc] 33))).keep (Keep.alloc _ (.cells #[.int .i64 0, .int .i64 0] 48)))
  have BY := Lib.hid ((BoxX.new1 (w.alloc (.cells #[.string T.name, .int .i64 T.unit, .int .i64 T.step, .slice z T.zones.length zc, .slice h T.hols.length hc, .slice r T.rules.length rc, .slice e T.extras.length ec, .slice f T.fixed.length fc] 28)) (.cells #[.int .i64 X.date, .int .i64 X.time, .bool X.fixed, .slice xe X.extras.length xec, .slice xs X.segs.length xsc] 33) X xe xs xec xsc 33).keep (Keep.alloc _ (.cells #[.int .i64 0, .int .i64 0] 48)))
  have HF0 := Lib.hid (PairAt.new (((w.alloc (.cells #[.string T.name, .int .i64 T.unit, .int .i64 T.step, .slice z T.zones.length zc, .slice h T.hols.length hc, .slice r T.rules.length rc, .slice e T.extras.length ec, .slice f T.fixed.length fc] 28)).alloc (.cells #[.int .i64 X.date, .int .i64 X.time, .bool X.fixed, .slice xe X.extras.length xec, .slice xs X.segs.length xsc] 33)).alloc (.cells #[.int .i64 X.date, .int .i64 X.time, .bool X.fixed, .slice xe X.extras.length xec, .slice xs X.segs.length xsc] 33)) 0 0 48)
  have hsz0 : (((w.alloc (.cells #[.string T.name, .int .i64 T.unit, .int .i64 T.step, .slice z T.zones.length zc, .slice h T.hols.length hc, .slice r T.rules.length rc, .slice e T.extras.length ec, .slice f T.fixed.length fc] 28)).alloc (.cells #[.int .i64 X.date, .int .i64 X.time, .bool X.fixed, .slice xe X.extras.length xec, .slice xs X.segs.length xsc] 33)).alloc (.cells #[.int .i64 X.date, .int .i64 X.time, .bool X.fixed, .slice xe X.extras.length xec, .slice xs X.segs.length xsc] 33)).heap.size = w.heap.size + 1 + 1 + 1 := by simp
  have hsz1 : (w.alloc (.cells #[.string T.name, .int .i64 T.unit, .int .i64 T.step, .slice z T.zones.length zc, .slice h T.hols.length hc, .slice r T.rules.length rc, .slice e T.extras.length ec, .slice f T.fixed.length fc] 28)).heap.size = w.heap.size + 1 := by simp
  rw [hsz0] at HF0
  rw [hsz1] at BY
  clear hsz0 hsz1
  go_enter Try.func24, Try.ntmps24
  go_upto_region 1 with fail
  generalize hwb : (((w.alloc _).alloc _).alloc _).alloc _ = wb at *
  have hsz : wb.heap.size = w.heap.size + 1 + 1 + 1 + 1 := by rw [← hwb]; simp
  have HBW : Hid (Below w.heap.size w wb) := by rw [← hwb]; exact Lib.hid (((((Below.refl _ _).alloc (Nat.le_refl _) _).alloc (by simp) _).alloc (by simp; omega) _).alloc (by simp; omega) _)
  clear hwb
  obtain ⟨t0, t1, t2, t3, t4, t5, t6, t7⟩ := BT.out
  obtain ⟨p0, p1, p2, p3, p4⟩ := BX.out
  go_wp2_with fail
  refine (fareBy_any 0 T X _ _ rl _ _ _ (hT0.keep (Keep.below HBW.out)) (hX0.keep (Keep.below HBW.out)) (HA.out.keep (Keep.below HBW.out)) HOK.out HRI.out).mono ?_
  rintro e' w1 ⟨rfl, hb1⟩
  have HR1 := Lib.hid (HF0.out.below hb1 (by omega))
  have HW1 := Lib.hid (HBW.out.trans (hb1.mono HBW.out.size))
  have BT1 := Lib.hid (BT.out.keep (Keep.below hb1))
  have BY1 := Lib.hid (BY.out.keep (Keep.below hb1))
  have hs1 := HR1.out.lt
  clear hb1 t0 t1 t2 t3 t4 t5 t6 t7 p0 p1 p2 p3 p4 BT BX BY HF0 hsz
  have HRa := Lib.hid (HR1.out.below ((Below.refl _ _).alloc (Nat.le_refl _) (.cells #[.int .i64 (fareV 0 T X rl).start, .int .i64 (fareV 0 T X rl).driven, .int .i64 (fareV 0 T X rl).extras, .int .i64 (fareV 0 T X rl).total] 42)) hs1)
  have HWa := Lib.hid (HW1.out.alloc (by omega) (.cells #[.int .i64 (fareV 0 T X rl).start, .int .i64 (fareV 0 T X rl).driven, .int .i64 (fareV 0 T X rl).extras, .int .i64 (fareV 0 T X rl).total] 42))
  have HFa := Lib.hid (FareAt.new w1 (fareV 0 T X rl).start (fareV 0 T X rl).driven (fareV 0 T X rl).extras (fareV 0 T X rl).total 42)
  have BTa := Lib.hid (BT1.out.keep (Keep.alloc w1 (.cells #[.int .i64 (fareV 0 T X rl).start, .int .i64 (fareV 0 T X rl).driven, .int .i64 (fareV 0 T X rl).extras, .int .i64 (fareV 0 T X rl).total] 42)))
  have BYa := Lib.hid (BY1.out.keep (Keep.alloc w1 (.cells #[.int .i64 (fareV 0 T X rl).start, .int .i64 (fareV 0 T X rl).driven, .int .i64 (fareV 0 T X rl).extras, .int .i64 (fareV 0 T X rl).total] 42)))
  clear BT1 BY1 HR1 HW1
  go_upto_region 2 with fail
  have hsa : (w1.alloc (.cells #[.int .i64 (fareV 0 T X rl).start, .int .i64 (fareV 0 T X rl).driven, .int .i64 (fareV 0 T X rl).extras, .int .i64 (fareV 0 T X rl).total] 42)).heap.size = w1.heap.size + 1 := by simp
  generalize hwa : w1.alloc _ = wa at *
  clear hwa
  by_cases h2 : fareE T X = 0
  · have d2 : (fareE T X != 0) = false := by simpa using h2
    have HE := Lib.hid h2
    clear h2
    obtain ⟨t0, t1, t2, t3, t4, t5, t6, t7⟩ := BTa.out
    obtain ⟨p0, p1, p2, p3, p4⟩ := BYa.out
    go_wp2_with fail
    refine (fareBy_any 1 T X _ _ rl _ _ _ (hT0.keep (Keep.below HWa.out)) (hX0.keep (Keep.below HWa.out)) (HA.out.keep (Keep.below HWa.out)) HOK.out HRI.out).mono ?_
    rintro e' w2 ⟨rfl, hb2⟩
    have HR2 := Lib.hid (HRa.out.below hb2 (by omega))
    have HF2 := Lib.hid (HFa.out.below hb2 (by omega))
    have HW2 := Lib.hid (HWa.out.trans (hb2.mono HWa.out.size))
    have hs2 := HR2.out.lt
    have hs3 := HF2.out.lt
    clear hb2 t0 t1 t2 t3 t4 t5 t6 t7 p0 p1 p2 p3 p4 BTa BYa HRa HWa HFa
    have HRb := Lib.hid (HR2.out.below ((Below.refl _ _).alloc (Nat.le_refl _) (.cells #[.int .i64 (fareV 1 T X rl).start, .int .i64 (fareV 1 T X rl).driven, .int .i64 (fareV 1 T X rl).extras, .int .i64 (fareV 1 T X rl).total] 42)) hs2)
    have HGb := Lib.hid (HF2.out.below ((Below.refl _ _).alloc (Nat.le_refl _) (.cells #[.int .i64 (fareV 1 T X rl).start, .int .i64 (fareV 1 T X rl).driven, .int .i64 (fareV 1 T X rl).extras, .int .i64 (fareV 1 T X rl).total] 42)) hs3)
    have HWb := Lib.hid (HW2.out.alloc (by omega) (.cells #[.int .i64 (fareV 1 T X rl).start, .int .i64 (fareV 1 T X rl).driven, .int .i64 (fareV 1 T X rl).extras, .int .i64 (fareV 1 T X rl).total] 42))
    have HFb := Lib.hid (FareAt.new w2 (fareV 1 T X rl).start (fareV 1 T X rl).driven (fareV 1 T X rl).extras (fareV 1 T X rl).total 42)
    go_upto_region 5 with fail
    generalize w2.alloc _ = w3 at *
    obtain ⟨y0, y1, y2, y3, -, -, -, -⟩ := HFb.out
    obtain ⟨g0, g1, g2, g3, -, -, -, -⟩ := HGb.out
    obtain ⟨x0, x1, z0, z1⟩ := HRb.out
    by_cases h3 : 1000000000 < (fareV 1 T X rl).total
    · have d3 : decide ((fareV 1 T X rl).total > 1000000000) = true := decide_eq_true h3
      have d3' : decide (1000000000 < (fareV 1 T X rl).total) = true := decide_eq_true h3
      have HR7 := Lib.hid (HRb.out.set 0 0)
      have HW7 := Lib.hid (PairAt.under (g := w.heap.size + 1 + 1 + 1) HWb.out (by omega) 0 0)
      have HV := Lib.hid (show rangeBy T X rl = ((0, 0), 8) by unfold rangeBy; rw [if_neg (fun hh => hh HE.out), if_pos h3])
      rw [HE.out]
      go_wp2_with fail
      generalize ((w3.setCell _ _).setCell _ _) = w7 at *
      clear x0 x1 z0 z1 y0 y1 y2 y3 g0 g1 g2 g3
      obtain ⟨m0, m1, -, -⟩ := HR7.out
      exact bodyPost_ret (v := .tuple #[.agg #[.int .i64 0, .int .i64 0], .int .i64 8]) (by simp [results, Try.results24, go_sem, m0, m1]) rfl ⟨by rw [HV.out], HW7.out⟩
    · have d3 : decide ((fareV 1 T X rl).total > 1000000000) = false := decide_eq_false h3
      have d3' : decide (1000000000 < (fareV 1 T X rl).total) = false := decide_eq_false h3
      have HR7 := Lib.hid (HRb.out.set (fareV 0 T X rl).total (fareV 1 T X rl).total)
      have HW7 := Lib.hid (PairAt.under (g := w.heap.size + 1 + 1 + 1) HWb.out (by omega) (fareV 0 T X rl).total (fareV 1 T X rl).total)
      have HV := Lib.hid (show rangeBy T X rl = (((fareV 0 T X rl).total, (fareV 1 T X rl).total), 0) by unfold rangeBy; rw [if_neg (fun hh => hh HE.out), if_neg h3])
      rw [HE.out]
      go_wp2_with fail
      generalize ((w3.setCell _ _).setCell _ _) = w7 at *
      clear x0 x1 z0 z1 y0 y1 y2 y3 g0 g1 g2 g3
      obtain ⟨m0, m1, -, -⟩ := HR7.out
      exact bodyPost_ret (v := .tuple #[.agg #[.int .i64 (fareV 0 T X rl).total, .int .i64 (fareV 1 T X rl).total], .int .i64 0]) (by simp [results, Try.results24, go_sem, m0, m1]) rfl ⟨by rw [HV.out], HW7.out⟩
  · have d2 : (fareE T X != 0) = true := by simpa using h2
    have HR7 := Lib.hid (HRa.out.set 0 0)
    have HW7 := Lib.hid (PairAt.under (g := w.heap.size + 1 + 1 + 1) HWa.out (by omega) 0 0)
    have HV := Lib.hid (show rangeBy T X rl = ((0, 0), fareE T X) by unfold rangeBy; rw [if_pos h2])
    clear h2
    obtain ⟨x0, x1, z0, z1⟩ := HRa.out
    go_wp2_with fail
    generalize ((wa.setCell _ _).setCell _ _) = w7 at *
    clear x0 x1 z0 z1
    obtain ⟨m0, m1, -, -⟩ := HR7.out
    exact bodyPost_ret (v := .tuple #[.agg #[.int .i64 0, .int .i64 0], .int .i64 (fareE T X)]) (by simp [results, Try.results24, go_sem, m0, m1]) rfl ⟨by rw [HV.out], HW7.out⟩

set_option maxHeartbeats 1600000 in
set_option maxRecDepth 100000 in
theorem rangeOf_any (T : Tar) (X : Trip) (v x : Value) (w : World) (hT : RdTar w v T) (hX : RdTrip w x X) (hn : T.rules.length ≤ 1000000) :
    Calls Try.prog 12 #[v, x] w fun e w' => e = .returned (.tuple #[pairVal (rangeOf T X).1, .int .i64 (rangeOf T X).2]) ∧ Below w.heap.size w w' := by
  have hT0 := hT
  have hX0 := hX
  obtain ⟨z, h, r, e, f, zc, hc, rc, ec, fc, a, rfl, m⟩ := hT
  obtain ⟨xe, xs, xec, xsc, rfl, x1, x2⟩ := hX
  clear m x1 x2
  have BT := Lib.hid (((BoxT.new w T z h r e f zc hc rc ec fc 28).keep (Keep.alloc _ (.cells #[.int .i64 X.date, .int .i64 X.time, .bool X.fixed, .slice xe X.extras.length xec, .slice xs X.segs.length xsc] 33))).keep (Keep.alloc _ (.cells #[.int .i64 0, .int .i64 0] 48)))
  have BX := Lib.hid ((BoxX.new1 w (.cells #[.string T.name, .int .i64 T.unit, .int .i64 T.step, .slice z T.zones.length zc, .slice h T.hols.length hc, .slice r T.rules.length rc, .slice e T.extras.length ec, .slice f T.fixed.length fc] 28) X xe xs xec xsc 33).keep (Keep.alloc _ (.cells #[.int .i64 0, .int .i64 0] 48)))
  have HF0 := Lib.hid (PairAt.new ((w.alloc (.cells #[.string T.name, .int .i64 T.unit, .int .i64 T.step, .slice z T.zones.length zc, .slice h T.hols.length hc, .slice r T.rules.length rc, .slice e T.extras.length ec, .slice f T.fixed.length fc] 28)).alloc (.cells #[.int .i64 X.date, .int .i64 X.time, .bool X.fixed, .slice xe X.extras.length xec, .slice xs X.segs.length xsc] 33)) 0 0 48)
  have hsz0 : ((w.alloc (.cells #[.string T.name, .int .i64 T.unit, .int .i64 T.step, .slice z T.zones.length zc, .slice h T.hols.length hc, .slice r T.rules.length rc, .slice e T.extras.length ec, .slice f T.fixed.length fc] 28)).alloc (.cells #[.int .i64 X.date, .int .i64 X.time, .bool X.fixed, .slice xe X.extras.length xec, .slice xs X.segs.length xsc] 33)).heap.size = w.heap.size + 1 + 1 := by simp
  rw [hsz0] at HF0
  clear hsz0
  go_enter Try.func12, Try.ntmps12
  go_upto_region 1 with fail
  generalize hwb : ((w.alloc _).alloc _).alloc _ = wb at *
  have hsz : wb.heap.size = w.heap.size + 1 + 1 + 1 := by rw [← hwb]; simp
  have HBW : Hid (Below w.heap.size w wb) := by rw [← hwb]; exact Lib.hid ((((Below.refl _ _).alloc (Nat.le_refl _) _).alloc (by simp) _).alloc (by simp; omega) _)
  clear hwb
  obtain ⟨t0, t1, t2, t3, t4, t5, t6, t7⟩ := BT.out
  obtain ⟨p0, p1, p2, p3, p4⟩ := BX.out
  go_wp2_with fail
  refine (rulesOf_any T X _ _ _ (hT0.keep (Keep.below HBW.out)) (hX0.keep (Keep.below HBW.out)) hn).mono ?_
  rintro e' w1 ⟨hb1, ⟨he, rfl⟩ | ⟨he, A, c, rfl, ha⟩⟩
  · have d1 : (rulesErr T X != 0) = true := by simpa using he
    have HR1 := Lib.hid (HF0.out.below hb1 (by omega))
    have HW1 := Lib.hid (HBW.out.trans (hb1.mono HBW.out.size))
    have HR7 := Lib.hid (HR1.out.set 0 0)
    have HW7 := Lib.hid (PairAt.under (g := w.heap.size + 1 + 1) HW1.out (by omega) 0 0)
    have HV := Lib.hid (show rangeOf T X = ((0, 0), rulesErr T X) by unfold rangeOf; rw [if_pos he])
    clear hb1 t0 t1 t2 t3 t4 t5 t6 t7 p0 p1 p2 p3 p4 he
    obtain ⟨x0, x1, z0, z1⟩ := HR1.out
    go_wp2_with fail
    generalize ((w1.setCell _ _).setCell _ _) = w7 at *
    clear x0 x1 z0 z1
    obtain ⟨m0, m1, -, -⟩ := HR7.out
    exact bodyPost_ret (v := .tuple #[.agg #[.int .i64 0, .int .i64 0], .int .i64 (rulesErr T X)]) (by simp [results, Try.results12, go_sem, m0, m1]) rfl ⟨by rw [HV.out], HW7.out⟩
  · have d1 : ((0 : Int) != 0) = false := rfl
    obtain ⟨hok, hri⟩ := rules_ok he
    have HR1 := Lib.hid (HF0.out.below hb1 (by omega))
    have HW1 := Lib.hid (HBW.out.trans (hb1.mono HBW.out.size))
    obtain ⟨t0, t1, t2, t3, t4, t5, t6, t7⟩ := BT.out.keep (Keep.below hb1)
    obtain ⟨p0, p1, p2, p3, p4⟩ := BX.out.keep (Keep.below hb1)
    have HV := Lib.hid (show rangeOf T X = rangeBy T X (rulesL T X) by unfold rangeOf; rw [if_neg (fun hh => hh he)])
    have HOK := Lib.hid hok
    have HRI := Lib.hid hri
    have HA := Lib.hid ha
    have hs1 := HR1.out.lt
    clear hb1 he hok hri ha BT BX HF0 hsz
    go_wp2_with fail
    refine (rangeFrom_any T X _ _ (rulesL T X) _ _ _ (hT0.keep (Keep.below HW1.out)) (hX0.keep (Keep.below HW1.out)) HA.out HOK.out HRI.out).mono ?_
    rintro e' w2 ⟨rfl, hb2⟩
    have HR2 := Lib.hid (HR1.out.below hb2 hs1)
    have HW2 := Lib.hid (HW1.out.trans (hb2.mono HW1.out.size))
    clear hb2 t0 t1 t2 t3 t4 t5 t6 t7 p0 p1 p2 p3 p4 hs1
    have HR7 := Lib.hid (HR2.out.set (rangeBy T X (rulesL T X)).1.1 (rangeBy T X (rulesL T X)).1.2)
    have HW7 := Lib.hid (PairAt.under (g := w.heap.size + 1 + 1) HW2.out (by omega) (rangeBy T X (rulesL T X)).1.1 (rangeBy T X (rulesL T X)).1.2)
    obtain ⟨x0, x1, z0, z1⟩ := HR2.out
    go_wp2_with fail
    generalize ((w2.setCell _ _).setCell _ _) = w7 at *
    clear x0 x1 z0 z1
    obtain ⟨m0, m1, -, -⟩ := HR7.out
    exact bodyPost_ret (v := .tuple #[pairVal (rangeBy T X (rulesL T X)).1, .int .i64 (rangeBy T X (rulesL T X)).2]) (by simp [results, Try.results12, go_sem, m0, m1]) rfl ⟨by rw [HV.out], HW7.out⟩
end Go.Proofs.Ytbehabaoeicgeaa

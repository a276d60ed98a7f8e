/- The error of a trip and its number. No condition. -/
import Derived.Test.YtbehabaoeicgeaaW7a
import Derived.Test.YtbehabaoeicgeaaW7c
import Derived.Test.YtbehabaoeicgeaaW7t
namespace Go.Proofs.Ytbehabaoeicgeaa
open Go.RowKit Fs

/-- A trip's cells in the block g. -/
structure BoxX (w : World) (g : Nat) (X : Trip) (e s : Option Addr) (ec sc : Nat) : Prop where
  c0 : w.cell? ⟨g, 0, none⟩ = some (.int .i64 X.date)
  c1 : w.cell? ⟨g, 1, none⟩ = some (.int .i64 X.time)
  c2 : w.cell? ⟨g, 2, none⟩ = some (.bool X.fixed)
  c3 : w.cell? ⟨g, 3, none⟩ = some (.slice e X.extras.length ec)
  c4 : w.cell? ⟨g, 4, none⟩ = some (.slice s X.segs.length sc)
theorem BoxX.keep {w w' : World} (k : Keep w w') {g : Nat} {X : Trip} {e s : Option Addr} {ec sc : Nat} (m : BoxX w g X e s ec sc) : BoxX w' g X e s ec sc :=
  ⟨k _ _ m.c0, k _ _ m.c1, k _ _ m.c2, k _ _ m.c3, k _ _ m.c4⟩
theorem BoxX.new (w : World) (X : Trip) (e s : Option Addr) (ec sc : Nat) (t : TypeId) :
    BoxX (w.alloc (.cells #[.int .i64 X.date, .int .i64 X.time, .bool X.fixed, .slice e X.extras.length ec, .slice s X.segs.length sc] t)) w.heap.size X e s ec sc :=
  ⟨cellNew _ _ _ _, cellNew _ _ _ _, cellNew _ _ _ _, cellNew _ _ _ _, cellNew _ _ _ _⟩
theorem BoxX.new1 (w : World) (A : Obj) (X : Trip) (e s : Option Addr) (ec sc : Nat) (t : TypeId) :
    BoxX ((w.alloc A).alloc (.cells #[.int .i64 X.date, .int .i64 X.time, .bool X.fixed, .slice e X.extras.length ec, .slice s X.segs.length sc] t)) (w.heap.size + 1) X e s ec sc :=
  ⟨cellNew1 _ _ _ _ _, cellNew1 _ _ _ _ _, cellNew1 _ _ _ _ _, cellNew1 _ _ _ _ _, cellNew1 _ _ _ _ _⟩
def checkTrip' (T : Tar) (X : Trip) : Int × Int :=
  if errTar T ≠ 0 then (0, errTar T) else if errMoment X.date X.time ≠ 0 then (0, errMoment X.date X.time)
  else if (errExtras' T X.extras).2 ≠ 0 then errExtras' T X.extras else errSegs' T X.segs

set_option maxHeartbeats 1000000 in
set_option maxRecDepth 100000 in
theorem checkTrip_any (T : Tar) (X : Trip) (v x : Value) (w : World) (hT : RdTar w v T) (hX : RdTrip w x X) :
    Calls Try.prog 33 #[v, x] w fun e w' => e = .returned (.tuple #[.int .i64 (checkTrip' T X).1, .int .i64 (checkTrip' T X).2]) ∧ Below w.heap.size w w' := by
  have hT0 := hT
  obtain ⟨z, h, r, e, f, zc, hc, rc, ec, fc, a, rfl, m⟩ := hT
  obtain ⟨xe, xs, xec, xsc, rfl, x1, x2⟩ := hX
  clear m
  have BT := Lib.hid ((BoxT.new w T z h r e f zc hc rc ec fc 28).keep (Keep.alloc _ (.cells #[.int .i64 X.date, .int .i64 X.time, .bool X.fixed, .slice xe X.extras.length xec, .slice xs X.segs.length xsc] 33)))
  have BX := Lib.hid (BoxX.new1 w (.cells #[.string T.name, .int .i64 T.unit, .int .i64 T.step, .slice z T.zones.length zc, .slice h T.hols.length hc, .slice r T.rules.length rc, .slice e T.extras.length ec, .slice f T.fixed.length fc] 28) X xe xs xec xsc 33)
  by_cases h1 : errTar T = 0
  · have d1 : (errTar T != 0) = false := by simpa using h1
    have F1 := Lib.hid (show checkTrip' T X = if errMoment X.date X.time ≠ 0 then (0, errMoment X.date X.time) else if (errExtras' T X.extras).2 ≠ 0 then errExtras' T X.extras else errSegs' T X.segs by unfold checkTrip'; rw [if_neg (fun hh => hh h1)])
    clear h1
    go_enter Try.func33, Try.ntmps33
    go_wp2_with fail
    refine (tarErr_any T _ _ (hT0.keep ((Keep.alloc _ _).trans (Keep.alloc _ _)))).mono ?_
    rintro e' w1 ⟨rfl, hb1⟩
    have HK1 := Lib.hid (((Keep.alloc _ _).trans (Keep.alloc _ _)).trans (Keep.below hb1) : Keep w w1)
    have HW1 := Lib.hid ((((Below.refl _ _).alloc (Nat.le_refl _) _).alloc (by simp) _).trans (hb1.mono (by simp; omega)) : Below w.heap.size w w1)
    have BT1 := Lib.hid (BT.out.keep (Keep.below hb1))
    have BX1 := Lib.hid (BX.out.keep (Keep.below hb1))
    clear hb1 BT BX
    obtain ⟨p0, p1, p2, p3, p4⟩ := BX1.out
    by_cases h2 : errMoment X.date X.time = 0
    · have d2 : (errMoment X.date X.time != 0) = false := by simpa using h2
      have F2 := Lib.hid (F1.out.trans (if_neg (fun hh => hh h2)))
      clear h2
      go_wp2_with fail
      refine (moment_any _ _ _).mono ?_
      rintro e' w2 ⟨rfl, hb2⟩
      have HK2 := Lib.hid (HK1.out.trans (Keep.below hb2))
      have HW2 := Lib.hid (HW1.out.trans (hb2.mono HW1.out.size))
      have BT2 := Lib.hid (BT1.out.keep (Keep.below hb2))
      have BX2 := Lib.hid (BX1.out.keep (Keep.below hb2))
      clear hb2 p0 p1 p2 p3 p4
      obtain ⟨p0, p1, p2, p3, p4⟩ := BX2.out
      obtain ⟨t0, t1, t2, t3, t4, t5, t6, t7⟩ := BT2.out
      go_wp2_with fail
      refine (checkExtras_any T _ X.extras _ _ _ (hT0.keep HK2.out) (x1.keep HK2.out)).mono ?_
      rintro e' w3 ⟨rfl, hb3⟩
      have HK3 := Lib.hid (HK2.out.trans (Keep.below hb3))
      have HW3 := Lib.hid (HW2.out.trans (hb3.mono HW2.out.size))
      have BT3 := Lib.hid (BT2.out.keep (Keep.below hb3))
      have BX3 := Lib.hid (BX2.out.keep (Keep.below hb3))
      clear hb3 p0 p1 p2 p3 p4 t0 t1 t2 t3 t4 t5 t6 t7
      by_cases h3 : (errExtras' T X.extras).2 = 0
      · have d3 : ((errExtras' T X.extras).2 != 0) = false := by simpa using h3
        have F3 := Lib.hid (F2.out.trans (if_neg (fun hh => hh h3)))
        clear h3
        obtain ⟨p0, p1, p2, p3, p4⟩ := BX3.out
        obtain ⟨t0, t1, t2, t3, t4, t5, t6, t7⟩ := BT3.out
        go_wp2_with fail
        refine (checkSegs_any T _ X.segs _ _ _ (hT0.keep HK3.out) (x2.keep HK3.out)).mono ?_
        rintro e' w4 ⟨rfl, hb4⟩
        have HW4 := Lib.hid (HW3.out.trans (hb4.mono HW3.out.size))
        clear hb4 p0 p1 p2 p3 p4 t0 t1 t2 t3 t4 t5 t6 t7
        go_wp2_with fail
        go_ret2
        exact ⟨by rw [F3.out]; rfl, HW4.out⟩
      · have d3 : ((errExtras' T X.extras).2 != 0) = true := by simpa using h3
        have F3 := Lib.hid (F2.out.trans (if_pos h3))
        clear h3
        go_wp2_with fail
        go_ret2
        exact ⟨by rw [F3.out]; rfl, HW3.out⟩
    · have d2 : (errMoment X.date X.time != 0) = true := by simpa using h2
      have F2 := Lib.hid (F1.out.trans (if_pos h2))
      clear h2
      go_wp2_with fail
      refine (moment_any _ _ _).mono ?_
      rintro e' w2 ⟨rfl, hb2⟩
      have HW2 := Lib.hid (HW1.out.trans (hb2.mono HW1.out.size))
      clear hb2 p0 p1 p2 p3 p4
      go_wp2_with fail
      go_ret2
      exact ⟨by rw [F2.out]; rfl, HW2.out⟩
  · have d1 : (errTar T != 0) = true := by simpa using h1
    have F1 := Lib.hid (show checkTrip' T X = (0, errTar T) by unfold checkTrip'; rw [if_pos h1])
    clear h1 BT BX
    go_enter Try.func33, Try.ntmps33
    go_wp2_with fail
    refine (tarErr_any T _ _ (hT0.keep ((Keep.alloc _ _).trans (Keep.alloc _ _)))).mono ?_
    rintro e' w1 ⟨rfl, hb1⟩
    have HW1 := Lib.hid ((((Below.refl _ _).alloc (Nat.le_refl _) _).alloc (by simp) _).trans (hb1.mono (by simp; omega)) : Below w.heap.size w w1)
    clear hb1
    go_wp2_with fail
    go_ret2
    exact ⟨by rw [F1.out]; rfl, HW1.out⟩
end Go.Proofs.Ytbehabaoeicgeaa

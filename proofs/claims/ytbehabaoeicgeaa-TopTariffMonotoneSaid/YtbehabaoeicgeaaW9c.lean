/- The fare of a trip, however great, from the rules of its segments. Conditions: the trip is accepted, the rules are the tariff's. -/
import Derived.Test.YtbehabaoeicgeaaFs4
import Derived.Deep.RegionHeld3
import Derived.Deep.CutRange
import Derived.Test.YtbehabaoeicgeaaWQ
namespace Go.Proofs.Ytbehabaoeicgeaa
open Go.RowKit Fs

/-- The four cells of a fare, which may be written. -/
structure FareAt (w : World) (g : Nat) (a b c d : Int) : Prop where
  c0 : w.cell? ⟨g, 0, none⟩ = some (.int .i64 a)
  c1 : w.cell? ⟨g, 1, none⟩ = some (.int .i64 b)
  c2 : w.cell? ⟨g, 2, none⟩ = some (.int .i64 c)
  c3 : w.cell? ⟨g, 3, none⟩ = some (.int .i64 d)
  f0 : w.frozen? ⟨g, 0, none⟩ = false
  f1 : w.frozen? ⟨g, 1, none⟩ = false
  f2 : w.frozen? ⟨g, 2, none⟩ = false
  f3 : w.frozen? ⟨g, 3, none⟩ = false
theorem FareAt.lt {w : World} {g : Nat} {a b c d : Int} (m : FareAt w g a b c d) : g < w.heap.size := World.block_lt_of_cell? w _ m.c0
theorem FareAt.below {B : Nat} {w w' : World} {g : Nat} {a b c d : Int} (m : FareAt w g a b c d) (h : Below B w w') (hg : g < B) : FareAt w' g a b c d :=
  ⟨(h.cell (p := ⟨g, 0, none⟩) hg).trans m.c0, (h.cell (p := ⟨g, 1, none⟩) hg).trans m.c1, (h.cell (p := ⟨g, 2, none⟩) hg).trans m.c2, (h.cell (p := ⟨g, 3, none⟩) hg).trans m.c3,
    (h.frozen (p := ⟨g, 0, none⟩) hg).trans m.f0, (h.frozen (p := ⟨g, 1, none⟩) hg).trans m.f1, (h.frozen (p := ⟨g, 2, none⟩) hg).trans m.f2, (h.frozen (p := ⟨g, 3, none⟩) hg).trans m.f3⟩
theorem FareAt.new (w : World) (a b c d : Int) (t : TypeId) : FareAt (w.alloc (.cells #[.int .i64 a, .int .i64 b, .int .i64 c, .int .i64 d] t)) w.heap.size a b c d :=
  ⟨cellNew _ _ _ _, cellNew _ _ _ _, cellNew _ _ _ _, cellNew _ _ _ _, frozenNew _ _ _ _, frozenNew _ _ _ _, frozenNew _ _ _ _, frozenNew _ _ _ _⟩

theorem Below.realloc {B : Nat} {a w : World} {o : Obj} (h : Below B a (w.alloc o)) (hB : B ≤ w.heap.size) (o' : Obj) : Below B a (w.alloc o') :=
  ⟨h.os, h.tape, h.output, by simpa using h.size, fun k hk => by
    have := h.block k hk
    rw [Below.heap_alloc _ _ _ (by omega)] at this ⊢
    exact this⟩
theorem FareAt.set {w : World} {g : Nat} {a b c d : Int} (m : FareAt w g a b c d) (a' b' c' d' : Int) :
    FareAt ((((w.setCell ⟨g, 0, none⟩ (.int .i64 a')).setCell ⟨g, 1, none⟩ (.int .i64 b')).setCell ⟨g, 2, none⟩ (.int .i64 c')).setCell ⟨g, 3, none⟩ (.int .i64 d')) g a' b' c' d' := by
  obtain ⟨c0, c1, c2, c3, f0, f1, f2, f3⟩ := m
  constructor
  · simp [World.cell?_setCell_other, World.cell?_setCell_same _ _ _ c0]
  · simp [World.cell?_setCell_other, World.cell?_setCell_same', c1]
  · simp [World.cell?_setCell_other, World.cell?_setCell_same', c2]
  · simp [World.cell?_setCell_other, World.cell?_setCell_same', c3]
  · simpa [World.frozen?_setCell] using f0
  · simpa [World.frozen?_setCell] using f1
  · simpa [World.frozen?_setCell] using f2
  · simpa [World.frozen?_setCell] using f3
theorem FareAt.putD {w : World} {g : Nat} {a b c d : Int} (m : FareAt w g a b c d) (b' : Int) : FareAt (w.setCell ⟨g, 1, none⟩ (.int .i64 b')) g a b' c d := by
  obtain ⟨c0, c1, c2, c3, f0, f1, f2, f3⟩ := m
  constructor
  · simpa [World.cell?_setCell_other] using c0
  · simp [World.cell?_setCell_same', c1]
  · simpa [World.cell?_setCell_other] using c2
  · simpa [World.cell?_setCell_other] using c3
  · simpa [World.frozen?_setCell] using f0
  · simpa [World.frozen?_setCell] using f1
  · simpa [World.frozen?_setCell] using f2
  · simpa [World.frozen?_setCell] using f3
theorem FareAt.putS {w : World} {g : Nat} {a b c d : Int} (m : FareAt w g a b c d) (a' : Int) : FareAt (w.setCell ⟨g, 0, none⟩ (.int .i64 a')) g a' b c d := by
  obtain ⟨c0, c1, c2, c3, f0, f1, f2, f3⟩ := m
  constructor
  · simp [World.cell?_setCell_same', c0]
  · simpa [World.cell?_setCell_other] using c1
  · simpa [World.cell?_setCell_other] using c2
  · simpa [World.cell?_setCell_other] using c3
  · simpa [World.frozen?_setCell] using f0
  · simpa [World.frozen?_setCell] using f1
  · simpa [World.frozen?_setCell] using f2
  · simpa [World.frozen?_setCell] using f3
theorem FareAt.putT {w : World} {g : Nat} {a b c d : Int} (m : FareAt w g a b c d) (d' : Int) : FareAt (w.setCell ⟨g, 3, none⟩ (.int .i64 d')) g a b c d' := by
  obtain ⟨c0, c1, c2, c3, f0, f1, f2, f3⟩ := m
  constructor
  · simpa [World.cell?_setCell_other] using c0
  · simpa [World.cell?_setCell_other] using c1
  · simpa [World.cell?_setCell_other] using c2
  · simp [World.cell?_setCell_same', c3]
  · simpa [World.frozen?_setCell] using f0
  · simpa [World.frozen?_setCell] using f1
  · simpa [World.frozen?_setCell] using f2
  · simpa [World.frozen?_setCell] using f3
theorem FareAt.other {w : World} {g g' i : Nat} {a b c d : Int} (m : FareAt w g a b c d) (h : g' ≠ g) (v : Value) : FareAt (w.setCell ⟨g', i, none⟩ v) g a b c d := by
  obtain ⟨c0, c1, c2, c3, f0, f1, f2, f3⟩ := m
  exact ⟨(World.cell?_setCell_far _ _ _ _ h).trans c0, (World.cell?_setCell_far _ _ _ _ h).trans c1, (World.cell?_setCell_far _ _ _ _ h).trans c2, (World.cell?_setCell_far _ _ _ _ h).trans c3,
    (World.frozen?_setCell _ _ _ _).trans f0, (World.frozen?_setCell _ _ _ _).trans f1, (World.frozen?_setCell _ _ _ _).trans f2, (World.frozen?_setCell _ _ _ _).trans f3⟩
theorem wrapQuo {s u t : Int} (h0 : 0 ≤ s / u) (h1 : s / u ≤ 9000000000000000000) (h2 : 0 ≤ s / u * t) (h3 : s / u * t ≤ 9000000000000000000) : IntKind.i64.wrap (IntKind.i64.wrap (s / u) * t) = s / u * t := by
  have e : IntKind.i64.wrap (s / u) = s / u := by rw [IntKind.wrap_i64]; omega
  rw [e, IntKind.wrap_i64]
  omega
theorem arr3 (w : World) (a b c : Int) (t : TypeId) : ArrI (w.alloc (.cells #[.int .i64 a, .int .i64 b, .int .i64 c] t)) (some ⟨w.heap.size, 0, none⟩) [a, b, c] 3 :=
  ⟨Nat.le_refl _, by simp, fun _ => ⟨w.heap.size, 0, rfl, fun i j hi hj => by
    have hj0 : j = 0 := by omega
    subst hj0
    match i, hi with
    | 0, _ => exact cellNew _ _ _ 0
    | 1, _ => exact cellNew _ _ _ 1
    | 2, _ => exact cellNew _ _ _ 2⟩⟩
theorem sum3 (a b c : Int) : sumTo (listI [a, b, c]) [a, b, c].length = a + b + c := by
  show 0 + a + b + c = a + b + c
  omega
theorem sum3_bd {a b c : Int} (h0 : 0 ≤ a) (h1 : a ≤ 100000) (h2 : 0 ≤ b) (h3 : b ≤ 816000000000000000) (h4 : 0 ≤ c) (h5 : c ≤ 12000000) :
    ∀ k, k ≤ [a, b, c].length → -1000000000000000000 ≤ sumTo (listI [a, b, c]) k ∧ sumTo (listI [a, b, c]) k ≤ 1000000000000000000 := by
  intro k hk
  match k, hk with
  | 0, _ => show -1000000000000000000 ≤ (0 : Int) ∧ (0 : Int) ≤ 1000000000000000000; omega
  | 1, _ => show -1000000000000000000 ≤ 0 + a ∧ 0 + a ≤ 1000000000000000000; omega
  | 2, _ => show -1000000000000000000 ≤ 0 + a + b ∧ 0 + a + b ≤ 1000000000000000000; omega
  | 3, _ => show -1000000000000000000 ≤ 0 + a + b + c ∧ 0 + a + b + c ≤ 1000000000000000000; omega
set_option maxHeartbeats 1600000 in
set_option maxRecDepth 100000 in
theorem fareBy_any (q : Nat) (T : Tar) (X : Trip) (v x : Value) (rl : List Int) (A : Option Addr) (c : Nat) (w : World) (hT : RdTar w v T) (hX : RdTrip w x X) (hA : ArrI w A rl c) (hok : (checkTrip' T X).2 = 0) (hri : RulesIn T X rl) :
    Calls Try.prog 21 #[v, x, .slice A rl.length c, .func (.func (reckFn q)) #[] #[]] w fun e w' =>
      e = .returned (.tuple #[.agg #[.int .i64 (fareV q T X rl).start, .int .i64 (fareV q T X rl).driven, .int .i64 (fareV q T X rl).extras, .int .i64 (fareV q T X rl).total], .int .i64 (fareE T X)]) ∧ Below w.heap.size w w' := by
  have hT0 := hT
  have hX0 := hX
  obtain ⟨z, h, r, e, f, zc, hc, rc, ec, fc, a, rfl, m⟩ := hT
  obtain ⟨xe, xs, xec, xsc, rfl, x1, x2⟩ := hX
  have hr := m.rules
  have a1 := hr.le.1
  have a2 := hr.le.2
  have a3 := hA.le.1
  have a4 := hA.le.2
  have a5 := x2.le.1
  have a6 := x2.le.2
  clear m x1
  obtain ⟨k1, k2, k3, k4⟩ := trip_ok hok
  obtain ⟨n1, n2, -⟩ := segs_ok k4
  have HOK := Lib.hid hok
  have HRI := Lib.hid hri
  have hl0 : rl.length = X.segs.length := hri.1
  obtain ⟨n, hnn⟩ : ∃ n : Nat, listI rl 0 = n := ⟨(listI rl 0).toNat, by have := (hri.2 0 (by omega)).1; omega⟩
  have hn1 : n < T.rules.length := by have := (hri.2 0 (by omega)).2; omega
  have HST := Lib.hid (show startC T rl = (listR T.rules n).start by unfold startC; rw [hnn]; rfl)
  obtain ⟨bl, ol, rfl, lc⟩ := hA.at_ (k := 0) (by omega)
  rw [hnn] at lc
  obtain ⟨b, o, rfl, qq⟩ := hr.at_ hn1
  have c7 := qq.c7
  have i0 : (0 : Int) ≤ (n : Int) := by omega
  have i1 : (n : Int) < (T.rules.length : Int) := by omega
  have i2 : (0 : Int) < (rl.length : Int) := by omega
  have i3 : 0 < rl.length := by omega
  have BT := Lib.hid (((BoxT.new w T z h (some ⟨b, o, none⟩) e f zc hc rc ec fc 28).keep (Keep.alloc _ (.cells #[.int .i64 X.date, .int .i64 X.time, .bool X.fixed, .slice xe X.extras.length xec, .slice xs X.segs.length xsc] 33))).keep (Keep.alloc _ (.cells #[.int .i64 0, .int .i64 0, .int .i64 0, .int .i64 0] 42)))
  have BX := Lib.hid ((BoxX.new1 w (.cells #[.string T.name, .int .i64 T.unit, .int .i64 T.step, .slice z T.zones.length zc, .slice h T.hols.length hc, .slice (some ⟨b, o, none⟩) T.rules.length rc, .slice e T.extras.length ec, .slice f T.fixed.length fc] 28) X xe xs xec xsc 33).keep (Keep.alloc _ (.cells #[.int .i64 0, .int .i64 0, .int .i64 0, .int .i64 0] 42)))
  clear hok hri hl0 hnn hr k1 k2 k3 k4
  go_enter Try.func21, Try.ntmps21
  go_upto_region 1 with fail
  generalize hwb : ((w.alloc _).alloc _).alloc _ = wb at *
  have hsz : wb.heap.size = w.heap.size + 1 + 1 + 1 := by rw [← hwb]; simp
  have HBW : Hid (Below w.heap.size w wb) := by rw [← hwb]; exact Lib.hid ((((Below.refl _ _).alloc (Nat.le_refl _) _).alloc (by simp) _).alloc (by simp; omega) _)
  have HF0 : Hid (FareAt wb (w.heap.size + 1 + 1) 0 0 0 0) := by rw [← hwb]; exact Lib.hid (by have := FareAt.new ((w.alloc (.cells #[.string T.name, .int .i64 T.unit, .int .i64 T.step, .slice z T.zones.length zc, .slice h T.hols.length hc, .slice (some ⟨b, o, none⟩) T.rules.length rc, .slice e T.extras.length ec, .slice f T.fixed.length fc] 28)).alloc (.cells #[.int .i64 X.date, .int .i64 X.time, .bool X.fixed, .slice xe X.extras.length xec, .slice xs X.segs.length xsc] 33)) 0 0 0 0 42; simpa using this)
  clear hwb
  obtain ⟨t0, t1, t2, t3, t4, t5, t6, t7⟩ := BT.out
  obtain ⟨p0, p1, p2, p3, p4⟩ := BX.out
  replace lc : wb.cell? ⟨bl, ol, none⟩ = some (.int .i64 (n : Int)) := Keep.below HBW.out _ _ lc
  replace c7 := Keep.below HBW.out _ _ c7
  have MK : Hid (∀ w', Below wb.heap.size wb w' → w'.cell? ⟨w.heap.size, 0, none⟩ = some (.string T.name) ∧ w'.cell? ⟨w.heap.size, 1, none⟩ = some (.int .i64 T.unit) ∧ w'.cell? ⟨w.heap.size, 2, none⟩ = some (.int .i64 T.step) ∧ w'.cell? ⟨w.heap.size, 3, none⟩ = some (.slice z T.zones.length zc) ∧ w'.cell? ⟨w.heap.size, 4, none⟩ = some (.slice h T.hols.length hc) ∧ w'.cell? ⟨w.heap.size, 5, none⟩ = some (.slice (some ⟨b, o, none⟩) T.rules.length rc) ∧ w'.cell? ⟨w.heap.size, 6, none⟩ = some (.slice e T.extras.length ec) ∧ w'.cell? ⟨w.heap.size, 7, none⟩ = some (.slice f T.fixed.length fc) ∧ w'.cell? ⟨w.heap.size + 1, 0, none⟩ = some (.int .i64 X.date) ∧ w'.cell? ⟨w.heap.size + 1, 1, none⟩ = some (.int .i64 X.time) ∧ w'.cell? ⟨w.heap.size + 1, 2, none⟩ = some (.bool X.fixed) ∧ w'.cell? ⟨w.heap.size + 1, 3, none⟩ = some (.slice xe X.extras.length xec) ∧ w'.cell? ⟨w.heap.size + 1, 4, none⟩ = some (.slice xs X.segs.length xsc) ∧ w'.cell? ⟨bl, ol, none⟩ = some (.int .i64 (n : Int)) ∧ w'.cell? ⟨b, o + n * 10 + 7, none⟩ = some (.int .i64 (listR T.rules n).start) ∧ Hid (RdTar w' (tarV T z h (some ⟨b, o, none⟩) e f zc hc rc ec fc) T) ∧ Hid (RdTrip w' (tripV X xe xs xec xsc) X) ∧ Hid (Below wb.heap.size wb w')) := Lib.hid fun w' hw => ⟨Keep.below hw _ _ t0, Keep.below hw _ _ t1, Keep.below hw _ _ t2, Keep.below hw _ _ t3, Keep.below hw _ _ t4, Keep.below hw _ _ t5, Keep.below hw _ _ t6, Keep.below hw _ _ t7, Keep.below hw _ _ p0, Keep.below hw _ _ p1, Keep.below hw _ _ p2, Keep.below hw _ _ p3, Keep.below hw _ _ p4, Keep.below hw _ _ lc, Keep.below hw _ _ c7, Lib.hid (RdTar.keep (Keep.below (HBW.out.trans (hw.mono HBW.out.size))) hT0), Lib.hid (RdTrip.keep (Keep.below (HBW.out.trans (hw.mono HBW.out.size))) hX0), Lib.hid hw⟩
  clear t0 t1 t2 t3 t4 t5 t6 t7 p0 p1 p2 p3 p4 lc c7
  go_cut [10] from 13 to 25 (fun s wx => ∃ g : Nat, s = .pointer (some ⟨g, 0, none⟩) ∧ w.heap.size + 1 + 1 < g ∧ Hid (FareAt wx g (startC T rl) 0 (extrasC T X) 0) ∧ Hid (Below wb.heap.size wb wx))
  case first =>
    have HBd : Hid (Below wb.heap.size wb wb.drew) := Lib.hid (Below.refl _ _).drew
    have hxl : X.extras.length ≤ T.extras.length := (extras_sound (trip_ok HOK.out).2.2.1).1 ▸ Nat.le_refl _
    have HXS : Hid (∀ k, k < X.extras.length → 0 ≤ extraCents T X.extras k ∧ extraCents T X.extras k ≤ 1000000000000 ∧ 0 ≤ sumTo (extraCents T X.extras) k ∧ sumTo (extraCents T X.extras) k ≤ 1000000000000000) := Lib.hid fun k hk => by
      have := cents_ok HOK.out k hk
      have := extrasC_ok HOK.out k (by omega)
      omega
    have HSZ := Lib.hid hsz
    clear hsz HF0 BT BX qq a1 a2 a3 a4 a5 a6 n1 n2 hA x2
    go_region_held3 (fun w' => w'.cell? ⟨w.heap.size, 0, none⟩ = some (.string T.name) ∧ w'.cell? ⟨w.heap.size, 1, none⟩ = some (.int .i64 T.unit) ∧ w'.cell? ⟨w.heap.size, 2, none⟩ = some (.int .i64 T.step) ∧ w'.cell? ⟨w.heap.size, 3, none⟩ = some (.slice z T.zones.length zc) ∧ w'.cell? ⟨w.heap.size, 4, none⟩ = some (.slice h T.hols.length hc) ∧ w'.cell? ⟨w.heap.size, 5, none⟩ = some (.slice (some ⟨b, o, none⟩) T.rules.length rc) ∧ w'.cell? ⟨w.heap.size, 6, none⟩ = some (.slice e T.extras.length ec) ∧ w'.cell? ⟨w.heap.size, 7, none⟩ = some (.slice f T.fixed.length fc) ∧ w'.cell? ⟨w.heap.size + 1, 0, none⟩ = some (.int .i64 X.date) ∧ w'.cell? ⟨w.heap.size + 1, 1, none⟩ = some (.int .i64 X.time) ∧ w'.cell? ⟨w.heap.size + 1, 2, none⟩ = some (.bool X.fixed) ∧ w'.cell? ⟨w.heap.size + 1, 3, none⟩ = some (.slice xe X.extras.length xec) ∧ w'.cell? ⟨w.heap.size + 1, 4, none⟩ = some (.slice xs X.segs.length xsc) ∧ w'.cell? ⟨bl, ol, none⟩ = some (.int .i64 (n : Int)) ∧ w'.cell? ⟨b, o + n * 10 + 7, none⟩ = some (.int .i64 (listR T.rules n).start) ∧ Hid (RdTar w' (tarV T z h (some ⟨b, o, none⟩) e f zc hc rc ec fc) T) ∧ Hid (RdTrip w' (tripV X xe xs xec xsc) X) ∧ Hid (Below wb.heap.size wb w'))
      (first
        | exact MK.out _ HBd.out
        | (go_split_ands; exact MK.out _ (Below.trans (Hid.out (by assumption)) (hb1.mono (Hid.out (by assumption) : Below wb.heap.size wb _).size)))
        | (go_split_ands; exact MK.out _ (Below.realloc (Hid.out (by assumption)) hb1.size _))
        | (go_split_ands; exact MK.out _ (Below.alloc (Hid.out (by assumption)) (Hid.out (by assumption) : Below wb.heap.size wb _).size _))
        | (go_split_ands; exact MK.out _ (Below.setCell (Below.setCell (Below.setCell (Below.setCell (Hid.out (by assumption)) (by simp) _) (by simp) _) (by simp) _) (by simp) _)))
      ((first
        | (go_at_call 34; go_split_ands; refine (extrasOf_any T X _ _ _ (Hid.out (by assumption)) (Hid.out (by assumption)) hxl HXS).mono ?_; rintro e' w1 ⟨rfl, hb1⟩; try (obtain ⟨q0, q1, q2, q3, f0, f1, f2, f3⟩ := (show FareAt w1 wb.heap.size 0 0 0 0 from (FareAt.new wb.drew 0 0 0 0 42).below hb1 (by simp))))))
    · rename_i hS
      obtain ⟨-, -, -, -, -, -, -, -, -, -, -, -, -, -, -, -, -, hbb⟩ := hS
      have hg : w.heap.size + 1 + 1 < w1.heap.size := by have hq : wb.heap.size ≤ w1.heap.size := hb1.size; have := HSZ.out; omega
      clear HSZ
      go_wp2_with fail
      go_meet
      exact ⟨w1.heap.size, rfl, hg, Lib.hid (by rw [HST.out]; exact FareAt.new _ _ _ _ _ _), hbb⟩
    · rename_i hS
      obtain ⟨-, -, -, -, -, -, -, -, -, -, -, -, -, -, -, -, -, hbb⟩ := hS
      have hg : w.heap.size + 1 + 1 < wb.heap.size := by have := HSZ.out; omega
      clear HSZ
      go_wp2_with fail
      go_meet
      exact ⟨wb.heap.size, rfl, hg, Lib.hid (by rw [HST.out]; exact FareAt.set ⟨q0, q1, q2, q3, f0, f1, f2, f3⟩ _ _ _ _), hbb⟩
  case rest =>
    obtain ⟨g, rfl, hg, HF, HB⟩ := hcut
    have HR := Lib.hid (HF0.out.below HB.out (by omega))
    have hgc := HF.out.lt
    have HGB := Lib.hid (show wb.heap.size ≤ g by omega)
    have HSZ := Lib.hid hsz
    clear hsz HF0 BT BX qq
    cases hfx : X.fixed with
    | false =>
      obtain ⟨t0, t1, t2, t3, t4, t5, t6, t7, p0, p1, p2, p3, p4, lc, c7, HTd, HXd, HBd⟩ := MK.out _ HB.out
      rw [hfx] at p2
      have hpl : Hid (∀ k, k < X.segs.length → (0 ≤ listI rl k ∧ listI rl k < T.rules.length) ∧ (0 ≤ ptM T rl X.segs k ∧ ptM T rl X.segs k ≤ 1000000000000000000) ∧ (0 ≤ ptS T rl X.segs k ∧ ptS T rl X.segs k ≤ 1000000000000000000)) := Lib.hid fun k hk => by
        have := pt_ok HOK.out HRI.out k hk
        have := HRI.out.2 k hk
        omega
      have HSUM : Hid (∀ k, k ≤ (ptL q T rl X.segs).length → -1000000000000000000 ≤ sumTo (listI (ptL q T rl X.segs)) k ∧ sumTo (listI (ptL q T rl X.segs)) k ≤ 1000000000000000000) := Lib.hid fun k hk => by
        rw [ptL_length] at hk
        have := ptsum_ok (q := q) HOK.out HRI.out k hk
        omega
      have HSL := Lib.hid (show sumTo (listI (ptL q T rl X.segs)) (ptL q T rl X.segs).length = sumTo (listI (ptL q T rl X.segs)) X.segs.length by rw [ptL_length])
      obtain ⟨d0, d1⟩ := ptsum_ok (q := q) HOK.out HRI.out X.segs.length (Nat.le_refl _)
      obtain ⟨e0, e1⟩ := driven_ok (q := q) HOK.out HRI.out
      obtain ⟨-, ⟨v0, v1⟩, ⟨v2, v3⟩, -⟩ := (tar_sound (trip_ok HOK.out).1).1
      have hu0 : T.unit ≠ 0 := by omega
      have hdiv : (sumTo (listI (ptL q T rl X.segs)) X.segs.length).tdiv T.unit = sumTo (listI (ptL q T rl X.segs)) X.segs.length / T.unit := Int.tdiv_eq_ediv_of_nonneg d0
      have HD := Lib.hid (show drivenC q T X rl = sumTo (listI (ptL q T rl X.segs)) X.segs.length / T.unit * T.step from rfl)
      unfold drivenC at e0 e1
      have HAc := Lib.hid (hA.keep (Keep.below HBW.out))
      have HXc := Lib.hid (x2.keep (Keep.below HBW.out))
      have hsl := HRI.out.1
      have HLN := Lib.hid hsl
      have HN2 := Lib.hid n2
      have HFX := Lib.hid hfx
      clear hfx hsl a1 a2 a3 a4 a5 a6 n1 n2 hA x2
      go_upto_region 7 with fail
      go_region_held3 (fun w' => w'.cell? ⟨w.heap.size, 0, none⟩ = some (.string T.name) ∧ w'.cell? ⟨w.heap.size, 1, none⟩ = some (.int .i64 T.unit) ∧ w'.cell? ⟨w.heap.size, 2, none⟩ = some (.int .i64 T.step) ∧ w'.cell? ⟨w.heap.size, 3, none⟩ = some (.slice z T.zones.length zc) ∧ w'.cell? ⟨w.heap.size, 4, none⟩ = some (.slice h T.hols.length hc) ∧ w'.cell? ⟨w.heap.size, 5, none⟩ = some (.slice (some ⟨b, o, none⟩) T.rules.length rc) ∧ w'.cell? ⟨w.heap.size, 6, none⟩ = some (.slice e T.extras.length ec) ∧ w'.cell? ⟨w.heap.size, 7, none⟩ = some (.slice f T.fixed.length fc) ∧ w'.cell? ⟨w.heap.size + 1, 0, none⟩ = some (.int .i64 X.date) ∧ w'.cell? ⟨w.heap.size + 1, 1, none⟩ = some (.int .i64 X.time) ∧ w'.cell? ⟨w.heap.size + 1, 2, none⟩ = some (.bool X.fixed) ∧ w'.cell? ⟨w.heap.size + 1, 3, none⟩ = some (.slice xe X.extras.length xec) ∧ w'.cell? ⟨w.heap.size + 1, 4, none⟩ = some (.slice xs X.segs.length xsc) ∧ w'.cell? ⟨bl, ol, none⟩ = some (.int .i64 (n : Int)) ∧ w'.cell? ⟨b, o + n * 10 + 7, none⟩ = some (.int .i64 (listR T.rules n).start) ∧ Hid (RdTar w' (tarV T z h (some ⟨b, o, none⟩) e f zc hc rc ec fc) T) ∧ Hid (RdTrip w' (tripV X xe xs xec xsc) X) ∧ Hid (Below wb.heap.size wb w'))
        (first
          | exact MK.out _ HB.out.drew
          | (go_split_ands; exact MK.out _ (Below.trans (Hid.out (by assumption)) (hb1.mono (Hid.out (by assumption) : Below wb.heap.size wb _).size)))
          | (go_split_ands; exact MK.out _ (Hid.out (by assumption)))
          | (go_split_ands; exact MK.out _ (Below.setCell (Hid.out (by assumption)) HGB.out _)))
        ((first
          | (go_at_call 37; go_split_ands; refine (pointsOf_any q T _ rl _ _ X.segs _ _ _ (Hid.out (by assumption)) (HAc.out.keep (Keep.below (Hid.out (by assumption)))) (HXc.out.keep (Keep.below (Hid.out (by assumption)))) HLN.out HN2.out hpl).mono ?_; rintro e' w1 ⟨A1, c1, rfl, ha1, hb1⟩; obtain ⟨q0, q1, q2, q3, f0, f1, f2, f3⟩ := (show FareAt w1 g _ _ _ _ from HF.out.below ((Below.refl wc.heap.size wc).drew.trans hb1) hgc))
          | (go_at_call 36; refine (sum_any (ptL q T rl X.segs) _ _ _ (by assumption) HSUM.out).mono ?_; rintro e' w3 ⟨rfl, rfl⟩; rw [HSL.out])))
      · rename_i hS
        obtain ⟨-, -, -, -, -, -, -, -, -, -, -, -, -, -, -, -, -, hbb⟩ := hS
        have dv0 : 0 ≤ sumTo (listI (ptL q T rl X.segs)) X.segs.length / T.unit := Int.ediv_nonneg d0 (by omega)
        have dv1 : sumTo (listI (ptL q T rl X.segs)) X.segs.length / T.unit ≤ 8160000000000 := Int.le_trans (Int.ediv_le_self _ d0) d1
        rw [wrapQuo dv0 (by omega) e0 (by omega), ← HD.out] at *
        have HF4 := Lib.hid ((show FareAt w1 g (startC T rl) 0 (extrasC T X) 0 from ⟨q0, q1, q2, q3, f0, f1, f2, f3⟩).putD (drivenC q T X rl))
        have HR4 := Lib.hid ((HR.out.below ((Below.refl wc.heap.size wc).drew.trans hb1) (by have := HR.out.lt; omega)).other (g' := g) (i := 1) (by omega) (.int .i64 (drivenC q T X rl)))
        have HB4 := Lib.hid hbb.out
        have S3 : Hid (∀ k, k ≤ [startC T rl, drivenC q T X rl, extrasC T X].length → -1000000000000000000 ≤ sumTo (listI [startC T rl, drivenC q T X rl, extrasC T X]) k ∧ sumTo (listI [startC T rl, drivenC q T X rl, extrasC T X]) k ≤ 1000000000000000000) := by
          obtain ⟨s0, s1⟩ := startC_ok HOK.out HRI.out
          obtain ⟨s2, s3⟩ := driven_ok (q := q) HOK.out HRI.out
          obtain ⟨s4, s5⟩ := extrasC_ok HOK.out X.extras.length (Nat.le_refl _)
          exact Lib.hid (sum3_bd s0 s1 s2 s3 s4 s5)
        generalize w1.setCell ⟨g, 1, none⟩ (.int .i64 (drivenC q T X rl)) = w4 at *
        clear q0 q1 q2 q3 f0 f1 f2 f3 hbb hb1 ha1 hdiv d0 d1 e0 e1 v0 v1 v2 v3 t0 t1 t2 t3 t4 t5 t6 t7 p0 p1 p2 p3 p4 lc c7 dv0 dv1
        have hs4 := HF4.out.lt
        have hr4 := HR4.out.lt
        obtain ⟨q0, q1, q2, q3, f0, f1, f2, f3⟩ := HF4.out
        go_wp2_with fail
        refine (sum_any [(startC T rl), (drivenC q T X rl), extrasC T X] _ _ _ (arr3 _ _ _ _ _) S3.out).mono ?_
        rintro e' w5 ⟨rfl, hw5⟩
        rw [sum3]
        have HF5 : Hid (FareAt w5 g (startC T rl) (drivenC q T X rl) (extrasC T X) 0) := by rw [← hw5]; exact Lib.hid (HF4.out.below ((Below.refl _ _).alloc (Nat.le_refl _) _) hs4)
        have HR5 : Hid (FareAt w5 (w.heap.size + 1 + 1) 0 0 0 0) := by rw [← hw5]; exact Lib.hid (HR4.out.below ((Below.refl _ _).alloc (Nat.le_refl _) _) hr4)
        have HB5 : Hid (Below wb.heap.size wb w5) := by rw [← hw5]; exact Lib.hid (HB4.out.alloc (by have := HGB.out; omega) _)
        clear hw5 q0 q1 q2 q3 f0 f1 f2 f3 hs4 hr4
        obtain ⟨-, -, -, q3, -, -, -, f3⟩ := HF5.out
        have HF6 := Lib.hid (HF5.out.putT ((startC T rl) + (drivenC q T X rl) + extrasC T X))
        have HR6 := Lib.hid (HR5.out.other (g' := g) (i := 3) (by omega) (.int .i64 ((startC T rl) + (drivenC q T X rl) + extrasC T X)))
        obtain ⟨y0, y1, y2, y3, -, -, -, -⟩ := HF6.out
        obtain ⟨x0, x1, x2, x3, z0, z1, z2, z3⟩ := HR6.out
        go_wp2_with fail
        have HR7 := Lib.hid (HR6.out.set (startC T rl) (drivenC q T X rl) (extrasC T X) ((startC T rl) + (drivenC q T X rl) + extrasC T X))
        have HW7 := Lib.hid ((((((HBW.out.trans (HB5.out.mono HBW.out.size)).setCell (p := ⟨g, 3, none⟩) (by simp; omega) (.int .i64 ((startC T rl) + (drivenC q T X rl) + extrasC T X))).setCell (p := ⟨w.heap.size + 1 + 1, 0, none⟩) (by simp; omega) (.int .i64 (startC T rl))).setCell (p := ⟨w.heap.size + 1 + 1, 1, none⟩) (by simp; omega) (.int .i64 (drivenC q T X rl))).setCell (p := ⟨w.heap.size + 1 + 1, 2, none⟩) (by simp; omega) (.int .i64 (extrasC T X))).setCell (p := ⟨w.heap.size + 1 + 1, 3, none⟩) (by simp; omega) (.int .i64 ((startC T rl) + (drivenC q T X rl) + extrasC T X)))
        have HV1 := Lib.hid (show fareV q T X rl = ⟨(startC T rl), (drivenC q T X rl), extrasC T X, (startC T rl) + (drivenC q T X rl) + extrasC T X⟩ by unfold fareV; rw [HFX.out]; rfl)
        have HV2 := Lib.hid (show fareE T X = 0 by unfold fareE; rw [HFX.out]; rfl)
        generalize (((((w5.setCell _ _).setCell _ _).setCell _ _).setCell _ _).setCell _ _) = w7 at *
        clear q3 f3 y0 y1 y2 y3 x0 x1 x2 x3 z0 z1 z2 z3
        obtain ⟨m0, m1, m2, m3, -, -, -, -⟩ := HR7.out
        exact bodyPost_ret (v := .tuple #[.agg #[.int .i64 (startC T rl), .int .i64 (drivenC q T X rl), .int .i64 (extrasC T X), .int .i64 ((startC T rl) + (drivenC q T X rl) + extrasC T X)], .int .i64 0]) (by simp [results, Try.results21, go_sem, m0, m1, m2, m3]) rfl ⟨by rw [HV1.out, HV2.out], HW7.out⟩
    | true =>
      obtain ⟨t0, t1, t2, t3, t4, t5, t6, t7, p0, p1, p2, p3, p4, lc, c7, HTd, HXd, HBd⟩ := MK.out _ HB.out
      rw [hfx] at p2
      have HFX := Lib.hid hfx
      obtain ⟨m, hm⟩ : ∃ m, X.segs.length = m + 1 := ⟨X.segs.length - 1, by omega⟩
      have HXw := x2.keep (Keep.below HBW.out)
      obtain ⟨sb, so, rfl, g0, -, -⟩ := HXw.at_ (k := 0) (by omega)
      obtain ⟨sb', so', he, gm, -, -⟩ := HXw.at_ (k := m) (by omega)
      obtain ⟨rfl, rfl⟩ : sb = sb' ∧ so = so' := by simpa using he
      replace g0 : wb.cell? ⟨sb, so, none⟩ = some (.int .i64 (listG X.segs 0).zone) := by simpa using g0
      have G0 := Lib.hid g0
      have GM := Lib.hid gm
      have MK2 : Hid (∀ w', Below wb.heap.size wb w' → w'.cell? ⟨sb, so, none⟩ = some (.int .i64 (listG X.segs 0).zone) ∧ w'.cell? ⟨sb, so + m * 3, none⟩ = some (.int .i64 (listG X.segs m).zone) ∧ w'.cell? ⟨w.heap.size, 0, none⟩ = some (.string T.name) ∧ w'.cell? ⟨w.heap.size, 1, none⟩ = some (.int .i64 T.unit) ∧ w'.cell? ⟨w.heap.size, 2, none⟩ = some (.int .i64 T.step) ∧ w'.cell? ⟨w.heap.size, 3, none⟩ = some (.slice z T.zones.length zc) ∧ w'.cell? ⟨w.heap.size, 4, none⟩ = some (.slice h T.hols.length hc) ∧ w'.cell? ⟨w.heap.size, 5, none⟩ = some (.slice (some ⟨b, o, none⟩) T.rules.length rc) ∧ w'.cell? ⟨w.heap.size, 6, none⟩ = some (.slice e T.extras.length ec) ∧ w'.cell? ⟨w.heap.size, 7, none⟩ = some (.slice f T.fixed.length fc) ∧ w'.cell? ⟨w.heap.size + 1, 0, none⟩ = some (.int .i64 X.date) ∧ w'.cell? ⟨w.heap.size + 1, 1, none⟩ = some (.int .i64 X.time) ∧ w'.cell? ⟨w.heap.size + 1, 2, none⟩ = some (.bool X.fixed) ∧ w'.cell? ⟨w.heap.size + 1, 3, none⟩ = some (.slice xe X.extras.length xec) ∧ w'.cell? ⟨w.heap.size + 1, 4, none⟩ = some (.slice (some ⟨sb, so, none⟩) X.segs.length xsc) ∧ w'.cell? ⟨bl, ol, none⟩ = some (.int .i64 (n : Int)) ∧ w'.cell? ⟨b, o + n * 10 + 7, none⟩ = some (.int .i64 (listR T.rules n).start) ∧ Hid (RdTar w' (tarV T z h (some ⟨b, o, none⟩) e f zc hc rc ec fc) T) ∧ Hid (RdTrip w' (tripV X xe (some ⟨sb, so, none⟩) xec xsc) X) ∧ Hid (Below wb.heap.size wb w')) := Lib.hid fun w' hw => ⟨Keep.below hw _ _ G0.out, Keep.below hw _ _ GM.out, MK.out _ hw⟩
      have hsub : (X.segs.length : Int) - 1 = (m : Int) := by omega
      have hsubw : IntKind.i64.wrap (m : Int) = (m : Int) := by rw [IntKind.wrap_i64]; omega
      have j0 : (0 : Int) ≤ (m : Int) := by omega
      have j1 : (m : Int) < (X.segs.length : Int) := by omega
      have j2 : (0 : Int) < (X.segs.length : Int) := by omega
      have j3 : 0 < X.segs.length := by omega
      have HFC := Lib.hid (show fixedC T X = fixedFare T (listG X.segs 0).zone (listG X.segs m).zone by unfold fixedC; rw [hm]; rfl)
      have g0 := Keep.below HB.out _ _ g0
      have gm := Keep.below HB.out _ _ gm
      clear hfx hm he HXw a1 a2 a3 a4 hA
      obtain ⟨C, Ci, Co⟩ : ∃ C : World → Prop, Hid (∀ w', C w' → ((w'.cell? ⟨sb, so, none⟩ = some (.int .i64 (listG X.segs 0).zone) ∧ w'.cell? ⟨sb, so + m * 3, none⟩ = some (.int .i64 (listG X.segs m).zone) ∧ w'.cell? ⟨w.heap.size, 0, none⟩ = some (.string T.name) ∧ w'.cell? ⟨w.heap.size, 1, none⟩ = some (.int .i64 T.unit) ∧ w'.cell? ⟨w.heap.size, 2, none⟩ = some (.int .i64 T.step) ∧ w'.cell? ⟨w.heap.size, 3, none⟩ = some (.slice z T.zones.length zc) ∧ w'.cell? ⟨w.heap.size, 4, none⟩ = some (.slice h T.hols.length hc) ∧ w'.cell? ⟨w.heap.size, 5, none⟩ = some (.slice (some ⟨b, o, none⟩) T.rules.length rc) ∧ w'.cell? ⟨w.heap.size, 6, none⟩ = some (.slice e T.extras.length ec) ∧ w'.cell? ⟨w.heap.size, 7, none⟩ = some (.slice f T.fixed.length fc) ∧ w'.cell? ⟨w.heap.size + 1, 0, none⟩ = some (.int .i64 X.date) ∧ w'.cell? ⟨w.heap.size + 1, 1, none⟩ = some (.int .i64 X.time) ∧ w'.cell? ⟨w.heap.size + 1, 2, none⟩ = some (.bool X.fixed) ∧ w'.cell? ⟨w.heap.size + 1, 3, none⟩ = some (.slice xe X.extras.length xec) ∧ w'.cell? ⟨w.heap.size + 1, 4, none⟩ = some (.slice (some ⟨sb, so, none⟩) X.segs.length xsc) ∧ w'.cell? ⟨bl, ol, none⟩ = some (.int .i64 (n : Int)) ∧ w'.cell? ⟨b, o + n * 10 + 7, none⟩ = some (.int .i64 (listR T.rules n).start) ∧ Hid (RdTar w' (tarV T z h (some ⟨b, o, none⟩) e f zc hc rc ec fc) T) ∧ Hid (RdTrip w' (tripV X xe (some ⟨sb, so, none⟩) xec xsc) X) ∧ Hid (Below wb.heap.size wb w')) ∧ Hid (Below wc.heap.size wc w'))) ∧ Hid (∀ w', Below wc.heap.size wc w' → C w') := ⟨fun w' => Below wc.heap.size wc w', Lib.hid (fun w' hw => ⟨MK2.out _ (HB.out.trans (hw.mono HB.out.size)), Lib.hid hw⟩), Lib.hid (fun _ h => h)⟩
      cases hb : (fixedFare T (listG X.segs 0).zone (listG X.segs m).zone).2 with
      | false =>
        have X2 := Lib.hid hb
        have X3 : Hid ((fixedC T X).2 = false) := Lib.hid (by rw [HFC.out]; exact hb)
        clear hb
        go_upto_region 3 with fail
        refine quietC (C := C) (by kernel_rfl) (by kernel_rfl) (Co.out _ (Below.refl _ _).drew) ?_
        clear t0 t1 t2 t3 t4 t5 t6 t7 p0 p1 p2 p3 p4 lc c7 g0 gm
        repeat (first
          | go_big_quiet_skip
          | (go_big_quiet_want; go_big_quiet_op; go_big_quiet_on)
          | (refine quiet_yes (by rfl) ?_
             apply Exists.intro
             refine ⟨fun w' hC => ?_, ?_⟩
             · obtain ⟨⟨g0, gm, t0, t1, t2, t3, t4, t5, t6, t7, p0, p1, p2, p3, p4, lc, c7, hTw, hXw, hbb⟩, hbc⟩ := Ci.out _ hC
               go_simp
               first
                 | done
                 | rfl
                 | (go_at_call 35
                    refine (fixedFare_any T _ _ _ _ hTw.out).mono ?_
                    rintro e' w1 ⟨rfl, hb1⟩
                    rw [X2.out]
                    exact ⟨rfl, Co.out _ (hbc.out.trans (hb1.mono hbc.out.size))⟩)
             simp only [Act.put, List.setIfInBounds_toArray, List.set_cons_zero, List.set_cons_succ]))
        refine wpQuiet_nil ?_
        intro w1 hC1
        obtain ⟨⟨-, -, -, -, -, -, -, -, -, -, -, -, -, -, -, -, -, -, -, hbb⟩, hbc⟩ := Ci.out _ hC1
        obtain ⟨q0, q1, q2, q3, f0, f1, f2, f3⟩ := (show FareAt w1 g _ _ _ _ from HF.out.below hbc.out hgc)
        have HR1 := Lib.hid (HR.out.below hbc.out (by have := HR.out.lt; omega))
        have HW1 := Lib.hid (HBW.out.trans (hbb.out.mono HBW.out.size))
        have HR7 := Lib.hid (HR1.out.set 0 0 0 0)
        have HW7 := Lib.hid ((((HW1.out.setCell (p := ⟨w.heap.size + 1 + 1, 0, none⟩) (by simp; omega) (.int .i64 0)).setCell (p := ⟨w.heap.size + 1 + 1, 1, none⟩) (by simp; omega) (.int .i64 0)).setCell (p := ⟨w.heap.size + 1 + 1, 2, none⟩) (by simp; omega) (.int .i64 0)).setCell (p := ⟨w.heap.size + 1 + 1, 3, none⟩) (by simp; omega) (.int .i64 0))
        have HV1 := Lib.hid (show fareV q T X rl = fare0 by unfold fareV; rw [HFX.out, X3.out]; rfl)
        have HV2 := Lib.hid (show fareE T X = 12 by unfold fareE; rw [HFX.out, X3.out]; rfl)
        clear q0 q1 q2 q3 f0 f1 f2 f3 hbb hbc
        obtain ⟨x0, x1, x2, x3, z0, z1, z2, z3⟩ := HR1.out
        go_wp2_with fail
        generalize ((((w1.setCell _ _).setCell _ _).setCell _ _).setCell _ _) = w7 at *
        clear x0 x1 x2 x3 z0 z1 z2 z3
        obtain ⟨m0, m1, m2, m3, -, -, -, -⟩ := HR7.out
        exact bodyPost_ret (v := .tuple #[.agg #[.int .i64 0, .int .i64 0, .int .i64 0, .int .i64 0], .int .i64 12]) (by simp [results, Try.results21, go_sem, m0, m1, m2, m3]) rfl ⟨by rw [HV1.out, HV2.out]; rfl, HW7.out⟩
      | true =>
        have X2 := Lib.hid hb
        have X3 : Hid ((fixedC T X).2 = true) := Lib.hid (by rw [HFC.out]; exact hb)
        clear hb
        go_upto_region 3 with fail
        refine quietC (C := C) (by kernel_rfl) (by kernel_rfl) (Co.out _ (Below.refl _ _).drew) ?_
        clear t0 t1 t2 t3 t4 t5 t6 t7 p0 p1 p2 p3 p4 lc c7 g0 gm
        repeat (first
          | go_big_quiet_skip
          | (go_big_quiet_want; go_big_quiet_op; go_big_quiet_on)
          | (refine quiet_yes (by rfl) ?_
             apply Exists.intro
             refine ⟨fun w' hC => ?_, ?_⟩
             · obtain ⟨⟨g0, gm, t0, t1, t2, t3, t4, t5, t6, t7, p0, p1, p2, p3, p4, lc, c7, hTw, hXw, hbb⟩, hbc⟩ := Ci.out _ hC
               go_simp
               first
                 | done
                 | rfl
                 | (go_at_call 35
                    refine (fixedFare_any T _ _ _ _ hTw.out).mono ?_
                    rintro e' w1 ⟨rfl, hb1⟩
                    rw [X2.out]
                    exact ⟨rfl, Co.out _ (hbc.out.trans (hb1.mono hbc.out.size))⟩)
             simp only [Act.put, List.setIfInBounds_toArray, List.set_cons_zero, List.set_cons_succ]))
        refine wpQuiet_nil ?_
        intro w1 hC1
        obtain ⟨⟨-, -, -, -, -, -, -, -, -, -, -, -, -, -, -, -, -, -, -, hbb⟩, hbc⟩ := Ci.out _ hC1
        obtain ⟨q0, q1, q2, q3, f0, f1, f2, f3⟩ := (show FareAt w1 g _ _ _ _ from HF.out.below hbc.out hgc)
        have HR1 := Lib.hid (HR.out.below hbc.out (by have := HR.out.lt; omega))
        have HF4 := Lib.hid (((show FareAt w1 g (startC T rl) 0 (extrasC T X) 0 from ⟨q0, q1, q2, q3, f0, f1, f2, f3⟩).putS 0).putD (fixedC T X).1)
        have HR4 := Lib.hid ((HR1.out.other (g' := g) (i := 0) (by omega) (.int .i64 0)).other (g' := g) (i := 1) (by omega) (.int .i64 (fixedC T X).1))
        have HB4 := Lib.hid ((hbb.out.setCell (p := ⟨g, 0, none⟩) HGB.out (.int .i64 0)).setCell (p := ⟨g, 1, none⟩) HGB.out (.int .i64 (fixedC T X).1))
        have S3 : Hid (∀ k, k ≤ [0, (fixedC T X).1, extrasC T X].length → -1000000000000000000 ≤ sumTo (listI [0, (fixedC T X).1, extrasC T X]) k ∧ sumTo (listI [0, (fixedC T X).1, extrasC T X]) k ≤ 1000000000000000000) := by
          obtain ⟨s2, s3⟩ := (show 0 ≤ (fixedC T X).1 ∧ (fixedC T X).1 ≤ 100000 from fixed_sound (trip_ok HOK.out).1)
          obtain ⟨s4, s5⟩ := extrasC_ok HOK.out X.extras.length (Nat.le_refl _)
          exact Lib.hid (sum3_bd (by decide) (by decide) s2 (by omega) s4 s5)
        rw [← HFC.out]
        go_upto_region 8 with fail
        generalize ((w1.setCell ⟨g, 0, none⟩ (.int .i64 0)).setCell ⟨g, 1, none⟩ (.int .i64 (fixedC T X).1)) = w4 at *
        clear q0 q1 q2 q3 f0 f1 f2 f3 hbb hbc
        have hs4 := HF4.out.lt
        have hr4 := HR4.out.lt
        obtain ⟨q0, q1, q2, q3, f0, f1, f2, f3⟩ := HF4.out
        go_wp2_with fail
        refine (sum_any [0, (fixedC T X).1, extrasC T X] _ _ _ (arr3 _ _ _ _ _) S3.out).mono ?_
        rintro e' w5 ⟨rfl, hw5⟩
        rw [sum3, Int.zero_add]
        have HF5 : Hid (FareAt w5 g 0 (fixedC T X).1 (extrasC T X) 0) := by rw [← hw5]; exact Lib.hid (HF4.out.below ((Below.refl _ _).alloc (Nat.le_refl _) _) hs4)
        have HR5 : Hid (FareAt w5 (w.heap.size + 1 + 1) 0 0 0 0) := by rw [← hw5]; exact Lib.hid (HR4.out.below ((Below.refl _ _).alloc (Nat.le_refl _) _) hr4)
        have HB5 : Hid (Below wb.heap.size wb w5) := by rw [← hw5]; exact Lib.hid (HB4.out.alloc (by have := HGB.out; omega) _)
        clear hw5 q0 q1 q2 q3 f0 f1 f2 f3 hs4 hr4
        obtain ⟨-, -, -, q3, -, -, -, f3⟩ := HF5.out
        have HF6 := Lib.hid (HF5.out.putT ((fixedC T X).1 + extrasC T X))
        have HR6 := Lib.hid (HR5.out.other (g' := g) (i := 3) (by omega) (.int .i64 ((fixedC T X).1 + extrasC T X)))
        obtain ⟨y0, y1, y2, y3, -, -, -, -⟩ := HF6.out
        obtain ⟨x0, x1, x2, x3, z0, z1, z2, z3⟩ := HR6.out
        go_wp2_with fail
        have HR7 := Lib.hid (HR6.out.set 0 (fixedC T X).1 (extrasC T X) ((fixedC T X).1 + extrasC T X))
        have HW7 := Lib.hid ((((((HBW.out.trans (HB5.out.mono HBW.out.size)).setCell (p := ⟨g, 3, none⟩) (by simp; omega) (.int .i64 ((fixedC T X).1 + extrasC T X))).setCell (p := ⟨w.heap.size + 1 + 1, 0, none⟩) (by simp; omega) (.int .i64 0)).setCell (p := ⟨w.heap.size + 1 + 1, 1, none⟩) (by simp; omega) (.int .i64 (fixedC T X).1)).setCell (p := ⟨w.heap.size + 1 + 1, 2, none⟩) (by simp; omega) (.int .i64 (extrasC T X))).setCell (p := ⟨w.heap.size + 1 + 1, 3, none⟩) (by simp; omega) (.int .i64 ((fixedC T X).1 + extrasC T X)))
        have HV1 := Lib.hid (show fareV q T X rl = ⟨0, (fixedC T X).1, extrasC T X, (fixedC T X).1 + extrasC T X⟩ by unfold fareV; rw [HFX.out, X3.out]; rfl)
        have HV2 := Lib.hid (show fareE T X = 0 by unfold fareE; rw [HFX.out, X3.out]; rfl)
        generalize (((((w5.setCell _ _).setCell _ _).setCell _ _).setCell _ _).setCell _ _) = w7 at *
        clear q3 f3 y0 y1 y2 y3 x0 x1 x2 x3 z0 z1 z2 z3
        obtain ⟨m0, m1, m2, m3, -, -, -, -⟩ := HR7.out
        exact bodyPost_ret (v := .tuple #[.agg #[.int .i64 0, .int .i64 (fixedC T X).1, .int .i64 (extrasC T X), .int .i64 ((fixedC T X).1 + extrasC T X)], .int .i64 0]) (by simp [results, Try.results21, go_sem, m0, m1, m2, m3]) rfl ⟨by rw [HV1.out, HV2.out], HW7.out⟩
end Go.Proofs.Ytbehabaoeicgeaa

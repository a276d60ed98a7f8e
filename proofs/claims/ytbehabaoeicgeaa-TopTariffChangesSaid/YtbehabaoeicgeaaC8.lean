/- The next change at a place. Condition: there are at most a million rules. -/
import Derived.Test.YtbehabaoeicgeaaC7
namespace Go.Proofs.Ytbehabaoeicgeaa
open Go.RowKit Go.Shelf Fs
attribute [local go_sem] Oper.semAt_some

/-- A cell with a number, which may be written. -/
structure IntAt (w : World) (g : Nat) (a : Int) : Prop where
  c0 : w.cell? ⟨g, 0, none⟩ = some (.int .i64 a)
  f0 : w.frozen? ⟨g, 0, none⟩ = false
theorem IntAt.lt {w : World} {g : Nat} {a : Int} (m : IntAt w g a) : g < w.heap.size := World.block_lt_of_cell? w _ m.c0
theorem IntAt.below {B : Nat} {w w' : World} {g : Nat} {a : Int} (m : IntAt w g a) (h : Below B w w') (hg : g < B) : IntAt w' g a :=
  ⟨(h.cell (p := ⟨g, 0, none⟩) hg).trans m.c0, (h.frozen (p := ⟨g, 0, none⟩) hg).trans m.f0⟩
theorem IntAt.new (w : World) (a : Int) (t : TypeId) : IntAt (w.alloc (.cells #[.int .i64 a] t)) w.heap.size a := ⟨cellNew _ _ _ _, frozenNew _ _ _ _⟩
theorem IntAt.set {w : World} {g : Nat} {a : Int} (m : IntAt w g a) (b : Int) : IntAt (w.setCell ⟨g, 0, none⟩ (.int .i64 b)) g b :=
  ⟨World.cell?_setCell_same _ _ _ m.c0, by rw [World.frozen?_setCell]; exact m.f0⟩
theorem IntAt.far {w : World} {g g' k : Nat} {a : Int} (m : IntAt w g a) (hne : g ≠ g') (u : Value) : IntAt (w.setCell ⟨g', k, none⟩ u) g a :=
  ⟨by rw [World.cell?_setCell_other _ _ _ _ (fun hh => by injection hh with hh1; exact hne hh1.symm)]; exact m.c0, by rw [World.frozen?_setCell]; exact m.f0⟩
theorem PairAt.far {w : World} {g g' k : Nat} {a b : Int} (m : PairAt w g a b) (hne : g ≠ g') (u : Value) : PairAt (w.setCell ⟨g', k, none⟩ u) g a b :=
  ⟨by rw [World.cell?_setCell_other _ _ _ _ (fun hh => by injection hh with hh1; exact hne hh1.symm)]; exact m.c0, by rw [World.cell?_setCell_other _ _ _ _ (fun hh => by injection hh with hh1; exact hne hh1.symm)]; exact m.c1, by rw [World.frozen?_setCell]; exact m.f0, by rw [World.frozen?_setCell]; exact m.f1⟩
/-- What a turn of a block without cells leaves as it is. -/
theorem PairAt.calm {A C : World} {row : Option Nat} {g : Nat} {a b : Int} (m : PairAt A g a b) (hg : A.grownBy C row) (hr : ∀ r, row = some r → ∃ o : Obj, A.heap[r]? = some o ∧ o.isCells = false) : PairAt C g a b :=
  ⟨cell_kept m.c0 hg hr, cell_kept m.c1 hg hr, (frozen_kept m.c0 hg hr).trans m.f0, (frozen_kept m.c1 hg hr).trans m.f1⟩
theorem IntAt.calm {A C : World} {row : Option Nat} {g : Nat} {a : Int} (m : IntAt A g a) (hg : A.grownBy C row) (hr : ∀ r, row = some r → ∃ o : Obj, A.heap[r]? = some o ∧ o.isCells = false) : IntAt C g a :=
  ⟨cell_kept m.c0 hg hr, (frozen_kept m.c0 hg hr).trans m.f0⟩
theorem calm_keep {A C : World} {row : Option Nat} (hg : A.grownBy C row) (hr : ∀ r, row = some r → ∃ o : Obj, A.heap[r]? = some o ∧ o.isCells = false) : Keep A C := fun _ _ h => cell_kept h hg hr

/-- The turns that are later have the rule that holds now. -/
def Same (T : Tar) (zz d t : Int) (pre : List Turn) : Prop := ∀ y, y ∈ pre → Beyond d t y.d y.t → rAt T zz y.d y.t = rAt T zz d t
/-- The boxes of the search, between two turns. -/
structure NextI (w W : World) (q : Nat) (T : Tar) (zz d t : Int) (z h r e f : Option Addr) (zc hc rc ec fc : Nat) : Prop where
  box : BoxT W w.heap.size T z h r e f zc hc rc ec fc
  place : PlaceAt W (w.heap.size + 1) zz d t
  res : PairAt W (w.heap.size + 1 + 1) 0 0
  err : IntAt W (w.heap.size + 1 + 1 + 1) 0
  rule : IntAt W q (rAt T zz d t).1
  now : IntAt W (q + 1) (rAt T zz d t).2
  low : Below w.heap.size w W
theorem NextI.below {w W W' : World} {q : Nat} {T : Tar} {zz d t : Int} {z h r e f : Option Addr} {zc hc rc ec fc : Nat} (m : NextI w W q T zz d t z h r e f zc hc rc ec fc) (hb : Below W.heap.size W W') : NextI w W' q T zz d t z h r e f zc hc rc ec fc :=
  ⟨m.box.keep (Keep.below hb), m.place.keep (Keep.below hb), m.res.below hb m.res.lt, m.err.below hb m.err.lt, m.rule.below hb m.rule.lt, m.now.below hb m.now.lt, m.low.trans (hb.mono m.low.size)⟩
theorem NextI.own {w : World} {B q : Nat} {T : Tar} {zz d t : Int} {z h r e f : Option Addr} {zc hc rc ec fc : Nat} (hB : w.heap.size ≤ B) :
    OwnFrom B (fun pre W => Same T zz d t pre ∧ NextI w W q T zz d t z h r e f zc hc rc ec fc) := by
  rintro s A C row ⟨h1, m⟩ hg hr
  have hr' : ∀ r, row = some r → ∃ o : Obj, A.heap[r]? = some o ∧ o.isCells = false := fun r e => (hr r e).2
  exact ⟨h1, m.box.keep (calm_keep hg hr'), m.place.keep (calm_keep hg hr'), m.res.calm hg hr', m.err.calm hg hr', m.rule.calm hg hr', m.now.calm hg hr', m.low.grown hg m.low.size (fun k e => by have := (hr k e).1; omega)⟩
/-- The search has ended at a turn. -/
def NextX (w : World) (T : Tar) (zz d t : Int) (pre : List Turn) (W : World) : Prop :=
  ∃ l x, pre = l ++ [x] ∧ Same T zz d t l ∧ Beyond d t x.d x.t ∧ rAt T zz x.d x.t ≠ rAt T zz d t ∧ PairAt W (w.heap.size + 1 + 1) x.d x.t ∧ IntAt W (w.heap.size + 1 + 1 + 1) 0 ∧ Below w.heap.size w W
theorem NextX.own {w : World} {B : Nat} {T : Tar} {zz d t : Int} (hB : w.heap.size ≤ B) : OwnFrom B (NextX w T zz d t) := by
  rintro s A C row ⟨l, x, h1, h2, h3, h4, h5, h6, h7⟩ hg hr
  have hr' : ∀ r, row = some r → ∃ o : Obj, A.heap[r]? = some o ∧ o.isCells = false := fun r e => (hr r e).2
  exact ⟨l, x, h1, h2, h3, h4, h5.calm hg hr', h6.calm hg hr', h7.grown hg h7.size (fun k e => by have := (hr k e).1; omega)⟩

theorem all_none {T : Tar} {zz d t hi : Int} {zs : List Int} {xs : List Turn} (h : AllCame d hi zs xs) (hs : Same T zz d t xs) : NextP T zz d t hi zs 0 0 12 := by
  obtain ⟨D, hD, hU⟩ := h
  refine .inr ⟨rfl, rfl, rfl, fun d' t' h1 h2 h3 hb => ?_⟩
  obtain ⟨y, hy, rfl, rfl⟩ := hU d' t' h1 h3 (.inl (by omega))
  exact hs y hy hb
theorem some_first {T : Tar} {zz d t hi : Int} {zs : List Int} {l : List Turn} {x : Turn} (hz : zs.Pairwise (· ≤ ·)) (h : SomeCame d hi zs (l ++ [x])) (hs : Same T zz d t l) (hb : Beyond d t x.d x.t) (hne : rAt T zz x.d x.t ≠ rAt T zz d t) : NextP T zz d t hi zs x.d x.t 0 := by
  obtain ⟨l', x', j, he, h1, h2, h3, h4, hU⟩ := h
  obtain ⟨rfl, hx⟩ := List.append_inj' he rfl
  obtain rfl : x = x' := by simpa using hx
  have hm : x.t ∈ zs := by rw [h4]; unfold listI; rw [List.getD_eq_getElem?_getD, List.getElem?_eq_getElem h3]; exact List.getElem_mem h3
  refine .inl ⟨rfl, ⟨h1, h2, hm⟩, hb, hne, fun d' t' k1 k2 k3 k4 => ?_⟩
  obtain ⟨y, hy, rfl, rfl⟩ := hU d' t' k1 k2 (by
    rcases k4 with k4 | ⟨k4, k5⟩
    · exact .inl k4
    · obtain ⟨i, hi', rfl⟩ := List.getElem_of_mem k2
      refine .inr ⟨k4, i, ?_, by unfold listI; simp [hi']⟩
      by_cases hij : i < j
      · exact hij
      · exfalso
        have hv : x.t = zs[j] := by rw [h4]; unfold listI; simp [h3]
        by_cases e : i = j
        · subst e; omega
        · have := List.pairwise_iff_getElem.1 hz j i h3 hi' (by omega)
          omega)
  exact hs y hy k3

set_option maxHeartbeats 4000000 in
set_option maxRecDepth 100000 in
theorem nextChange_any (T : Tar) (v : Value) (zz d t : Int) (w : World) (hT : RdTar w v T) (hn : T.rules.length ≤ 1000000) :
    Calls Try.prog 14 #[v, placeV zz d t] w fun e' w' => ∃ md mt f', e' = .returned (.tuple #[pairVal (md, mt), .int .i64 f']) ∧ NextE T zz d t (turnsL T) md mt f' ∧ Below w.heap.size w w' := by
  have hT0 := hT
  obtain ⟨z, h, r, e, f, zc, hc, rc, ec, fc, a, rfl, m⟩ := hT
  clear m
  obtain ⟨wt, hwt⟩ : ∃ wt, wt = w.alloc (.cells #[.string T.name, .int .i64 T.unit, .int .i64 T.step, .slice z T.zones.length zc, .slice h T.hols.length hc, .slice r T.rules.length rc, .slice e T.extras.length ec, .slice f T.fixed.length fc] 28) := ⟨_, rfl⟩
  obtain ⟨wp, hwp⟩ : ∃ wp, wp = wt.alloc (.cells #[.int .i64 zz, .int .i64 d, .int .i64 t] 53) := ⟨_, rfl⟩
  obtain ⟨wr, hwr⟩ : ∃ wr, wr = wp.alloc (.cells #[.int .i64 0, .int .i64 0] 30) := ⟨_, rfl⟩
  obtain ⟨we, hwe⟩ : ∃ we, we = wr.alloc (.cells #[.int .i64 0] 43) := ⟨_, rfl⟩
  have st : wt.heap.size = w.heap.size + 1 := by rw [hwt]; simp
  have sp : wp.heap.size = w.heap.size + 1 + 1 := by rw [hwp, World.size_alloc, st]
  have sr : wr.heap.size = w.heap.size + 1 + 1 + 1 := by rw [hwr, World.size_alloc, sp]
  have se : we.heap.size = w.heap.size + 1 + 1 + 1 + 1 := by rw [hwe, World.size_alloc, sr]
  have bt : Below w.heap.size w wt := by rw [hwt]; exact (Below.refl _ _).alloc (Nat.le_refl _) _
  have bp : Below wt.heap.size wt wp := by rw [hwp]; exact (Below.refl _ _).alloc (Nat.le_refl _) _
  have br : Below wp.heap.size wp wr := by rw [hwr]; exact (Below.refl _ _).alloc (Nat.le_refl _) _
  have be : Below wr.heap.size wr we := by rw [hwe]; exact (Below.refl _ _).alloc (Nat.le_refl _) _
  have BT := Lib.hid ((((show BoxT wt w.heap.size T z h r e f zc hc rc ec fc by rw [hwt]; exact BoxT.new w T z h r e f zc hc rc ec fc 28).keep (Keep.below bp)).keep (Keep.below br)).keep (Keep.below be))
  have BP := Lib.hid (((show PlaceAt wp (w.heap.size + 1) zz d t by rw [hwp, ← st]; exact ⟨cellNew _ _ _ 0, cellNew _ _ _ 1, cellNew _ _ _ 2⟩).keep (Keep.below br)).keep (Keep.below be))
  have BR := Lib.hid ((show PairAt wr (w.heap.size + 1 + 1) 0 0 by rw [hwr, ← sp]; exact PairAt.new _ _ _ _).below be (by omega))
  have BE := Lib.hid (show IntAt we (w.heap.size + 1 + 1 + 1) 0 by rw [hwe, ← sr]; exact IntAt.new _ _ _)
  have HBW := Lib.hid (show Below w.heap.size w we from bt.trans ((bp.mono (by omega)).trans ((br.mono (by omega)).trans (be.mono (by omega)))))
  refine (callsIn_wide (n := 6)).1 ?_
  refine callsIn_of_wp_marks Try.func14 rfl trivial ?_ rfl
  simp only [Try.ntmps14, List.size_toArray, List.length_cons, List.length_nil, Nat.reduceAdd, Nat.reduceSub, Array.replicate_succ, Array.replicate_zero, List.push_toArray, List.append_toArray, List.nil_append, List.cons_append]
  refine wpIn_wide.2 ?_
  go_upto_region 1 with fail
  rw [← hwt, ← hwp, ← hwr, ← hwe]
  clear hwt hwp hwr hwe bt bp br be st sp sr
  have hse := Lib.hid se
  clear se
  obtain ⟨t0, t1, t2, t3, t4, t5, t6, t7⟩ := BT.out
  obtain ⟨p0, p1, p2⟩ := BP.out
  go_wp2_with fail
  refine (place_any T _ zz d t _ (hT0.keep (Keep.below HBW.out))).mono ?_
  rintro e' w1 ⟨rfl, hb1⟩
  have HW1 := Lib.hid (HBW.out.trans (hb1.mono HBW.out.size))
  have BT1 := Lib.hid (BT.out.keep (Keep.below hb1))
  have BP1 := Lib.hid (BP.out.keep (Keep.below hb1))
  have BR1 := Lib.hid (BR.out.below hb1 BR.out.lt)
  have BE1 := Lib.hid (BE.out.below hb1 BE.out.lt)
  clear hb1 t0 t1 t2 t3 t4 t5 t6 t7 p0 p1 p2 BT BP BR BE HBW
  by_cases h1 : errPlace T zz d t = 0
  · have d1 : (errPlace T zz d t != 0) = false := by simpa using h1
    obtain ⟨q1, q2, q3⟩ := place_parts h1
    obtain ⟨⟨m0, m1⟩, m2, m3⟩ := moment_ok q3
    have F1 := Lib.hid h1
    have HE := Lib.hid q1
    clear h1 q1 q2 q3
    obtain ⟨t0, t1, t2, t3, t4, t5, t6, t7⟩ := BT1.out
    obtain ⟨p0, p1, p2⟩ := BP1.out
    go_wp2_with fail
    refine (ruleAt_any T _ zz d t _ (hT0.keep (Keep.below HW1.out)) m0 hn).mono ?_
    rintro e' w2 ⟨rfl, hb2⟩
    have HW2 := Lib.hid (HW1.out.trans (hb2.mono HW1.out.size))
    have BT2 := Lib.hid (BT1.out.keep (Keep.below hb2))
    have BP2 := Lib.hid (BP1.out.keep (Keep.below hb2))
    have BR2 := Lib.hid (BR1.out.below hb2 BR1.out.lt)
    have BE2 := Lib.hid (BE1.out.below hb2 BE1.out.lt)
    clear hb2 t0 t1 t2 t3 t4 t5 t6 t7 p0 p1 p2 BT1 BP1 BR1 BE1 HW1 hse
    obtain ⟨wa, hwa⟩ : ∃ wa, wa = w2.alloc (.cells #[.int .i64 (rAt T zz d t).1] 3) := ⟨_, rfl⟩
    obtain ⟨wb, hwb⟩ : ∃ wb, wb = wa.alloc (.cells #[.int .i64 (rAt T zz d t).2] 43) := ⟨_, rfl⟩
    have sa : wa.heap.size = w2.heap.size + 1 := by rw [hwa]; simp
    have ba : Below w2.heap.size w2 wa := by rw [hwa]; exact (Below.refl _ _).alloc (Nat.le_refl _) _
    have bb : Below wa.heap.size wa wb := by rw [hwb]; exact (Below.refl _ _).alloc (Nat.le_refl _) _
    have bab : Below w2.heap.size w2 wb := ba.trans (bb.mono (by omega))
    have HN := Lib.hid (show NextI w wb w2.heap.size T zz d t z h r e f zc hc rc ec fc from
      ⟨BT2.out.keep (Keep.below bab), BP2.out.keep (Keep.below bab), BR2.out.below bab BR2.out.lt, BE2.out.below bab BE2.out.lt,
        (show IntAt wa w2.heap.size _ by rw [hwa]; exact IntAt.new _ _ _).below bb (by omega), by rw [hwb, ← sa]; exact IntAt.new _ _ _, HW2.out.trans (bab.mono HW2.out.size)⟩)
    go_upto_region 5 with fail
    rw [← hwa, ← hwb]
    clear hwa hwb sa ba bb bab BT2 BP2 BR2 BE2
    generalize w2.heap.size = q at *
    clear HW2
    obtain ⟨p0, p1, p2⟩ := HN.out.place
    have hmin : min (d + 400) 100000 = if d + 400 ≤ 100000 then d + 400 else 100000 := by omega
    go_upto_region 6 with fail
    generalize hhi : (if d + 400 ≤ 100000 then d + 400 else (100000 : Int)) = hi
    have HI := Lib.hid (show hi = min (d + 400) 100000 by rw [hmin, hhi])
    have hi1 : hi ≤ 100000 := by rw [HI.out]; omega
    have HN2 := Lib.hid (HN.out.below ((Below.refl _ _).alloc (Nat.le_refl _) (.cells #[.int .i64 d, .int .i64 hi] 48)))
    have HR2 := Lib.hid (PairAt.new wb d hi 48)
    clear hmin hhi HN p0 p1 p2
    generalize wb.alloc _ = wc at *
    generalize wb.heap.size = qd at *
    obtain ⟨t0, t1, t2, t3, t4, t5, t6, t7⟩ := HN2.out.box
    obtain ⟨p0, p1, -, -⟩ := HR2.out
    go_wp2_with fail
    refine (turns_any T _ d hi wc (hT0.keep (Keep.below HN2.out.low)) HE.out).mono ?_
    rintro e' w3 ⟨bd, bt, bz, z3, h3, r3, e3, f3, zc3, hc3, rc3, ec3, fc3, A, c, rfl, hC, hb3⟩
    have HN3 := Lib.hid (HN2.out.below hb3)
    have HC3 := Lib.hid hC
    clear hb3 hC HN2 HR2 p0 p1 t0 t1 t2 t3 t4 t5 t6 t7
    go_wp2_with fail
    refine (wpIn_wide (n := 6)).1 ?_
    have hlow := HN3.out.low.size
    refine rangeOver (F := Fence.wide) (n := 6) rfl (by omega) (gf := 43) (lb := #[.pointer (some ⟨bd, 0, none⟩), .pointer (some ⟨bt, 0, none⟩), .pointer (some ⟨bz, 0, none⟩)]) rfl trivial (enters_of Try.func43 (by kernel_rfl) rfl)
      (turns1_yields 5 T bd bt bz d hi (turnsL T) z3 h3 r3 e3 f3 zc3 hc3 rc3 ec3 fc3 A c w3 HC3.out m0 hi1 hn) (fun _ _ hh => hh) (fun _ => rfl)
      (fun pre W => Same T zz d t pre ∧ NextI w W q T zz d t z h r e f zc hc rc ec fc) (NextX w T zz d t) (NextI.own hlow) (NextX.own hlow) ⟨by intro y hy; simp at hy, HN3.out⟩
      (fun x a' W => ∃ Bx, d ≤ x.d ∧ PairAt W Bx x.d x.t ∧ ArrI W x.A (rOn T x.d) x.c ∧ a' = { tmps := #[tarV T z h r e f zc hc rc ec fc, placeV zz d t, .pointer (some ⟨w.heap.size, 0, none⟩), .pointer (some ⟨w.heap.size + 1, 0, none⟩), .pointer (some ⟨w.heap.size + 1 + 1, 0, none⟩), .pointer (some ⟨w.heap.size + 1 + 1 + 1, 0, none⟩), .int .i64 (errPlace T zz d t), .pointer (some ⟨q, 0, none⟩), .pointer (some ⟨q + 1, 0, none⟩), .pointer (some ⟨qd, 0, none⟩), .pointer (some ⟨Bx, 0, none⟩), .slice x.A (rOn T x.d).length x.c, undef, undef, .agg #[.string T.name, .int .i64 T.unit, .int .i64 T.step, .slice z T.zones.length zc, .slice h T.hols.length hc, .slice r T.rules.length rc, .slice e T.extras.length ec, .slice f T.fixed.length fc], .agg #[.int .i64 zz, .int .i64 d, .int .i64 t], .int .i64 (errPlace T zz d t), .int .i64 (errPlace T zz d t), .bool false, undef, undef, .tuple #[.int .i64 (rAt T zz d t).1, .int .i64 (rAt T zz d t).2], .agg #[.string T.name, .int .i64 T.unit, .int .i64 T.step, .slice z T.zones.length zc, .slice h T.hols.length hc, .slice r T.rules.length rc, .slice e T.extras.length ec, .slice f T.fixed.length fc], .agg #[.int .i64 zz, .int .i64 d, .int .i64 t], .tuple #[.int .i64 (rAt T zz d t).1, .int .i64 (rAt T zz d t).2], .int .i64 (rAt T zz d t).1, .int .i64 (rAt T zz d t).2, .pointer (some ⟨w.heap.size + 1, 1, none⟩), .pointer (some ⟨w.heap.size + 1, 1, none⟩), .int .i64 d, .pointer (some ⟨w.heap.size + 1, 1, none⟩), .pointer (some ⟨w.heap.size + 1, 1, none⟩), .int .i64 d, .int .i64 (d + 400), .int .i64 hi, .agg #[.int .i64 d, .int .i64 hi], .agg #[.string T.name, .int .i64 T.unit, .int .i64 T.step, .slice z T.zones.length zc, .slice h T.hols.length hc, .slice r T.rules.length rc, .slice e T.extras.length ec, .slice f T.fixed.length fc], .agg #[.int .i64 d, .int .i64 hi], .func (.func 43) #[] #[.pointer (some ⟨bd, 0, none⟩), .pointer (some ⟨bt, 0, none⟩), .pointer (some ⟨bz, 0, none⟩)], .agg #[.int .i64 x.d, .int .i64 x.t], .slice x.A (rOn T x.d).length x.c, undef, undef, undef, undef, undef, undef, undef, undef, undef, undef, undef, undef, undef, undef, undef, undef, undef, undef, undef, undef, undef, undef, undef, undef, undef, undef, undef, undef, undef, undef, undef, undef, undef, undef, undef], defers := [] })
      (by
        rintro x a' _ X Y row ⟨Bx, e0, e1, e2, e3⟩ hg hr
        have hr' : ∀ r, row = some r → ∃ o : Obj, X.heap[r]? = some o ∧ o.isCells = false := fun r e => (hr r e).2
        exact ⟨Bx, e0, e1.calm hg hr', e2.keep (calm_keep hg hr'), e3⟩)
      ?assign ?body ?done ?stop
    case assign =>
      rintro l pre x W K ⟨hs, hN⟩ ⟨hM0, hM⟩ hK
      gi_wp2
      exact hK _ _ ((KeepsOthers.alloc _ _).from _) (Keep.alloc _ _) ⟨hs, hN.below ((Below.refl _ _).alloc (Nat.le_refl _) _)⟩ ⟨W.heap.size, hM0, PairAt.new _ _ _ _, hM.keep (Keep.alloc _ _), rfl⟩
    case body =>
      rintro l pre x a' W ⟨hs, hN⟩ ⟨Bx, hx0, hP, hA, rfl⟩
      have HN := Lib.hid hN
      have HP := Lib.hid hP
      have HA := Lib.hid hA
      have HS := Lib.hid hs
      clear hN hP hA hs
      obtain ⟨t0, t1, t2, t3, t4, t5, t6, t7⟩ := HN.out.box
      obtain ⟨p0, p1, p2⟩ := HN.out.place
      obtain ⟨y0, y1, -, -⟩ := HP.out
      have r0 := HN.out.rule.c0
      have n0 := HN.out.now.c0
      by_cases hb : Beyond d t x.d x.t
      · have hri : Hid (∀ k, k < (rOn T x.d).length → 0 ≤ listI (rOn T x.d) k ∧ listI (rOn T x.d) k < T.rules.length) := by
          refine Lib.hid (fun k hk => ?_)
          have hm : listI (rOn T x.d) k ∈ rOn T x.d := by
            unfold listI
            rw [List.getD_eq_getElem?_getD, List.getElem?_eq_getElem hk]
            exact List.getElem_mem hk
          obtain ⟨a1, a2, -⟩ := rOn_mem hm
          exact ⟨a1, a2⟩
        have C1 := Lib.hid (rulesThere_any T _ (rOn T x.d) x.A x.c zz x.d x.t W (hT0.keep (Keep.below HN.out.low)) HA.out hri (Nat.le_trans (rOn_le T x.d) hn))
        have hcase : ((x.d == d) = true ∧ decide (x.t ≤ t) = false ∧ ¬ x.t ≤ t) ∨ (x.d == d) = false := by
          by_cases hd : x.d = d
          · have e3 : ¬ x.t ≤ t := by unfold Beyond at hb; omega
            exact .inl ⟨by simpa using hd, decide_eq_false e3, e3⟩
          · exact .inr (by simpa using hd)
        have HB := Lib.hid hb
        clear hb
        rcases hcase with ⟨e1, e2, e3⟩ | e1
        all_goals gi_wp2
        all_goals
          refine ⟨trivial, ?_⟩
          refine (CallsIn.inRound l (callsIn_wide.2 C1.out)).mono ?_
          rintro e' w5 ⟨A5, c5, rfl, ha5, hb5⟩
          have HN5 := Lib.hid (HN.out.below hb5)
          have HP5 := Lib.hid (HP.out.below hb5 HP.out.lt)
          have C2 := Lib.hid (only_any (rThere T (rOn T x.d) zz x.t) A5 c5 w5 ha5)
          have HK5 := Lib.hid (Keep.below hb5)
          have HF5 := Lib.hid (KeepsFrom.of_grownBy (B := w3.heap.size) (grown_of_below hb5) (fun k e => by cases e))
          clear t0 t1 t2 t3 t4 t5 t6 t7 p0 p1 p2 y0 y1 r0 n0 C1 ha5 hb5
          gi_wp2
          refine ⟨trivial, ?_⟩
          refine (CallsIn.inRound l (callsIn_wide.2 C2.out)).mono ?_
          rintro e' w6 ⟨rfl, rfl⟩
          have hR : rAt T zz x.d x.t = only (rThere T (rOn T x.d) zz x.t) := rfl
          have HR := Lib.hid hR
          clear hR C2
          generalize only (rThere T (rOn T x.d) zz x.t) = R at *
          obtain ⟨y0, y1, -, -⟩ := HP5.out
          have r0 := HN5.out.rule.c0
          have n0 := HN5.out.now.c0
          by_cases g : R = rAt T zz d t
          · have g1 : (R.1 != (rAt T zz d t).1) = false := by simp [g]
            have g2 : (R.2 != (rAt T zz d t).2) = false := by simp [g]
            have HG := Lib.hid g
            clear g
            gi_wp2
            refine ⟨HF5.out, HK5.out, ?_, HN5.out⟩
            intro y hy hyb
            rcases List.mem_append.1 hy with hy | hy
            · exact HS.out y hy hyb
            · simp only [List.mem_cons, List.not_mem_nil, or_false] at hy
              subst hy
              rw [HR.out, HG.out]
          · have HG := Lib.hid g
            have hcase : (R.1 != (rAt T zz d t).1) = true ∨ ((R.1 != (rAt T zz d t).1) = false ∧ (R.2 != (rAt T zz d t).2) = true) := by
              by_cases g1 : R.1 = (rAt T zz d t).1
              · right
                refine ⟨by simp [g1], ?_⟩
                have : R.2 ≠ (rAt T zz d t).2 := fun g2 => g (Prod.ext g1 g2)
                simpa using this
              · left
                simpa using g1
            clear g
            have HX := Lib.hid (show ∀ W7, PairAt W7 (w.heap.size + 1 + 1) x.d x.t → IntAt W7 (w.heap.size + 1 + 1 + 1) 0 → Below w.heap.size w W7 → NextX w T zz d t (pre ++ [x]) W7 from
              fun W7 a1 a2 a3 => ⟨pre, x, rfl, HS.out, HB.out, by rw [HR.out]; exact HG.out, a1, a2, a3⟩)
            obtain ⟨v0, v1, v2, v3⟩ := HN5.out.res
            obtain ⟨u0, u1⟩ := HN5.out.err
            have hZ := Lib.hid (HX.out _ ((HN5.out.res.set x.d x.t).far (g' := w.heap.size + 1 + 1 + 1) (k := 0) (by omega) (.int .i64 0)) (((HN5.out.err.far (g' := w.heap.size + 1 + 1) (k := 0) (by omega) (.int .i64 x.d)).far (g' := w.heap.size + 1 + 1) (k := 1) (by omega) (.int .i64 x.t)).set 0)
              (((HN5.out.low.setCell (p := ⟨w.heap.size + 1 + 1, 0, none⟩) (by simp; omega) (.int .i64 x.d)).setCell (p := ⟨w.heap.size + 1 + 1, 1, none⟩) (by simp; omega) (.int .i64 x.t)).setCell (p := ⟨w.heap.size + 1 + 1 + 1, 0, none⟩) (by simp; omega) (.int .i64 0)))
            have hKF := Lib.hid (((HF5.out.trans ((KeepsOthers.setCell w5 ⟨w.heap.size + 1 + 1, 0, none⟩ (.int .i64 x.d)).from _)).trans ((KeepsOthers.setCell _ ⟨w.heap.size + 1 + 1, 1, none⟩ (.int .i64 x.t)).from _)).trans ((KeepsOthers.setCell _ ⟨w.heap.size + 1 + 1 + 1, 0, none⟩ (.int .i64 0)).from _))
            rcases hcase with g1 | ⟨g1, g2⟩
            all_goals
              gi_wp2
              exact ⟨hKF.out, hZ.out⟩
      · have hd : x.d = d := by unfold Beyond at hb; omega
        have ht : x.t ≤ t := by unfold Beyond at hb; omega
        have e1 : (x.d == d) = true := by simpa using hd
        have e2 : decide (x.t ≤ t) = true := decide_eq_true ht
        have HB := Lib.hid hb
        clear hb hd
        gi_wp2
        refine ⟨KeepsFrom.refl _ _, fun _ _ hh => hh, ?_, HN.out⟩
        intro y hy hyb
        rcases List.mem_append.1 hy with hy | hy
        · exact HS.out y hy hyb
        · simp only [List.mem_cons, List.not_mem_nil, or_false] at hy
          subst hy
          exact absurd hyb HB.out
    case done =>
      rintro D xs W hD hS ⟨hs, hN⟩ hK
      have HN := Lib.hid hN
      have HP := Lib.hid (all_none hS hs)
      clear hS hs hN
      obtain ⟨v0, v1, v2, v3⟩ := HN.out.res
      obtain ⟨u0, u1⟩ := HN.out.err
      have HK := Lib.hid ((KeepsOthers.setCell _ ⟨w.heap.size + 1 + 1 + 1, 0, none⟩ (.int .i64 12)).same D _ ((KeepsOthers.setCell _ ⟨w.heap.size + 1 + 1, 1, none⟩ (.int .i64 0)).same D _ ((KeepsOthers.setCell W ⟨w.heap.size + 1 + 1, 0, none⟩ (.int .i64 0)).same D _ hK rfl) rfl) rfl)
      have hP := Lib.hid ((HN.out.res.set 0 0).far (g' := w.heap.size + 1 + 1 + 1) (k := 0) (by omega) (.int .i64 12))
      have hI := Lib.hid (((HN.out.err.far (g' := w.heap.size + 1 + 1) (k := 0) (by omega) (.int .i64 0)).far (g' := w.heap.size + 1 + 1) (k := 1) (by omega) (.int .i64 0)).set 12)
      have hL := Lib.hid (((HN.out.low.setCell (p := ⟨w.heap.size + 1 + 1, 0, none⟩) (by simp; omega) (.int .i64 0)).setCell (p := ⟨w.heap.size + 1 + 1, 1, none⟩) (by simp; omega) (.int .i64 0)).setCell (p := ⟨w.heap.size + 1 + 1 + 1, 0, none⟩) (by simp; omega) (.int .i64 12))
      go_wp2
      clear v0 v1 v2 v3 u0 u1 hK
      generalize ((W.setCell _ _).setCell _ _).setCell _ _ = W7 at *
      refine ⟨by simp, .inl ⟨_, _, rfl, run_takeDeferred HK.out, ?_⟩⟩
      have hP' := hP.out.calm (grownBy_putObj' _ D (.deferred none)) (fun r e => by cases e; exact ⟨_, HK.out, rfl⟩)
      have hI' := hI.out.calm (grownBy_putObj' _ D (.deferred none)) (fun r e => by cases e; exact ⟨_, HK.out, rfl⟩)
      have hL' := hL.out.trans (belowK_b (w := w) (Nat.le_refl _) _ D _ (.deferred none) (by omega) HK.out rfl rfl)
      obtain ⟨c0, c1, -, -⟩ := hP'
      obtain ⟨c2, -⟩ := hI'
      refine ⟨.tuple #[.agg #[.int .i64 0, .int .i64 0], .int .i64 12], ?_, ⟨0, 0, 12, rfl, ?_, hL'⟩⟩
      · simp [results, Try.results14, go_sem, c0, c1, c2]
      · unfold NextE
        rw [if_neg (fun hh => hh F1.out), ← HI.out]
        exact HP.out
    case stop =>
      rintro D pre W hD hS ⟨l, x, rfl, hs, hb, hne, hP, hI, hL⟩ hK
      have HP := Lib.hid (some_first (turnsL_of HE.out).up hS hs hb hne)
      clear hS hs hb hne
      gi_wp2
      refine ⟨by simp, .inl ⟨_, _, rfl, run_takeDeferred hK, ?_⟩⟩
      have hP' := hP.calm (grownBy_putObj' _ D (.deferred none)) (fun r e => by cases e; exact ⟨_, hK, rfl⟩)
      have hI' := hI.calm (grownBy_putObj' _ D (.deferred none)) (fun r e => by cases e; exact ⟨_, hK, rfl⟩)
      have hL' := hL.trans (belowK_b (w := w) (Nat.le_refl _) _ D _ (.deferred none) (by omega) hK rfl rfl)
      obtain ⟨c0, c1, -, -⟩ := hP'
      obtain ⟨c2, -⟩ := hI'
      refine ⟨.tuple #[.agg #[.int .i64 x.d, .int .i64 x.t], .int .i64 0], ?_, ⟨x.d, x.t, 0, rfl, ?_, hL'⟩⟩
      · simp [results, Try.results14, go_sem, c0, c1, c2]
      · unfold NextE
        rw [if_neg (fun hh => hh F1.out), ← HI.out]
        exact HP.out
  · have d1 : (errPlace T zz d t != 0) = true := by simpa using h1
    have F1 := Lib.hid h1
    clear h1
    obtain ⟨v0, v1, v2, v3⟩ := BR1.out
    obtain ⟨u0, u1⟩ := BE1.out
    have hP := Lib.hid ((BR1.out.set 0 0).far (g' := w.heap.size + 1 + 1 + 1) (k := 0) (by omega) (.int .i64 (errPlace T zz d t)))
    have hI := Lib.hid (((BE1.out.far (g' := w.heap.size + 1 + 1) (k := 0) (by omega) (.int .i64 0)).far (g' := w.heap.size + 1 + 1) (k := 1) (by omega) (.int .i64 0)).set (errPlace T zz d t))
    have hL := Lib.hid (((HW1.out.setCell (p := ⟨w.heap.size + 1 + 1, 0, none⟩) (by simp; omega) (.int .i64 0)).setCell (p := ⟨w.heap.size + 1 + 1, 1, none⟩) (by simp; omega) (.int .i64 0)).setCell (p := ⟨w.heap.size + 1 + 1 + 1, 0, none⟩) (by simp; omega) (.int .i64 (errPlace T zz d t)))
    go_wp2_with fail
    clear v0 v1 v2 v3 u0 u1
    generalize ((w1.setCell _ _).setCell _ _).setCell _ _ = W7 at *
    obtain ⟨c0, c1, -, -⟩ := hP.out
    obtain ⟨c2, -⟩ := hI.out
    refine ⟨.tuple #[.agg #[.int .i64 0, .int .i64 0], .int .i64 (errPlace T zz d t)], ?_, ⟨0, 0, errPlace T zz d t, rfl, ?_, hL.out⟩⟩
    · simp [results, Try.results14, go_sem, c0, c1, c2]
    · unfold NextE
      rw [if_pos F1.out]
      exact ⟨rfl, rfl, rfl⟩
end Go.Proofs.Ytbehabaoeicgeaa

/- Plain facts about records with one more behind them; a row with one record more. No condition. -/
import Derived.Test.YtolicafhbeiciaaV1
import Derived.Deep.AppendLies
namespace Go.Proofs.Ytolicafhbeiciaa
open Go.RowKit Fs

theorem Fs.lengthsTo_congr2 {l m : List WRec} (f : Nat) : ∀ k, (∀ i, i < k → (listW l i).beg = (listW m i).beg ∧ (listW l i).fin = (listW m i).fin) → lengthsTo l f k = lengthsTo m f k
  | 0, _ => rfl
  | k + 1, h => by rw [lengthsTo, lengthsTo, lengthsTo_congr2 f k (fun i hi => h i (by omega)), (h k (by omega)).1, (h k (by omega)).2]
theorem Fs.workTo_congr2 {l m : List WRec} (a b : Int) : ∀ k, (∀ i, i < k → (listW l i).beg = (listW m i).beg ∧ (listW l i).fin = (listW m i).fin) → workTo l a b k = workTo m a b k
  | 0, _ => rfl
  | k + 1, h => by
    rw [workTo_next, workTo_next, workTo_congr2 a b k (fun i hi => h i (by omega))]
    unfold overlapOf
    rw [(h k (by omega)).1, (h k (by omega)).2]
theorem Fs.brokenAt_congr2 {R : DRules} {l m : List WRec} (h : ∀ i, (listW l i).beg = (listW m i).beg ∧ (listW l i).fin = (listW m i).fin) (k : Nat) : brokenAt R l k = brokenAt R m k := by
  unfold brokenAt stintOf
  rw [firstIn_congr R.brk k (l := l) (m := m) (fun j _ => (h j).1) (fun j _ => (h j).2), firstIn_congr R.rest k (l := l) (m := m) (fun j _ => (h j).1) (fun j _ => (h j).2),
    lengthsTo_congr2 _ (k + 1) (fun j _ => h j), (h k).2, (h _).1, workTo_congr2 _ _ (k + 1) (fun j _ => h j)]
theorem Fs.more_len (l : List WRec) (x : WRec) : (l ++ [x]).length = l.length + 1 := by simp
theorem Fs.more_who (l : List WRec) (a b : ByteArray) (s f : Int) (i : Nat) : (listW (l ++ [⟨a, s, f⟩]) i).beg = (listW (l ++ [⟨b, s, f⟩]) i).beg ∧ (listW (l ++ [⟨a, s, f⟩]) i).fin = (listW (l ++ [⟨b, s, f⟩]) i).fin := by
  by_cases h : i < l.length
  · rw [listW_left h, listW_left h]; exact ⟨rfl, rfl⟩
  · by_cases e : i = l.length
    · subst e; rw [listW_last, listW_last]; exact ⟨rfl, rfl⟩
    · unfold listW
      rw [List.getD_eq_getElem?_getD, List.getD_eq_getElem?_getD, List.getElem?_eq_none (by simp; omega), List.getElem?_eq_none (by simp; omega)]
      exact ⟨rfl, rfl⟩
theorem Fs.same_who {l : List WRec} (h : recsErr true l = 0) : ∀ i, i < l.length → (listW l i).who = (listW l 0).who
  | 0, _ => rfl
  | i + 1, hi => by
    rw [← same_who h i (by omega)]
    unfold recsErr at h
    by_cases h0 : 40 < l.length
    · rw [if_pos h0] at h; exact absurd h (by decide)
    · rw [if_neg h0] at h
      exact (wrongRec_ok (fst_zero h (i + 1) hi)).2.1 rfl (Nat.succ_pos _)
theorem Fs.recs_one {l : List WRec} (h : recsErr true l = 0) {i : Nat} (hi : i < l.length) : wrongRec true l i = 0 := by
  unfold recsErr at h
  by_cases h0 : 40 < l.length
  · rw [if_pos h0] at h; exact absurd h (by decide)
  · rw [if_neg h0] at h; exact fst_zero h i hi
/-- Right records with one more behind them, of the same driver. -/
theorem Fs.more_right {l : List WRec} {who : ByteArray} {s f : Int} (h : recsErr true l = 0) (hl : l.length < 40) (hn : isName who = true) (hw : 0 < l.length → who = (listW l 0).who)
    (h0 : 0 ≤ s) (h1 : s < f) (h2 : f ≤ 8640000000) (hb : 0 < l.length → (listW l (l.length - 1)).fin ≤ s) : recsErr true (l ++ [⟨who, s, f⟩]) = 0 := by
  unfold recsErr
  rw [more_len, if_neg (by omega)]
  refine fst_none fun i hi => ?_
  by_cases e : i < l.length
  · have a := recs_one h e
    unfold wrongRec at a ⊢
    rw [listW_left e]
    by_cases e0 : 0 < i
    · rw [listW_left (show i - 1 < l.length by omega)]; exact a
    · simp only [e0, false_and, and_false, if_false] at a ⊢
      exact a
  · obtain rfl : i = l.length := by omega
    unfold wrongRec
    rw [listW_last]
    have e1 : recErr ⟨who, s, f⟩ = 0 := by
      unfold recErr
      rw [hn, if_pos rfl]
      unfold spanErr
      rw [show isClock s = true from within_iff.2 ⟨by omega, by omega⟩, show isClock f = true from within_iff.2 ⟨by omega, by omega⟩]
      exact (if_neg (by omega) : (if f ≤ s then (9 : Int) else 0) = 0)
    rw [if_neg (fun hh => hh e1)]
    by_cases e0 : 0 < l.length
    · rw [listW_left (show l.length - 1 < l.length by omega), if_neg, if_neg]
      · rintro ⟨-, q⟩
        have := hb e0
        have : s < (listW l (l.length - 1)).fin := q
        omega
      · rintro ⟨-, -, q⟩
        exact q (by rw [same_who h _ (show l.length - 1 < l.length by omega)]; exact hw e0)
    · rw [if_neg (fun hh => e0 hh.2.1), if_neg (fun hh => e0 hh.1)]
/-- Which rule the record behind all others breaks. -/
theorem Fs.more_broken {R : DRules} {l : List WRec} {who : ByteArray} {s n : Int} (hb : brokenRule R l = 0) : brokenRule R (l ++ [⟨who, s, s + n⟩]) = brokenAt R (withTrip l s n) l.length := by
  have e : brokenAt R (l ++ [⟨who, s, s + n⟩]) l.length = brokenAt R (withTrip l s n) l.length := brokenAt_congr2 (more_who l who xName s (s + n)) _
  have h0 : fst (brokenAt R (l ++ [⟨who, s, s + n⟩])) l.length = 0 := by
    rw [← hb]
    refine (fst_congr fun i hi => ?_).1
    have := brokenAt_take (R := R) (l := l ++ [⟨who, s, s + n⟩]) (n := l.length) hi
    rw [List.take_left] at this
    exact this.symm
  show fst _ (l ++ [_]).length = _
  rw [more_len, fst, if_pos h0, e]
/-- What FirstBroken answers to it. -/
theorem Fs.more_err {R : DRules} {l : List WRec} {who : ByteArray} {s n : Int} (hB : drulesErr R = 0) (hr : recsErr true (l ++ [⟨who, s, s + n⟩]) = 0) (hb : brokenRule R l = 0) :
    brokenErr R (l ++ [⟨who, s, s + n⟩]) = if brokenAt R (withTrip l s n) l.length = 0 then 12 else 0 := by
  have hB2 : bothErr R (l ++ [⟨who, s, s + n⟩]) = 0 := by unfold bothErr; rw [if_neg (fun hh => hh hB)]; exact hr
  rw [← more_broken (who := who) hb]
  by_cases h : brokenRule R (l ++ [⟨who, s, s + n⟩]) = 0
  · rw [if_pos h]; exact (broken_none hB2 h).1
  · rw [if_neg h]; exact (broken_some hB2 h).1
theorem oneRecG (w : World) (who : ByteArray) (s f : Int) : Arr (w.alloc (.cells #[.string who, .int .i64 s, .int .i64 f] 39)) (some ⟨w.heap.size, 0, none⟩) 1 1 3 (fun _ j => recCells ⟨who, s, f⟩ j) := by
  refine ⟨Nat.le_refl _, by omega, fun _ => ⟨w.heap.size, 0, rfl, fun i j hi hj => ?_⟩⟩
  obtain rfl : i = 0 := by omega
  obtain rfl | rfl | rfl : j = 0 ∨ j = 1 ∨ j = 2 := by omega
  · exact cellNew _ _ _ 0
  · exact cellNew _ _ _ 1
  · exact cellNew _ _ _ 2
theorem moreFlat {l W : List WRec} {x : WRec} (h : W = l ++ [x]) : recFlat l ++ flat 1 3 (fun _ j => recCells x j) = flat (l.length + 1) 3 fun i j => recCells (listW W i) j := by
  subst h
  refine flat_join (by decide) (fun i j hi hj => ?_) (fun i j hi hj => ?_)
  · rw [listW_left hi]
  · obtain rfl : i = 0 := by omega
    rw [Nat.add_zero, listW_last]
end Go.Proofs.Ytolicafhbeiciaa
/- The cells of a trip and a length; which answers a trip of a length has. No condition. -/
namespace Go.Proofs.Ytolicafhbeiciaa
open Go.RowKit Fs

abbrev caseV (t : DTrip) (n : Int) : Value := .agg #[.int .i64 t.start, .int .i64 t.lo, .int .i64 t.hi, .int .i64 t.next, .int .i64 n]
structure CaseIn (w : World) (g : Nat) (t : DTrip) (n : Int) : Prop where
  c0 : w.cell? ⟨g, 0, none⟩ = some (.int .i64 t.start)
  c1 : w.cell? ⟨g, 1, none⟩ = some (.int .i64 t.lo)
  c2 : w.cell? ⟨g, 2, none⟩ = some (.int .i64 t.hi)
  c3 : w.cell? ⟨g, 3, none⟩ = some (.int .i64 t.next)
  c4 : w.cell? ⟨g, 4, none⟩ = some (.int .i64 n)
theorem CaseIn.keep {w w' : World} (k : Keep w w') {g : Nat} {t : DTrip} {n : Int} (m : CaseIn w g t n) : CaseIn w' g t n := ⟨k _ _ m.c0, k _ _ m.c1, k _ _ m.c2, k _ _ m.c3, k _ _ m.c4⟩
theorem Fs.allowed_len {R : DRules} {l : List WRec} {t : DTrip} {n : Int} (h : Right l) (hT : Behind l t) (h1 : t.lo ≤ n) (h2 : n ≤ t.hi) (h3 : t.hi ≤ 200000) :
    ((allowed R l t).1 = 2 ∧ breaks R l t n = 0) ∨ (allowed R l t).1 = 1 ∨ ((allowed R l t).1 = 0 ∧ breaks R l t n ≠ 0) := by
  by_cases a : breaks R l t t.hi = 0
  · rw [allowed_yes a]
    exact .inl ⟨rfl, breaks_mono h hT h2 (by omega) a⟩
  · by_cases b : breaks R l t t.lo = 0
    · right; left; unfold allowed; rw [if_neg a, if_pos b]
    · rw [allowed_no a b]
      exact .inr (.inr ⟨rfl, fun hh => b (breaks_mono h hT h1 (by omega) hh)⟩)
theorem Fs.name_first {l : List WRec} (h : recsErr true l = 0) (h0 : 0 < l.length) : isName (listW l 0).who = true := by
  have := recs_one h h0
  exact (recErr_ok (wrongRec_ok this).1).1
theorem Fs.ann_name : isName ⟨#[97, 110, 110]⟩ = true := by decide +kernel
/-- One record more, of a right driver, behind right records. -/
theorem Fs.more_fine {R : DRules} {l : List WRec} {t : DTrip} {n : Int} {who : ByteArray} (hE : lawTripErr R l t = 0) (hn : isName who = true) (hw : 0 < l.length → who = (listW l 0).who) (h0 : 0 < n) (h1 : t.start + n ≤ 8640000000) :
    brokenErr R (l ++ [⟨who, t.start, t.start + n⟩]) = if brokenAt R (withTrip l t.start n) l.length = 0 then 12 else 0 := by
  obtain ⟨a, b⟩ := lawTrip_ok hE
  obtain ⟨c1, -, -, -, c5⟩ := dtrip_ok b
  obtain ⟨d1, d2⟩ := both_ok a
  exact more_err d1 (more_right d2 c1.len hn hw c1.from0 (by omega) h1 c1.last) c5
end Go.Proofs.Ytolicafhbeiciaa
/- Arguments as they come read as records, rules, trips, plates. No condition. -/
namespace Go.Proofs.Ytolicafhbeiciaa
open Go.ChangeShapes Go.WideShapes Go.RowKit Go.Deep Fs

theorem Try.cellsDRules : Try.prog.cellsOf 23 = 5 := by kernel_rfl
theorem Try.cellsDRec : Try.prog.cellsOf 39 = 3 := by kernel_rfl
theorem Try.cellsDLic : Try.prog.cellsOf 148 = 3 := by kernel_rfl
theorem Try.cellsDUse : Try.prog.cellsOf 113 = 3 := by kernel_rfl
theorem Try.cellsDTrip : Try.prog.cellsOf 54 = 4 := by kernel_rfl
theorem Try.cellsDCase : Try.prog.cellsOf 62 = 5 := by kernel_rfl
theorem Try.cellsDPlates : Try.prog.cellsOf 103 = 2 := by kernel_rfl
theorem Try.cellsThree : Try.prog.cellsOf 41 = 3 := by kernel_rfl
section
variable {H : Type} {enc : TypeId × Value → H} {w : World} {base : Nat} {spare : Nat → Bool} {held : Bool}
set_option maxRecDepth 100000 in
theorem openRecs {r : Reach} {b0 : Nat} {v : Value} {d : DataW H} {p : List MemPlace} (hv : Value.okWide Try.prog w r b0 24 v) (h : DataW.Trod enc Try.prog w base spare held 24 v d p) : ∃ (l : List WRec) (A : Option Addr) (c : Nat), v = .slice A l.length c ∧ ArrW w A l c := by
  obtain ⟨a, n, c, rfl⟩ := okWide_slice Try.underlying24 hv
  obtain ⟨fuel, hf⟩ := h
  have hf2 : DataW.trod enc Try.prog w base spare held fuel 24 [.slice a n c] = some (d, p) := by simpa [Value.cells] using hf
  obtain ⟨l, A, c, hv, ha, -⟩ := openArr w0 recCells (fun _ => True) Try.underlying24 Try.cellsDRec (by decide) (fun n cs y hy => by
    have hl := (structLen Try.underlying39 hy).trans Try.cellsDRec
    match cs, hl with
    | [v0, v1, v2], _ =>
      obtain ⟨a0, h0⟩ := fieldText Try.underlying39 hy 0 _ rfl rfl (by show _ < 3; decide)
      obtain ⟨a1, h1⟩ := fieldInt Try.underlying39 hy 1 _ rfl rfl (by show _ < 3; decide)
      obtain ⟨a2, h2⟩ := fieldInt Try.underlying39 hy 2 _ rfl rfl (by show _ < 3; decide)
      have e0 : some v0 = some (.string a0) := h0
      have e1 : some v1 = some (.int .i64 a1) := h1
      have e2 : some v2 = some (.int .i64 a2) := h2
      injection e0 with e0; injection e1 with e1; injection e2 with e2
      subst e0; subst e1; subst e2
      refine ⟨⟨a0, a1, a2⟩, trivial, fun j hj => ?_⟩
      match j, hj with
      | 0, _ => rfl
      | 1, _ => rfl
      | 2, _ => rfl) hf2
  exact ⟨l, A, c, hv, ha⟩
set_option maxRecDepth 100000 in
theorem openLics {r : Reach} {b0 : Nat} {v : Value} {d : DataW H} {p : List MemPlace} (hv : Value.okWide Try.prog w r b0 75 v) (h : DataW.Trod enc Try.prog w base spare held 75 v d p) : ∃ (l : List WRec) (A : Option Addr) (c : Nat), v = .slice A l.length c ∧ ArrW w A l c := by
  obtain ⟨a, n, c, rfl⟩ := okWide_slice Try.underlying75 hv
  obtain ⟨fuel, hf⟩ := h
  have hf2 : DataW.trod enc Try.prog w base spare held fuel 75 [.slice a n c] = some (d, p) := by simpa [Value.cells] using hf
  obtain ⟨l, A, c, hv, ha, -⟩ := openArr w0 recCells (fun _ => True) Try.underlying75 Try.cellsDLic (by decide) (fun n cs y hy => by
    have hl := (structLen Try.underlying148 hy).trans Try.cellsDLic
    match cs, hl with
    | [v0, v1, v2], _ =>
      obtain ⟨a0, h0⟩ := fieldText Try.underlying148 hy 0 _ rfl rfl (by show _ < 3; decide)
      obtain ⟨a1, h1⟩ := fieldInt Try.underlying148 hy 1 _ rfl rfl (by show _ < 3; decide)
      obtain ⟨a2, h2⟩ := fieldInt Try.underlying148 hy 2 _ rfl rfl (by show _ < 3; decide)
      have e0 : some v0 = some (.string a0) := h0
      have e1 : some v1 = some (.int .i64 a1) := h1
      have e2 : some v2 = some (.int .i64 a2) := h2
      injection e0 with e0; injection e1 with e1; injection e2 with e2
      subst e0; subst e1; subst e2
      refine ⟨⟨a0, a1, a2⟩, trivial, fun j hj => ?_⟩
      match j, hj with
      | 0, _ => rfl
      | 1, _ => rfl
      | 2, _ => rfl) hf2
  exact ⟨l, A, c, hv, ha⟩
set_option maxRecDepth 100000 in
theorem openUses {r : Reach} {b0 : Nat} {v : Value} {d : DataW H} {p : List MemPlace} (hv : Value.okWide Try.prog w r b0 101 v) (h : DataW.Trod enc Try.prog w base spare held 101 v d p) : ∃ (l : List WRec) (A : Option Addr) (c : Nat), v = .slice A l.length c ∧ ArrW w A l c := by
  obtain ⟨a, n, c, rfl⟩ := okWide_slice Try.underlying101 hv
  obtain ⟨fuel, hf⟩ := h
  have hf2 : DataW.trod enc Try.prog w base spare held fuel 101 [.slice a n c] = some (d, p) := by simpa [Value.cells] using hf
  obtain ⟨l, A, c, hv, ha, -⟩ := openArr w0 recCells (fun _ => True) Try.underlying101 Try.cellsDUse (by decide) (fun n cs y hy => by
    have hl := (structLen Try.underlying113 hy).trans Try.cellsDUse
    match cs, hl with
    | [v0, v1, v2], _ =>
      obtain ⟨a0, h0⟩ := fieldText Try.underlying113 hy 0 _ rfl rfl (by show _ < 3; decide)
      obtain ⟨a1, h1⟩ := fieldInt Try.underlying113 hy 1 _ rfl rfl (by show _ < 3; decide)
      obtain ⟨a2, h2⟩ := fieldInt Try.underlying113 hy 2 _ rfl rfl (by show _ < 3; decide)
      have e0 : some v0 = some (.string a0) := h0
      have e1 : some v1 = some (.int .i64 a1) := h1
      have e2 : some v2 = some (.int .i64 a2) := h2
      injection e0 with e0; injection e1 with e1; injection e2 with e2
      subst e0; subst e1; subst e2
      refine ⟨⟨a0, a1, a2⟩, trivial, fun j hj => ?_⟩
      match j, hj with
      | 0, _ => rfl
      | 1, _ => rfl
      | 2, _ => rfl) hf2
  exact ⟨l, A, c, hv, ha⟩
set_option maxRecDepth 100000 in
theorem openRules {r : Reach} {b0 : Nat} {v : Value} {d : DataW H} {p : List MemPlace} (hv : Value.okWide Try.prog w r b0 23 v) (h : DataW.Trod enc Try.prog w base spare held 23 v d p) : ∃ R : DRules, v = drulesV R := by
  obtain ⟨cs, rfl, hsz⟩ := okWide_struct Try.underlying23 hv
  obtain ⟨l⟩ := cs
  match l, hsz.trans Try.cellsDRules with
  | [v0, v1, v2, v3, v4], _ =>
    obtain ⟨fuel, hf⟩ := h
    have hy : DataW.trod enc Try.prog w base spare held fuel 23 [v0, v1, v2, v3, v4] = some (d, p) := by simpa [Value.cells] using hf
    obtain ⟨a0, g0⟩ := fieldInt Try.underlying23 hy 0 _ rfl rfl (by show _ < 5; decide)
    have e0 : some v0 = some (.int .i64 a0) := g0
    injection e0 with e0
    subst e0
    obtain ⟨a1, g1⟩ := fieldInt Try.underlying23 hy 1 _ rfl rfl (by show _ < 5; decide)
    have e1 : some v1 = some (.int .i64 a1) := g1
    injection e1 with e1
    subst e1
    obtain ⟨a2, g2⟩ := fieldInt Try.underlying23 hy 2 _ rfl rfl (by show _ < 5; decide)
    have e2 : some v2 = some (.int .i64 a2) := g2
    injection e2 with e2
    subst e2
    obtain ⟨a3, g3⟩ := fieldInt Try.underlying23 hy 3 _ rfl rfl (by show _ < 5; decide)
    have e3 : some v3 = some (.int .i64 a3) := g3
    injection e3 with e3
    subst e3
    obtain ⟨a4, g4⟩ := fieldInt Try.underlying23 hy 4 _ rfl rfl (by show _ < 5; decide)
    have e4 : some v4 = some (.int .i64 a4) := g4
    injection e4 with e4
    subst e4
    exact ⟨⟨a0, a1, a2, a3, a4⟩, rfl⟩
/-- The cells of a trip. -/
theorem tripCells {fuel : Nat} {v0 v1 v2 v3 : Value} {y : DataW H × List MemPlace} (hy : DataW.trod enc Try.prog w base spare held fuel 54 [v0, v1, v2, v3] = some y) : ∃ t : DTrip, v0 = .int .i64 t.start ∧ v1 = .int .i64 t.lo ∧ v2 = .int .i64 t.hi ∧ v3 = .int .i64 t.next := by
  obtain ⟨a0, g0⟩ := fieldInt Try.underlying54 hy 0 _ rfl rfl (by show _ < 4; decide)
  obtain ⟨y1, n1, q0⟩ := fieldCells Try.underlying54 hy 1 _ rfl
  have q1 : DataW.trod enc Try.prog w base spare held n1 52 (([v0, v1, v2, v3].drop 1).take (Try.prog.cellsOf 52)) = some y1 := q0
  rw [Try.cellsRange] at q1
  have q2 : DataW.trod enc Try.prog w base spare held n1 52 [v1, v2] = some y1 := q1
  obtain ⟨a1, g1⟩ := fieldInt Try.underlying52 q2 0 _ rfl rfl (by show _ < 2; decide)
  obtain ⟨a2, g2⟩ := fieldInt Try.underlying52 q2 1 _ rfl rfl (by show _ < 2; decide)
  obtain ⟨a3, g3⟩ := fieldInt Try.underlying54 hy 2 _ rfl rfl (by show _ < 4; decide)
  have e0 : some v0 = some (.int .i64 a0) := g0
  have e1 : some v1 = some (.int .i64 a1) := g1
  have e2 : some v2 = some (.int .i64 a2) := g2
  have e3 : some v3 = some (.int .i64 a3) := g3
  injection e0 with e0; injection e1 with e1; injection e2 with e2; injection e3 with e3
  exact ⟨⟨a0, a1, a2, a3⟩, e0, e1, e2, e3⟩
set_option maxRecDepth 100000 in
theorem openDTrip {r : Reach} {b0 : Nat} {v : Value} {d : DataW H} {p : List MemPlace} (hv : Value.okWide Try.prog w r b0 54 v) (h : DataW.Trod enc Try.prog w base spare held 54 v d p) : ∃ t : DTrip, v = dtripV t := by
  obtain ⟨cs, rfl, hsz⟩ := okWide_struct Try.underlying54 hv
  obtain ⟨l⟩ := cs
  match l, hsz.trans Try.cellsDTrip with
  | [v0, v1, v2, v3], _ =>
    obtain ⟨fuel, hf⟩ := h
    have hy : DataW.trod enc Try.prog w base spare held fuel 54 [v0, v1, v2, v3] = some (d, p) := by simpa [Value.cells] using hf
    obtain ⟨t, rfl, rfl, rfl, rfl⟩ := tripCells hy
    exact ⟨t, rfl⟩
set_option maxRecDepth 100000 in
theorem openCase {r : Reach} {b0 : Nat} {v : Value} {d : DataW H} {p : List MemPlace} (hv : Value.okWide Try.prog w r b0 62 v) (h : DataW.Trod enc Try.prog w base spare held 62 v d p) : ∃ (t : DTrip) (n : Int), v = caseV t n := by
  obtain ⟨cs, rfl, hsz⟩ := okWide_struct Try.underlying62 hv
  obtain ⟨l⟩ := cs
  match l, hsz.trans Try.cellsDCase with
  | [v0, v1, v2, v3, v4], _ =>
    obtain ⟨fuel, hf⟩ := h
    have hy : DataW.trod enc Try.prog w base spare held fuel 62 [v0, v1, v2, v3, v4] = some (d, p) := by simpa [Value.cells] using hf
    obtain ⟨y1, n1, q0⟩ := fieldCells Try.underlying62 hy 0 _ rfl
    have q1 : DataW.trod enc Try.prog w base spare held n1 54 (([v0, v1, v2, v3, v4].drop 0).take (Try.prog.cellsOf 54)) = some y1 := q0
    rw [Try.cellsDTrip] at q1
    have q2 : DataW.trod enc Try.prog w base spare held n1 54 [v0, v1, v2, v3] = some y1 := q1
    obtain ⟨t, rfl, rfl, rfl, rfl⟩ := tripCells q2
    obtain ⟨a4, g4⟩ := fieldInt Try.underlying62 hy 1 _ rfl rfl (by show _ < 5; decide)
    have e4 : some v4 = some (.int .i64 a4) := g4
    injection e4 with e4
    subst e4
    exact ⟨t, a4, rfl⟩
set_option maxRecDepth 100000 in
theorem openPlates {r : Reach} {b0 : Nat} {v : Value} {d : DataW H} {p : List MemPlace} (hv : Value.okWide Try.prog w r b0 103 v) (h : DataW.Trod enc Try.prog w base spare held 103 v d p) : ∃ (l : List Int) (A : Option Addr) (c : Nat) (x : Int), v = .agg #[.slice A l.length c, .int .i64 x] ∧ ArrI w A l c := by
  obtain ⟨cs, rfl, hsz⟩ := okWide_struct Try.underlying103 hv
  obtain ⟨l⟩ := cs
  match l, hsz.trans Try.cellsDPlates with
  | [v0, v1], _ =>
    obtain ⟨fuel, hf⟩ := h
    have hy : DataW.trod enc Try.prog w base spare held fuel 103 [v0, v1] = some (d, p) := by simpa [Value.cells] using hf
    obtain ⟨l0, A0, c0, h0, r0⟩ := fieldInts Try.underlying103 hy 0 _ rfl rfl (by show _ < 2; decide)
    obtain ⟨a1, g1⟩ := fieldInt Try.underlying103 hy 1 _ rfl rfl (by show _ < 2; decide)
    have e0 : some v0 = some (.slice A0 l0.length c0) := h0
    have e1 : some v1 = some (.int .i64 a1) := g1
    injection e0 with e0; injection e1 with e1
    subst e0; subst e1
    exact ⟨l0, A0, c0, a1, rfl, r0⟩
set_option maxRecDepth 100000 in
theorem openThree {r : Reach} {b0 : Nat} {v : Value} {d : DataW H} {p : List MemPlace} (hv : Value.okWide Try.prog w r b0 41 v) (h : DataW.Trod enc Try.prog w base spare held 41 v d p) : ∃ x y z : Int, v = .agg #[.int .i64 x, .int .i64 y, .int .i64 z] := by
  obtain ⟨cs, rfl, hsz⟩ := okWide_array Try.underlying41 hv
  obtain ⟨l⟩ := cs
  match l, hsz.trans Try.cellsThree with
  | [v0, v1, v2], _ =>
    obtain ⟨fuel, hf⟩ := h
    have hy : DataW.trod enc Try.prog w base spare held fuel 41 [v0, v1, v2] = some (d, p) := by simpa [Value.cells] using hf
    obtain ⟨xs, m, -, -, -, hl, hg⟩ := DataW.trod_array Try.underlying41 hy
    have h0 := hg 0 (by decide)
    have h1 := hg 1 (by decide)
    have h2 := hg 2 (by decide)
    rw [Try.cellsInt, List.getElem?_eq_getElem (by omega)] at h0 h1 h2
    obtain ⟨a0, g0, -⟩ := DataW.trod_int Try.underlying3 h0
    obtain ⟨a1, g1, -⟩ := DataW.trod_int Try.underlying3 h1
    obtain ⟨a2, g2, -⟩ := DataW.trod_int Try.underlying3 h2
    have e0 : [v0] = [.int .i64 a0] := g0
    have e1 : [v1] = [.int .i64 a1] := g1
    have e2 : [v2] = [.int .i64 a2] := g2
    injection e0 with e0; injection e1 with e1; injection e2 with e2
    subst e0; subst e1; subst e2
    exact ⟨a0, a1, a2, rfl⟩
set_option maxRecDepth 100000 in
theorem openStrs {r : Reach} {b0 : Nat} {v : Value} {d : DataW H} {p : List MemPlace} (hv : Value.okWide Try.prog w r b0 85 v) (h : DataW.Trod enc Try.prog w base spare held 85 v d p) : ∃ (l : List ByteArray) (A : Option Addr) (c : Nat), v = .slice A l.length c ∧ ArrS w A l c := by
  obtain ⟨a, n, c, rfl⟩ := okWide_slice Try.underlying85 hv
  obtain ⟨fuel, hf⟩ := h
  exact openTexts (by simpa [Value.cells] using hf)
end
end Go.Proofs.Ytolicafhbeiciaa
/- The law of trips: whether one is allowed, and the first rule that it breaks, are as specified. No condition. -/
namespace Go.Proofs.Ytolicafhbeiciaa
open Go.RowKit Fs



set_option linter.unusedSimpArgs false in
set_option maxHeartbeats 12800000 in
set_option maxRecDepth 100000 in
theorem lawAllows_any (R : DRules) (l : List WRec) (t : DTrip) (A : Option Addr) (c : Nat) (w : World) (h : ArrW w A l c) :
    Calls Try.prog 6 #[drulesV R, .slice A l.length c, dtripV t] w fun e w' => e = .returned (.bool true) ∧ Below w.heap.size w w' := by
  have b1 := h.le.1
  have b2 := h.le.2
  have HA := Lib.hid h
  clear h
  have BR := Lib.hid ((RulesIn.new w R 23).keep (Keep.alloc _ (.cells #[.int .i64 t.start, .int .i64 t.lo, .int .i64 t.hi, .int .i64 t.next] 54)))
  have BT := Lib.hid (show TripIn ((w.alloc (.cells #[.int .i64 R.brk, .int .i64 R.rest, .int .i64 R.stint, .int .i64 R.shift, .int .i64 R.week] 23)).alloc (.cells #[.int .i64 t.start, .int .i64 t.lo, .int .i64 t.hi, .int .i64 t.next] 54)) (w.heap.size + 1) t from ⟨cellNew1 _ _ _ _ 0, cellNew1 _ _ _ _ 1, cellNew1 _ _ _ _ 2, cellNew1 _ _ _ _ 3⟩)
  go_enter Try.func6, Try.ntmps6
  go_upto_region 1 with fail
  generalize hwb : (w.alloc _).alloc _ = wb at *
  have HW : Hid (Below w.heap.size w wb) := by rw [← hwb]; exact Lib.hid (((Below.refl _ _).alloc (Nat.le_refl _) _).alloc (by simp) _)
  clear hwb
  obtain ⟨t0, t1, t2, t3⟩ := BT.out
  obtain ⟨a0, a1, a2, a3, a4⟩ := BR.out
  go_wp2_with fail
  refine (lawAwake_any _).mono ?_
  rintro e' w1 ⟨rfl, hb1⟩
  replace HW := Lib.hid (HW.out.trans (hb1.mono HW.out.size))
  replace BT := Lib.hid (BT.out.keep (Keep.below hb1))
  replace BR := Lib.hid (BR.out.keep (Keep.below hb1))
  clear t0 t1 t2 t3 a0 a1 a2 a3 a4
  clear hb1
  go_wp2_with fail
  refine (lawFew_any l A c _ (HA.out.keep (Keep.below HW.out))).mono ?_
  rintro e' wA ⟨rfl, rfl⟩
  cases hf : fewR l with
  | false =>
    go_wp2_with fail
    go_ret
    exact ⟨rfl, HW.out⟩
  | true =>
    have hl := (fewR_is hf).1
    have hl : l.length ≤ 42 := by omega
    clear hf
    obtain ⟨wA, hwA⟩ : ∃ wz, wz = w1 := ⟨_, rfl⟩
    subst hwA
    obtain ⟨t0, t1, t2, t3⟩ := BT.out
    obtain ⟨a0, a1, a2, a3, a4⟩ := BR.out
    go_wp2_with fail
    have HBd : Hid (Below wA.heap.size wA wA.drew) := Lib.hid (Below.refl _ _).drew
    have MK : Hid (∀ w', Below wA.heap.size wA w' → w'.cell? ⟨w.heap.size, 0, none⟩ = some (.int .i64 R.brk) ∧ w'.cell? ⟨w.heap.size, 1, none⟩ = some (.int .i64 R.rest) ∧ w'.cell? ⟨w.heap.size, 2, none⟩ = some (.int .i64 R.stint) ∧ w'.cell? ⟨w.heap.size, 3, none⟩ = some (.int .i64 R.shift) ∧ w'.cell? ⟨w.heap.size, 4, none⟩ = some (.int .i64 R.week) ∧ w'.cell? ⟨w.heap.size + 1, 0, none⟩ = some (.int .i64 t.start) ∧ w'.cell? ⟨w.heap.size + 1, 1, none⟩ = some (.int .i64 t.lo) ∧ w'.cell? ⟨w.heap.size + 1, 2, none⟩ = some (.int .i64 t.hi) ∧ w'.cell? ⟨w.heap.size + 1, 3, none⟩ = some (.int .i64 t.next) ∧ Hid (Below wA.heap.size wA w')) :=
      Lib.hid fun w' hw => ⟨Keep.below hw _ _ a0, Keep.below hw _ _ a1, Keep.below hw _ _ a2, Keep.below hw _ _ a3, Keep.below hw _ _ a4, Keep.below hw _ _ t0, Keep.below hw _ _ t1, Keep.below hw _ _ t2, Keep.below hw _ _ t3, Lib.hid hw⟩
    have KA : Hid (∀ w', Below wA.heap.size wA w' → ArrW w' A l c) := Lib.hid fun w' hw => (HA.out.keep (Keep.below (HW.out.trans (hw.mono HW.out.size))))
    refine wp_region_held_drew (S := fun w' => w'.cell? ⟨w.heap.size, 0, none⟩ = some (.int .i64 R.brk) ∧ w'.cell? ⟨w.heap.size, 1, none⟩ = some (.int .i64 R.rest) ∧ w'.cell? ⟨w.heap.size, 2, none⟩ = some (.int .i64 R.stint) ∧ w'.cell? ⟨w.heap.size, 3, none⟩ = some (.int .i64 R.shift) ∧ w'.cell? ⟨w.heap.size, 4, none⟩ = some (.int .i64 R.week) ∧ w'.cell? ⟨w.heap.size + 1, 0, none⟩ = some (.int .i64 t.start) ∧ w'.cell? ⟨w.heap.size + 1, 1, none⟩ = some (.int .i64 t.lo) ∧ w'.cell? ⟨w.heap.size + 1, 2, none⟩ = some (.int .i64 t.hi) ∧ w'.cell? ⟨w.heap.size + 1, 3, none⟩ = some (.int .i64 t.next) ∧ Hid (Below wA.heap.size wA w')) (by kernel_rfl) (MK.out _ HBd.out) (fun hHeld => ?_)
    refine wpAnyH_take (i := 0) (v := ?val0x1) rfl (by kernel_rfl) (by kernel_rfl) (by kernel_rfl) (fun _ _ _ h => h) (Or.inl ⟨by rfl, fun w9 hS9 => ?yields0x1⟩) (by assumption) ?later0x1
    case yields0x1 =>
      dsimp only at hS9
      go_simp
      try with_reducible rfl
    try simp only [Act.put, List.getElem_toArray, List.getElem_cons_succ, List.getElem_cons_zero, List.setIfInBounds_toArray, List.set_cons_zero, List.set_cons_succ]
    refine wpAnyH_take (i := 1) (v := ?val1x2) rfl (by kernel_rfl) (by kernel_rfl) (by kernel_rfl) (fun _ _ _ h => h) (Or.inl ⟨by rfl, fun w9 hS9 => ?yields1x2⟩) (by assumption) ?later1x2
    case yields1x2 =>
      dsimp only at hS9
      go_simp
      try with_reducible rfl
    try simp only [Act.put, List.getElem_toArray, List.getElem_cons_succ, List.getElem_cons_zero, List.setIfInBounds_toArray, List.set_cons_zero, List.set_cons_succ]
    refine wpAnyH_take (i := 3) (v := ?val3x3) rfl (by kernel_rfl) (by kernel_rfl) (by kernel_rfl) (fun _ _ _ h => h) (Or.inl ⟨by rfl, fun w9 hS9 => ?yields3x3⟩) (by assumption) ?later3x3
    case yields3x3 =>
      dsimp only at hS9
      go_simp
      try with_reducible rfl
    try simp only [Act.put, List.getElem_toArray, List.getElem_cons_succ, List.getElem_cons_zero, List.setIfInBounds_toArray, List.set_cons_zero, List.set_cons_succ]
    refine wpAnyH_ready (rs := [2]) (by kernel_rfl) (by simp) ?_
    refine AllReadyH.cons rfl (fun K hK => ?_) AllReadyH.nil
    go_simp
    go_at_call 20
    go_split_ands
    refine (rCopyRecords_any l A c _ (KA.out _ (Hid.out (by assumption))) (by omega)).mono ?_
    rintro e' wz5 ⟨v5, rfl, h5, hb1⟩
    obtain ⟨A5, c5, rfl, h6⟩ := own_recs h5
    have H5 := Lib.hid h6
    clear h5 h6
    go_wp2_with fail
    refine hK.out _ _ ?_ (fun hHeld => ?_)
    · (try dsimp only)
      (go_split_ands; exact MK.out _ (Below.trans (Hid.out (by assumption)) (hb1.mono (Hid.out (by assumption) : Below wA.heap.size wA _).size)))
    clear hK K
    try simp only [Act.put, List.getElem_toArray, List.getElem_cons_succ, List.getElem_cons_zero, List.setIfInBounds_toArray, List.set_cons_zero, List.set_cons_succ]
    refine wpAnyH_ready (rs := [4]) (by kernel_rfl) (by simp) ?_
    refine AllReadyH.cons rfl (fun K hK => ?_) AllReadyH.nil
    go_simp
    go_at_call 31
    go_split_ands
    refine (xAllowed_any R l A5 c5 t _ H5.out).mono ?_
    rintro e' wz7 ⟨rfl, hb1⟩
    clear H5
    go_wp2_with fail
    refine hK.out _ _ ?_ (fun hHeld => ?_)
    · (try dsimp only)
      (go_split_ands; exact MK.out _ (Below.trans (Hid.out (by assumption)) (hb1.mono (Hid.out (by assumption) : Below wA.heap.size wA _).size)))
    clear hK K
    try simp only [Act.put, List.getElem_toArray, List.getElem_cons_succ, List.getElem_cons_zero, List.setIfInBounds_toArray, List.set_cons_zero, List.set_cons_succ]
    refine wpAnyH_take (i := 5) (v := ?val5x4) rfl (by kernel_rfl) (by kernel_rfl) (by kernel_rfl) (fun _ _ _ h => h) (Or.inl ⟨by rfl, fun w9 hS9 => ?yields5x4⟩) (by assumption) ?later5x4
    case yields5x4 =>
      dsimp only at hS9
      go_simp
      try with_reducible rfl
    try simp only [Act.put, List.getElem_toArray, List.getElem_cons_succ, List.getElem_cons_zero, List.setIfInBounds_toArray, List.set_cons_zero, List.set_cons_succ]
    refine wpAnyH_take (i := 6) (v := ?val6x5) rfl (by kernel_rfl) (by kernel_rfl) (by kernel_rfl) (fun _ _ _ h => h) (Or.inl ⟨by rfl, fun w9 hS9 => ?yields6x5⟩) (by assumption) ?later6x5
    case yields6x5 =>
      dsimp only at hS9
      go_simp
      try with_reducible rfl
    try simp only [Act.put, List.getElem_toArray, List.getElem_cons_succ, List.getElem_cons_zero, List.setIfInBounds_toArray, List.set_cons_zero, List.set_cons_succ]
    refine wpAnyH_take (i := 7) (v := ?val7x6) rfl (by kernel_rfl) (by kernel_rfl) (by kernel_rfl) (fun _ _ _ h => h) (Or.inl ⟨by rfl, fun w9 hS9 => ?yields7x6⟩) (by assumption) ?later7x6
    case yields7x6 =>
      dsimp only at hS9
      go_simp
      try with_reducible rfl
    try simp only [Act.put, List.getElem_toArray, List.getElem_cons_succ, List.getElem_cons_zero, List.setIfInBounds_toArray, List.set_cons_zero, List.set_cons_succ]
    refine wpAnyH_take (i := 8) (v := ?val8x7) rfl (by kernel_rfl) (by kernel_rfl) (by kernel_rfl) (fun _ _ _ h => h) (Or.inl ⟨by rfl, fun w9 hS9 => ?yields8x7⟩) (by assumption) ?later8x7
    case yields8x7 =>
      dsimp only at hS9
      go_simp
      try with_reducible rfl
    try simp only [Act.put, List.getElem_toArray, List.getElem_cons_succ, List.getElem_cons_zero, List.setIfInBounds_toArray, List.set_cons_zero, List.set_cons_succ]
    refine wpAnyH_take (i := 9) (v := ?val9x8) rfl (by kernel_rfl) (by kernel_rfl) (by kernel_rfl) (fun _ _ _ h => h) (Or.inl ⟨by rfl, fun w9 hS9 => ?yields9x8⟩) (by assumption) ?later9x8
    case yields9x8 =>
      dsimp only at hS9
      go_simp
      try with_reducible rfl
    try simp only [Act.put, List.getElem_toArray, List.getElem_cons_succ, List.getElem_cons_zero, List.setIfInBounds_toArray, List.set_cons_zero, List.set_cons_succ]
    refine wpAnyH_take (i := 10) (v := ?val10x9) rfl (by kernel_rfl) (by kernel_rfl) (by kernel_rfl) (fun _ _ _ h => h) (Or.inl ⟨by rfl, fun w9 hS9 => ?yields10x9⟩) (by assumption) ?later10x9
    case yields10x9 =>
      dsimp only at hS9
      go_simp
      try with_reducible rfl
    try simp only [Act.put, List.getElem_toArray, List.getElem_cons_succ, List.getElem_cons_zero, List.setIfInBounds_toArray, List.set_cons_zero, List.set_cons_succ]
    refine wpAnyH_take (i := 11) (v := ?val11x10) rfl (by kernel_rfl) (by kernel_rfl) (by kernel_rfl) (fun _ _ _ h => h) (Or.inl ⟨by rfl, fun w9 hS9 => ?yields11x10⟩) (by assumption) ?later11x10
    case yields11x10 =>
      dsimp only at hS9
      go_simp
      try with_reducible rfl
    try simp only [Act.put, List.getElem_toArray, List.getElem_cons_succ, List.getElem_cons_zero, List.setIfInBounds_toArray, List.set_cons_zero, List.set_cons_succ]
    refine wpAnyH_done (by kernel_rfl) ?_ _
    obtain ⟨-, -, -, -, -, -, -, -, -, HB⟩ := hHeld
    clear HBd MK
    clear KA
    replace HW := Lib.hid (HW.out.trans (HB.out.mono HW.out.size))
    replace BT := Lib.hid (BT.out.keep (Keep.below HB.out))
    replace BR := Lib.hid (BR.out.keep (Keep.below HB.out))
    clear HB
    clear t0 t1 t2 t3 a0 a1 a2 a3 a4
    obtain ⟨wB, hwB⟩ : ∃ wz, wz = wz7 := ⟨_, rfl⟩
    subst hwB
    obtain ⟨t0, t1, t2, t3⟩ := BT.out
    obtain ⟨a0, a1, a2, a3, a4⟩ := BR.out
    go_wp2_with fail
    refine (lawTripErr_any R l t A c _ (HA.out.keep (Keep.below HW.out))).mono ?_
    rintro e' w3 ⟨rfl, hb1⟩
    replace HW := Lib.hid (HW.out.trans (hb1.mono HW.out.size))
    replace BT := Lib.hid (BT.out.keep (Keep.below hb1))
    replace BR := Lib.hid (BR.out.keep (Keep.below hb1))
    clear t0 t1 t2 t3 a0 a1 a2 a3 a4
    clear hb1
    by_cases he : lawTripErr R l t = 0
    · have HE := Lib.hid (lawTrip_ok he)
      have HR := Lib.hid (recs_right (both_ok HE.out.1).2)
      have HT := Lib.hid (dtrip_ok HE.out.2)
      rw [allowed_good he, he]
      clear he
      obtain ⟨t0, t1, t2, t3⟩ := BT.out
      obtain ⟨a0, a1, a2, a3, a4⟩ := BR.out
      go_wp2_with fail
      refine (rAllowed_any R l t A c _ (HA.out.keep (Keep.below HW.out)) HR.out HT.out.1 HT.out.2.1 HT.out.2.2.1).mono ?_
      rintro e' w4 ⟨rfl, hb1⟩
      replace HW := Lib.hid (HW.out.trans (hb1.mono HW.out.size))
      replace BT := Lib.hid (BT.out.keep (Keep.below hb1))
      replace BR := Lib.hid (BR.out.keep (Keep.below hb1))
      clear t0 t1 t2 t3 a0 a1 a2 a3 a4
      clear hb1
      go_wp2_with fail
      go_ret
      exact ⟨rfl, HW.out⟩
    · have e1 : (lawTripErr R l t == 0) = false := by simpa using he
      have e2 : (lawTripErr R l t != 0) = true := by simpa using he
      rw [allowed_bad he]
      clear he
      go_wp2_with fail
      go_ret
      exact ⟨rfl, HW.out⟩
end Go.Proofs.Ytolicafhbeiciaa

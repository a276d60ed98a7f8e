/- Arguments as they come read as a tariff and a trip. No condition. -/
import Derived.Test.YtbehabaoeicgeaaW13a
namespace Go.Proofs.Ytbehabaoeicgeaa
open Go.ChangeShapes Go.WideShapes Go.RowKit Go.Deep Fs

section
variable {H : Type} {enc : TypeId × Value → H} {w : World} {base : Nat} {spare : Nat → Bool} {held : Bool}
/-- A rule and where its lists lie. -/
abbrev RuleX := Rule × Option Addr × Option Addr × Nat × Nat
def ruleX0 : RuleX := (r0, none, none, 0, 0)
theorem openRules {fuel : Nat} {v : Value} {x : DataW H × List MemPlace} (h : DataW.trod enc Try.prog w base spare held fuel 24 [v] = some x) : ∃ l A c a, v = .slice A (List.length l) c ∧ ArrR w A l c a := by
  obtain ⟨l, A, c, hv, ha, hr⟩ := openArr ruleX0 (fun u j => ruleCells u.1 u.2.1 u.2.2.1 u.2.2.2.1 u.2.2.2.2 j) (fun u => ArrI w u.2.1 u.1.zones u.2.2.2.1 ∧ ArrI w u.2.2.1 u.1.days u.2.2.2.2) Try.underlying24 Try.cellsRule (by decide) (fun n cs y hy => by
    have hl := (structLen Try.underlying63 hy).trans Try.cellsRule
    obtain ⟨a0, h0⟩ := fieldText Try.underlying63 hy 0 _ rfl rfl (by rw [hl]; decide)
    obtain ⟨a1, h1⟩ := fieldInt Try.underlying63 hy 1 _ rfl rfl (by rw [hl]; decide)
    obtain ⟨a2, h2⟩ := fieldInt Try.underlying63 hy 2 _ rfl rfl (by rw [hl]; decide)
    obtain ⟨a3, A3, c3, h3, r3⟩ := fieldInts Try.underlying63 hy 3 _ rfl rfl (by rw [hl]; decide)
    obtain ⟨a4, A4, c4, h4, r4⟩ := fieldInts Try.underlying63 hy 4 _ rfl rfl (by rw [hl]; decide)
    obtain ⟨a5, h5⟩ := fieldInt Try.underlying63 hy 5 _ rfl rfl (by rw [hl]; decide)
    obtain ⟨a6, h6⟩ := fieldInt Try.underlying63 hy 6 _ rfl rfl (by rw [hl]; decide)
    obtain ⟨a7, h7⟩ := fieldInt Try.underlying63 hy 7 _ rfl rfl (by rw [hl]; decide)
    obtain ⟨a8, h8⟩ := fieldInt Try.underlying63 hy 8 _ rfl rfl (by rw [hl]; decide)
    obtain ⟨a9, h9⟩ := fieldInt Try.underlying63 hy 9 _ rfl rfl (by rw [hl]; decide)
    refine ⟨(⟨a0, a1, a2, a3, a4, a5, a6, a7, a8, a9⟩, A3, A4, c3, c4), ⟨r3, r4⟩, fun j hj => ?_⟩
    match j, hj with
    | 0, _ => exact h0
    | 1, _ => exact h1
    | 2, _ => exact h2
    | 3, _ => exact h3
    | 4, _ => exact h4
    | 5, _ => exact h5
    | 6, _ => exact h6
    | 7, _ => exact h7
    | 8, _ => exact h8
    | 9, _ => exact h9) h
  have hlen : (l.map (·.1)).length = l.length := by simp
  have hget : ∀ i, listR (l.map (·.1)) i = (l.getD i ruleX0).1 := fun i => by
    unfold listR
    rw [List.getD_eq_getElem?_getD, List.getD_eq_getElem?_getD, List.getElem?_map]
    cases l[i]? <;> rfl
  refine ⟨l.map (·.1), A, c, ⟨fun i => (l.getD i ruleX0).2.1, fun i => (l.getD i ruleX0).2.2.1, fun i => (l.getD i ruleX0).2.2.2.1, fun i => (l.getD i ruleX0).2.2.2.2⟩, by rw [hlen]; exact hv, ?_, fun i hi => ?_⟩
  · rw [hlen]
    simp only [hget]
    exact ha
  · rw [hlen] at hi
    rw [hget]
    exact hr i hi
theorem openExtras {fuel : Nat} {v : Value} {x : DataW H × List MemPlace} (h : DataW.trod enc Try.prog w base spare held fuel 25 [v] = some x) : ∃ l A c, v = .slice A (List.length l) c ∧ ArrE w A l c := by
  obtain ⟨l, A, c, hv, ha, -⟩ := openArr e0 extraCells (fun _ => True) Try.underlying25 Try.cellsExtra (by decide) (fun n cs y hy => by
    have hl := (structLen Try.underlying65 hy).trans Try.cellsExtra
    obtain ⟨a0, h0⟩ := fieldText Try.underlying65 hy 0 _ rfl rfl (by rw [hl]; decide)
    obtain ⟨a1, h1⟩ := fieldInt Try.underlying65 hy 1 _ rfl rfl (by rw [hl]; decide)
    refine ⟨⟨a0, a1⟩, trivial, fun j hj => ?_⟩
    match j, hj with
    | 0, _ => exact h0
    | 1, _ => exact h1) h
  exact ⟨l, A, c, hv, ha⟩
theorem openFixed {fuel : Nat} {v : Value} {x : DataW H × List MemPlace} (h : DataW.trod enc Try.prog w base spare held fuel 26 [v] = some x) : ∃ l A c, v = .slice A (List.length l) c ∧ ArrF w A l c := by
  obtain ⟨l, A, c, hv, ha, -⟩ := openArr f0 fixCells (fun _ => True) Try.underlying26 Try.cellsFix (by decide) (fun n cs y hy => by
    have hl := (structLen Try.underlying82 hy).trans Try.cellsFix
    obtain ⟨a0, h0⟩ := fieldInt Try.underlying82 hy 0 _ rfl rfl (by rw [hl]; decide)
    obtain ⟨a1, h1⟩ := fieldInt Try.underlying82 hy 1 _ rfl rfl (by rw [hl]; decide)
    obtain ⟨a2, h2⟩ := fieldInt Try.underlying82 hy 2 _ rfl rfl (by rw [hl]; decide)
    refine ⟨⟨a0, a1, a2⟩, trivial, fun j hj => ?_⟩
    match j, hj with
    | 0, _ => exact h0
    | 1, _ => exact h1
    | 2, _ => exact h2) h
  exact ⟨l, A, c, hv, ha⟩
theorem openSegs {fuel : Nat} {v : Value} {x : DataW H × List MemPlace} (h : DataW.trod enc Try.prog w base spare held fuel 31 [v] = some x) : ∃ l A c, v = .slice A (List.length l) c ∧ ArrG w A l c := by
  obtain ⟨l, A, c, hv, ha, -⟩ := openArr s0 segCells (fun _ => True) Try.underlying31 Try.cellsSeg (by decide) (fun n cs y hy => by
    have hl := (structLen Try.underlying40 hy).trans Try.cellsSeg
    obtain ⟨a0, h0⟩ := fieldInt Try.underlying40 hy 0 _ rfl rfl (by rw [hl]; decide)
    obtain ⟨a1, h1⟩ := fieldInt Try.underlying40 hy 1 _ rfl rfl (by rw [hl]; decide)
    obtain ⟨a2, h2⟩ := fieldInt Try.underlying40 hy 2 _ rfl rfl (by rw [hl]; decide)
    refine ⟨⟨a0, a1, a2⟩, trivial, fun j hj => ?_⟩
    match j, hj with
    | 0, _ => exact h0
    | 1, _ => exact h1
    | 2, _ => exact h2) h
  exact ⟨l, A, c, hv, ha⟩
set_option maxRecDepth 100000 in
theorem openTar {r : Reach} {b0 : Nat} {v : Value} {d : DataW H} {p : List MemPlace} (hv : Value.okWide Try.prog w r b0 28 v) (h : DataW.Trod enc Try.prog w base spare held 28 v d p) : ∃ T, RdTar w v T := by
  obtain ⟨cs, rfl, hsz⟩ := okWide_struct Try.underlying28 hv
  obtain ⟨l⟩ := cs
  match l, hsz.trans Try.cellsTar with
  | [v0, v1, v2, v3, v4, v5, v6, v7], _ =>
    obtain ⟨fuel, hf⟩ := h
    have hy : DataW.trod enc Try.prog w base spare held fuel 28 [v0, v1, v2, v3, v4, v5, v6, v7] = some (d, p) := by simpa [Value.cells] using hf
    obtain ⟨a0, h0⟩ := fieldText Try.underlying28 hy 0 _ rfl rfl (by show _ < 8; decide)
    obtain ⟨a1, h1⟩ := fieldInt Try.underlying28 hy 1 _ rfl rfl (by show _ < 8; decide)
    obtain ⟨a2, h2⟩ := fieldInt Try.underlying28 hy 2 _ rfl rfl (by show _ < 8; decide)
    obtain ⟨u3, y3, n3, g3, k3⟩ := fieldOne Try.underlying28 hy 3 _ rfl Try.cellsTexts (by show _ < 8; decide)
    obtain ⟨u4, y4, n4, g4, k4⟩ := fieldOne Try.underlying28 hy 4 _ rfl Try.cellsInts (by show _ < 8; decide)
    obtain ⟨u5, y5, n5, g5, k5⟩ := fieldOne Try.underlying28 hy 5 _ rfl Try.cellsRules (by show _ < 8; decide)
    obtain ⟨u6, y6, n6, g6, k6⟩ := fieldOne Try.underlying28 hy 6 _ rfl Try.cellsExtras (by show _ < 8; decide)
    obtain ⟨u7, y7, n7, g7, k7⟩ := fieldOne Try.underlying28 hy 7 _ rfl Try.cellsFixeds (by show _ < 8; decide)
    obtain ⟨l3, A3, c3, rfl, r3⟩ := openTexts k3
    obtain ⟨l4, A4, c4, rfl, r4⟩ := openInts k4
    obtain ⟨l5, A5, c5, a5, rfl, r5⟩ := openRules k5
    obtain ⟨l6, A6, c6, rfl, r6⟩ := openExtras k6
    obtain ⟨l7, A7, c7, rfl, r7⟩ := openFixed k7
    have e0 : some v0 = some (.string a0) := h0
    have e1 : some v1 = some (.int .i64 a1) := h1
    have e2 : some v2 = some (.int .i64 a2) := h2
    have e3 : some v3 = some (.slice A3 l3.length c3) := g3
    have e4 : some v4 = some (.slice A4 l4.length c4) := g4
    have e5 : some v5 = some (.slice A5 l5.length c5) := g5
    have e6 : some v6 = some (.slice A6 l6.length c6) := g6
    have e7 : some v7 = some (.slice A7 l7.length c7) := g7
    injection e0 with e0; injection e1 with e1; injection e2 with e2; injection e3 with e3; injection e4 with e4; injection e5 with e5; injection e6 with e6; injection e7 with e7
    subst e0; subst e1; subst e2; subst e3; subst e4; subst e5; subst e6; subst e7
    exact ⟨⟨a0, a1, a2, l3, l4, l5, l6, l7⟩, A3, A4, A5, A6, A7, c3, c4, c5, c6, c7, a5, rfl, r3, r4, r5, r6, r7⟩
set_option maxRecDepth 100000 in
theorem openTrip {r : Reach} {b0 : Nat} {v : Value} {d : DataW H} {p : List MemPlace} (hv : Value.okWide Try.prog w r b0 33 v) (h : DataW.Trod enc Try.prog w base spare held 33 v d p) : ∃ X, RdTrip w v X := by
  obtain ⟨cs, rfl, hsz⟩ := okWide_struct Try.underlying33 hv
  obtain ⟨l⟩ := cs
  match l, hsz.trans Try.cellsTrip with
  | [v0, v1, v2, v3, v4], _ =>
    obtain ⟨fuel, hf⟩ := h
    have hy : DataW.trod enc Try.prog w base spare held fuel 33 [v0, v1, v2, v3, v4] = some (d, p) := by simpa [Value.cells] using hf
    obtain ⟨y0, n0, g0⟩ := fieldCells Try.underlying33 hy 0 _ rfl
    have g1 : DataW.trod enc Try.prog w base spare held n0 30 (([v0, v1, v2, v3, v4].drop 0).take (Try.prog.cellsOf 30)) = some y0 := g0
    rw [Try.cellsMoment] at g1
    have g0' : DataW.trod enc Try.prog w base spare held n0 30 [v0, v1] = some y0 := g1
    obtain ⟨a0, h0⟩ := fieldInt Try.underlying30 g0' 0 _ rfl rfl (by show _ < 2; decide)
    obtain ⟨a1, h1⟩ := fieldInt Try.underlying30 g0' 1 _ rfl rfl (by show _ < 2; decide)
    obtain ⟨u2, y2, n2, g2, k2⟩ := fieldOne Try.underlying33 hy 1 _ rfl Try.cellsBool (by show _ < 5; decide)
    obtain ⟨u3, y3, n3, g3, k3⟩ := fieldOne Try.underlying33 hy 2 _ rfl Try.cellsInts (by show _ < 5; decide)
    obtain ⟨u4, y4, n4, g4, k4⟩ := fieldOne Try.underlying33 hy 3 _ rfl Try.cellsSegs (by show _ < 5; decide)
    obtain ⟨b2, hb2, -⟩ := DataW.trod_bool Try.underlying4 k2
    obtain ⟨l3, A3, c3, rfl, r3⟩ := openInts k3
    obtain ⟨l4, A4, c4, rfl, r4⟩ := openSegs k4
    injection hb2 with hb2
    subst hb2
    have e0 : some v0 = some (.int .i64 a0) := h0
    have e1 : some v1 = some (.int .i64 a1) := h1
    have e2 : some v2 = some (.bool b2) := g2
    have e3 : some v3 = some (.slice A3 l3.length c3) := g3
    have e4 : some v4 = some (.slice A4 l4.length c4) := g4
    injection e0 with e0; injection e1 with e1; injection e2 with e2; injection e3 with e3; injection e4 with e4
    subst e0; subst e1; subst e2; subst e3; subst e4
    exact ⟨⟨a0, a1, b2, l3, l4⟩, A3, A4, c3, c4, rfl, r3, r4⟩
set_option maxRecDepth 100000 in
theorem openMore {r : Reach} {b0 : Nat} {v : Value} {d : DataW H} {p : List MemPlace} (hv : Value.okWide Try.prog w r b0 23 v) (h : DataW.Trod enc Try.prog w base spare held 23 v d p) : ∃ (l : List Int) (A : Option Addr) (c : Nat), v = .slice A l.length c ∧ ArrI w A l c := by
  obtain ⟨A, len, cap, rfl⟩ := okWide_slice Try.underlying23 hv
  obtain ⟨fuel, hf⟩ := h
  exact openInts (v := .slice A len cap) (by simpa [Value.cells] using hf)
end
end Go.Proofs.Ytbehabaoeicgeaa

/- An argument as it comes reads as a driver's day. No condition. -/
import Derived.Test.YtolicafhbeiciaaE9
import Derived.Test.YtolicafhbeiciaaE22
namespace Go.Proofs.Ytolicafhbeiciaa
open Go.ChangeShapes Go.WideShapes Go.RowKit Go.Deep Fs

theorem Try.cellsDone : Try.prog.cellsOf 120 = 4 := by kernel_rfl
theorem Try.cellsDones : Try.prog.cellsOf 115 = 1 := by kernel_rfl
theorem Try.cellsDay : Try.prog.cellsOf 117 = 6 := by kernel_rfl
section
variable {H : Type} {enc : TypeId × Value → H} {w : World} {base : Nat} {spare : Nat → Bool} {held : Bool}
set_option maxRecDepth 100000 in
theorem openDones {fuel : Nat} {v : Value} {x : DataW H × List MemPlace} (h : DataW.trod enc Try.prog w base spare held fuel 115 [v] = some x) : ∃ (l : List DTrip) (A : Option Addr) (c : Nat), v = .slice A l.length c ∧ ArrT w A l c := by
  obtain ⟨l, A, c, hv, ha, -⟩ := openArr t0D doneCells (fun _ => True) Try.underlying115 Try.cellsDone (by decide) (fun n cs y hy => by
    have hl := (structLen Try.underlying120 hy).trans Try.cellsDone
    match cs, hl with
    | [v0, v1, v2, v3], _ =>
      obtain ⟨a0, h0⟩ := fieldInt Try.underlying120 hy 0 _ rfl rfl (by show _ < 4; decide)
      obtain ⟨y1, n1, g0⟩ := fieldCells Try.underlying120 hy 1 _ rfl
      have g1 : DataW.trod enc Try.prog w base spare held n1 52 (([v0, v1, v2, v3].drop 1).take (Try.prog.cellsOf 52)) = some y1 := g0
      rw [Try.cellsRange] at g1
      have g2 : DataW.trod enc Try.prog w base spare held n1 52 [v1, v2] = some y1 := g1
      obtain ⟨a1, h1⟩ := fieldInt Try.underlying52 g2 0 _ rfl rfl (by show _ < 2; decide)
      obtain ⟨a2, h2⟩ := fieldInt Try.underlying52 g2 1 _ rfl rfl (by show _ < 2; decide)
      obtain ⟨a3, h3⟩ := fieldInt Try.underlying120 hy 2 _ rfl rfl (by show _ < 4; decide)
      have e0 : some v0 = some (.int .i64 a0) := h0
      have e1 : some v1 = some (.int .i64 a1) := h1
      have e2 : some v2 = some (.int .i64 a2) := h2
      have e3 : some v3 = some (.int .i64 a3) := h3
      injection e0 with e0; injection e1 with e1; injection e2 with e2; injection e3 with e3
      subst e0; subst e1; subst e2; subst e3
      refine ⟨⟨a0, a1, a2, a3⟩, trivial, fun j hj => ?_⟩
      match j, hj with
      | 0, _ => rfl
      | 1, _ => rfl
      | 2, _ => rfl
      | 3, _ => rfl) h
  exact ⟨l, A, c, hv, ha⟩
set_option maxRecDepth 100000 in
theorem openDay {r : Reach} {b0 : Nat} {v : Value} {d : DataW H} {p : List MemPlace} (hv : Value.okWide Try.prog w r b0 117 v) (h : DataW.Trod enc Try.prog w base spare held 117 v d p) :
    ∃ (R : DRules) (l : List DTrip) (A : Option Addr) (c : Nat), v = .agg #[.int .i64 R.brk, .int .i64 R.rest, .int .i64 R.stint, .int .i64 R.shift, .int .i64 R.week, .slice A l.length c] ∧ ArrT w A l c := by
  obtain ⟨cs, rfl, hsz⟩ := okWide_struct Try.underlying117 hv
  obtain ⟨l⟩ := cs
  match l, hsz.trans Try.cellsDay with
  | [v0, v1, v2, v3, v4, v5], _ =>
    obtain ⟨fuel, hf⟩ := h
    have hy : DataW.trod enc Try.prog w base spare held fuel 117 [v0, v1, v2, v3, v4, v5] = some (d, p) := by simpa [Value.cells] using hf
    obtain ⟨y1, n1, q0⟩ := fieldCells Try.underlying117 hy 0 _ rfl
    have q1 : DataW.trod enc Try.prog w base spare held n1 23 (([v0, v1, v2, v3, v4, v5].drop 0).take (Try.prog.cellsOf 23)) = some y1 := q0
    rw [Try.cellsDRules] at q1
    have q2 : DataW.trod enc Try.prog w base spare held n1 23 [v0, v1, v2, v3, v4] = some y1 := q1
    obtain ⟨a0, g0⟩ := fieldInt Try.underlying23 q2 0 _ rfl rfl (by show _ < 5; decide)
    obtain ⟨a1, g1⟩ := fieldInt Try.underlying23 q2 1 _ rfl rfl (by show _ < 5; decide)
    obtain ⟨a2, g2⟩ := fieldInt Try.underlying23 q2 2 _ rfl rfl (by show _ < 5; decide)
    obtain ⟨a3, g3⟩ := fieldInt Try.underlying23 q2 3 _ rfl rfl (by show _ < 5; decide)
    obtain ⟨a4, g4⟩ := fieldInt Try.underlying23 q2 4 _ rfl rfl (by show _ < 5; decide)
    obtain ⟨y2, n2, k0⟩ := fieldCells Try.underlying117 hy 1 _ rfl
    have k1 : DataW.trod enc Try.prog w base spare held n2 115 (([v0, v1, v2, v3, v4, v5].drop 5).take (Try.prog.cellsOf 115)) = some y2 := k0
    rw [Try.cellsDones] at k1
    have k2 : DataW.trod enc Try.prog w base spare held n2 115 [v5] = some y2 := k1
    obtain ⟨l5, A5, c5, rfl, r5⟩ := openDones k2
    have e0 : some v0 = some (.int .i64 a0) := g0
    have e1 : some v1 = some (.int .i64 a1) := g1
    have e2 : some v2 = some (.int .i64 a2) := g2
    have e3 : some v3 = some (.int .i64 a3) := g3
    have e4 : some v4 = some (.int .i64 a4) := g4
    injection e0 with e0; injection e1 with e1; injection e2 with e2; injection e3 with e3; injection e4 with e4
    subst e0; subst e1; subst e2; subst e3; subst e4
    exact ⟨⟨a0, a1, a2, a3, a4⟩, l5, A5, c5, rfl, r5⟩
end
end Go.Proofs.Ytolicafhbeiciaa

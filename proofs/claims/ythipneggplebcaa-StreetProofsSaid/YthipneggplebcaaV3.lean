/- An argument as it comes reads as labels and a way. No condition. -/
import Derived.Test.YthipneggplebcaaV1
namespace Go.Proofs.Ythipneggplebcaa
open Go.ChangeShapes Go.WideShapes Go.RowKit Go.Deep Fs

theorem Try.cellsLabels : Try.prog.cellsOf 65 = 2 := by kernel_rfl
theorem Try.cellsClaim : Try.prog.cellsOf 76 = 3 := by kernel_rfl
section
variable {H : Type} {enc : TypeId × Value → H} {w : World} {base : Nat} {spare : Nat → Bool} {held : Bool}
set_option maxRecDepth 100000 in
theorem openClaim {r : Reach} {b0 : Nat} {v : Value} {d : DataW H} {p : List MemPlace} (hv : Value.okWide Try.prog w r b0 76 v) (h : DataW.Trod enc Try.prog w base spare held 76 v d p) :
    ∃ (l m q : List Int) (A B D : Option Addr) (c e k : Nat), v = .agg #[.slice A l.length c, .slice B m.length e, .slice D q.length k] ∧ ArrI w A l c ∧ ArrI w B m e ∧ ArrI w D q k := by
  obtain ⟨cs, rfl, hsz⟩ := okWide_struct Try.underlying76 hv
  obtain ⟨l⟩ := cs
  match l, hsz.trans Try.cellsClaim with
  | [v0, v1, v2], _ =>
    obtain ⟨fuel, hf⟩ := h
    have hy : DataW.trod enc Try.prog w base spare held fuel 76 [v0, v1, v2] = some (d, p) := by simpa [Value.cells] using hf
    obtain ⟨y1, n1, g0⟩ := fieldCells Try.underlying76 hy 0 _ rfl
    have g1 : DataW.trod enc Try.prog w base spare held n1 65 (([v0, v1, v2].drop 0).take (Try.prog.cellsOf 65)) = some y1 := g0
    rw [Try.cellsLabels] at g1
    have g2 : DataW.trod enc Try.prog w base spare held n1 65 [v0, v1] = some y1 := g1
    obtain ⟨l0, A0, c0, h0, r0⟩ := fieldInts Try.underlying65 g2 0 _ rfl rfl (by show _ < 2; decide)
    obtain ⟨l1, A1, c1, h1, r1⟩ := fieldInts Try.underlying65 g2 1 _ rfl rfl (by show _ < 2; decide)
    obtain ⟨l2, A2, c2, h2, r2⟩ := fieldInts Try.underlying76 hy 1 _ rfl rfl (by show _ < 3; decide)
    have e0 : some v0 = some (.slice A0 l0.length c0) := h0
    have e1 : some v1 = some (.slice A1 l1.length c1) := h1
    have e2 : some v2 = some (.slice A2 l2.length c2) := h2
    injection e0 with e0; injection e1 with e1; injection e2 with e2
    subst e0; subst e1; subst e2
    exact ⟨l0, l1, l2, A0, A1, A2, c0, c1, c2, rfl, r0, r1, r2⟩
end
end Go.Proofs.Ythipneggplebcaa

/- Arguments as they come read as a way, a trip, two numbers. No condition. -/
import Derived.Test.YtbilomkoijomiaaV1
import Derived.OpenShut
namespace Go.Proofs.Ytbilomkoijomiaa
open Go.ChangeShapes Go.WideShapes Go.RowKit Go.Deep Fs

theorem Try.cellsPair : Try.prog.cellsOf 59 = 2 := by kernel_rfl
theorem Try.cellsTrip : Try.prog.cellsOf 63 = 3 := by kernel_rfl
theorem okWide_array {P : Program} {w : World} {r : Reach} {base n : Nat} {t e : TypeId} {v : Value} (ht : P.underlying t = some (.array n e)) (h : Value.okWide P w r base t v) : ∃ cs, v = .agg cs ∧ cs.size = P.cellsOf t := by
  simp only [Value.okWide, ht] at h
  obtain ⟨cs, h1, h2, _⟩ := h
  exact ⟨cs, h1, h2⟩
section
variable {H : Type} {enc : TypeId × Value → H} {w : World} {base : Nat} {spare : Nat → Bool} {held : Bool}
set_option maxRecDepth 100000 in
theorem openWay {r : Reach} {b0 : Nat} {v : Value} {d : DataW H} {p : List MemPlace} (hv : Value.okWide Try.prog w r b0 47 v) (h : DataW.Trod enc Try.prog w base spare held 47 v d p) : ∃ (l : List Int) (A : Option Addr) (c : Nat), v = .slice A l.length c ∧ ArrI w A l c := by
  obtain ⟨a, n, c, rfl⟩ := okWide_slice Try.underlying47 hv
  obtain ⟨fuel, hf⟩ := h
  exact openInts (by simpa [Value.cells] using hf)
set_option maxRecDepth 100000 in
theorem openTrip {r : Reach} {b0 : Nat} {v : Value} {d : DataW H} {p : List MemPlace} (hv : Value.okWide Try.prog w r b0 63 v) (h : DataW.Trod enc Try.prog w base spare held 63 v d p) : ∃ x y z : Int, v = .agg #[.int .i64 x, .int .i64 y, .int .i64 z] := by
  obtain ⟨cs, rfl, hsz⟩ := okWide_struct Try.underlying63 hv
  obtain ⟨l⟩ := cs
  match l, hsz.trans Try.cellsTrip with
  | [v0, v1, v2], _ =>
    obtain ⟨fuel, hf⟩ := h
    have hy : DataW.trod enc Try.prog w base spare held fuel 63 [v0, v1, v2] = some (d, p) := by simpa [Value.cells] using hf
    obtain ⟨a0, g0⟩ := fieldInt Try.underlying63 hy 0 _ rfl rfl (by show _ < 3; decide)
    obtain ⟨a1, g1⟩ := fieldInt Try.underlying63 hy 1 _ rfl rfl (by show _ < 3; decide)
    obtain ⟨a2, g2⟩ := fieldInt Try.underlying63 hy 2 _ rfl rfl (by show _ < 3; decide)
    have e0 : some v0 = some (.int .i64 a0) := g0
    have e1 : some v1 = some (.int .i64 a1) := g1
    have e2 : some v2 = some (.int .i64 a2) := g2
    injection e0 with e0; injection e1 with e1; injection e2 with e2
    subst e0; subst e1; subst e2
    exact ⟨a0, a1, a2, rfl⟩
set_option maxRecDepth 100000 in
theorem openPair {r : Reach} {b0 : Nat} {v : Value} {d : DataW H} {p : List MemPlace} (hv : Value.okWide Try.prog w r b0 59 v) (h : DataW.Trod enc Try.prog w base spare held 59 v d p) : ∃ x y : Int, v = .agg #[.int .i64 x, .int .i64 y] := by
  obtain ⟨cs, rfl, hsz⟩ := okWide_array Try.underlying59 hv
  obtain ⟨l⟩ := cs
  match l, hsz.trans Try.cellsPair with
  | [v0, v1], _ =>
    obtain ⟨fuel, hf⟩ := h
    have hy : DataW.trod enc Try.prog w base spare held fuel 59 [v0, v1] = some (d, p) := by simpa [Value.cells] using hf
    obtain ⟨xs, m, -, -, -, hl, hg⟩ := DataW.trod_array Try.underlying59 hy
    have h0 := hg 0 (by decide)
    have h1 := hg 1 (by decide)
    rw [Try.cellsInt, List.getElem?_eq_getElem (by omega)] at h0 h1
    obtain ⟨a0, g0, -⟩ := DataW.trod_int Try.underlying3 h0
    obtain ⟨a1, g1, -⟩ := DataW.trod_int Try.underlying3 h1
    have e0 : [v0] = [.int .i64 a0] := g0
    have e1 : [v1] = [.int .i64 a1] := g1
    injection e0 with e0; injection e1 with e1
    subst e0; subst e1
    exact ⟨a0, a1, rfl⟩
end
end Go.Proofs.Ytbilomkoijomiaa

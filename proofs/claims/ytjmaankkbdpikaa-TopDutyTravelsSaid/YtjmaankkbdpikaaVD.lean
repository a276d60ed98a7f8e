/- Arguments as they come read as records, rules, trips, plates. No condition. -/
import Derived.Test.YtjmaankkbdpikaaY9
import Derived.Test.YtjmaankkbdpikaaX11
namespace Go.Proofs.Ytjmaankkbdpikaa
open Go.ChangeShapes Go.WideShapes Go.RowKit Go.Deep Fs

theorem Try.cellsDRules : Try.prog.cellsOf 29 = 5 := by kernel_rfl
theorem Try.cellsDRec : Try.prog.cellsOf 91 = 3 := by kernel_rfl
theorem Try.cellsDTrip : Try.prog.cellsOf 45 = 4 := by kernel_rfl
section
variable {H : Type} {enc : TypeId × Value → H} {w : World} {base : Nat} {spare : Nat → Bool} {held : Bool}
set_option maxRecDepth 100000 in
theorem openRecs {r : Reach} {b0 : Nat} {v : Value} {d : DataW H} {p : List MemPlace} (hv : Value.okWide Try.prog w r b0 54 v) (h : DataW.Trod enc Try.prog w base spare held 54 v d p) : ∃ (l : List WRec) (A : Option Addr) (c : Nat), v = .slice A l.length c ∧ ArrW w A l c := by
  obtain ⟨a, n, c, rfl⟩ := okWide_slice Try.underlying54 hv
  obtain ⟨fuel, hf⟩ := h
  have hf2 : DataW.trod enc Try.prog w base spare held fuel 54 [.slice a n c] = some (d, p) := by simpa [Value.cells] using hf
  obtain ⟨l, A, c, hv, ha, -⟩ := openArr w0 recCells (fun _ => True) Try.underlying54 Try.cellsDRec (by decide) (fun n cs y hy => by
    have hl := (structLen Try.underlying91 hy).trans Try.cellsDRec
    match cs, hl with
    | [v0, v1, v2], _ =>
      obtain ⟨a0, h0⟩ := fieldText Try.underlying91 hy 0 _ rfl rfl (by show _ < 3; decide)
      obtain ⟨a1, h1⟩ := fieldInt Try.underlying91 hy 1 _ rfl rfl (by show _ < 3; decide)
      obtain ⟨a2, h2⟩ := fieldInt Try.underlying91 hy 2 _ rfl rfl (by show _ < 3; decide)
      have e0 : some v0 = some (.string a0) := h0
      have e1 : some v1 = some (.int .i64 a1) := h1
      have e2 : some v2 = some (.int .i64 a2) := h2
      injection e0 with e0; injection e1 with e1; injection e2 with e2
      subst e0; subst e1; subst e2
      refine ⟨⟨a0, a1, a2⟩, trivial, fun j hj => ?_⟩
      match j, hj with
      | 0, _ => rfl
      | 1, _ => rfl
      | 2, _ => rfl) hf2
  exact ⟨l, A, c, hv, ha⟩
set_option maxRecDepth 100000 in
theorem openRules {r : Reach} {b0 : Nat} {v : Value} {d : DataW H} {p : List MemPlace} (hv : Value.okWide Try.prog w r b0 29 v) (h : DataW.Trod enc Try.prog w base spare held 29 v d p) : ∃ R : DRules, v = drulesV R := by
  obtain ⟨cs, rfl, hsz⟩ := okWide_struct Try.underlying29 hv
  obtain ⟨l⟩ := cs
  match l, hsz.trans Try.cellsDRules with
  | [v0, v1, v2, v3, v4], _ =>
    obtain ⟨fuel, hf⟩ := h
    have hy : DataW.trod enc Try.prog w base spare held fuel 29 [v0, v1, v2, v3, v4] = some (d, p) := by simpa [Value.cells] using hf
    obtain ⟨a0, g0⟩ := fieldInt Try.underlying29 hy 0 _ rfl rfl (by show _ < 5; decide)
    have e0 : some v0 = some (.int .i64 a0) := g0
    injection e0 with e0
    subst e0
    obtain ⟨a1, g1⟩ := fieldInt Try.underlying29 hy 1 _ rfl rfl (by show _ < 5; decide)
    have e1 : some v1 = some (.int .i64 a1) := g1
    injection e1 with e1
    subst e1
    obtain ⟨a2, g2⟩ := fieldInt Try.underlying29 hy 2 _ rfl rfl (by show _ < 5; decide)
    have e2 : some v2 = some (.int .i64 a2) := g2
    injection e2 with e2
    subst e2
    obtain ⟨a3, g3⟩ := fieldInt Try.underlying29 hy 3 _ rfl rfl (by show _ < 5; decide)
    have e3 : some v3 = some (.int .i64 a3) := g3
    injection e3 with e3
    subst e3
    obtain ⟨a4, g4⟩ := fieldInt Try.underlying29 hy 4 _ rfl rfl (by show _ < 5; decide)
    have e4 : some v4 = some (.int .i64 a4) := g4
    injection e4 with e4
    subst e4
    exact ⟨⟨a0, a1, a2, a3, a4⟩, rfl⟩
/-- The cells of a trip. -/
theorem tripCells {fuel : Nat} {v0 v1 v2 v3 : Value} {y : DataW H × List MemPlace} (hy : DataW.trod enc Try.prog w base spare held fuel 45 [v0, v1, v2, v3] = some y) : ∃ t : DTrip, v0 = .int .i64 t.start ∧ v1 = .int .i64 t.lo ∧ v2 = .int .i64 t.hi ∧ v3 = .int .i64 t.next := by
  obtain ⟨a0, g0⟩ := fieldInt Try.underlying45 hy 0 _ rfl rfl (by show _ < 4; decide)
  obtain ⟨y1, n1, q0⟩ := fieldCells Try.underlying45 hy 1 _ rfl
  have q1 : DataW.trod enc Try.prog w base spare held n1 36 (([v0, v1, v2, v3].drop 1).take (Try.prog.cellsOf 36)) = some y1 := q0
  rw [Try.cellsRange] at q1
  have q2 : DataW.trod enc Try.prog w base spare held n1 36 [v1, v2] = some y1 := q1
  obtain ⟨a1, g1⟩ := fieldInt Try.underlying36 q2 0 _ rfl rfl (by show _ < 2; decide)
  obtain ⟨a2, g2⟩ := fieldInt Try.underlying36 q2 1 _ rfl rfl (by show _ < 2; decide)
  obtain ⟨a3, g3⟩ := fieldInt Try.underlying45 hy 2 _ rfl rfl (by show _ < 4; decide)
  have e0 : some v0 = some (.int .i64 a0) := g0
  have e1 : some v1 = some (.int .i64 a1) := g1
  have e2 : some v2 = some (.int .i64 a2) := g2
  have e3 : some v3 = some (.int .i64 a3) := g3
  injection e0 with e0; injection e1 with e1; injection e2 with e2; injection e3 with e3
  exact ⟨⟨a0, a1, a2, a3⟩, e0, e1, e2, e3⟩
set_option maxRecDepth 100000 in
theorem openDTrip {r : Reach} {b0 : Nat} {v : Value} {d : DataW H} {p : List MemPlace} (hv : Value.okWide Try.prog w r b0 45 v) (h : DataW.Trod enc Try.prog w base spare held 45 v d p) : ∃ t : DTrip, v = dtripV t := by
  obtain ⟨cs, rfl, hsz⟩ := okWide_struct Try.underlying45 hv
  obtain ⟨l⟩ := cs
  match l, hsz.trans Try.cellsDTrip with
  | [v0, v1, v2, v3], _ =>
    obtain ⟨fuel, hf⟩ := h
    have hy : DataW.trod enc Try.prog w base spare held fuel 45 [v0, v1, v2, v3] = some (d, p) := by simpa [Value.cells] using hf
    obtain ⟨t, rfl, rfl, rfl, rfl⟩ := tripCells hy
    exact ⟨t, rfl⟩
set_option maxRecDepth 100000 in
theorem openStrs {r : Reach} {b0 : Nat} {v : Value} {d : DataW H} {p : List MemPlace} (hv : Value.okWide Try.prog w r b0 22 v) (h : DataW.Trod enc Try.prog w base spare held 22 v d p) : ∃ (l : List ByteArray) (A : Option Addr) (c : Nat), v = .slice A l.length c ∧ ArrS w A l c := by
  obtain ⟨a, n, c, rfl⟩ := okWide_slice Try.underlying22 hv
  obtain ⟨fuel, hf⟩ := h
  exact openTexts (by simpa [Value.cells] using hf)
end
end Go.Proofs.Ytjmaankkbdpikaa
/- An argument as it comes reads as bytes, as numbers from 0 to 255. No condition. -/
namespace Go.Proofs.Ytjmaankkbdpikaa
open Go.ChangeShapes Go.WideShapes Go.RowKit Go.Deep Fs

def ArrU (w : World) (A : Option Addr) (l : List Int) (c : Nat) : Prop := Arr w A l.length c 1 fun i _ => .int .u8 (listI l i)
theorem ArrU.keep {w w' : World} (k : Keep w w') {A : Option Addr} {l : List Int} {c : Nat} (h : ArrU w A l c) : ArrU w' A l c := Arr.keep k h
theorem ArrU.le {w : World} {A : Option Addr} {l : List Int} {c : Nat} (h : ArrU w A l c) : l.length ≤ c ∧ c ≤ 9223372036854775807 := ⟨h.1, h.2.1⟩
theorem ArrU.at_ {w : World} {A : Option Addr} {l : List Int} {c : Nat} (h : ArrU w A l c) {k : Nat} (hk : k < l.length) : ∃ b o, A = some ⟨b, o, none⟩ ∧ w.cell? ⟨b, o + k, none⟩ = some (.int .u8 (listI l k)) := by
  obtain ⟨b, o, e, hc⟩ := Arr.at_ h hk
  have := hc 0 (by omega)
  rw [Nat.mul_one, Nat.add_zero] at this
  exact ⟨b, o, e, this⟩
theorem Try.cellsByte : Try.prog.cellsOf 5 = 1 := by kernel_rfl
section
variable {H : Type} {enc : TypeId × Value → H} {w : World} {base : Nat} {spare : Nat → Bool} {held : Bool}
end
end Go.Proofs.Ytjmaankkbdpikaa

/- Arguments as they come read as records, rules, trips, plates. No condition. -/
import Derived.Test.YtaihiahoedpbiaaY9
import Derived.Test.YtaihiahoedpbiaaX11
namespace Go.Proofs.Ytaihiahoedpbiaa
open Go.ChangeShapes Go.WideShapes Go.RowKit Go.Deep Fs

theorem Try.cellsDRules : Try.prog.cellsOf 23 = 5 := by kernel_rfl
theorem Try.cellsDRec : Try.prog.cellsOf 39 = 3 := by kernel_rfl
theorem Try.cellsDLic : Try.prog.cellsOf 148 = 3 := by kernel_rfl
theorem Try.cellsDUse : Try.prog.cellsOf 113 = 3 := by kernel_rfl
theorem Try.cellsDTrip : Try.prog.cellsOf 54 = 4 := by kernel_rfl
theorem Try.cellsDCase : Try.prog.cellsOf 62 = 5 := by kernel_rfl
theorem Try.cellsDPlates : Try.prog.cellsOf 103 = 2 := by kernel_rfl
theorem Try.cellsThree : Try.prog.cellsOf 41 = 3 := by kernel_rfl
section
variable {H : Type} {enc : TypeId × Value → H} {w : World} {base : Nat} {spare : Nat → Bool} {held : Bool}
set_option maxRecDepth 100000 in
theorem openRecs {r : Reach} {b0 : Nat} {v : Value} {d : DataW H} {p : List MemPlace} (hv : Value.okWide Try.prog w r b0 24 v) (h : DataW.Trod enc Try.prog w base spare held 24 v d p) : ∃ (l : List WRec) (A : Option Addr) (c : Nat), v = .slice A l.length c ∧ ArrW w A l c := by
  obtain ⟨a, n, c, rfl⟩ := okWide_slice Try.underlying24 hv
  obtain ⟨fuel, hf⟩ := h
  have hf2 : DataW.trod enc Try.prog w base spare held fuel 24 [.slice a n c] = some (d, p) := by simpa [Value.cells] using hf
  obtain ⟨l, A, c, hv, ha, -⟩ := openArr w0 recCells (fun _ => True) Try.underlying24 Try.cellsDRec (by decide) (fun n cs y hy => by
    have hl := (structLen Try.underlying39 hy).trans Try.cellsDRec
    match cs, hl with
    | [v0, v1, v2], _ =>
      obtain ⟨a0, h0⟩ := fieldText Try.underlying39 hy 0 _ rfl rfl (by show _ < 3; decide)
      obtain ⟨a1, h1⟩ := fieldInt Try.underlying39 hy 1 _ rfl rfl (by show _ < 3; decide)
      obtain ⟨a2, h2⟩ := fieldInt Try.underlying39 hy 2 _ rfl rfl (by show _ < 3; decide)
      have e0 : some v0 = some (.string a0) := h0
      have e1 : some v1 = some (.int .i64 a1) := h1
      have e2 : some v2 = some (.int .i64 a2) := h2
      injection e0 with e0; injection e1 with e1; injection e2 with e2
      subst e0; subst e1; subst e2
      refine ⟨⟨a0, a1, a2⟩, trivial, fun j hj => ?_⟩
      match j, hj with
      | 0, _ => rfl
      | 1, _ => rfl
      | 2, _ => rfl) hf2
  exact ⟨l, A, c, hv, ha⟩
set_option maxRecDepth 100000 in
theorem openLics {r : Reach} {b0 : Nat} {v : Value} {d : DataW H} {p : List MemPlace} (hv : Value.okWide Try.prog w r b0 75 v) (h : DataW.Trod enc Try.prog w base spare held 75 v d p) : ∃ (l : List WRec) (A : Option Addr) (c : Nat), v = .slice A l.length c ∧ ArrW w A l c := by
  obtain ⟨a, n, c, rfl⟩ := okWide_slice Try.underlying75 hv
  obtain ⟨fuel, hf⟩ := h
  have hf2 : DataW.trod enc Try.prog w base spare held fuel 75 [.slice a n c] = some (d, p) := by simpa [Value.cells] using hf
  obtain ⟨l, A, c, hv, ha, -⟩ := openArr w0 recCells (fun _ => True) Try.underlying75 Try.cellsDLic (by decide) (fun n cs y hy => by
    have hl := (structLen Try.underlying148 hy).trans Try.cellsDLic
    match cs, hl with
    | [v0, v1, v2], _ =>
      obtain ⟨a0, h0⟩ := fieldText Try.underlying148 hy 0 _ rfl rfl (by show _ < 3; decide)
      obtain ⟨a1, h1⟩ := fieldInt Try.underlying148 hy 1 _ rfl rfl (by show _ < 3; decide)
      obtain ⟨a2, h2⟩ := fieldInt Try.underlying148 hy 2 _ rfl rfl (by show _ < 3; decide)
      have e0 : some v0 = some (.string a0) := h0
      have e1 : some v1 = some (.int .i64 a1) := h1
      have e2 : some v2 = some (.int .i64 a2) := h2
      injection e0 with e0; injection e1 with e1; injection e2 with e2
      subst e0; subst e1; subst e2
      refine ⟨⟨a0, a1, a2⟩, trivial, fun j hj => ?_⟩
      match j, hj with
      | 0, _ => rfl
      | 1, _ => rfl
      | 2, _ => rfl) hf2
  exact ⟨l, A, c, hv, ha⟩
set_option maxRecDepth 100000 in
theorem openUses {r : Reach} {b0 : Nat} {v : Value} {d : DataW H} {p : List MemPlace} (hv : Value.okWide Try.prog w r b0 101 v) (h : DataW.Trod enc Try.prog w base spare held 101 v d p) : ∃ (l : List WRec) (A : Option Addr) (c : Nat), v = .slice A l.length c ∧ ArrW w A l c := by
  obtain ⟨a, n, c, rfl⟩ := okWide_slice Try.underlying101 hv
  obtain ⟨fuel, hf⟩ := h
  have hf2 : DataW.trod enc Try.prog w base spare held fuel 101 [.slice a n c] = some (d, p) := by simpa [Value.cells] using hf
  obtain ⟨l, A, c, hv, ha, -⟩ := openArr w0 recCells (fun _ => True) Try.underlying101 Try.cellsDUse (by decide) (fun n cs y hy => by
    have hl := (structLen Try.underlying113 hy).trans Try.cellsDUse
    match cs, hl with
    | [v0, v1, v2], _ =>
      obtain ⟨a0, h0⟩ := fieldText Try.underlying113 hy 0 _ rfl rfl (by show _ < 3; decide)
      obtain ⟨a1, h1⟩ := fieldInt Try.underlying113 hy 1 _ rfl rfl (by show _ < 3; decide)
      obtain ⟨a2, h2⟩ := fieldInt Try.underlying113 hy 2 _ rfl rfl (by show _ < 3; decide)
      have e0 : some v0 = some (.string a0) := h0
      have e1 : some v1 = some (.int .i64 a1) := h1
      have e2 : some v2 = some (.int .i64 a2) := h2
      injection e0 with e0; injection e1 with e1; injection e2 with e2
      subst e0; subst e1; subst e2
      refine ⟨⟨a0, a1, a2⟩, trivial, fun j hj => ?_⟩
      match j, hj with
      | 0, _ => rfl
      | 1, _ => rfl
      | 2, _ => rfl) hf2
  exact ⟨l, A, c, hv, ha⟩
set_option maxRecDepth 100000 in
theorem openRules {r : Reach} {b0 : Nat} {v : Value} {d : DataW H} {p : List MemPlace} (hv : Value.okWide Try.prog w r b0 23 v) (h : DataW.Trod enc Try.prog w base spare held 23 v d p) : ∃ R : DRules, v = drulesV R := by
  obtain ⟨cs, rfl, hsz⟩ := okWide_struct Try.underlying23 hv
  obtain ⟨l⟩ := cs
  match l, hsz.trans Try.cellsDRules with
  | [v0, v1, v2, v3, v4], _ =>
    obtain ⟨fuel, hf⟩ := h
    have hy : DataW.trod enc Try.prog w base spare held fuel 23 [v0, v1, v2, v3, v4] = some (d, p) := by simpa [Value.cells] using hf
    obtain ⟨a0, g0⟩ := fieldInt Try.underlying23 hy 0 _ rfl rfl (by show _ < 5; decide)
    have e0 : some v0 = some (.int .i64 a0) := g0
    injection e0 with e0
    subst e0
    obtain ⟨a1, g1⟩ := fieldInt Try.underlying23 hy 1 _ rfl rfl (by show _ < 5; decide)
    have e1 : some v1 = some (.int .i64 a1) := g1
    injection e1 with e1
    subst e1
    obtain ⟨a2, g2⟩ := fieldInt Try.underlying23 hy 2 _ rfl rfl (by show _ < 5; decide)
    have e2 : some v2 = some (.int .i64 a2) := g2
    injection e2 with e2
    subst e2
    obtain ⟨a3, g3⟩ := fieldInt Try.underlying23 hy 3 _ rfl rfl (by show _ < 5; decide)
    have e3 : some v3 = some (.int .i64 a3) := g3
    injection e3 with e3
    subst e3
    obtain ⟨a4, g4⟩ := fieldInt Try.underlying23 hy 4 _ rfl rfl (by show _ < 5; decide)
    have e4 : some v4 = some (.int .i64 a4) := g4
    injection e4 with e4
    subst e4
    exact ⟨⟨a0, a1, a2, a3, a4⟩, rfl⟩
/-- The cells of a trip. -/
theorem tripCells {fuel : Nat} {v0 v1 v2 v3 : Value} {y : DataW H × List MemPlace} (hy : DataW.trod enc Try.prog w base spare held fuel 54 [v0, v1, v2, v3] = some y) : ∃ t : DTrip, v0 = .int .i64 t.start ∧ v1 = .int .i64 t.lo ∧ v2 = .int .i64 t.hi ∧ v3 = .int .i64 t.next := by
  obtain ⟨a0, g0⟩ := fieldInt Try.underlying54 hy 0 _ rfl rfl (by show _ < 4; decide)
  obtain ⟨y1, n1, q0⟩ := fieldCells Try.underlying54 hy 1 _ rfl
  have q1 : DataW.trod enc Try.prog w base spare held n1 52 (([v0, v1, v2, v3].drop 1).take (Try.prog.cellsOf 52)) = some y1 := q0
  rw [Try.cellsRange] at q1
  have q2 : DataW.trod enc Try.prog w base spare held n1 52 [v1, v2] = some y1 := q1
  obtain ⟨a1, g1⟩ := fieldInt Try.underlying52 q2 0 _ rfl rfl (by show _ < 2; decide)
  obtain ⟨a2, g2⟩ := fieldInt Try.underlying52 q2 1 _ rfl rfl (by show _ < 2; decide)
  obtain ⟨a3, g3⟩ := fieldInt Try.underlying54 hy 2 _ rfl rfl (by show _ < 4; decide)
  have e0 : some v0 = some (.int .i64 a0) := g0
  have e1 : some v1 = some (.int .i64 a1) := g1
  have e2 : some v2 = some (.int .i64 a2) := g2
  have e3 : some v3 = some (.int .i64 a3) := g3
  injection e0 with e0; injection e1 with e1; injection e2 with e2; injection e3 with e3
  exact ⟨⟨a0, a1, a2, a3⟩, e0, e1, e2, e3⟩
set_option maxRecDepth 100000 in
theorem openDTrip {r : Reach} {b0 : Nat} {v : Value} {d : DataW H} {p : List MemPlace} (hv : Value.okWide Try.prog w r b0 54 v) (h : DataW.Trod enc Try.prog w base spare held 54 v d p) : ∃ t : DTrip, v = dtripV t := by
  obtain ⟨cs, rfl, hsz⟩ := okWide_struct Try.underlying54 hv
  obtain ⟨l⟩ := cs
  match l, hsz.trans Try.cellsDTrip with
  | [v0, v1, v2, v3], _ =>
    obtain ⟨fuel, hf⟩ := h
    have hy : DataW.trod enc Try.prog w base spare held fuel 54 [v0, v1, v2, v3] = some (d, p) := by simpa [Value.cells] using hf
    obtain ⟨t, rfl, rfl, rfl, rfl⟩ := tripCells hy
    exact ⟨t, rfl⟩
set_option maxRecDepth 100000 in
theorem openCase {r : Reach} {b0 : Nat} {v : Value} {d : DataW H} {p : List MemPlace} (hv : Value.okWide Try.prog w r b0 62 v) (h : DataW.Trod enc Try.prog w base spare held 62 v d p) : ∃ (t : DTrip) (n : Int), v = caseV t n := by
  obtain ⟨cs, rfl, hsz⟩ := okWide_struct Try.underlying62 hv
  obtain ⟨l⟩ := cs
  match l, hsz.trans Try.cellsDCase with
  | [v0, v1, v2, v3, v4], _ =>
    obtain ⟨fuel, hf⟩ := h
    have hy : DataW.trod enc Try.prog w base spare held fuel 62 [v0, v1, v2, v3, v4] = some (d, p) := by simpa [Value.cells] using hf
    obtain ⟨y1, n1, q0⟩ := fieldCells Try.underlying62 hy 0 _ rfl
    have q1 : DataW.trod enc Try.prog w base spare held n1 54 (([v0, v1, v2, v3, v4].drop 0).take (Try.prog.cellsOf 54)) = some y1 := q0
    rw [Try.cellsDTrip] at q1
    have q2 : DataW.trod enc Try.prog w base spare held n1 54 [v0, v1, v2, v3] = some y1 := q1
    obtain ⟨t, rfl, rfl, rfl, rfl⟩ := tripCells q2
    obtain ⟨a4, g4⟩ := fieldInt Try.underlying62 hy 1 _ rfl rfl (by show _ < 5; decide)
    have e4 : some v4 = some (.int .i64 a4) := g4
    injection e4 with e4
    subst e4
    exact ⟨t, a4, rfl⟩
set_option maxRecDepth 100000 in
theorem openPlates {r : Reach} {b0 : Nat} {v : Value} {d : DataW H} {p : List MemPlace} (hv : Value.okWide Try.prog w r b0 103 v) (h : DataW.Trod enc Try.prog w base spare held 103 v d p) : ∃ (l : List Int) (A : Option Addr) (c : Nat) (x : Int), v = .agg #[.slice A l.length c, .int .i64 x] ∧ ArrI w A l c := by
  obtain ⟨cs, rfl, hsz⟩ := okWide_struct Try.underlying103 hv
  obtain ⟨l⟩ := cs
  match l, hsz.trans Try.cellsDPlates with
  | [v0, v1], _ =>
    obtain ⟨fuel, hf⟩ := h
    have hy : DataW.trod enc Try.prog w base spare held fuel 103 [v0, v1] = some (d, p) := by simpa [Value.cells] using hf
    obtain ⟨l0, A0, c0, h0, r0⟩ := fieldInts Try.underlying103 hy 0 _ rfl rfl (by show _ < 2; decide)
    obtain ⟨a1, g1⟩ := fieldInt Try.underlying103 hy 1 _ rfl rfl (by show _ < 2; decide)
    have e0 : some v0 = some (.slice A0 l0.length c0) := h0
    have e1 : some v1 = some (.int .i64 a1) := g1
    injection e0 with e0; injection e1 with e1
    subst e0; subst e1
    exact ⟨l0, A0, c0, a1, rfl, r0⟩
set_option maxRecDepth 100000 in
theorem openThree {r : Reach} {b0 : Nat} {v : Value} {d : DataW H} {p : List MemPlace} (hv : Value.okWide Try.prog w r b0 41 v) (h : DataW.Trod enc Try.prog w base spare held 41 v d p) : ∃ x y z : Int, v = .agg #[.int .i64 x, .int .i64 y, .int .i64 z] := by
  obtain ⟨cs, rfl, hsz⟩ := okWide_array Try.underlying41 hv
  obtain ⟨l⟩ := cs
  match l, hsz.trans Try.cellsThree with
  | [v0, v1, v2], _ =>
    obtain ⟨fuel, hf⟩ := h
    have hy : DataW.trod enc Try.prog w base spare held fuel 41 [v0, v1, v2] = some (d, p) := by simpa [Value.cells] using hf
    obtain ⟨xs, m, -, -, -, hl, hg⟩ := DataW.trod_array Try.underlying41 hy
    have h0 := hg 0 (by decide)
    have h1 := hg 1 (by decide)
    have h2 := hg 2 (by decide)
    rw [Try.cellsInt, List.getElem?_eq_getElem (by omega)] at h0 h1 h2
    obtain ⟨a0, g0, -⟩ := DataW.trod_int Try.underlying3 h0
    obtain ⟨a1, g1, -⟩ := DataW.trod_int Try.underlying3 h1
    obtain ⟨a2, g2, -⟩ := DataW.trod_int Try.underlying3 h2
    have e0 : [v0] = [.int .i64 a0] := g0
    have e1 : [v1] = [.int .i64 a1] := g1
    have e2 : [v2] = [.int .i64 a2] := g2
    injection e0 with e0; injection e1 with e1; injection e2 with e2
    subst e0; subst e1; subst e2
    exact ⟨a0, a1, a2, rfl⟩
set_option maxRecDepth 100000 in
theorem openStrs {r : Reach} {b0 : Nat} {v : Value} {d : DataW H} {p : List MemPlace} (hv : Value.okWide Try.prog w r b0 85 v) (h : DataW.Trod enc Try.prog w base spare held 85 v d p) : ∃ (l : List ByteArray) (A : Option Addr) (c : Nat), v = .slice A l.length c ∧ ArrS w A l c := by
  obtain ⟨a, n, c, rfl⟩ := okWide_slice Try.underlying85 hv
  obtain ⟨fuel, hf⟩ := h
  exact openTexts (by simpa [Value.cells] using hf)
end
end Go.Proofs.Ytaihiahoedpbiaa
/- An argument as it comes reads as bytes, as numbers from 0 to 255. No condition. -/
namespace Go.Proofs.Ytaihiahoedpbiaa
open Go.ChangeShapes Go.WideShapes Go.RowKit Go.Deep Fs

def ArrU (w : World) (A : Option Addr) (l : List Int) (c : Nat) : Prop := Arr w A l.length c 1 fun i _ => .int .u8 (listI l i)
theorem ArrU.keep {w w' : World} (k : Keep w w') {A : Option Addr} {l : List Int} {c : Nat} (h : ArrU w A l c) : ArrU w' A l c := Arr.keep k h
theorem ArrU.le {w : World} {A : Option Addr} {l : List Int} {c : Nat} (h : ArrU w A l c) : l.length ≤ c ∧ c ≤ 9223372036854775807 := ⟨h.1, h.2.1⟩
theorem ArrU.at_ {w : World} {A : Option Addr} {l : List Int} {c : Nat} (h : ArrU w A l c) {k : Nat} (hk : k < l.length) : ∃ b o, A = some ⟨b, o, none⟩ ∧ w.cell? ⟨b, o + k, none⟩ = some (.int .u8 (listI l k)) := by
  obtain ⟨b, o, e, hc⟩ := Arr.at_ h hk
  have := hc 0 (by omega)
  rw [Nat.mul_one, Nat.add_zero] at this
  exact ⟨b, o, e, this⟩
theorem Try.cellsByte : Try.prog.cellsOf 5 = 1 := by kernel_rfl
section
variable {H : Type} {enc : TypeId × Value → H} {w : World} {base : Nat} {spare : Nat → Bool} {held : Bool}
set_option maxRecDepth 100000 in
theorem openBytes {r : Reach} {b0 : Nat} {v : Value} {d : DataW H} {p : List MemPlace} (hv : Value.okWide Try.prog w r b0 122 v) (h : DataW.Trod enc Try.prog w base spare held 122 v d p) :
    ∃ (l : List Int) (A : Option Addr) (c : Nat), v = .slice A l.length c ∧ ArrU w A l c ∧ ∀ i, i < l.length → 0 ≤ listI l i ∧ listI l i ≤ 255 := by
  obtain ⟨a, n, c, rfl⟩ := okWide_slice Try.underlying122 hv
  obtain ⟨fuel, hf⟩ := h
  have hf2 : DataW.trod enc Try.prog w base spare held fuel 122 [.slice a n c] = some (d, p) := by simpa [Value.cells] using hf
  obtain ⟨l, A, c, hv, ha, hr⟩ := openArr (0 : Int) (fun x _ => .int .u8 x) (fun x => 0 ≤ x ∧ x ≤ 255) Try.underlying122 Try.cellsByte (by decide) (fun n cs y hy => by
    obtain ⟨k, hk, -, hw⟩ := DataW.trod_int Try.underlying5 hy
    refine ⟨k, ?_, fun j hj => by
      have : j = 0 := by omega
      subst this; rw [hk]; rfl⟩
    simp only [Lit.wf, Bool.and_eq_true, decide_eq_true_eq] at hw
    have h1 : IntKind.u8.min = 0 := rfl
    have h2 : IntKind.u8.max = 255 := rfl
    omega) hf2
  exact ⟨l, A, c, hv, ha, hr⟩
end
end Go.Proofs.Ytaihiahoedpbiaa

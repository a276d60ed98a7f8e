/- Arguments as they come read as a net and an examination. No condition. -/
import Derived.Test.YtndhpdjcpagghaaGreatDoorNM
import Derived.Test.YtndhpdjcpagghaaGreatDoorProg
import Derived.Deep.Slices
import Derived.Deep.Frames
import Derived.Deep.Modes
import Derived.ProofKit
import Derived.Carry
import Derived.OpenShut
namespace Go.Proofs.YtndhpdjcpagghaaGreatDoor
open Go.ChangeShapes Go.WideShapes Go.RowKit Go.Deep Fs

theorem Tryz.cellsInt : Tryz.prog.cellsOf 3 = 1 := by kernel_rfl
theorem Tryz.cellsText : Tryz.prog.cellsOf 9 = 1 := by kernel_rfl
theorem Tryz.cellsTexts : Tryz.prog.cellsOf 22 = 1 := by kernel_rfl
theorem Tryz.cellsInts : Tryz.prog.cellsOf 26 = 1 := by kernel_rfl
theorem Tryz.cellsRoads : Tryz.prog.cellsOf 23 = 1 := by kernel_rfl
theorem Tryz.cellsPts : Tryz.prog.cellsOf 65 = 1 := by kernel_rfl
theorem Tryz.cellsRange : Tryz.prog.cellsOf 54 = 2 := by kernel_rfl
theorem Tryz.cellsPt : Tryz.prog.cellsOf 94 = 3 := by kernel_rfl
theorem Tryz.cellsRd : Tryz.prog.cellsOf 67 = 5 := by kernel_rfl
theorem Tryz.cellsNet : Tryz.prog.cellsOf 25 = 2 := by kernel_rfl
section
variable {H : Type} {enc : TypeId × Value → H} {P : Program} {w : World} {base : Nat} {spare : Nat → Bool} {held : Bool}
/-- A field's cells, and that they are read. -/
theorem fieldCells {t : TypeId} {fs : Array Field} {fuel : Nat} {cs : List Value} {x : DataW H × List MemPlace} (ht : P.underlying t = some (.struct fs)) (h : DataW.trod enc P w base spare held fuel t cs = some x) (j : Nat) (f : Field) (hj : fs[j]? = some f) :
    ∃ y n, DataW.trod enc P w base spare held n f.type ((cs.drop f.offset).take (P.cellsOf f.type)) = some y := by
  obtain ⟨xs, n, -, -, -, hl, hg⟩ := DataW.trod_struct ht h
  have hlt : j < xs.length := by
    rw [hl]
    rcases Nat.lt_or_ge j fs.size with h | h
    · exact h
    · rw [Array.getElem?_eq_none h] at hj; cases hj
  exact ⟨xs[j], n, by rw [hg j f hj, List.getElem?_eq_getElem hlt]⟩
theorem fieldOne {t : TypeId} {fs : Array Field} {fuel : Nat} {cs : List Value} {x : DataW H × List MemPlace} (ht : P.underlying t = some (.struct fs)) (h : DataW.trod enc P w base spare held fuel t cs = some x) (j : Nat) (f : Field) (hj : fs[j]? = some f) (h1 : P.cellsOf f.type = 1) (ho : f.offset < cs.length) :
    ∃ v y n, cs[f.offset]? = some v ∧ DataW.trod enc P w base spare held n f.type [v] = some y := by
  obtain ⟨y, n, hy⟩ := fieldCells ht h j f hj
  rw [h1, List.drop_eq_getElem_cons ho] at hy
  exact ⟨cs[f.offset], y, n, List.getElem?_eq_getElem ho, hy⟩
theorem structLen {t : TypeId} {fs : Array Field} {fuel : Nat} {cs : List Value} {x : DataW H × List MemPlace} (ht : P.underlying t = some (.struct fs)) (h : DataW.trod enc P w base spare held fuel t cs = some x) : cs.length = P.cellsOf t := by
  obtain ⟨xs, n, -, -, hl, -, -⟩ := DataW.trod_struct ht h
  exact hl
/-- A slice whose elements are read reads as a row. -/
theorem openArr {α : Type} (d0 : α) (cell : α → Nat → Value) (R : α → Prop) {t e : TypeId} {size fuel : Nat} {v : Value} {x : DataW H × List MemPlace} (ht : P.underlying t = some (.slice e)) (hC : P.cellsOf e = size) (hs : 0 < size)
    (he : ∀ n cs y, DataW.trod enc P w base spare held n e cs = some y → ∃ u, R u ∧ ∀ j, j < size → cs[j]? = some (cell u j)) (h : DataW.trod enc P w base spare held fuel t [v] = some x) :
    ∃ (l : List α) (A : Option Addr) (c : Nat), v = .slice A l.length c ∧ Arr w A l.length c size (fun i j => cell (l.getD i d0) j) ∧ ∀ i, i < l.length → R (l.getD i d0) := by
  rcases open_slice ht h with ⟨hcs, -⟩ | ⟨a, len, cap, m, n, D, Pl, hcs, -, hl, hm, hmm, -, hi⟩
  · injection hcs with hcs
    exact ⟨[], none, 0, hcs, ⟨Nat.le_refl _, by omega, fun hh => absurd hh (Nat.lt_irrefl 0)⟩, fun i hi => absurd hi (Nat.not_lt_zero _)⟩
  · injection hcs with hcs
    have hlm : len ≤ m := by rw [hmm]; split <;> omega
    have hel : ∀ i : Nat, ∃ u, i < len → R u ∧ ∀ j, j < size → w.cell? ((a.add (i * size)).add j) = some (cell u j) := by
      intro i
      by_cases hil : i < len
      · obtain ⟨cs', hc, ht'⟩ := hi i (by omega)
        rw [hC] at hc
        obtain ⟨u, hR, hu⟩ := he _ _ _ ht'
        obtain ⟨-, -, hat⟩ := World.cells?_some hc
        exact ⟨u, fun _ => ⟨hR, fun j hj => (hat j hj).trans (hu j hj)⟩⟩
      · exact ⟨d0, fun h => absurd h hil⟩
    obtain ⟨f, hf⟩ := Classical.axiomOfChoice hel
    have hlen : ((List.range len).map f).length = len := by simp
    have hget : ∀ i, i < len → ((List.range len).map f).getD i d0 = f i := fun i hi => by
      rw [List.getD_eq_getElem?_getD, List.getElem?_map, List.getElem?_range hi]
      rfl
    refine ⟨(List.range len).map f, some a, cap, by rw [hlen]; exact hcs, ⟨by omega, by unfold maxLen at hm; omega, fun hp => ?_⟩, fun i hi => by rw [hlen] at hi; rw [hget i hi]; exact (hf i hi).1⟩
    rw [hlen] at hp
    obtain ⟨ab, ao, asp⟩ := a
    have has : asp = none := by simpa [Addr.add] using World.cell?_spot ((hf 0 hp).2 0 hs)
    subst has
    refine ⟨ab, ao, rfl, fun i j hi hj => ?_⟩
    rw [hlen] at hi
    show w.cell? _ = some (cell (((List.range len).map f).getD i d0) j)
    rw [hget i hi]
    have := (hf i hi).2 j hj
    rwa [add_plain, add_plain] at this
end

section
variable {H : Type} {enc : TypeId × Value → H} {w : World} {base : Nat} {spare : Nat → Bool} {held : Bool}
theorem openInts {fuel : Nat} {v : Value} {x : DataW H × List MemPlace} (h : DataW.trod enc Tryz.prog w base spare held fuel 26 [v] = some x) : ∃ l A c, v = .slice A (List.length l) c ∧ ArrI w A l c := by
  obtain ⟨l, A, c, hv, ha, -⟩ := openArr (0 : Int) (fun x _ => .int .i64 x) (fun _ => True) Tryz.underlying26 Tryz.cellsInt (by decide) (fun n cs y hy => by
    obtain ⟨k, hk, -⟩ := DataW.trod_int Tryz.underlying3 hy
    exact ⟨k, trivial, fun j hj => by
      have : j = 0 := by omega
      subst this; rw [hk]; rfl⟩) h
  exact ⟨l, A, c, hv, ha⟩
theorem openTexts {fuel : Nat} {v : Value} {x : DataW H × List MemPlace} (h : DataW.trod enc Tryz.prog w base spare held fuel 22 [v] = some x) : ∃ l A c, v = .slice A (List.length l) c ∧ ArrS w A l c := by
  obtain ⟨l, A, c, hv, ha, -⟩ := openArr ByteArray.empty (fun x _ => .string x) (fun _ => True) Tryz.underlying22 Tryz.cellsText (by decide) (fun n cs y hy => by
    obtain ⟨k, hk, -⟩ := DataW.trod_string Tryz.underlying9 hy
    exact ⟨k, trivial, fun j hj => by
      have : j = 0 := by omega
      subst this; rw [hk]; rfl⟩) h
  exact ⟨l, A, c, hv, ha⟩
theorem fieldInt {t : TypeId} {fs : Array Field} {fuel : Nat} {cs : List Value} {x : DataW H × List MemPlace} (ht : Tryz.prog.underlying t = some (.struct fs)) (h : DataW.trod enc Tryz.prog w base spare held fuel t cs = some x) (j : Nat) (f : Field) (hj : fs[j]? = some f) (hf : f.type = 3) (ho : f.offset < cs.length) : ∃ k, cs[f.offset]? = some (.int .i64 k) := by
  obtain ⟨v, y, n, h1, h2⟩ := fieldOne ht h j f hj (by rw [hf]; exact Tryz.cellsInt) ho
  rw [hf] at h2
  obtain ⟨k, hk, -⟩ := DataW.trod_int Tryz.underlying3 h2
  injection hk with hk
  exact ⟨k, by rw [h1, hk]⟩
theorem fieldText {t : TypeId} {fs : Array Field} {fuel : Nat} {cs : List Value} {x : DataW H × List MemPlace} (ht : Tryz.prog.underlying t = some (.struct fs)) (h : DataW.trod enc Tryz.prog w base spare held fuel t cs = some x) (j : Nat) (f : Field) (hj : fs[j]? = some f) (hf : f.type = 9) (ho : f.offset < cs.length) : ∃ k, cs[f.offset]? = some (.string k) := by
  obtain ⟨v, y, n, h1, h2⟩ := fieldOne ht h j f hj (by rw [hf]; exact Tryz.cellsText) ho
  rw [hf] at h2
  obtain ⟨k, hk, -⟩ := DataW.trod_string Tryz.underlying9 h2
  injection hk with hk
  exact ⟨k, by rw [h1, hk]⟩
theorem fieldInts {t : TypeId} {fs : Array Field} {fuel : Nat} {cs : List Value} {x : DataW H × List MemPlace} (ht : Tryz.prog.underlying t = some (.struct fs)) (h : DataW.trod enc Tryz.prog w base spare held fuel t cs = some x) (j : Nat) (f : Field) (hj : fs[j]? = some f) (hf : f.type = 26) (ho : f.offset < cs.length) : ∃ l A c, cs[f.offset]? = some (.slice A (List.length l) c) ∧ ArrI w A l c := by
  obtain ⟨v, y, n, h1, h2⟩ := fieldOne ht h j f hj (by rw [hf]; exact Tryz.cellsInts) ho
  rw [hf] at h2
  obtain ⟨l, A, c, hv, ha⟩ := openInts h2
  exact ⟨l, A, c, by rw [h1, hv], ha⟩
end

section
variable {H : Type} {enc : TypeId × Value → H} {w : World} {base : Nat} {spare : Nat → Bool} {held : Bool}
set_option maxRecDepth 100000 in
theorem openPts {fuel : Nat} {v : Value} {x : DataW H × List MemPlace} (h : DataW.trod enc Tryz.prog w base spare held fuel 65 [v] = some x) : ∃ l A c, v = .slice A (List.length l) c ∧ ArrP w A l c := by
  obtain ⟨l, A, c, hv, ha, -⟩ := openArr p0 ptCells (fun _ => True) Tryz.underlying65 Tryz.cellsPt (by decide) (fun n cs y hy => by
    have hl := (structLen Tryz.underlying94 hy).trans Tryz.cellsPt
    match cs, hl with
    | [v0, v1, v2], _ =>
      obtain ⟨a0, h0⟩ := fieldInt Tryz.underlying94 hy 0 _ rfl rfl (by show _ < 3; decide)
      obtain ⟨y1, n1, g0⟩ := fieldCells Tryz.underlying94 hy 1 _ rfl
      have g1 : DataW.trod enc Tryz.prog w base spare held n1 54 (([v0, v1, v2].drop 1).take (Tryz.prog.cellsOf 54)) = some y1 := g0
      rw [Tryz.cellsRange] at g1
      have g2 : DataW.trod enc Tryz.prog w base spare held n1 54 [v1, v2] = some y1 := g1
      obtain ⟨a1, h1⟩ := fieldInt Tryz.underlying54 g2 0 _ rfl rfl (by show _ < 2; decide)
      obtain ⟨a2, h2⟩ := fieldInt Tryz.underlying54 g2 1 _ rfl rfl (by show _ < 2; decide)
      have e0 : some v0 = some (.int .i64 a0) := h0
      have e1 : some v1 = some (.int .i64 a1) := h1
      have e2 : some v2 = some (.int .i64 a2) := h2
      injection e0 with e0; injection e1 with e1; injection e2 with e2
      subst e0; subst e1; subst e2
      refine ⟨⟨a0, a1, a2⟩, trivial, fun j hj => ?_⟩
      match j, hj with
      | 0, _ => rfl
      | 1, _ => rfl
      | 2, _ => rfl) h
  exact ⟨l, A, c, hv, ha⟩
theorem fieldPts {t : TypeId} {fs : Array Field} {fuel : Nat} {cs : List Value} {x : DataW H × List MemPlace} (ht : Tryz.prog.underlying t = some (.struct fs)) (h : DataW.trod enc Tryz.prog w base spare held fuel t cs = some x) (j : Nat) (f : Field) (hj : fs[j]? = some f) (hf : f.type = 65) (ho : f.offset < cs.length) : ∃ l A c, cs[f.offset]? = some (.slice A (List.length l) c) ∧ ArrP w A l c := by
  obtain ⟨v, y, n, h1, h2⟩ := fieldOne ht h j f hj (by rw [hf]; exact Tryz.cellsPts) ho
  rw [hf] at h2
  obtain ⟨l, A, c, hv, ha⟩ := openPts h2
  exact ⟨l, A, c, by rw [h1, hv], ha⟩
/-- A road and where its points lie. -/
abbrev RdX := Rd × Option Addr × Nat
def rdX0 : RdX := (d0, none, 0)
set_option maxRecDepth 100000 in
theorem openRds {fuel : Nat} {v : Value} {x : DataW H × List MemPlace} (h : DataW.trod enc Tryz.prog w base spare held fuel 23 [v] = some x) : ∃ l A c a, v = .slice A (List.length l) c ∧ ArrD w A l c a := by
  obtain ⟨l, A, c, hv, ha, hr⟩ := openArr rdX0 (fun u j => rdCells u.1 u.2.1 u.2.2 j) (fun u => ArrP w u.2.1 u.1.pts u.2.2) Tryz.underlying23 Tryz.cellsRd (by decide) (fun n cs y hy => by
    have hl := (structLen Tryz.underlying67 hy).trans Tryz.cellsRd
    obtain ⟨a0, h0⟩ := fieldText Tryz.underlying67 hy 0 _ rfl rfl (by rw [hl]; decide)
    obtain ⟨a1, h1⟩ := fieldInt Tryz.underlying67 hy 1 _ rfl rfl (by rw [hl]; decide)
    obtain ⟨a2, h2⟩ := fieldInt Tryz.underlying67 hy 2 _ rfl rfl (by rw [hl]; decide)
    obtain ⟨a3, h3⟩ := fieldInt Tryz.underlying67 hy 3 _ rfl rfl (by rw [hl]; decide)
    obtain ⟨a4, A4, c4, h4, r4⟩ := fieldPts Tryz.underlying67 hy 4 _ rfl rfl (by rw [hl]; decide)
    refine ⟨(⟨a0, a1, a2, a3, a4⟩, A4, c4), r4, fun j hj => ?_⟩
    match j, hj with
    | 0, _ => exact h0
    | 1, _ => exact h1
    | 2, _ => exact h2
    | 3, _ => exact h3
    | 4, _ => exact h4) h
  have hlen : (l.map (·.1)).length = l.length := by simp
  have hget : ∀ i, listD (l.map (·.1)) i = (l.getD i rdX0).1 := fun i => by
    unfold listD
    rw [List.getD_eq_getElem?_getD, List.getD_eq_getElem?_getD, List.getElem?_map]
    cases l[i]? <;> rfl
  refine ⟨l.map (·.1), A, c, ⟨fun i => (l.getD i rdX0).2.1, fun i => (l.getD i rdX0).2.2⟩, by rw [hlen]; exact hv, ?_, fun i hi => ?_⟩
  · rw [hlen]
    simp only [hget]
    exact ha
  · rw [hlen] at hi
    rw [hget]
    exact hr i hi
set_option maxRecDepth 100000 in
theorem openNet {r : Reach} {b0 : Nat} {v : Value} {d : DataW H} {p : List MemPlace} (hv : Value.okWide Tryz.prog w r b0 25 v) (h : DataW.Trod enc Tryz.prog w base spare held 25 v d p) : ∃ N, RdNet w v N := by
  obtain ⟨cs, rfl, hsz⟩ := okWide_struct Tryz.underlying25 hv
  obtain ⟨l⟩ := cs
  match l, hsz.trans Tryz.cellsNet with
  | [v0, v1], _ =>
    obtain ⟨fuel, hf⟩ := h
    have hy : DataW.trod enc Tryz.prog w base spare held fuel 25 [v0, v1] = some (d, p) := by simpa [Value.cells] using hf
    obtain ⟨u0, y0, n0, g0, k0⟩ := fieldOne Tryz.underlying25 hy 0 _ rfl Tryz.cellsTexts (by show _ < 2; decide)
    obtain ⟨u1, y1, n1, g1, k1⟩ := fieldOne Tryz.underlying25 hy 1 _ rfl Tryz.cellsRoads (by show _ < 2; decide)
    obtain ⟨l0, A0, c0, rfl, r0⟩ := openTexts k0
    obtain ⟨l1, A1, c1, a1, rfl, r1⟩ := openRds k1
    have e0 : some v0 = some (.slice A0 l0.length c0) := g0
    have e1 : some v1 = some (.slice A1 l1.length c1) := g1
    injection e0 with e0; injection e1 with e1
    subst e0; subst e1
    exact ⟨⟨l0, l1⟩, A0, A1, c0, c1, a1, rfl, r0, r1⟩
end
end Go.Proofs.YtndhpdjcpagghaaGreatDoor
/- Arguments as they come read as a way, a trip, two numbers. No condition. -/
namespace Go.Proofs.YtndhpdjcpagghaaGreatDoor
open Go.ChangeShapes Go.WideShapes Go.RowKit Go.Deep Fs

theorem Tryz.cellsTrip : Tryz.prog.cellsOf 60 = 3 := by kernel_rfl
theorem okWide_array {P : Program} {w : World} {r : Reach} {base n : Nat} {t e : TypeId} {v : Value} (ht : P.underlying t = some (.array n e)) (h : Value.okWide P w r base t v) : ∃ cs, v = .agg cs ∧ cs.size = P.cellsOf t := by
  simp only [Value.okWide, ht] at h
  obtain ⟨cs, h1, h2, _⟩ := h
  exact ⟨cs, h1, h2⟩
section
variable {H : Type} {enc : TypeId × Value → H} {w : World} {base : Nat} {spare : Nat → Bool} {held : Bool}
set_option maxRecDepth 100000 in
theorem openWay {r : Reach} {b0 : Nat} {v : Value} {d : DataW H} {p : List MemPlace} (hv : Value.okWide Tryz.prog w r b0 26 v) (h : DataW.Trod enc Tryz.prog w base spare held 26 v d p) : ∃ (l : List Int) (A : Option Addr) (c : Nat), v = .slice A l.length c ∧ ArrI w A l c := by
  obtain ⟨a, n, c, rfl⟩ := okWide_slice Tryz.underlying26 hv
  obtain ⟨fuel, hf⟩ := h
  exact openInts (by simpa [Value.cells] using hf)
set_option maxRecDepth 100000 in
theorem openTrip {r : Reach} {b0 : Nat} {v : Value} {d : DataW H} {p : List MemPlace} (hv : Value.okWide Tryz.prog w r b0 60 v) (h : DataW.Trod enc Tryz.prog w base spare held 60 v d p) : ∃ x y z : Int, v = .agg #[.int .i64 x, .int .i64 y, .int .i64 z] := by
  obtain ⟨cs, rfl, hsz⟩ := okWide_struct Tryz.underlying60 hv
  obtain ⟨l⟩ := cs
  match l, hsz.trans Tryz.cellsTrip with
  | [v0, v1, v2], _ =>
    obtain ⟨fuel, hf⟩ := h
    have hy : DataW.trod enc Tryz.prog w base spare held fuel 60 [v0, v1, v2] = some (d, p) := by simpa [Value.cells] using hf
    obtain ⟨a0, g0⟩ := fieldInt Tryz.underlying60 hy 0 _ rfl rfl (by show _ < 3; decide)
    obtain ⟨a1, g1⟩ := fieldInt Tryz.underlying60 hy 1 _ rfl rfl (by show _ < 3; decide)
    obtain ⟨a2, g2⟩ := fieldInt Tryz.underlying60 hy 2 _ rfl rfl (by show _ < 3; decide)
    have e0 : some v0 = some (.int .i64 a0) := g0
    have e1 : some v1 = some (.int .i64 a1) := g1
    have e2 : some v2 = some (.int .i64 a2) := g2
    injection e0 with e0; injection e1 with e1; injection e2 with e2
    subst e0; subst e1; subst e2
    exact ⟨a0, a1, a2, rfl⟩
end
end Go.Proofs.YtndhpdjcpagghaaGreatDoor

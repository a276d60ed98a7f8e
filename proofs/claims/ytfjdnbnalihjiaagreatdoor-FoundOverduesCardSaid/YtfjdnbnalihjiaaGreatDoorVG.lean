/- Arguments as they come read as items, claims, events and proofs of chapter 9. No condition. -/
import Derived.Test.YtfjdnbnalihjiaaGreatDoorK8
import Derived.Test.YtfjdnbnalihjiaaGreatDoorProg
import Derived.Deep.Slices
import Derived.Deep.Frames
import Derived.Deep.Modes
import Derived.ProofKit
import Derived.Carry
import Derived.OpenShut
namespace Go.Proofs.YtfjdnbnalihjiaaGreatDoor
open Go.ChangeShapes Go.WideShapes Go.RowKit Go.Deep Fs

theorem Tryz.cellsInt : Tryz.prog.cellsOf 3 = 1 := by kernel_rfl
theorem Tryz.cellsText : Tryz.prog.cellsOf 9 = 1 := by kernel_rfl
theorem Tryz.cellsInts : Tryz.prog.cellsOf 51 = 1 := by kernel_rfl
theorem Tryz.cellsPair : Tryz.prog.cellsOf 42 = 2 := by kernel_rfl
theorem Tryz.cellsPairs : Tryz.prog.cellsOf 68 = 1 := by kernel_rfl
theorem Tryz.cellsMark : Tryz.prog.cellsOf 119 = 2 := by kernel_rfl
theorem Tryz.cellsMarks : Tryz.prog.cellsOf 22 = 1 := by kernel_rfl
theorem Tryz.cellsItem : Tryz.prog.cellsOf 24 = 4 := by kernel_rfl
theorem Tryz.cellsClaim : Tryz.prog.cellsOf 26 = 4 := by kernel_rfl
theorem Tryz.cellsEvent : Tryz.prog.cellsOf 107 = 5 := by kernel_rfl
theorem Tryz.cellsEvents : Tryz.prog.cellsOf 86 = 1 := by kernel_rfl
theorem Tryz.cellsCover : Tryz.prog.cellsOf 70 = 2 := by kernel_rfl
theorem Tryz.cellsProof : Tryz.prog.cellsOf 72 = 3 := by kernel_rfl
theorem okWide_array {P : Program} {w : World} {r : Reach} {base n : Nat} {t e : TypeId} {v : Value} (ht : P.underlying t = some (.array n e)) (h : Value.okWide P w r base t v) : ∃ cs, v = .agg cs ∧ cs.size = P.cellsOf t := by
  simp only [Value.okWide, ht] at h
  obtain ⟨cs, h1, h2, _⟩ := h
  exact ⟨cs, h1, h2⟩
section
variable {H : Type} {enc : TypeId × Value → H} {P : Program} {w : World} {base : Nat} {spare : Nat → Bool} {held : Bool}
/-- A field's cells, and that they are read. -/
theorem fieldCells {t : TypeId} {fs : Array Field} {fuel : Nat} {cs : List Value} {x : DataW H × List MemPlace} (ht : P.underlying t = some (.struct fs)) (h : DataW.trod enc P w base spare held fuel t cs = some x) (j : Nat) (f : Field) (hj : fs[j]? = some f) :
    ∃ y n, DataW.trod enc P w base spare held n f.type ((cs.drop f.offset).take (P.cellsOf f.type)) = some y := by
  obtain ⟨xs, n, -, -, -, hl, hg⟩ := DataW.trod_struct ht h
  have hlt : j < xs.length := by
    rw [hl]
    rcases Nat.lt_or_ge j fs.size with h | h
    · exact h
    · rw [Array.getElem?_eq_none h] at hj; cases hj
  exact ⟨xs[j], n, by rw [hg j f hj, List.getElem?_eq_getElem hlt]⟩
theorem fieldOne {t : TypeId} {fs : Array Field} {fuel : Nat} {cs : List Value} {x : DataW H × List MemPlace} (ht : P.underlying t = some (.struct fs)) (h : DataW.trod enc P w base spare held fuel t cs = some x) (j : Nat) (f : Field) (hj : fs[j]? = some f) (h1 : P.cellsOf f.type = 1) (ho : f.offset < cs.length) :
    ∃ v y n, cs[f.offset]? = some v ∧ DataW.trod enc P w base spare held n f.type [v] = some y := by
  obtain ⟨y, n, hy⟩ := fieldCells ht h j f hj
  rw [h1, List.drop_eq_getElem_cons ho] at hy
  exact ⟨cs[f.offset], y, n, List.getElem?_eq_getElem ho, hy⟩
theorem structLen {t : TypeId} {fs : Array Field} {fuel : Nat} {cs : List Value} {x : DataW H × List MemPlace} (ht : P.underlying t = some (.struct fs)) (h : DataW.trod enc P w base spare held fuel t cs = some x) : cs.length = P.cellsOf t := by
  obtain ⟨xs, n, -, -, hl, -, -⟩ := DataW.trod_struct ht h
  exact hl
/-- A slice whose elements are read reads as a row. -/
theorem openArr {α : Type} (d0 : α) (cell : α → Nat → Value) (R : α → Prop) {t e : TypeId} {size fuel : Nat} {v : Value} {x : DataW H × List MemPlace} (ht : P.underlying t = some (.slice e)) (hC : P.cellsOf e = size) (hs : 0 < size)
    (he : ∀ n cs y, DataW.trod enc P w base spare held n e cs = some y → ∃ u, R u ∧ ∀ j, j < size → cs[j]? = some (cell u j)) (h : DataW.trod enc P w base spare held fuel t [v] = some x) :
    ∃ (l : List α) (A : Option Addr) (c : Nat), v = .slice A l.length c ∧ Arr w A l.length c size (fun i j => cell (l.getD i d0) j) ∧ ∀ i, i < l.length → R (l.getD i d0) := by
  rcases open_slice ht h with ⟨hcs, -⟩ | ⟨a, len, cap, m, n, D, Pl, hcs, -, hl, hm, hmm, -, hi⟩
  · injection hcs with hcs
    exact ⟨[], none, 0, hcs, ⟨Nat.le_refl _, by omega, fun hh => absurd hh (Nat.lt_irrefl 0)⟩, fun i hi => absurd hi (Nat.not_lt_zero _)⟩
  · injection hcs with hcs
    have hlm : len ≤ m := by rw [hmm]; split <;> omega
    have hel : ∀ i : Nat, ∃ u, i < len → R u ∧ ∀ j, j < size → w.cell? ((a.add (i * size)).add j) = some (cell u j) := by
      intro i
      by_cases hil : i < len
      · obtain ⟨cs', hc, ht'⟩ := hi i (by omega)
        rw [hC] at hc
        obtain ⟨u, hR, hu⟩ := he _ _ _ ht'
        obtain ⟨-, -, hat⟩ := World.cells?_some hc
        exact ⟨u, fun _ => ⟨hR, fun j hj => (hat j hj).trans (hu j hj)⟩⟩
      · exact ⟨d0, fun h => absurd h hil⟩
    obtain ⟨f, hf⟩ := Classical.axiomOfChoice hel
    have hlen : ((List.range len).map f).length = len := by simp
    have hget : ∀ i, i < len → ((List.range len).map f).getD i d0 = f i := fun i hi => by
      rw [List.getD_eq_getElem?_getD, List.getElem?_map, List.getElem?_range hi]
      rfl
    refine ⟨(List.range len).map f, some a, cap, by rw [hlen]; exact hcs, ⟨by omega, by unfold maxLen at hm; omega, fun hp => ?_⟩, fun i hi => by rw [hlen] at hi; rw [hget i hi]; exact (hf i hi).1⟩
    rw [hlen] at hp
    obtain ⟨ab, ao, asp⟩ := a
    have has : asp = none := by simpa [Addr.add] using World.cell?_spot ((hf 0 hp).2 0 hs)
    subst has
    refine ⟨ab, ao, rfl, fun i j hi hj => ?_⟩
    rw [hlen] at hi
    show w.cell? _ = some (cell (((List.range len).map f).getD i d0) j)
    rw [hget i hi]
    have := (hf i hi).2 j hj
    rwa [add_plain, add_plain] at this
end

section
variable {H : Type} {enc : TypeId × Value → H} {w : World} {base : Nat} {spare : Nat → Bool} {held : Bool}
theorem openInts {fuel : Nat} {v : Value} {x : DataW H × List MemPlace} (h : DataW.trod enc Tryz.prog w base spare held fuel 51 [v] = some x) : ∃ l A c, v = .slice A (List.length l) c ∧ ArrI w A l c := by
  obtain ⟨l, A, c, hv, ha, -⟩ := openArr (0 : Int) (fun x _ => .int .i64 x) (fun _ => True) Tryz.underlying51 Tryz.cellsInt (by decide) (fun n cs y hy => by
    obtain ⟨k, hk, -⟩ := DataW.trod_int Tryz.underlying3 hy
    exact ⟨k, trivial, fun j hj => by
      have : j = 0 := by omega
      subst this; rw [hk]; rfl⟩) h
  exact ⟨l, A, c, hv, ha⟩
theorem fieldInt {t : TypeId} {fs : Array Field} {fuel : Nat} {cs : List Value} {x : DataW H × List MemPlace} (ht : Tryz.prog.underlying t = some (.struct fs)) (h : DataW.trod enc Tryz.prog w base spare held fuel t cs = some x) (j : Nat) (f : Field) (hj : fs[j]? = some f) (hf : f.type = 3) (ho : f.offset < cs.length) : ∃ k, cs[f.offset]? = some (.int .i64 k) := by
  obtain ⟨v, y, n, h1, h2⟩ := fieldOne ht h j f hj (by rw [hf]; exact Tryz.cellsInt) ho
  rw [hf] at h2
  obtain ⟨k, hk, -⟩ := DataW.trod_int Tryz.underlying3 h2
  injection hk with hk
  exact ⟨k, by rw [h1, hk]⟩
theorem fieldText {t : TypeId} {fs : Array Field} {fuel : Nat} {cs : List Value} {x : DataW H × List MemPlace} (ht : Tryz.prog.underlying t = some (.struct fs)) (h : DataW.trod enc Tryz.prog w base spare held fuel t cs = some x) (j : Nat) (f : Field) (hj : fs[j]? = some f) (hf : f.type = 9) (ho : f.offset < cs.length) : ∃ k, cs[f.offset]? = some (.string k) := by
  obtain ⟨v, y, n, h1, h2⟩ := fieldOne ht h j f hj (by rw [hf]; exact Tryz.cellsText) ho
  rw [hf] at h2
  obtain ⟨k, hk, -⟩ := DataW.trod_string Tryz.underlying9 h2
  injection hk with hk
  exact ⟨k, by rw [h1, hk]⟩
theorem fieldInts {t : TypeId} {fs : Array Field} {fuel : Nat} {cs : List Value} {x : DataW H × List MemPlace} (ht : Tryz.prog.underlying t = some (.struct fs)) (h : DataW.trod enc Tryz.prog w base spare held fuel t cs = some x) (j : Nat) (f : Field) (hj : fs[j]? = some f) (hf : f.type = 51) (ho : f.offset < cs.length) : ∃ l A c, cs[f.offset]? = some (.slice A (List.length l) c) ∧ ArrI w A l c := by
  obtain ⟨v, y, n, h1, h2⟩ := fieldOne ht h j f hj (by rw [hf]; exact Tryz.cellsInts) ho
  rw [hf] at h2
  obtain ⟨l, A, c, hv, ha⟩ := openInts h2
  exact ⟨l, A, c, by rw [h1, hv], ha⟩
end
section
variable {H : Type} {enc : TypeId × Value → H} {w : World} {base : Nat} {spare : Nat → Bool} {held : Bool}
set_option maxRecDepth 100000 in
theorem openWay {r : Reach} {b0 : Nat} {v : Value} {d : DataW H} {p : List MemPlace} (hv : Value.okWide Tryz.prog w r b0 51 v) (h : DataW.Trod enc Tryz.prog w base spare held 51 v d p) : ∃ (l : List Int) (A : Option Addr) (c : Nat), v = .slice A l.length c ∧ ArrI w A l c := by
  obtain ⟨a, n, c, rfl⟩ := okWide_slice Tryz.underlying51 hv
  obtain ⟨fuel, hf⟩ := h
  exact openInts (by simpa [Value.cells] using hf)
set_option maxRecDepth 100000 in
theorem openPair {r : Reach} {b0 : Nat} {v : Value} {d : DataW H} {p : List MemPlace} (hv : Value.okWide Tryz.prog w r b0 42 v) (h : DataW.Trod enc Tryz.prog w base spare held 42 v d p) : ∃ x y : Int, v = .agg #[.int .i64 x, .int .i64 y] := by
  obtain ⟨cs, rfl, hsz⟩ := okWide_array Tryz.underlying42 hv
  obtain ⟨l⟩ := cs
  match l, hsz.trans Tryz.cellsPair with
  | [v0, v1], _ =>
    obtain ⟨fuel, hf⟩ := h
    have hy : DataW.trod enc Tryz.prog w base spare held fuel 42 [v0, v1] = some (d, p) := by simpa [Value.cells] using hf
    obtain ⟨xs, m, -, -, -, hl, hg⟩ := DataW.trod_array Tryz.underlying42 hy
    have h0 := hg 0 (by decide)
    have h1 := hg 1 (by decide)
    rw [Tryz.cellsInt, List.getElem?_eq_getElem (by omega)] at h0 h1
    obtain ⟨a0, g0, -⟩ := DataW.trod_int Tryz.underlying3 h0
    obtain ⟨a1, g1, -⟩ := DataW.trod_int Tryz.underlying3 h1
    have e0 : [v0] = [.int .i64 a0] := g0
    have e1 : [v1] = [.int .i64 a1] := g1
    injection e0 with e0; injection e1 with e1
    subst e0; subst e1
    exact ⟨a0, a1, rfl⟩
theorem openMarks {fuel : Nat} {v : Value} {x : DataW H × List MemPlace} (h : DataW.trod enc Tryz.prog w base spare held fuel 22 [v] = some x) : ∃ (l : List Mrk) (A : Option Addr) (c : Nat), v = .slice A l.length c ∧ ArrMk w A l c := by
  obtain ⟨l, A, c, hv, ha, -⟩ := openArr mrk0 mrkCells (fun _ => True) Tryz.underlying22 Tryz.cellsMark (by decide) (fun n cs y hy => by
    have hl := (structLen Tryz.underlying119 hy).trans Tryz.cellsMark
    match cs, hl with
    | [v0, v1], _ =>
      obtain ⟨a0, h0⟩ := fieldText Tryz.underlying119 hy 0 _ rfl rfl (by show _ < 2; decide)
      obtain ⟨a1, h1⟩ := fieldText Tryz.underlying119 hy 1 _ rfl rfl (by show _ < 2; decide)
      have e0 : some v0 = some (.string a0) := h0
      have e1 : some v1 = some (.string a1) := h1
      injection e0 with e0; injection e1 with e1
      subst e0; subst e1
      refine ⟨⟨a0, a1⟩, trivial, fun j hj => ?_⟩
      match j, hj with
      | 0, _ => rfl
      | 1, _ => rfl) h
  exact ⟨l, A, c, hv, ha⟩
theorem fieldMarks {t : TypeId} {fs : Array Field} {fuel : Nat} {cs : List Value} {x : DataW H × List MemPlace} (ht : Tryz.prog.underlying t = some (.struct fs)) (h : DataW.trod enc Tryz.prog w base spare held fuel t cs = some x) (j : Nat) (f : Field) (hj : fs[j]? = some f) (hf : f.type = 22) (ho : f.offset < cs.length) : ∃ l A c, cs[f.offset]? = some (.slice A (List.length l) c) ∧ ArrMk w A l c := by
  obtain ⟨v, y, n, h1, h2⟩ := fieldOne ht h j f hj (by rw [hf]; exact Tryz.cellsMarks) ho
  rw [hf] at h2
  obtain ⟨l, A, c, hv, ha⟩ := openMarks h2
  exact ⟨l, A, c, by rw [h1, hv], ha⟩
/-- A thing, where its marks lie, and their capacity. -/
def thgAt0 : Thg × Option Addr × Nat := (⟨⟨#[]⟩, 0, ⟨#[]⟩, []⟩, none, 0)
theorem ArrTh.ofTriples {A : Option Addr} {c : Nat} (L : List (Thg × Option Addr × Nat))
    (h : Arr w A L.length c 4 (fun i j => thgCells (L.getD i thgAt0).1 (L.getD i thgAt0).2.1 (L.getD i thgAt0).2.2 j))
    (hr : ∀ i, i < L.length → ArrMk w (L.getD i thgAt0).2.1 (L.getD i thgAt0).1.marks (L.getD i thgAt0).2.2) :
    ArrTh w A (L.map (·.1)) c ⟨fun i => (L.getD i thgAt0).2.1, fun i => (L.getD i thgAt0).2.2⟩ := by
  have hg : ∀ i, i < L.length → lThg (L.map (·.1)) i = (L.getD i thgAt0).1 := fun i hi => by
    unfold lThg
    rw [List.getD_eq_getElem?_getD, List.getD_eq_getElem?_getD, List.getElem?_map, List.getElem?_eq_getElem hi]
    rfl
  refine ⟨⟨by rw [List.length_map]; exact h.1, h.2.1, fun hp => ?_⟩, fun i hi => ?_⟩
  · rw [List.length_map] at hp
    obtain ⟨b, o, e, hc⟩ := h.2.2 hp
    refine ⟨b, o, e, fun i j hi hj => ?_⟩
    rw [List.length_map] at hi
    show _ = some (thgCells (lThg (L.map (·.1)) i) _ _ j)
    rw [hg i hi]
    exact hc i j hi hj
  · rw [List.length_map] at hi
    rw [hg i hi]
    exact hr i hi
set_option maxRecDepth 100000 in
theorem cellsItem {n : Nat} {cs : List Value} {y : DataW H × List MemPlace} (hy : DataW.trod enc Tryz.prog w base spare held n 24 cs = some y) :
    ∃ u : Thg × Option Addr × Nat, cs = [.string u.1.name, .int .i64 u.1.day, .string u.1.who, .slice u.2.1 u.1.marks.length u.2.2] ∧ ArrMk w u.2.1 u.1.marks u.2.2 := by
  have hl := (structLen Tryz.underlying24 hy).trans Tryz.cellsItem
  match cs, hl with
  | [v0, v1, v2, v3], _ =>
    obtain ⟨a0, h0⟩ := fieldText Tryz.underlying24 hy 0 _ rfl rfl (by show _ < 4; decide)
    obtain ⟨a1, h1⟩ := fieldInt Tryz.underlying24 hy 1 _ rfl rfl (by show _ < 4; decide)
    obtain ⟨a2, h2⟩ := fieldText Tryz.underlying24 hy 2 _ rfl rfl (by show _ < 4; decide)
    obtain ⟨l3, A3, c3, h3, r3⟩ := fieldMarks Tryz.underlying24 hy 3 _ rfl rfl (by show _ < 4; decide)
    have e0 : some v0 = some (.string a0) := h0
    have e1 : some v1 = some (.int .i64 a1) := h1
    have e2 : some v2 = some (.string a2) := h2
    have e3 : some v3 = some (.slice A3 l3.length c3) := h3
    injection e0 with e0; injection e1 with e1; injection e2 with e2; injection e3 with e3
    subst e0; subst e1; subst e2; subst e3
    exact ⟨(⟨a0, a1, a2, l3⟩, A3, c3), rfl, r3⟩
set_option maxRecDepth 100000 in
theorem openItem {r : Reach} {b0 : Nat} {v : Value} {d : DataW H} {p : List MemPlace} (hv : Value.okWide Tryz.prog w r b0 24 v) (h : DataW.Trod enc Tryz.prog w base spare held 24 v d p) : ∃ x, RdThg w v x := by
  obtain ⟨cs, rfl, hsz⟩ := okWide_struct Tryz.underlying24 hv
  obtain ⟨fuel, hf⟩ := h
  have hy : DataW.trod enc Tryz.prog w base spare held fuel 24 cs.toList = some (d, p) := by simpa [Value.cells] using hf
  obtain ⟨u, hu, hm⟩ := cellsItem hy
  refine ⟨u.1, u.2.1, u.2.2, ?_, hm⟩
  obtain ⟨l⟩ := cs
  show Value.agg _ = _
  rw [show l = _ from hu]
set_option maxRecDepth 100000 in
theorem openItems {r : Reach} {b0 : Nat} {v : Value} {d : DataW H} {p : List MemPlace} (hv : Value.okWide Tryz.prog w r b0 48 v) (h : DataW.Trod enc Tryz.prog w base spare held 48 v d p) : ∃ (l : List Thg) (A : Option Addr) (c : Nat) (a : GA), v = .slice A l.length c ∧ ArrTh w A l c a := by
  obtain ⟨a, n, c, rfl⟩ := okWide_slice Tryz.underlying48 hv
  obtain ⟨fuel, hf⟩ := h
  have hf2 : DataW.trod enc Tryz.prog w base spare held fuel 48 [.slice a n c] = some (d, p) := by simpa [Value.cells] using hf
  obtain ⟨L, A, c, hv, ha, hr⟩ := openArr thgAt0 (fun u j => thgCells u.1 u.2.1 u.2.2 j) (fun u => ArrMk w u.2.1 u.1.marks u.2.2) Tryz.underlying48 Tryz.cellsItem (by decide) (fun n cs y hy => by
    obtain ⟨u, rfl, hm⟩ := cellsItem hy
    refine ⟨u, hm, fun j hj => ?_⟩
    match j, hj with
    | 0, _ => rfl
    | 1, _ => rfl
    | 2, _ => rfl
    | 3, _ => rfl) hf2
  exact ⟨L.map (·.1), A, c, _, by rw [hv, List.length_map], ArrTh.ofTriples L ha hr⟩
set_option maxRecDepth 100000 in
theorem cellsClaim {n : Nat} {cs : List Value} {y : DataW H × List MemPlace} (hy : DataW.trod enc Tryz.prog w base spare held n 26 cs = some y) :
    ∃ u : Thg × Option Addr × Nat, cs = [.string u.1.name, .int .i64 u.1.day, .string u.1.who, .slice u.2.1 u.1.marks.length u.2.2] ∧ ArrMk w u.2.1 u.1.marks u.2.2 := by
  have hl := (structLen Tryz.underlying26 hy).trans Tryz.cellsClaim
  match cs, hl with
  | [v0, v1, v2, v3], _ =>
    obtain ⟨a0, h0⟩ := fieldText Tryz.underlying26 hy 0 _ rfl rfl (by show _ < 4; decide)
    obtain ⟨a1, h1⟩ := fieldInt Tryz.underlying26 hy 1 _ rfl rfl (by show _ < 4; decide)
    obtain ⟨a2, h2⟩ := fieldText Tryz.underlying26 hy 2 _ rfl rfl (by show _ < 4; decide)
    obtain ⟨l3, A3, c3, h3, r3⟩ := fieldMarks Tryz.underlying26 hy 3 _ rfl rfl (by show _ < 4; decide)
    have e0 : some v0 = some (.string a0) := h0
    have e1 : some v1 = some (.int .i64 a1) := h1
    have e2 : some v2 = some (.string a2) := h2
    have e3 : some v3 = some (.slice A3 l3.length c3) := h3
    injection e0 with e0; injection e1 with e1; injection e2 with e2; injection e3 with e3
    subst e0; subst e1; subst e2; subst e3
    exact ⟨(⟨a0, a1, a2, l3⟩, A3, c3), rfl, r3⟩
set_option maxRecDepth 100000 in
theorem openClaim {r : Reach} {b0 : Nat} {v : Value} {d : DataW H} {p : List MemPlace} (hv : Value.okWide Tryz.prog w r b0 26 v) (h : DataW.Trod enc Tryz.prog w base spare held 26 v d p) : ∃ x, RdThg w v x := by
  obtain ⟨cs, rfl, hsz⟩ := okWide_struct Tryz.underlying26 hv
  obtain ⟨fuel, hf⟩ := h
  have hy : DataW.trod enc Tryz.prog w base spare held fuel 26 cs.toList = some (d, p) := by simpa [Value.cells] using hf
  obtain ⟨u, hu, hm⟩ := cellsClaim hy
  refine ⟨u.1, u.2.1, u.2.2, ?_, hm⟩
  obtain ⟨l⟩ := cs
  show Value.agg _ = _
  rw [show l = _ from hu]
set_option maxRecDepth 100000 in
theorem openClaims {r : Reach} {b0 : Nat} {v : Value} {d : DataW H} {p : List MemPlace} (hv : Value.okWide Tryz.prog w r b0 50 v) (h : DataW.Trod enc Tryz.prog w base spare held 50 v d p) : ∃ (l : List Thg) (A : Option Addr) (c : Nat) (a : GA), v = .slice A l.length c ∧ ArrTh w A l c a := by
  obtain ⟨a, n, c, rfl⟩ := okWide_slice Tryz.underlying50 hv
  obtain ⟨fuel, hf⟩ := h
  have hf2 : DataW.trod enc Tryz.prog w base spare held fuel 50 [.slice a n c] = some (d, p) := by simpa [Value.cells] using hf
  obtain ⟨L, A, c, hv, ha, hr⟩ := openArr thgAt0 (fun u j => thgCells u.1 u.2.1 u.2.2 j) (fun u => ArrMk w u.2.1 u.1.marks u.2.2) Tryz.underlying50 Tryz.cellsClaim (by decide) (fun n cs y hy => by
    obtain ⟨u, rfl, hm⟩ := cellsClaim hy
    refine ⟨u, hm, fun j hj => ?_⟩
    match j, hj with
    | 0, _ => rfl
    | 1, _ => rfl
    | 2, _ => rfl
    | 3, _ => rfl) hf2
  exact ⟨L.map (·.1), A, c, _, by rw [hv, List.length_map], ArrTh.ofTriples L ha hr⟩
set_option maxRecDepth 100000 in
theorem openEventsC {fuel : Nat} {v : Value} {x : DataW H × List MemPlace} (h : DataW.trod enc Tryz.prog w base spare held fuel 86 [v] = some x) : ∃ (l : List Evt) (A : Option Addr) (c : Nat), v = .slice A l.length c ∧ ArrEv w A l c := by
  obtain ⟨l, A, c, hv, ha, -⟩ := openArr evt0 evtCells (fun _ => True) Tryz.underlying86 Tryz.cellsEvent (by decide) (fun n cs y hy => by
    have hl := (structLen Tryz.underlying107 hy).trans Tryz.cellsEvent
    match cs, hl with
    | [v0, v1, v2, v3, v4], _ =>
      obtain ⟨a0, h0⟩ := fieldText Tryz.underlying107 hy 0 _ rfl rfl (by show _ < 5; decide)
      obtain ⟨a1, h1⟩ := fieldInt Tryz.underlying107 hy 1 _ rfl rfl (by show _ < 5; decide)
      obtain ⟨a2, h2⟩ := fieldInt Tryz.underlying107 hy 2 _ rfl rfl (by show _ < 5; decide)
      obtain ⟨a3, h3⟩ := fieldText Tryz.underlying107 hy 3 _ rfl rfl (by show _ < 5; decide)
      obtain ⟨a4, h4⟩ := fieldText Tryz.underlying107 hy 4 _ rfl rfl (by show _ < 5; decide)
      have e0 : some v0 = some (.string a0) := h0
      have e1 : some v1 = some (.int .i64 a1) := h1
      have e2 : some v2 = some (.int .i64 a2) := h2
      have e3 : some v3 = some (.string a3) := h3
      have e4 : some v4 = some (.string a4) := h4
      injection e0 with e0; injection e1 with e1; injection e2 with e2; injection e3 with e3; injection e4 with e4
      subst e0; subst e1; subst e2; subst e3; subst e4
      refine ⟨⟨a0, a1, a2, a3, a4⟩, trivial, fun j hj => ?_⟩
      match j, hj with
      | 0, _ => rfl
      | 1, _ => rfl
      | 2, _ => rfl
      | 3, _ => rfl
      | 4, _ => rfl) h
  exact ⟨l, A, c, hv, ha⟩
set_option maxRecDepth 100000 in
theorem openEvents {r : Reach} {b0 : Nat} {v : Value} {d : DataW H} {p : List MemPlace} (hv : Value.okWide Tryz.prog w r b0 86 v) (h : DataW.Trod enc Tryz.prog w base spare held 86 v d p) : ∃ (l : List Evt) (A : Option Addr) (c : Nat), v = .slice A l.length c ∧ ArrEv w A l c := by
  obtain ⟨a, n, c, rfl⟩ := okWide_slice Tryz.underlying86 hv
  obtain ⟨fuel, hf⟩ := h
  exact openEventsC (by simpa [Value.cells] using hf)
set_option maxRecDepth 100000 in
theorem openPairs {fuel : Nat} {v : Value} {x : DataW H × List MemPlace} (h : DataW.trod enc Tryz.prog w base spare held fuel 68 [v] = some x) : ∃ (l : List (Int × Int)) (A : Option Addr) (c : Nat), v = .slice A l.length c ∧ ArrPr w A l c := by
  obtain ⟨l, A, c, hv, ha, -⟩ := openArr ((0, 0) : Int × Int) prCells (fun _ => True) Tryz.underlying68 Tryz.cellsPair (by decide) (fun n cs y hy => by
    obtain ⟨xs, m, -, -, hcl, hl, hg⟩ := DataW.trod_array Tryz.underlying42 hy
    rw [Tryz.cellsPair] at hcl
    match cs, hcl with
    | [v0, v1], _ =>
      have h0 := hg 0 (by decide)
      have h1 := hg 1 (by decide)
      rw [Tryz.cellsInt, List.getElem?_eq_getElem (by omega)] at h0 h1
      obtain ⟨a0, g0, -⟩ := DataW.trod_int Tryz.underlying3 h0
      obtain ⟨a1, g1, -⟩ := DataW.trod_int Tryz.underlying3 h1
      have e0 : [v0] = [.int .i64 a0] := g0
      have e1 : [v1] = [.int .i64 a1] := g1
      injection e0 with e0; injection e1 with e1
      subst e0; subst e1
      refine ⟨(a0, a1), trivial, fun j hj => ?_⟩
      match j, hj with
      | 0, _ => rfl
      | 1, _ => rfl) h
  exact ⟨l, A, c, hv, ha⟩
set_option maxRecDepth 100000 in
theorem openProof {r : Reach} {b0 : Nat} {v : Value} {d : DataW H} {p : List MemPlace} (hv : Value.okWide Tryz.prog w r b0 72 v) (h : DataW.Trod enc Tryz.prog w base spare held 72 v d p) :
    ∃ (q : List (Int × Int)) (s t : List Int) (P S T : Option Addr) (pc sc tc : Nat), v = .agg #[.slice P q.length pc, .slice S s.length sc, .slice T t.length tc] ∧ ArrPr w P q pc ∧ ArrI w S s sc ∧ ArrI w T t tc := by
  obtain ⟨cs, rfl, hsz⟩ := okWide_struct Tryz.underlying72 hv
  obtain ⟨l⟩ := cs
  match l, hsz.trans Tryz.cellsProof with
  | [v0, v1, v2], _ =>
    obtain ⟨fuel, hf⟩ := h
    have hy : DataW.trod enc Tryz.prog w base spare held fuel 72 [v0, v1, v2] = some (d, p) := by simpa [Value.cells] using hf
    obtain ⟨u0, y0, n0, g0, k0⟩ := fieldOne Tryz.underlying72 hy 0 _ rfl Tryz.cellsPairs (by show _ < 3; decide)
    obtain ⟨q, P, pc, rfl, hq⟩ := openPairs k0
    obtain ⟨y1, n1, g1⟩ := fieldCells Tryz.underlying72 hy 1 _ rfl
    have g2 : DataW.trod enc Tryz.prog w base spare held n1 70 (([v0, v1, v2].drop 1).take (Tryz.prog.cellsOf 70)) = some y1 := g1
    rw [Tryz.cellsCover] at g2
    have g3 : DataW.trod enc Tryz.prog w base spare held n1 70 [v1, v2] = some y1 := g2
    obtain ⟨s, S, sc, h1, r1⟩ := fieldInts Tryz.underlying70 g3 0 _ rfl rfl (by show _ < 2; decide)
    obtain ⟨t, T, tc, h2, r2⟩ := fieldInts Tryz.underlying70 g3 1 _ rfl rfl (by show _ < 2; decide)
    have e0 : some v0 = some (.slice P q.length pc) := g0
    have e1 : some v1 = some (.slice S s.length sc) := h1
    have e2 : some v2 = some (.slice T t.length tc) := h2
    injection e0 with e0; injection e1 with e1; injection e2 with e2
    subst e0; subst e1; subst e2
    exact ⟨q, s, t, P, S, T, pc, sc, tc, rfl, hq, r1, r2⟩
end
end Go.Proofs.YtfjdnbnalihjiaaGreatDoor

/- Plates. No condition. -/
import Derived.Test.YtjmaankkbdpikaaY6
import Derived.Test.YtjmaankkbdpikaaX11
import Derived.Test.YtjmaankkbdpikaaY2
import Derived.Test.YtjmaankkbdpikaaMem
import Derived.Test.YtjmaankkbdpikaaProg
import Derived.Deep.Slices
import Derived.Deep.Frames
import Derived.Deep.Modes
import Derived.ProofKit
import Derived.Carry
import Derived.OpenShut
namespace Go.Proofs.Ytjmaankkbdpikaa
open Go.RowKit Fs

theorem ArrI.offB {w : World} {g : Nat} {l : List Int} {c : Nat} (h : ArrI w (some ⟨g, 0, none⟩) l c) {p : Addr} (hp : p.block ≠ g) (v : Value) : ArrI (w.setCell p v) (some ⟨g, 0, none⟩) l c := by
  refine ⟨h.1, h.2.1, fun hn => ?_⟩
  obtain ⟨b, o, h1, h2⟩ := h.2.2 hn
  refine ⟨b, o, h1, fun i j hi hj => ?_⟩
  have h3 := h2 i j hi hj
  simp only [Option.some.injEq, Addr.mk.injEq] at h1
  rw [World.cell?_setCell_other _ _ _ _ (fun e => hp (by rw [e]; exact h1.1.symm))]
  exact h3
theorem ArrI.firsts {w : World} {B : Option Addr} {l : List Int} {c : Nat} (h : ArrI w B l c) {k : Nat} (hk : k ≤ l.length) : ArrI w B (l.take k) c := by
  have hl : (l.take k).length = k := by rw [List.length_take]; omega
  have h1 := h.1
  refine ⟨by rw [hl]; omega, h.2.1, fun hn => ?_⟩
  rw [hl] at hn
  obtain ⟨b, o, h2, h3⟩ := h.2.2 (by omega)
  refine ⟨b, o, h2, fun i j hi hj => ?_⟩
  rw [hl] at hi
  have h4 := h3 i j (by omega) hj
  have h5 : listI (l.take k) i = listI l i := by
    unfold listI
    rw [List.getD_eq_getElem?_getD, List.getD_eq_getElem?_getD, List.getElem?_take_of_lt hi]
  simp only [h5]
  exact h4
theorem TreeAt.offB {w : World} {g : Nat} {u v : Value} (m : TreeAt w g u v) {p : Addr} (hp : p.block ≠ g) (x : Value) : TreeAt (w.setCell p x) g u v :=
  ⟨(World.cell?_setCell_other _ _ _ _ (fun e => hp (by rw [e]))).trans m.c0, (World.cell?_setCell_other _ _ _ _ (fun e => hp (by rw [e]))).trans m.c1, (World.frozen?_setCell _ _ _ _).trans m.f0, (World.frozen?_setCell _ _ _ _).trans m.f1⟩
theorem TreeAt.put1 {w : World} {g : Nat} {u v : Value} (m : TreeAt w g u v) (x : Value) : TreeAt (w.setCell ⟨g, 1, none⟩ x) g u x :=
  ⟨(World.cell?_setCell_other _ _ _ _ (by simp)).trans m.c0, World.cell?_setCell_same _ _ _ m.c1, (World.frozen?_setCell _ _ _ _).trans m.f0, (World.frozen?_setCell _ _ _ _).trans m.f1⟩
theorem firsts_at {O : List Nat} {k j : Nat} (hj : j < k) : (O.take k).getD j 0 = O.getD j 0 := by
  rw [List.getD_eq_getElem?_getD, List.getD_eq_getElem?_getD, List.getElem?_take_of_lt hj]
theorem free_firsts {l : List WRec} {P : List Int} {O : List Nat} {u k C p : Nat} (h : Free l P (O.take k) u k C p) : Free l P O u k C p :=
  ⟨h.le, fun j hj => by have := h.no j hj; rw [firsts_at hj] at this; exact this, fun q hq => by
    obtain ⟨j, hj, h1, h2⟩ := h.low q hq
    rw [firsts_at hj] at h1 h2
    exact ⟨j, hj, h1, h2⟩⟩
end Go.Proofs.Ytjmaankkbdpikaa
/- Contracts of Plates and CheckPlates. No condition. -/
namespace Go.Proofs.Ytjmaankkbdpikaa

end Go.Proofs.Ytjmaankkbdpikaa
/- Arguments as they come read as a net and an examination. No condition. -/
namespace Go.Proofs.Ytjmaankkbdpikaa
open Go.ChangeShapes Go.WideShapes Go.RowKit Go.Deep Fs

theorem Try.cellsInt : Try.prog.cellsOf 3 = 1 := by kernel_rfl
theorem Try.cellsText : Try.prog.cellsOf 9 = 1 := by kernel_rfl
theorem Try.cellsTexts : Try.prog.cellsOf 22 = 1 := by kernel_rfl
theorem Try.cellsInts : Try.prog.cellsOf 48 = 1 := by kernel_rfl
theorem Try.cellsRoads : Try.prog.cellsOf 23 = 1 := by kernel_rfl
theorem Try.cellsPts : Try.prog.cellsOf 56 = 1 := by kernel_rfl
theorem Try.cellsRange : Try.prog.cellsOf 36 = 2 := by kernel_rfl
theorem Try.cellsPt : Try.prog.cellsOf 116 = 3 := by kernel_rfl
theorem Try.cellsRd : Try.prog.cellsOf 58 = 5 := by kernel_rfl
theorem Try.cellsNet : Try.prog.cellsOf 25 = 2 := by kernel_rfl
section
variable {H : Type} {enc : TypeId × Value → H} {P : Program} {w : World} {base : Nat} {spare : Nat → Bool} {held : Bool}
/-- A field's cells, and that they are read. -/
theorem fieldCells {t : TypeId} {fs : Array Field} {fuel : Nat} {cs : List Value} {x : DataW H × List MemPlace} (ht : P.underlying t = some (.struct fs)) (h : DataW.trod enc P w base spare held fuel t cs = some x) (j : Nat) (f : Field) (hj : fs[j]? = some f) :
    ∃ y n, DataW.trod enc P w base spare held n f.type ((cs.drop f.offset).take (P.cellsOf f.type)) = some y := by
  obtain ⟨xs, n, -, -, -, hl, hg⟩ := DataW.trod_struct ht h
  have hlt : j < xs.length := by
    rw [hl]
    rcases Nat.lt_or_ge j fs.size with h | h
    · exact h
    · rw [Array.getElem?_eq_none h] at hj; cases hj
  exact ⟨xs[j], n, by rw [hg j f hj, List.getElem?_eq_getElem hlt]⟩
theorem fieldOne {t : TypeId} {fs : Array Field} {fuel : Nat} {cs : List Value} {x : DataW H × List MemPlace} (ht : P.underlying t = some (.struct fs)) (h : DataW.trod enc P w base spare held fuel t cs = some x) (j : Nat) (f : Field) (hj : fs[j]? = some f) (h1 : P.cellsOf f.type = 1) (ho : f.offset < cs.length) :
    ∃ v y n, cs[f.offset]? = some v ∧ DataW.trod enc P w base spare held n f.type [v] = some y := by
  obtain ⟨y, n, hy⟩ := fieldCells ht h j f hj
  rw [h1, List.drop_eq_getElem_cons ho] at hy
  exact ⟨cs[f.offset], y, n, List.getElem?_eq_getElem ho, hy⟩
theorem structLen {t : TypeId} {fs : Array Field} {fuel : Nat} {cs : List Value} {x : DataW H × List MemPlace} (ht : P.underlying t = some (.struct fs)) (h : DataW.trod enc P w base spare held fuel t cs = some x) : cs.length = P.cellsOf t := by
  obtain ⟨xs, n, -, -, hl, -, -⟩ := DataW.trod_struct ht h
  exact hl
/-- A slice whose elements are read reads as a row. -/
theorem openArr {α : Type} (d0 : α) (cell : α → Nat → Value) (R : α → Prop) {t e : TypeId} {size fuel : Nat} {v : Value} {x : DataW H × List MemPlace} (ht : P.underlying t = some (.slice e)) (hC : P.cellsOf e = size) (hs : 0 < size)
    (he : ∀ n cs y, DataW.trod enc P w base spare held n e cs = some y → ∃ u, R u ∧ ∀ j, j < size → cs[j]? = some (cell u j)) (h : DataW.trod enc P w base spare held fuel t [v] = some x) :
    ∃ (l : List α) (A : Option Addr) (c : Nat), v = .slice A l.length c ∧ Arr w A l.length c size (fun i j => cell (l.getD i d0) j) ∧ ∀ i, i < l.length → R (l.getD i d0) := by
  rcases open_slice ht h with ⟨hcs, -⟩ | ⟨a, len, cap, m, n, D, Pl, hcs, -, hl, hm, hmm, -, hi⟩
  · injection hcs with hcs
    exact ⟨[], none, 0, hcs, ⟨Nat.le_refl _, by omega, fun hh => absurd hh (Nat.lt_irrefl 0)⟩, fun i hi => absurd hi (Nat.not_lt_zero _)⟩
  · injection hcs with hcs
    have hlm : len ≤ m := by rw [hmm]; split <;> omega
    have hel : ∀ i : Nat, ∃ u, i < len → R u ∧ ∀ j, j < size → w.cell? ((a.add (i * size)).add j) = some (cell u j) := by
      intro i
      by_cases hil : i < len
      · obtain ⟨cs', hc, ht'⟩ := hi i (by omega)
        rw [hC] at hc
        obtain ⟨u, hR, hu⟩ := he _ _ _ ht'
        obtain ⟨-, -, hat⟩ := World.cells?_some hc
        exact ⟨u, fun _ => ⟨hR, fun j hj => (hat j hj).trans (hu j hj)⟩⟩
      · exact ⟨d0, fun h => absurd h hil⟩
    obtain ⟨f, hf⟩ := Classical.axiomOfChoice hel
    have hlen : ((List.range len).map f).length = len := by simp
    have hget : ∀ i, i < len → ((List.range len).map f).getD i d0 = f i := fun i hi => by
      rw [List.getD_eq_getElem?_getD, List.getElem?_map, List.getElem?_range hi]
      rfl
    refine ⟨(List.range len).map f, some a, cap, by rw [hlen]; exact hcs, ⟨by omega, by unfold maxLen at hm; omega, fun hp => ?_⟩, fun i hi => by rw [hlen] at hi; rw [hget i hi]; exact (hf i hi).1⟩
    rw [hlen] at hp
    obtain ⟨ab, ao, asp⟩ := a
    have has : asp = none := by simpa [Addr.add] using World.cell?_spot ((hf 0 hp).2 0 hs)
    subst has
    refine ⟨ab, ao, rfl, fun i j hi hj => ?_⟩
    rw [hlen] at hi
    show w.cell? _ = some (cell (((List.range len).map f).getD i d0) j)
    rw [hget i hi]
    have := (hf i hi).2 j hj
    rwa [add_plain, add_plain] at this
end

section
variable {H : Type} {enc : TypeId × Value → H} {w : World} {base : Nat} {spare : Nat → Bool} {held : Bool}
theorem openInts {fuel : Nat} {v : Value} {x : DataW H × List MemPlace} (h : DataW.trod enc Try.prog w base spare held fuel 48 [v] = some x) : ∃ l A c, v = .slice A (List.length l) c ∧ ArrI w A l c := by
  obtain ⟨l, A, c, hv, ha, -⟩ := openArr (0 : Int) (fun x _ => .int .i64 x) (fun _ => True) Try.underlying48 Try.cellsInt (by decide) (fun n cs y hy => by
    obtain ⟨k, hk, -⟩ := DataW.trod_int Try.underlying3 hy
    exact ⟨k, trivial, fun j hj => by
      have : j = 0 := by omega
      subst this; rw [hk]; rfl⟩) h
  exact ⟨l, A, c, hv, ha⟩
theorem openTexts {fuel : Nat} {v : Value} {x : DataW H × List MemPlace} (h : DataW.trod enc Try.prog w base spare held fuel 22 [v] = some x) : ∃ l A c, v = .slice A (List.length l) c ∧ ArrS w A l c := by
  obtain ⟨l, A, c, hv, ha, -⟩ := openArr ByteArray.empty (fun x _ => .string x) (fun _ => True) Try.underlying22 Try.cellsText (by decide) (fun n cs y hy => by
    obtain ⟨k, hk, -⟩ := DataW.trod_string Try.underlying9 hy
    exact ⟨k, trivial, fun j hj => by
      have : j = 0 := by omega
      subst this; rw [hk]; rfl⟩) h
  exact ⟨l, A, c, hv, ha⟩
theorem fieldInt {t : TypeId} {fs : Array Field} {fuel : Nat} {cs : List Value} {x : DataW H × List MemPlace} (ht : Try.prog.underlying t = some (.struct fs)) (h : DataW.trod enc Try.prog w base spare held fuel t cs = some x) (j : Nat) (f : Field) (hj : fs[j]? = some f) (hf : f.type = 3) (ho : f.offset < cs.length) : ∃ k, cs[f.offset]? = some (.int .i64 k) := by
  obtain ⟨v, y, n, h1, h2⟩ := fieldOne ht h j f hj (by rw [hf]; exact Try.cellsInt) ho
  rw [hf] at h2
  obtain ⟨k, hk, -⟩ := DataW.trod_int Try.underlying3 h2
  injection hk with hk
  exact ⟨k, by rw [h1, hk]⟩
theorem fieldText {t : TypeId} {fs : Array Field} {fuel : Nat} {cs : List Value} {x : DataW H × List MemPlace} (ht : Try.prog.underlying t = some (.struct fs)) (h : DataW.trod enc Try.prog w base spare held fuel t cs = some x) (j : Nat) (f : Field) (hj : fs[j]? = some f) (hf : f.type = 9) (ho : f.offset < cs.length) : ∃ k, cs[f.offset]? = some (.string k) := by
  obtain ⟨v, y, n, h1, h2⟩ := fieldOne ht h j f hj (by rw [hf]; exact Try.cellsText) ho
  rw [hf] at h2
  obtain ⟨k, hk, -⟩ := DataW.trod_string Try.underlying9 h2
  injection hk with hk
  exact ⟨k, by rw [h1, hk]⟩
theorem fieldInts {t : TypeId} {fs : Array Field} {fuel : Nat} {cs : List Value} {x : DataW H × List MemPlace} (ht : Try.prog.underlying t = some (.struct fs)) (h : DataW.trod enc Try.prog w base spare held fuel t cs = some x) (j : Nat) (f : Field) (hj : fs[j]? = some f) (hf : f.type = 48) (ho : f.offset < cs.length) : ∃ l A c, cs[f.offset]? = some (.slice A (List.length l) c) ∧ ArrI w A l c := by
  obtain ⟨v, y, n, h1, h2⟩ := fieldOne ht h j f hj (by rw [hf]; exact Try.cellsInts) ho
  rw [hf] at h2
  obtain ⟨l, A, c, hv, ha⟩ := openInts h2
  exact ⟨l, A, c, by rw [h1, hv], ha⟩
end

section
variable {H : Type} {enc : TypeId × Value → H} {w : World} {base : Nat} {spare : Nat → Bool} {held : Bool}
set_option maxRecDepth 100000 in
theorem openPts {fuel : Nat} {v : Value} {x : DataW H × List MemPlace} (h : DataW.trod enc Try.prog w base spare held fuel 56 [v] = some x) : ∃ l A c, v = .slice A (List.length l) c ∧ ArrP w A l c := by
  obtain ⟨l, A, c, hv, ha, -⟩ := openArr p0 ptCells (fun _ => True) Try.underlying56 Try.cellsPt (by decide) (fun n cs y hy => by
    have hl := (structLen Try.underlying116 hy).trans Try.cellsPt
    match cs, hl with
    | [v0, v1, v2], _ =>
      obtain ⟨a0, h0⟩ := fieldInt Try.underlying116 hy 0 _ rfl rfl (by show _ < 3; decide)
      obtain ⟨y1, n1, g0⟩ := fieldCells Try.underlying116 hy 1 _ rfl
      have g1 : DataW.trod enc Try.prog w base spare held n1 36 (([v0, v1, v2].drop 1).take (Try.prog.cellsOf 36)) = some y1 := g0
      rw [Try.cellsRange] at g1
      have g2 : DataW.trod enc Try.prog w base spare held n1 36 [v1, v2] = some y1 := g1
      obtain ⟨a1, h1⟩ := fieldInt Try.underlying36 g2 0 _ rfl rfl (by show _ < 2; decide)
      obtain ⟨a2, h2⟩ := fieldInt Try.underlying36 g2 1 _ rfl rfl (by show _ < 2; decide)
      have e0 : some v0 = some (.int .i64 a0) := h0
      have e1 : some v1 = some (.int .i64 a1) := h1
      have e2 : some v2 = some (.int .i64 a2) := h2
      injection e0 with e0; injection e1 with e1; injection e2 with e2
      subst e0; subst e1; subst e2
      refine ⟨⟨a0, a1, a2⟩, trivial, fun j hj => ?_⟩
      match j, hj with
      | 0, _ => rfl
      | 1, _ => rfl
      | 2, _ => rfl) h
  exact ⟨l, A, c, hv, ha⟩
theorem fieldPts {t : TypeId} {fs : Array Field} {fuel : Nat} {cs : List Value} {x : DataW H × List MemPlace} (ht : Try.prog.underlying t = some (.struct fs)) (h : DataW.trod enc Try.prog w base spare held fuel t cs = some x) (j : Nat) (f : Field) (hj : fs[j]? = some f) (hf : f.type = 56) (ho : f.offset < cs.length) : ∃ l A c, cs[f.offset]? = some (.slice A (List.length l) c) ∧ ArrP w A l c := by
  obtain ⟨v, y, n, h1, h2⟩ := fieldOne ht h j f hj (by rw [hf]; exact Try.cellsPts) ho
  rw [hf] at h2
  obtain ⟨l, A, c, hv, ha⟩ := openPts h2
  exact ⟨l, A, c, by rw [h1, hv], ha⟩
/-- A road and where its points lie. -/
abbrev RdX := Rd × Option Addr × Nat
def rdX0 : RdX := (d0, none, 0)
set_option maxRecDepth 100000 in
theorem openRds {fuel : Nat} {v : Value} {x : DataW H × List MemPlace} (h : DataW.trod enc Try.prog w base spare held fuel 23 [v] = some x) : ∃ l A c a, v = .slice A (List.length l) c ∧ ArrD w A l c a := by
  obtain ⟨l, A, c, hv, ha, hr⟩ := openArr rdX0 (fun u j => rdCells u.1 u.2.1 u.2.2 j) (fun u => ArrP w u.2.1 u.1.pts u.2.2) Try.underlying23 Try.cellsRd (by decide) (fun n cs y hy => by
    have hl := (structLen Try.underlying58 hy).trans Try.cellsRd
    obtain ⟨a0, h0⟩ := fieldText Try.underlying58 hy 0 _ rfl rfl (by rw [hl]; decide)
    obtain ⟨a1, h1⟩ := fieldInt Try.underlying58 hy 1 _ rfl rfl (by rw [hl]; decide)
    obtain ⟨a2, h2⟩ := fieldInt Try.underlying58 hy 2 _ rfl rfl (by rw [hl]; decide)
    obtain ⟨a3, h3⟩ := fieldInt Try.underlying58 hy 3 _ rfl rfl (by rw [hl]; decide)
    obtain ⟨a4, A4, c4, h4, r4⟩ := fieldPts Try.underlying58 hy 4 _ rfl rfl (by rw [hl]; decide)
    refine ⟨(⟨a0, a1, a2, a3, a4⟩, A4, c4), r4, fun j hj => ?_⟩
    match j, hj with
    | 0, _ => exact h0
    | 1, _ => exact h1
    | 2, _ => exact h2
    | 3, _ => exact h3
    | 4, _ => exact h4) h
  have hlen : (l.map (·.1)).length = l.length := by simp
  have hget : ∀ i, listD (l.map (·.1)) i = (l.getD i rdX0).1 := fun i => by
    unfold listD
    rw [List.getD_eq_getElem?_getD, List.getD_eq_getElem?_getD, List.getElem?_map]
    cases l[i]? <;> rfl
  refine ⟨l.map (·.1), A, c, ⟨fun i => (l.getD i rdX0).2.1, fun i => (l.getD i rdX0).2.2⟩, by rw [hlen]; exact hv, ?_, fun i hi => ?_⟩
  · rw [hlen]
    simp only [hget]
    exact ha
  · rw [hlen] at hi
    rw [hget]
    exact hr i hi
set_option maxRecDepth 100000 in
theorem openNet {r : Reach} {b0 : Nat} {v : Value} {d : DataW H} {p : List MemPlace} (hv : Value.okWide Try.prog w r b0 25 v) (h : DataW.Trod enc Try.prog w base spare held 25 v d p) : ∃ N, RdNet w v N := by
  obtain ⟨cs, rfl, hsz⟩ := okWide_struct Try.underlying25 hv
  obtain ⟨l⟩ := cs
  match l, hsz.trans Try.cellsNet with
  | [v0, v1], _ =>
    obtain ⟨fuel, hf⟩ := h
    have hy : DataW.trod enc Try.prog w base spare held fuel 25 [v0, v1] = some (d, p) := by simpa [Value.cells] using hf
    obtain ⟨u0, y0, n0, g0, k0⟩ := fieldOne Try.underlying25 hy 0 _ rfl Try.cellsTexts (by show _ < 2; decide)
    obtain ⟨u1, y1, n1, g1, k1⟩ := fieldOne Try.underlying25 hy 1 _ rfl Try.cellsRoads (by show _ < 2; decide)
    obtain ⟨l0, A0, c0, rfl, r0⟩ := openTexts k0
    obtain ⟨l1, A1, c1, a1, rfl, r1⟩ := openRds k1
    have e0 : some v0 = some (.slice A0 l0.length c0) := g0
    have e1 : some v1 = some (.slice A1 l1.length c1) := g1
    injection e0 with e0; injection e1 with e1
    subst e0; subst e1
    exact ⟨⟨l0, l1⟩, A0, A1, c0, c1, a1, rfl, r0, r1⟩
end
end Go.Proofs.Ytjmaankkbdpikaa
/- Arguments as they come read as a way, a trip, two numbers. No condition. -/
namespace Go.Proofs.Ytjmaankkbdpikaa
open Go.ChangeShapes Go.WideShapes Go.RowKit Go.Deep Fs

theorem Try.cellsPair : Try.prog.cellsOf 134 = 2 := by kernel_rfl
theorem Try.cellsTrip : Try.prog.cellsOf 27 = 3 := by kernel_rfl
theorem okWide_array {P : Program} {w : World} {r : Reach} {base n : Nat} {t e : TypeId} {v : Value} (ht : P.underlying t = some (.array n e)) (h : Value.okWide P w r base t v) : ∃ cs, v = .agg cs ∧ cs.size = P.cellsOf t := by
  simp only [Value.okWide, ht] at h
  obtain ⟨cs, h1, h2, _⟩ := h
  exact ⟨cs, h1, h2⟩
section
variable {H : Type} {enc : TypeId × Value → H} {w : World} {base : Nat} {spare : Nat → Bool} {held : Bool}
set_option maxRecDepth 100000 in
theorem openWay {r : Reach} {b0 : Nat} {v : Value} {d : DataW H} {p : List MemPlace} (hv : Value.okWide Try.prog w r b0 48 v) (h : DataW.Trod enc Try.prog w base spare held 48 v d p) : ∃ (l : List Int) (A : Option Addr) (c : Nat), v = .slice A l.length c ∧ ArrI w A l c := by
  obtain ⟨a, n, c, rfl⟩ := okWide_slice Try.underlying48 hv
  obtain ⟨fuel, hf⟩ := h
  exact openInts (by simpa [Value.cells] using hf)
set_option maxRecDepth 100000 in
theorem openTrip {r : Reach} {b0 : Nat} {v : Value} {d : DataW H} {p : List MemPlace} (hv : Value.okWide Try.prog w r b0 27 v) (h : DataW.Trod enc Try.prog w base spare held 27 v d p) : ∃ x y z : Int, v = .agg #[.int .i64 x, .int .i64 y, .int .i64 z] := by
  obtain ⟨cs, rfl, hsz⟩ := okWide_struct Try.underlying27 hv
  obtain ⟨l⟩ := cs
  match l, hsz.trans Try.cellsTrip with
  | [v0, v1, v2], _ =>
    obtain ⟨fuel, hf⟩ := h
    have hy : DataW.trod enc Try.prog w base spare held fuel 27 [v0, v1, v2] = some (d, p) := by simpa [Value.cells] using hf
    obtain ⟨a0, g0⟩ := fieldInt Try.underlying27 hy 0 _ rfl rfl (by show _ < 3; decide)
    obtain ⟨a1, g1⟩ := fieldInt Try.underlying27 hy 1 _ rfl rfl (by show _ < 3; decide)
    obtain ⟨a2, g2⟩ := fieldInt Try.underlying27 hy 2 _ rfl rfl (by show _ < 3; decide)
    have e0 : some v0 = some (.int .i64 a0) := g0
    have e1 : some v1 = some (.int .i64 a1) := g1
    have e2 : some v2 = some (.int .i64 a2) := g2
    injection e0 with e0; injection e1 with e1; injection e2 with e2
    subst e0; subst e1; subst e2
    exact ⟨a0, a1, a2, rfl⟩
set_option maxRecDepth 100000 in
theorem openPair {r : Reach} {b0 : Nat} {v : Value} {d : DataW H} {p : List MemPlace} (hv : Value.okWide Try.prog w r b0 134 v) (h : DataW.Trod enc Try.prog w base spare held 134 v d p) : ∃ x y : Int, v = .agg #[.int .i64 x, .int .i64 y] := by
  obtain ⟨cs, rfl, hsz⟩ := okWide_array Try.underlying134 hv
  obtain ⟨l⟩ := cs
  match l, hsz.trans Try.cellsPair with
  | [v0, v1], _ =>
    obtain ⟨fuel, hf⟩ := h
    have hy : DataW.trod enc Try.prog w base spare held fuel 134 [v0, v1] = some (d, p) := by simpa [Value.cells] using hf
    obtain ⟨xs, m, -, -, -, hl, hg⟩ := DataW.trod_array Try.underlying134 hy
    have h0 := hg 0 (by decide)
    have h1 := hg 1 (by decide)
    rw [Try.cellsInt, List.getElem?_eq_getElem (by omega)] at h0 h1
    obtain ⟨a0, g0, -⟩ := DataW.trod_int Try.underlying3 h0
    obtain ⟨a1, g1, -⟩ := DataW.trod_int Try.underlying3 h1
    have e0 : [v0] = [.int .i64 a0] := g0
    have e1 : [v1] = [.int .i64 a1] := g1
    injection e0 with e0; injection e1 with e1
    subst e0; subst e1
    exact ⟨a0, a1, rfl⟩
end
end Go.Proofs.Ytjmaankkbdpikaa

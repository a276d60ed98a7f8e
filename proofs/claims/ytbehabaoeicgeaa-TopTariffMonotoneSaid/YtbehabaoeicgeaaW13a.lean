/- Arguments as they come read as a tariff, a trip and a list. No condition. -/
import Derived.Test.YtbehabaoeicgeaaMem
import Derived.Test.YtbehabaoeicgeaaProg
import Derived.Deep.Slices
import Derived.Deep.Frames
import Derived.Deep.Modes
import Derived.ProofKit
import Derived.Carry
namespace Go.Proofs.Ytbehabaoeicgeaa
open Go.ChangeShapes Go.WideShapes Go.RowKit Go.Deep Fs

theorem Try.cellsInt : Try.prog.cellsOf 3 = 1 := by kernel_rfl
theorem Try.cellsBool : Try.prog.cellsOf 4 = 1 := by kernel_rfl
theorem Try.cellsText : Try.prog.cellsOf 9 = 1 := by kernel_rfl
theorem Try.cellsTexts : Try.prog.cellsOf 22 = 1 := by kernel_rfl
theorem Try.cellsInts : Try.prog.cellsOf 23 = 1 := by kernel_rfl
theorem Try.cellsRules : Try.prog.cellsOf 24 = 1 := by kernel_rfl
theorem Try.cellsExtras : Try.prog.cellsOf 25 = 1 := by kernel_rfl
theorem Try.cellsFixeds : Try.prog.cellsOf 26 = 1 := by kernel_rfl
theorem Try.cellsSegs : Try.prog.cellsOf 31 = 1 := by kernel_rfl
theorem Try.cellsRule : Try.prog.cellsOf 63 = 10 := by kernel_rfl
theorem Try.cellsExtra : Try.prog.cellsOf 65 = 2 := by kernel_rfl
theorem Try.cellsFix : Try.prog.cellsOf 82 = 3 := by kernel_rfl
theorem Try.cellsSeg : Try.prog.cellsOf 40 = 3 := by kernel_rfl
theorem Try.cellsMoment : Try.prog.cellsOf 30 = 2 := by kernel_rfl
theorem Try.cellsTar : Try.prog.cellsOf 28 = 8 := by kernel_rfl
theorem Try.cellsTrip : Try.prog.cellsOf 33 = 5 := by kernel_rfl

section
variable {H : Type} {enc : TypeId × Value → H} {P : Program} {w : World} {base : Nat} {spare : Nat → Bool} {held : Bool}
/-- A field's cells, and that they are read. -/
theorem fieldCells {t : TypeId} {fs : Array Field} {fuel : Nat} {cs : List Value} {x : DataW H × List MemPlace} (ht : P.underlying t = some (.struct fs)) (h : DataW.trod enc P w base spare held fuel t cs = some x) (j : Nat) (f : Field) (hj : fs[j]? = some f) :
    ∃ y n, DataW.trod enc P w base spare held n f.type ((cs.drop f.offset).take (P.cellsOf f.type)) = some y := by
  obtain ⟨xs, n, -, -, -, hl, hg⟩ := DataW.trod_struct ht h
  have hlt : j < xs.length := by
    rw [hl]
    rcases Nat.lt_or_ge j fs.size with h | h
    · exact h
    · rw [Array.getElem?_eq_none h] at hj; cases hj
  exact ⟨xs[j], n, by rw [hg j f hj, List.getElem?_eq_getElem hlt]⟩
theorem fieldOne {t : TypeId} {fs : Array Field} {fuel : Nat} {cs : List Value} {x : DataW H × List MemPlace} (ht : P.underlying t = some (.struct fs)) (h : DataW.trod enc P w base spare held fuel t cs = some x) (j : Nat) (f : Field) (hj : fs[j]? = some f) (h1 : P.cellsOf f.type = 1) (ho : f.offset < cs.length) :
    ∃ v y n, cs[f.offset]? = some v ∧ DataW.trod enc P w base spare held n f.type [v] = some y := by
  obtain ⟨y, n, hy⟩ := fieldCells ht h j f hj
  rw [h1, List.drop_eq_getElem_cons ho] at hy
  exact ⟨cs[f.offset], y, n, List.getElem?_eq_getElem ho, hy⟩
theorem structLen {t : TypeId} {fs : Array Field} {fuel : Nat} {cs : List Value} {x : DataW H × List MemPlace} (ht : P.underlying t = some (.struct fs)) (h : DataW.trod enc P w base spare held fuel t cs = some x) : cs.length = P.cellsOf t := by
  obtain ⟨xs, n, -, -, hl, -, -⟩ := DataW.trod_struct ht h
  exact hl
/-- A slice whose elements are read reads as a row. -/
theorem openArr {α : Type} (d0 : α) (cell : α → Nat → Value) (R : α → Prop) {t e : TypeId} {size fuel : Nat} {v : Value} {x : DataW H × List MemPlace} (ht : P.underlying t = some (.slice e)) (hC : P.cellsOf e = size) (hs : 0 < size)
    (he : ∀ n cs y, DataW.trod enc P w base spare held n e cs = some y → ∃ u, R u ∧ ∀ j, j < size → cs[j]? = some (cell u j)) (h : DataW.trod enc P w base spare held fuel t [v] = some x) :
    ∃ (l : List α) (A : Option Addr) (c : Nat), v = .slice A l.length c ∧ Arr w A l.length c size (fun i j => cell (l.getD i d0) j) ∧ ∀ i, i < l.length → R (l.getD i d0) := by
  rcases open_slice ht h with ⟨hcs, -⟩ | ⟨a, len, cap, m, n, D, Pl, hcs, -, hl, hm, hmm, -, hi⟩
  · injection hcs with hcs
    exact ⟨[], none, 0, hcs, ⟨Nat.le_refl _, by omega, fun hh => absurd hh (Nat.lt_irrefl 0)⟩, fun i hi => absurd hi (Nat.not_lt_zero _)⟩
  · injection hcs with hcs
    have hlm : len ≤ m := by rw [hmm]; split <;> omega
    have hel : ∀ i : Nat, ∃ u, i < len → R u ∧ ∀ j, j < size → w.cell? ((a.add (i * size)).add j) = some (cell u j) := by
      intro i
      by_cases hil : i < len
      · obtain ⟨cs', hc, ht'⟩ := hi i (by omega)
        rw [hC] at hc
        obtain ⟨u, hR, hu⟩ := he _ _ _ ht'
        obtain ⟨-, -, hat⟩ := World.cells?_some hc
        exact ⟨u, fun _ => ⟨hR, fun j hj => (hat j hj).trans (hu j hj)⟩⟩
      · exact ⟨d0, fun h => absurd h hil⟩
    obtain ⟨f, hf⟩ := Classical.axiomOfChoice hel
    have hlen : ((List.range len).map f).length = len := by simp
    have hget : ∀ i, i < len → ((List.range len).map f).getD i d0 = f i := fun i hi => by
      rw [List.getD_eq_getElem?_getD, List.getElem?_map, List.getElem?_range hi]
      rfl
    refine ⟨(List.range len).map f, some a, cap, by rw [hlen]; exact hcs, ⟨by omega, by unfold maxLen at hm; omega, fun hp => ?_⟩, fun i hi => by rw [hlen] at hi; rw [hget i hi]; exact (hf i hi).1⟩
    rw [hlen] at hp
    obtain ⟨ab, ao, asp⟩ := a
    have has : asp = none := by simpa [Addr.add] using World.cell?_spot ((hf 0 hp).2 0 hs)
    subst has
    refine ⟨ab, ao, rfl, fun i j hi hj => ?_⟩
    rw [hlen] at hi
    show w.cell? _ = some (cell (((List.range len).map f).getD i d0) j)
    rw [hget i hi]
    have := (hf i hi).2 j hj
    rwa [add_plain, add_plain] at this
end

section
variable {H : Type} {enc : TypeId × Value → H} {w : World} {base : Nat} {spare : Nat → Bool} {held : Bool}
theorem openInts {fuel : Nat} {v : Value} {x : DataW H × List MemPlace} (h : DataW.trod enc Try.prog w base spare held fuel 23 [v] = some x) : ∃ l A c, v = .slice A (List.length l) c ∧ ArrI w A l c := by
  obtain ⟨l, A, c, hv, ha, -⟩ := openArr (0 : Int) (fun x _ => .int .i64 x) (fun _ => True) Try.underlying23 Try.cellsInt (by decide) (fun n cs y hy => by
    obtain ⟨k, hk, -⟩ := DataW.trod_int Try.underlying3 hy
    exact ⟨k, trivial, fun j hj => by
      have : j = 0 := by omega
      subst this; rw [hk]; rfl⟩) h
  exact ⟨l, A, c, hv, ha⟩
theorem openTexts {fuel : Nat} {v : Value} {x : DataW H × List MemPlace} (h : DataW.trod enc Try.prog w base spare held fuel 22 [v] = some x) : ∃ l A c, v = .slice A (List.length l) c ∧ ArrS w A l c := by
  obtain ⟨l, A, c, hv, ha, -⟩ := openArr ByteArray.empty (fun x _ => .string x) (fun _ => True) Try.underlying22 Try.cellsText (by decide) (fun n cs y hy => by
    obtain ⟨k, hk, -⟩ := DataW.trod_string Try.underlying9 hy
    exact ⟨k, trivial, fun j hj => by
      have : j = 0 := by omega
      subst this; rw [hk]; rfl⟩) h
  exact ⟨l, A, c, hv, ha⟩
theorem fieldInt {t : TypeId} {fs : Array Field} {fuel : Nat} {cs : List Value} {x : DataW H × List MemPlace} (ht : Try.prog.underlying t = some (.struct fs)) (h : DataW.trod enc Try.prog w base spare held fuel t cs = some x) (j : Nat) (f : Field) (hj : fs[j]? = some f) (hf : f.type = 3) (ho : f.offset < cs.length) : ∃ k, cs[f.offset]? = some (.int .i64 k) := by
  obtain ⟨v, y, n, h1, h2⟩ := fieldOne ht h j f hj (by rw [hf]; exact Try.cellsInt) ho
  rw [hf] at h2
  obtain ⟨k, hk, -⟩ := DataW.trod_int Try.underlying3 h2
  injection hk with hk
  exact ⟨k, by rw [h1, hk]⟩
theorem fieldText {t : TypeId} {fs : Array Field} {fuel : Nat} {cs : List Value} {x : DataW H × List MemPlace} (ht : Try.prog.underlying t = some (.struct fs)) (h : DataW.trod enc Try.prog w base spare held fuel t cs = some x) (j : Nat) (f : Field) (hj : fs[j]? = some f) (hf : f.type = 9) (ho : f.offset < cs.length) : ∃ k, cs[f.offset]? = some (.string k) := by
  obtain ⟨v, y, n, h1, h2⟩ := fieldOne ht h j f hj (by rw [hf]; exact Try.cellsText) ho
  rw [hf] at h2
  obtain ⟨k, hk, -⟩ := DataW.trod_string Try.underlying9 h2
  injection hk with hk
  exact ⟨k, by rw [h1, hk]⟩
theorem fieldInts {t : TypeId} {fs : Array Field} {fuel : Nat} {cs : List Value} {x : DataW H × List MemPlace} (ht : Try.prog.underlying t = some (.struct fs)) (h : DataW.trod enc Try.prog w base spare held fuel t cs = some x) (j : Nat) (f : Field) (hj : fs[j]? = some f) (hf : f.type = 23) (ho : f.offset < cs.length) : ∃ l A c, cs[f.offset]? = some (.slice A (List.length l) c) ∧ ArrI w A l c := by
  obtain ⟨v, y, n, h1, h2⟩ := fieldOne ht h j f hj (by rw [hf]; exact Try.cellsInts) ho
  rw [hf] at h2
  obtain ⟨l, A, c, hv, ha⟩ := openInts h2
  exact ⟨l, A, c, by rw [h1, hv], ha⟩
end
end Go.Proofs.Ytbehabaoeicgeaa

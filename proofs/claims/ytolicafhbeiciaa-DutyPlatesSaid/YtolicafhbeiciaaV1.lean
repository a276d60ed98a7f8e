/- Arguments as they come read as a net and an examination. No condition. -/
import Derived.Test.YtolicafhbeiciaaCopy
import Derived.Test.YtolicafhbeiciaaProg
import Derived.Deep.Slices
import Derived.Deep.Frames
import Derived.Deep.Modes
import Derived.ProofKit
import Derived.Carry
import Derived.OpenShut
import Derived.Test.YtolicafhbeiciaaX11
namespace Go.Proofs.Ytolicafhbeiciaa
open Go.ChangeShapes Go.WideShapes Go.RowKit Go.Deep Fs

theorem Try.cellsInt : Try.prog.cellsOf 3 = 1 := by kernel_rfl
theorem Try.cellsText : Try.prog.cellsOf 9 = 1 := by kernel_rfl
theorem Try.cellsTexts : Try.prog.cellsOf 85 = 1 := by kernel_rfl
theorem Try.cellsInts : Try.prog.cellsOf 92 = 1 := by kernel_rfl
theorem Try.cellsRange : Try.prog.cellsOf 52 = 2 := by kernel_rfl
section
variable {H : Type} {enc : TypeId × Value → H} {P : Program} {w : World} {base : Nat} {spare : Nat → Bool} {held : Bool}
/-- A field's cells, and that they are read. -/
theorem fieldCells {t : TypeId} {fs : Array Field} {fuel : Nat} {cs : List Value} {x : DataW H × List MemPlace} (ht : P.underlying t = some (.struct fs)) (h : DataW.trod enc P w base spare held fuel t cs = some x) (j : Nat) (f : Field) (hj : fs[j]? = some f) :
    ∃ y n, DataW.trod enc P w base spare held n f.type ((cs.drop f.offset).take (P.cellsOf f.type)) = some y := by
  obtain ⟨xs, n, -, -, -, hl, hg⟩ := DataW.trod_struct ht h
  have hlt : j < xs.length := by
    rw [hl]
    rcases Nat.lt_or_ge j fs.size with h | h
    · exact h
    · rw [Array.getElem?_eq_none h] at hj; cases hj
  exact ⟨xs[j], n, by rw [hg j f hj, List.getElem?_eq_getElem hlt]⟩
theorem fieldOne {t : TypeId} {fs : Array Field} {fuel : Nat} {cs : List Value} {x : DataW H × List MemPlace} (ht : P.underlying t = some (.struct fs)) (h : DataW.trod enc P w base spare held fuel t cs = some x) (j : Nat) (f : Field) (hj : fs[j]? = some f) (h1 : P.cellsOf f.type = 1) (ho : f.offset < cs.length) :
    ∃ v y n, cs[f.offset]? = some v ∧ DataW.trod enc P w base spare held n f.type [v] = some y := by
  obtain ⟨y, n, hy⟩ := fieldCells ht h j f hj
  rw [h1, List.drop_eq_getElem_cons ho] at hy
  exact ⟨cs[f.offset], y, n, List.getElem?_eq_getElem ho, hy⟩
theorem structLen {t : TypeId} {fs : Array Field} {fuel : Nat} {cs : List Value} {x : DataW H × List MemPlace} (ht : P.underlying t = some (.struct fs)) (h : DataW.trod enc P w base spare held fuel t cs = some x) : cs.length = P.cellsOf t := by
  obtain ⟨xs, n, -, -, hl, -, -⟩ := DataW.trod_struct ht h
  exact hl
/-- A slice whose elements are read reads as a row. -/
theorem openArr {α : Type} (d0 : α) (cell : α → Nat → Value) (R : α → Prop) {t e : TypeId} {size fuel : Nat} {v : Value} {x : DataW H × List MemPlace} (ht : P.underlying t = some (.slice e)) (hC : P.cellsOf e = size) (hs : 0 < size)
    (he : ∀ n cs y, DataW.trod enc P w base spare held n e cs = some y → ∃ u, R u ∧ ∀ j, j < size → cs[j]? = some (cell u j)) (h : DataW.trod enc P w base spare held fuel t [v] = some x) :
    ∃ (l : List α) (A : Option Addr) (c : Nat), v = .slice A l.length c ∧ Arr w A l.length c size (fun i j => cell (l.getD i d0) j) ∧ ∀ i, i < l.length → R (l.getD i d0) := by
  rcases open_slice ht h with ⟨hcs, -⟩ | ⟨a, len, cap, m, n, D, Pl, hcs, -, hl, hm, hmm, -, hi⟩
  · injection hcs with hcs
    exact ⟨[], none, 0, hcs, ⟨Nat.le_refl _, by omega, fun hh => absurd hh (Nat.lt_irrefl 0)⟩, fun i hi => absurd hi (Nat.not_lt_zero _)⟩
  · injection hcs with hcs
    have hlm : len ≤ m := by rw [hmm]; split <;> omega
    have hel : ∀ i : Nat, ∃ u, i < len → R u ∧ ∀ j, j < size → w.cell? ((a.add (i * size)).add j) = some (cell u j) := by
      intro i
      by_cases hil : i < len
      · obtain ⟨cs', hc, ht'⟩ := hi i (by omega)
        rw [hC] at hc
        obtain ⟨u, hR, hu⟩ := he _ _ _ ht'
        obtain ⟨-, -, hat⟩ := World.cells?_some hc
        exact ⟨u, fun _ => ⟨hR, fun j hj => (hat j hj).trans (hu j hj)⟩⟩
      · exact ⟨d0, fun h => absurd h hil⟩
    obtain ⟨f, hf⟩ := Classical.axiomOfChoice hel
    have hlen : ((List.range len).map f).length = len := by simp
    have hget : ∀ i, i < len → ((List.range len).map f).getD i d0 = f i := fun i hi => by
      rw [List.getD_eq_getElem?_getD, List.getElem?_map, List.getElem?_range hi]
      rfl
    refine ⟨(List.range len).map f, some a, cap, by rw [hlen]; exact hcs, ⟨by omega, by unfold maxLen at hm; omega, fun hp => ?_⟩, fun i hi => by rw [hlen] at hi; rw [hget i hi]; exact (hf i hi).1⟩
    rw [hlen] at hp
    obtain ⟨ab, ao, asp⟩ := a
    have has : asp = none := by simpa [Addr.add] using World.cell?_spot ((hf 0 hp).2 0 hs)
    subst has
    refine ⟨ab, ao, rfl, fun i j hi hj => ?_⟩
    rw [hlen] at hi
    show w.cell? _ = some (cell (((List.range len).map f).getD i d0) j)
    rw [hget i hi]
    have := (hf i hi).2 j hj
    rwa [add_plain, add_plain] at this
end

section
variable {H : Type} {enc : TypeId × Value → H} {w : World} {base : Nat} {spare : Nat → Bool} {held : Bool}
theorem openInts {fuel : Nat} {v : Value} {x : DataW H × List MemPlace} (h : DataW.trod enc Try.prog w base spare held fuel 92 [v] = some x) : ∃ l A c, v = .slice A (List.length l) c ∧ ArrI w A l c := by
  obtain ⟨l, A, c, hv, ha, -⟩ := openArr (0 : Int) (fun x _ => .int .i64 x) (fun _ => True) Try.underlying92 Try.cellsInt (by decide) (fun n cs y hy => by
    obtain ⟨k, hk, -⟩ := DataW.trod_int Try.underlying3 hy
    exact ⟨k, trivial, fun j hj => by
      have : j = 0 := by omega
      subst this; rw [hk]; rfl⟩) h
  exact ⟨l, A, c, hv, ha⟩
theorem openTexts {fuel : Nat} {v : Value} {x : DataW H × List MemPlace} (h : DataW.trod enc Try.prog w base spare held fuel 85 [v] = some x) : ∃ l A c, v = .slice A (List.length l) c ∧ ArrS w A l c := by
  obtain ⟨l, A, c, hv, ha, -⟩ := openArr ByteArray.empty (fun x _ => .string x) (fun _ => True) Try.underlying85 Try.cellsText (by decide) (fun n cs y hy => by
    obtain ⟨k, hk, -⟩ := DataW.trod_string Try.underlying9 hy
    exact ⟨k, trivial, fun j hj => by
      have : j = 0 := by omega
      subst this; rw [hk]; rfl⟩) h
  exact ⟨l, A, c, hv, ha⟩
theorem fieldInt {t : TypeId} {fs : Array Field} {fuel : Nat} {cs : List Value} {x : DataW H × List MemPlace} (ht : Try.prog.underlying t = some (.struct fs)) (h : DataW.trod enc Try.prog w base spare held fuel t cs = some x) (j : Nat) (f : Field) (hj : fs[j]? = some f) (hf : f.type = 3) (ho : f.offset < cs.length) : ∃ k, cs[f.offset]? = some (.int .i64 k) := by
  obtain ⟨v, y, n, h1, h2⟩ := fieldOne ht h j f hj (by rw [hf]; exact Try.cellsInt) ho
  rw [hf] at h2
  obtain ⟨k, hk, -⟩ := DataW.trod_int Try.underlying3 h2
  injection hk with hk
  exact ⟨k, by rw [h1, hk]⟩
theorem fieldText {t : TypeId} {fs : Array Field} {fuel : Nat} {cs : List Value} {x : DataW H × List MemPlace} (ht : Try.prog.underlying t = some (.struct fs)) (h : DataW.trod enc Try.prog w base spare held fuel t cs = some x) (j : Nat) (f : Field) (hj : fs[j]? = some f) (hf : f.type = 9) (ho : f.offset < cs.length) : ∃ k, cs[f.offset]? = some (.string k) := by
  obtain ⟨v, y, n, h1, h2⟩ := fieldOne ht h j f hj (by rw [hf]; exact Try.cellsText) ho
  rw [hf] at h2
  obtain ⟨k, hk, -⟩ := DataW.trod_string Try.underlying9 h2
  injection hk with hk
  exact ⟨k, by rw [h1, hk]⟩
theorem fieldInts {t : TypeId} {fs : Array Field} {fuel : Nat} {cs : List Value} {x : DataW H × List MemPlace} (ht : Try.prog.underlying t = some (.struct fs)) (h : DataW.trod enc Try.prog w base spare held fuel t cs = some x) (j : Nat) (f : Field) (hj : fs[j]? = some f) (hf : f.type = 92) (ho : f.offset < cs.length) : ∃ l A c, cs[f.offset]? = some (.slice A (List.length l) c) ∧ ArrI w A l c := by
  obtain ⟨v, y, n, h1, h2⟩ := fieldOne ht h j f hj (by rw [hf]; exact Try.cellsInts) ho
  rw [hf] at h2
  obtain ⟨l, A, c, hv, ha⟩ := openInts h2
  exact ⟨l, A, c, by rw [h1, hv], ha⟩
end

section
variable {H : Type} {enc : TypeId × Value → H} {w : World} {base : Nat} {spare : Nat → Bool} {held : Bool}
/-- A road and where its points lie. -/
abbrev RdX := Rd × Option Addr × Nat
def rdX0 : RdX := (d0, none, 0)
end
end Go.Proofs.Ytolicafhbeiciaa
/- Arguments as they come read as a way, a trip, two numbers. No condition. -/
namespace Go.Proofs.Ytolicafhbeiciaa
open Go.ChangeShapes Go.WideShapes Go.RowKit Go.Deep Fs

theorem Try.cellsPair : Try.prog.cellsOf 37 = 2 := by kernel_rfl
theorem okWide_array {P : Program} {w : World} {r : Reach} {base n : Nat} {t e : TypeId} {v : Value} (ht : P.underlying t = some (.array n e)) (h : Value.okWide P w r base t v) : ∃ cs, v = .agg cs ∧ cs.size = P.cellsOf t := by
  simp only [Value.okWide, ht] at h
  obtain ⟨cs, h1, h2, _⟩ := h
  exact ⟨cs, h1, h2⟩
section
variable {H : Type} {enc : TypeId × Value → H} {w : World} {base : Nat} {spare : Nat → Bool} {held : Bool}
set_option maxRecDepth 100000 in
theorem openWay {r : Reach} {b0 : Nat} {v : Value} {d : DataW H} {p : List MemPlace} (hv : Value.okWide Try.prog w r b0 92 v) (h : DataW.Trod enc Try.prog w base spare held 92 v d p) : ∃ (l : List Int) (A : Option Addr) (c : Nat), v = .slice A l.length c ∧ ArrI w A l c := by
  obtain ⟨a, n, c, rfl⟩ := okWide_slice Try.underlying92 hv
  obtain ⟨fuel, hf⟩ := h
  exact openInts (by simpa [Value.cells] using hf)
set_option maxRecDepth 100000 in
theorem openPair {r : Reach} {b0 : Nat} {v : Value} {d : DataW H} {p : List MemPlace} (hv : Value.okWide Try.prog w r b0 37 v) (h : DataW.Trod enc Try.prog w base spare held 37 v d p) : ∃ x y : Int, v = .agg #[.int .i64 x, .int .i64 y] := by
  obtain ⟨cs, rfl, hsz⟩ := okWide_array Try.underlying37 hv
  obtain ⟨l⟩ := cs
  match l, hsz.trans Try.cellsPair with
  | [v0, v1], _ =>
    obtain ⟨fuel, hf⟩ := h
    have hy : DataW.trod enc Try.prog w base spare held fuel 37 [v0, v1] = some (d, p) := by simpa [Value.cells] using hf
    obtain ⟨xs, m, -, -, -, hl, hg⟩ := DataW.trod_array Try.underlying37 hy
    have h0 := hg 0 (by decide)
    have h1 := hg 1 (by decide)
    rw [Try.cellsInt, List.getElem?_eq_getElem (by omega)] at h0 h1
    obtain ⟨a0, g0, -⟩ := DataW.trod_int Try.underlying3 h0
    obtain ⟨a1, g1, -⟩ := DataW.trod_int Try.underlying3 h1
    have e0 : [v0] = [.int .i64 a0] := g0
    have e1 : [v1] = [.int .i64 a1] := g1
    injection e0 with e0; injection e1 with e1
    subst e0; subst e1
    exact ⟨a0, a1, rfl⟩
end
end Go.Proofs.Ytolicafhbeiciaa
/- Plain facts about trips, for the laws of chapter 7. No condition. -/
namespace Go.Proofs.Ytolicafhbeiciaa.Fs

theorem dtrip_zero {R : DRules} {l : List WRec} {t : DTrip} (h : Behind l t) (h1 : 0 ≤ t.lo) (h2 : t.lo ≤ t.hi) (h3 : t.hi ≤ 200000) (hb : brokenRule R l = 0) : dtripErr R l t = 0 := by
  have a1 : isClock t.start = true := within_iff.2 ⟨h.from0, h.from1⟩
  have a2 : within t.lo 0 200000 = true := within_iff.2 ⟨h1, by omega⟩
  have a3 : within t.hi 0 200000 = true := within_iff.2 ⟨by omega, h3⟩
  unfold dtripErr
  rw [if_neg (by have := h.len; omega), a1, a2, a3, if_neg (by decide), if_neg (by omega), if_neg, if_neg, if_neg (by rw [hb]; decide)]
  · rintro ⟨p, q⟩
    have := h.last p
    omega
  · rintro ⟨p, q⟩
    have := h.next0
    have := h.next1
    rw [show isClock t.next = true from within_iff.2 ⟨by omega, by omega⟩] at q
    cases q
theorem lawTrip_zero {R : DRules} {l : List WRec} {t : DTrip} (h : bothErr R l = 0) (h2 : dtripErr R l t = 0) : lawTripErr R l t = 0 := by
  unfold lawTripErr; rw [if_neg (fun hh => hh h)]; exact h2
/-- A trip of just one length. -/
def just (s n : Int) : DTrip := ⟨s, n, n, -1⟩
theorem just_ok {R : DRules} {l : List WRec} {s n : Int} (h : lawTripErr R l (bare s) = 0) (h0 : 0 ≤ n) (h1 : n ≤ 200000) : lawTripErr R l (just s n) = 0 := by
  obtain ⟨a, b⟩ := lawTrip_ok h
  obtain ⟨c1, -, -, -, c5⟩ := dtrip_ok b
  exact lawTrip_zero a (dtrip_zero (t := just s n) ⟨c1.len, c1.from0, c1.from1, by show (-1 : Int) ≤ -1; omega, by show (-1 : Int) ≤ 8640000000; omega, c1.last⟩ h0 (Int.le_refl _) h1 c5)
theorem just_breaks (R : DRules) (l : List WRec) (s n m : Int) : breaks R l (just s n) m = breaks R l (bare s) m := rfl
theorem allowed_yes {R : DRules} {l : List WRec} {t : DTrip} (h : breaks R l t t.hi = 0) : allowed R l t = (2, 0) := if_pos h
theorem allowed_no {R : DRules} {l : List WRec} {t : DTrip} (h : breaks R l t t.hi ≠ 0) (h2 : breaks R l t t.lo ≠ 0) : allowed R l t = (0, breaks R l t t.hi) := by
  unfold allowed; rw [if_neg h, if_neg h2]
theorem allowed_two {R : DRules} {l : List WRec} {t : DTrip} : (allowed R l t).1 = 2 ↔ breaks R l t t.hi = 0 := by
  by_cases h : breaks R l t t.hi = 0
  · rw [allowed_yes h]; exact ⟨fun _ => h, fun _ => rfl⟩
  · by_cases h2 : breaks R l t t.lo = 0
    · rw [show allowed R l t = (1, breaks R l t t.hi) by unfold allowed; rw [if_neg h, if_pos h2]]
      exact ⟨fun hh => absurd (show (1 : Int) = 2 from hh) (by decide), fun hh => absurd hh h⟩
    · rw [allowed_no h h2]
      exact ⟨fun hh => absurd (show (0 : Int) = 2 from hh) (by decide), fun hh => absurd hh h⟩
theorem allowed_bad {R : DRules} {l : List WRec} {t : DTrip} (h : lawTripErr R l t ≠ 0) : allowedOut R l t = (0, 0) := if_neg h
theorem allowed_good {R : DRules} {l : List WRec} {t : DTrip} (h : lawTripErr R l t = 0) : allowedOut R l t = allowed R l t := if_pos h
theorem just_yes {R : DRules} {l : List WRec} {s n : Int} (h : lawTripErr R l (bare s) = 0) (hL : Longest R l (bare s) n) : allowedOut R l (just s n) = (2, 0) := by
  rw [allowed_good (just_ok h hL.n0 hL.n1)]
  exact allowed_yes ((just_breaks R l s n n).trans hL.ok)
theorem just_no {R : DRules} {l : List WRec} {s n : Int} (h : lawTripErr R l (bare s) = 0) (hL : Longest R l (bare s) n) (hn : n ≠ 200000) : (allowedOut R l (just s (n + 1))).1 = 0 := by
  have h0 := hL.n0
  have h1 := hL.n1
  have hb := hL.no (n + 1) (by omega) (by omega)
  rw [allowed_good (just_ok h (by omega) (by omega)), allowed_no hb hb]
end Go.Proofs.Ytolicafhbeiciaa.Fs
/- Plain facts about the first broken rule of a beginning of records. No condition. -/
namespace Go.Proofs.Ytolicafhbeiciaa
open Go.RowKit Fs
theorem Fs.fst_first {f : Nat → Int} : ∀ {n : Nat}, fst f n ≠ 0 → idx f n < n ∧ (∀ i, i < idx f n → f i = 0) ∧ f (idx f n) = fst f n
  | 0, h => absurd rfl h
  | n + 1, h => by
    by_cases h0 : fst f n = 0
    · have hn : f n ≠ 0 := fun e => h (by rw [fst, if_pos h0, e])
      have e1 : idx f (n + 1) = n := by rw [idx, if_pos h0, if_neg hn]
      have e2 : fst f (n + 1) = f n := by rw [fst, if_pos h0]
      rw [e1, e2]
      exact ⟨Nat.lt_succ_self _, fst_zero h0, rfl⟩
    · obtain ⟨a, b, c⟩ := fst_first h0
      have e1 : idx f (n + 1) = idx f n := by rw [idx, if_neg h0]
      have e2 : fst f (n + 1) = fst f n := by rw [fst, if_neg h0]
      rw [e1, e2]
      exact ⟨by omega, b, c⟩
theorem Fs.takeW_len {l : List WRec} {n : Nat} (h : n ≤ l.length) : (l.take n).length = n := by rw [List.length_take]; omega
theorem Fs.takeW_at {l : List WRec} {n i : Nat} (h : i < n) : listW (l.take n) i = listW l i := by
  unfold listW
  rw [List.getD_eq_getElem?_getD, List.getD_eq_getElem?_getD, List.getElem?_take_of_lt h]
theorem Fs.stint_take {l : List WRec} {n i : Nat} (brk : Int) (h : i < n) : stintOf (l.take n) brk i = stintOf l brk i := by
  unfold stintOf
  rw [firstIn_congr brk i (l := l.take n) (m := l) (fun j hj => by rw [takeW_at (by omega)]) (fun j hj => by rw [takeW_at (by omega)])]
  exact lengthsTo_congr _ _ fun j hj => takeW_at (by omega)
theorem Fs.brokenAt_take {R : DRules} {l : List WRec} {n i : Nat} (h : i < n) : brokenAt R (l.take n) i = brokenAt R l i := by
  unfold brokenAt
  rw [stint_take _ h, firstIn_congr R.rest i (l := l.take n) (m := l) (fun j hj => by rw [takeW_at (by omega)]) (fun j hj => by rw [takeW_at (by omega)]), takeW_at h,
    takeW_at (show firstIn l R.rest i < n from Nat.lt_of_le_of_lt (firstIn_le l R.rest i) h), workTo_congr _ _ (i + 1) fun j hj => takeW_at (show j < n by omega)]
theorem Fs.recs_take {l : List WRec} {n : Nat} (hn : n ≤ l.length) (h : recsErr true l = 0) : recsErr true (l.take n) = 0 := by
  unfold recsErr at h ⊢
  by_cases h0 : 40 < l.length
  · rw [if_pos h0] at h; exact absurd h (by decide)
  · rw [if_neg h0] at h
    rw [takeW_len hn, if_neg (by omega)]
    refine fst_none fun i hi => ?_
    have := fst_zero h i (by omega)
    unfold wrongRec at this ⊢
    rw [takeW_at hi]
    by_cases e : 0 < i
    · rw [takeW_at (show i - 1 < n by omega)]; exact this
    · simp only [e, false_and, and_false, if_false] at this ⊢
      exact this
theorem Fs.both_take {R : DRules} {l : List WRec} {n : Nat} (hn : n ≤ l.length) (h : bothErr R l = 0) : bothErr R (l.take n) = 0 := by
  obtain ⟨a, b⟩ := both_ok h
  unfold bothErr
  rw [if_neg (fun hh => hh a)]
  exact recs_take hn b
theorem Fs.broken_none {R : DRules} {l : List WRec} (h : bothErr R l = 0) (hb : brokenRule R l = 0) : brokenErr R l = 12 ∧ brokenOut R l = (0, 0) := by
  have e : brokenErr R l = 12 := by unfold brokenErr; rw [if_neg (fun hh => hh h), if_pos hb]
  exact ⟨e, by unfold brokenOut; rw [e]; exact if_neg (by decide)⟩
theorem Fs.broken_some {R : DRules} {l : List WRec} (h : bothErr R l = 0) (hb : brokenRule R l ≠ 0) : brokenErr R l = 0 ∧ brokenOut R l = (brokenRule R l, brokenRec R l) := by
  have e : brokenErr R l = 0 := by unfold brokenErr; rw [if_neg (fun hh => hh h), if_neg hb]
  exact ⟨e, by unfold brokenOut; rw [e]; exact if_pos rfl⟩
theorem Fs.broken_bad {R : DRules} {l : List WRec} (h : bothErr R l ≠ 0) : brokenErr R l = bothErr R l ∧ brokenOut R l = (0, 0) := by
  have e : brokenErr R l = bothErr R l := by unfold brokenErr; rw [if_pos h]
  exact ⟨e, by unfold brokenOut; rw [e]; exact if_neg h⟩
theorem Fs.broken_here {R : DRules} {l : List WRec} (h : bothErr R l = 0) (hb : brokenRule R l ≠ 0) :
    brokenErr R (l.take (brokenRec R l + 1)) = 0 ∧ brokenOut R (l.take (brokenRec R l + 1)) = (brokenRule R l, brokenRec R l) := by
  obtain ⟨a, b, c⟩ := fst_first (f := brokenAt R l) (n := l.length) hb
  have hk : brokenRec R l < l.length := a
  have hne : brokenAt R l (brokenRec R l) ≠ 0 := by show brokenAt R l (idx (brokenAt R l) l.length) ≠ 0; rw [c]; exact hb
  have hit := fst_hit (f := brokenAt R (l.take (brokenRec R l + 1))) (k := brokenRec R l) (n := brokenRec R l + 1) (Nat.lt_succ_self _)
    (fun i hi => by rw [brokenAt_take (by omega)]; exact b i hi) (by rw [brokenAt_take (by omega)]; exact hne)
  have hl := takeW_len (l := l) (n := brokenRec R l + 1) (by omega)
  have e1 : brokenRule R (l.take (brokenRec R l + 1)) = brokenRule R l := by
    have h1 : brokenRule R (l.take (brokenRec R l + 1)) = fst (brokenAt R (l.take (brokenRec R l + 1))) (l.take (brokenRec R l + 1)).length := rfl
    rw [h1, hl, hit.1, brokenAt_take (by omega)]
    exact c
  have e2 : brokenRec R (l.take (brokenRec R l + 1)) = brokenRec R l := by
    have h1 : brokenRec R (l.take (brokenRec R l + 1)) = idx (brokenAt R (l.take (brokenRec R l + 1))) (l.take (brokenRec R l + 1)).length := rfl
    rw [h1, hl, hit.2]
  have := broken_some (R := R) (l := l.take (brokenRec R l + 1)) (both_take (by omega) h) (by rw [e1]; exact hb)
  rw [e1, e2] at this
  exact this
theorem Fs.broken_before {R : DRules} {l : List WRec} (h : bothErr R l = 0) (hb : brokenRule R l ≠ 0) : brokenRec R l < l.length ∧ brokenErr R (l.take (brokenRec R l)) = 12 := by
  obtain ⟨a, b, c⟩ := fst_first (f := brokenAt R l) (n := l.length) hb
  have hk : brokenRec R l < l.length := a
  refine ⟨hk, (broken_none (both_take (by omega) h) ?_).1⟩
  show fst (brokenAt R (l.take (brokenRec R l))) (l.take (brokenRec R l)).length = 0
  rw [takeW_len (by omega)]
  exact fst_none fun i hi => by rw [brokenAt_take hi]; exact b i hi
/-- A beginning of a row. -/
theorem ArrW.take_ {w : World} {A : Option Addr} {l : List WRec} {c n : Nat} (h : ArrW w A l c) (hn : n ≤ l.length) : ArrW w A (l.take n) c := by
  have hl := takeW_len hn
  refine ⟨by rw [hl]; exact Nat.le_trans hn h.le.1, h.le.2, fun h0 => ?_⟩
  rw [hl] at h0
  obtain ⟨b, o, e, hc⟩ := h.2.2 (by omega)
  refine ⟨b, o, e, fun i j hi hj => ?_⟩
  rw [hl] at hi
  have := hc i j (by omega) hj
  show w.cell? _ = some (recCells (listW (l.take n) i) j)
  rw [takeW_at hi]
  exact this
/-- A copy of a beginning. -/
theorem copyTake_any (l : List WRec) (n : Nat) (A : Option Addr) (c : Nat) (w : World) (h : ArrW w A l c) (hn : n ≤ l.length) (hl : l.length ≤ 1000000) :
    Calls Try.prog 20 #[.slice A n c] w fun e w' => (∃ A' c', e = .returned (.slice A' n c') ∧ ArrW w' A' (l.take n) c') ∧ Below w.heap.size w w' := by
  have h2 := rCopyRecords_any (l.take n) A c w (h.take_ hn) (by rw [takeW_len hn]; omega)
  have h3 : Calls Try.prog 20 #[.slice A (l.take n).length c] w fun e w' => (∃ A' c', e = .returned (.slice A' (l.take n).length c') ∧ ArrW w' A' (l.take n) c') ∧ Below w.heap.size w w' := by
    refine h2.mono ?_
    rintro e w' ⟨v, rfl, h3, hb⟩
    obtain ⟨A', c', rfl, h4⟩ := own_recs h3
    exact ⟨⟨A', c', rfl, h4⟩, hb⟩
  rw [takeW_len hn] at h3
  exact h3
theorem copyRecs_any (l : List WRec) (A : Option Addr) (c : Nat) (w : World) (h : ArrW w A l c) (hl : l.length ≤ 1000000) :
    Calls Try.prog 20 #[.slice A l.length c] w fun e w' => (∃ A' c', e = .returned (.slice A' l.length c') ∧ ArrW w' A' l c') ∧ Below w.heap.size w w' := by
  refine (rCopyRecords_any l A c w h hl).mono ?_
  rintro e w' ⟨v, rfl, h3, hb⟩
  obtain ⟨A', c', rfl, h4⟩ := own_recs h3
  exact ⟨⟨A', c', rfl, h4⟩, hb⟩
theorem xBrokenTake_any (R : DRules) (l : List WRec) (n : Nat) (A : Option Addr) (c : Nat) (w : World) (hn : n ≤ l.length) (h : ArrW w A (l.take n) c) :
    Calls Try.prog 29 #[drulesV R, .slice A n c] w fun e w' => e = .returned (.tuple #[.agg #[.int .i64 (brokenOut R (l.take n)).1, .int .i64 (brokenOut R (l.take n)).2], .int .i64 (brokenErr R (l.take n))]) ∧ Below w.heap.size w w' := by
  have h2 := xBroken_any R (l.take n) A c w h
  rw [takeW_len hn] at h2
  exact h2
end Go.Proofs.Ytolicafhbeiciaa
/- Plain facts about records that are joined. Condition: both lists are right. -/
namespace Go.Proofs.Ytolicafhbeiciaa
open Go.RowKit Fs

theorem Fs.overlap_sym (x y : WRec) : overlapB x y = overlapB y x := Bool.and_comm _ _
theorem Fs.djoin_sym (a b : List WRec) : djoinErr b a = djoinErr a b := by
  have e1 : (0 < b.length ∧ 0 < a.length ∧ (listW b 0).who ≠ (listW a 0).who) ↔ (0 < a.length ∧ 0 < b.length ∧ (listW a 0).who ≠ (listW b 0).who) :=
    ⟨fun ⟨p, q, r⟩ => ⟨q, p, fun e => r e.symm⟩, fun ⟨p, q, r⟩ => ⟨q, p, fun e => r e.symm⟩⟩
  have e2 : (∃ i, i < b.length ∧ ∃ k, k < a.length ∧ overlapB (listW b i) (listW a k) = true) ↔ (∃ i, i < a.length ∧ ∃ k, k < b.length ∧ overlapB (listW a i) (listW b k) = true) :=
    ⟨fun ⟨i, p, k, q, r⟩ => ⟨k, q, i, p, by rw [overlap_sym]; exact r⟩, fun ⟨i, p, k, q, r⟩ => ⟨k, q, i, p, by rw [overlap_sym]; exact r⟩⟩
  have e3 : (40 < b.length + a.length) ↔ (40 < a.length + b.length) := by omega
  unfold djoinErr
  simp only [e1, e2, e3]
theorem Fs.mergeL_cons (x : WRec) (a : List WRec) (y : WRec) (b : List WRec) : mergeL (x :: a) (y :: b) = if x.beg < y.beg then x :: mergeL a (y :: b) else y :: mergeL (x :: a) b := by rw [mergeL]
theorem Fs.mergeL_comm : ∀ (n : Nat) (a b : List WRec), a.length + b.length ≤ n → (∀ x ∈ a, ∀ y ∈ b, x.beg ≠ y.beg) → mergeL b a = mergeL a b
  | 0, a, b, hn, _ => by
    have ha : a = [] := List.eq_nil_of_length_eq_zero (by omega)
    have hb : b = [] := List.eq_nil_of_length_eq_zero (by omega)
    subst ha; subst hb; rfl
  | n + 1, [], b, _, _ => by rw [mergeL_nil, mergeL_none]
  | n + 1, x :: a, [], _, _ => by rw [mergeL_nil, mergeL_none]
  | n + 1, x :: a, y :: b, hn, h => by
    have hne := h x (by simp) y (by simp)
    have hn' : a.length + 1 + (b.length + 1) ≤ n + 1 := hn
    rw [mergeL_cons, mergeL_cons]
    by_cases e : x.beg < y.beg
    · rw [if_pos e, if_neg (by omega), mergeL_comm n a (y :: b) (by show a.length + (b.length + 1) ≤ n; omega) fun p hp q hq => h p (List.mem_cons_of_mem _ hp) q hq]
    · rw [if_neg e, if_pos (by omega), mergeL_comm n (x :: a) b (by show a.length + 1 + b.length ≤ n; omega) fun p hp q hq => h p hp q (List.mem_cons_of_mem _ hq)]
theorem Fs.mem_listW {l : List WRec} {x : WRec} (h : x ∈ l) : ∃ i, i < l.length ∧ listW l i = x := by
  obtain ⟨i, hi, e⟩ := List.getElem_of_mem h
  refine ⟨i, hi, ?_⟩
  unfold listW
  rw [List.getD_eq_getElem?_getD, List.getElem?_eq_getElem hi]
  exact e
theorem Fs.merge_sym {a b : List WRec} (ha : Right a) (hb : Right b) (h : djoinErr a b = 0) : mergeL b a = mergeL a b := by
  refine mergeL_comm _ a b (Nat.le_refl _) fun x hx y hy e => ?_
  obtain ⟨i, hi, rfl⟩ := mem_listW hx
  obtain ⟨k, hk, rfl⟩ := mem_listW hy
  have h1 := ha.one i hi
  have h2 := hb.one k hk
  unfold djoinErr at h
  by_cases c1 : 0 < a.length ∧ 0 < b.length ∧ (listW a 0).who ≠ (listW b 0).who
  · rw [if_pos c1] at h; exact absurd h (by decide)
  · rw [if_neg c1, if_pos ⟨i, hi, k, hk, by unfold overlapB; rw [decide_eq_true (show (listW a i).beg < (listW b k).fin by omega), decide_eq_true (show (listW b k).beg < (listW a i).fin by omega)]; rfl⟩] at h
    exact absurd h (by decide)
theorem Fs.recs_nil : recsErr true [] = 0 := by decide
theorem Fs.djoin_nil {a : List WRec} (ha : Right a) : djoinErr a [] = 0 := by
  unfold djoinErr
  rw [if_neg (fun hh => absurd hh.2.1 (Nat.lt_irrefl _)), if_neg (fun ⟨i, _, k, hk, _⟩ => absurd hk (Nat.not_lt_zero _)), if_neg (by have := ha.len; show ¬ 40 < a.length + 0; omega)]
theorem Fs.joined_is {a b : List WRec} (ha : recsErr true a = 0) (hb : recsErr true b = 0) : joinedErr a b = djoinErr a b := by
  unfold joinedErr; rw [if_neg (fun h => h ha), if_neg (fun h => h hb)]
theorem Fs.joined_one {a b : List WRec} (ha : recsErr true a ≠ 0) : joinedErr a b = recsErr true a ∧ joinedOut a b = [] := by
  have e : joinedErr a b = recsErr true a := if_pos ha
  exact ⟨e, by unfold joinedOut; rw [e]; exact if_neg ha⟩
theorem Fs.joined_two {a b : List WRec} (ha : recsErr true a = 0) (hb : recsErr true b ≠ 0) : joinedErr a b = recsErr true b ∧ joinedOut a b = [] := by
  have e : joinedErr a b = recsErr true b := by unfold joinedErr; rw [if_neg (fun h => h ha), if_pos hb]
  exact ⟨e, by unfold joinedOut; rw [e]; exact if_neg hb⟩
theorem Fs.joined_sym {a b : List WRec} (ha : recsErr true a = 0) (hb : recsErr true b = 0) : joinedErr b a = joinedErr a b ∧ joinedOut b a = joinedOut a b := by
  have e : joinedErr b a = joinedErr a b := by rw [joined_is ha hb, joined_is hb ha, djoin_sym]
  refine ⟨e, ?_⟩
  unfold joinedOut
  rw [e]
  by_cases h : joinedErr a b = 0
  · rw [if_pos h, if_pos h]
    rw [joined_is ha hb] at h
    exact merge_sym (recs_right ha) (recs_right hb) h
  · rw [if_neg h, if_neg h]
theorem Fs.joined_nil {a : List WRec} (ha : recsErr true a = 0) : joinedErr a [] = 0 ∧ joinedOut a [] = a := by
  have e : joinedErr a [] = 0 := by rw [joined_is ha recs_nil]; exact djoin_nil (recs_right ha)
  exact ⟨e, by unfold joinedOut; rw [if_pos e, mergeL_nil]⟩
theorem rdNone (w : World) : ArrW w none [] 0 := ⟨Nat.le_refl _, by decide, fun h => absurd h (Nat.lt_irrefl _)⟩
/-- What the reference joins, as a row that reads. -/
theorem rJoinedR_any (a b : List WRec) (A B : Option Addr) (c d : Nat) (w : World) (h : ArrW w A a c) (h' : ArrW w B b d) (ha : recsErr true a = 0) (hb : recsErr true b = 0) :
    Calls Try.prog 41 #[.slice A a.length c, .slice B b.length d] w fun e w' => (∃ A' c', e = .returned (.tuple #[.slice A' (joinedOut a b).length c', .int .i64 (joinedErr a b)]) ∧ ArrW w' A' (joinedOut a b) c') ∧ Below w.heap.size w w' := by
  refine (rJoined_any a b A B c d w h h' (recs_right ha).len (recs_right hb).len).mono ?_
  rintro e w' ⟨⟨v, rfl, h1, h2⟩, hB⟩
  refine ⟨?_, hB⟩
  have e0 := joined_is ha hb
  by_cases hz : djoinErr a b = 0
  · obtain ⟨A', c', rfl, h3⟩ := own_recs (h2 hz)
    have e1 : joinedOut a b = mergeL a b := by unfold joinedOut; rw [e0, if_pos hz]
    rw [e1, e0]
    exact ⟨A', c', rfl, h3⟩
  · have e1 : joinedOut a b = [] := by unfold joinedOut; rw [e0, if_neg hz]
    rw [e1, e0, h1 hz]
    exact ⟨none, 0, rfl, rdNone _⟩
end Go.Proofs.Ytolicafhbeiciaa

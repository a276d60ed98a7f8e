/- The next inspection. No condition. -/
import Derived.Test.YtjmaankkbdpikaaX14b
import Derived.Test.YtjmaankkbdpikaaX11
import Derived.Ground.SlsfProg
import Derived.Shelf.SlSortCmp.Insertion
import Derived.Test.YtjmaankkbdpikaaProg
import Derived.Shelf.Small.Bits
import Derived.Ground.Names2Prog
import Derived.Shelf.SlSortCmp.WholeK
import Derived.Shelf.Spec.SlicesGrow
import Derived.Test.YtjmaankkbdpikaaX7
import Derived.Test.YtjmaankkbdpikaaT47
namespace Go.Proofs.Ytjmaankkbdpikaa
open Go.RowKit Fs

/-! ### the date -/
theorem Fs.lastTo_at {L : List Int} {date : Int} {B : Nat} : ∀ n, B ≤ n → (∀ k, B ≤ k → k < n → date < listI L k) → (0 < B → listI L (B - 1) ≤ date) → lastTo L date n = if B = 0 then -1 else listI L (B - 1)
  | 0, h, _, _ => by obtain rfl : B = 0 := by omega
                     rfl
  | n + 1, h, h1, h2 => by
    by_cases e : B = n + 1
    · subst e
      rw [lastTo, if_pos (show listI L n ≤ date from h2 (by omega)), if_neg (by omega)]
      rfl
    · rw [lastTo, if_neg (by have := h1 n (by omega) (by omega); omega)]
      exact lastTo_at n (by omega) (fun k a b => h1 k a (by omega)) h2
theorem Fs.dates_up {L : List Int} (h : ∀ i, i < L.length → dateBad L i = 0) : ∀ b, b < L.length → ∀ a, a < b → listI L a < listI L b
  | 0, _, a, ha => absurd ha (Nat.not_lt_zero _)
  | b + 1, hb, a, ha => by
    have h1 := h (b + 1) hb
    have h2 : listI L b < listI L (b + 1) := by
      unfold dateBad at h1
      by_cases e : dateErr (listI L (b + 1)) = 0
      · rw [if_neg (fun hh => hh e)] at h1
        by_cases e2 : 0 < b + 1 ∧ listI L (b + 1) ≤ listI L (b + 1 - 1)
        · rw [if_pos e2] at h1; exact absurd h1 (by decide)
        · rw [Nat.add_sub_cancel] at e2
          exact Int.not_le.1 fun hc => e2 ⟨by omega, hc⟩
      · rw [if_pos e] at h1; exact absurd h1 e
    by_cases e : a = b
    · subst e; exact h2
    · exact Int.lt_trans (dates_up h b (by omega) a (by omega)) h2
def Fs.inspErr (L : List Int) (every date : Int) : Int := if manyErr L.length 20 (dateBad L) ≠ 0 then manyErr L.length 20 (dateBad L) else if everyErr every ≠ 0 then everyErr every else dateErr date
theorem Fs.insp_wrong {L : List Int} {every date : Int} (h : inspErr L every date ≠ 0) : inspect L every date = (0, inspErr L every date) := by
  unfold inspErr at h ⊢
  have hm : manyErr L.length 20 (dateBad L) = if 20 < L.length then 8 else fst (dateBad L) L.length := rfl
  by_cases h1 : 20 < L.length
  · rw [if_pos h1] at hm
    rw [hm, if_pos (by decide)]
    unfold inspect
    rw [if_pos h1]
  · rw [if_neg h1] at hm
    rw [hm] at h ⊢
    by_cases h2 : fst (dateBad L) L.length = 0
    · rw [if_neg (fun hh => hh h2)] at h ⊢
      have h3 : ¬ (within every 1 1000 = true ∧ dateErr date = 0) := by
        rintro ⟨a, b⟩
        rw [show everyErr every = 0 from if_pos a, if_neg (fun hh => hh rfl)] at h
        exact h b
      rw [insp_range h1 h2 h3]
      have h4 : (if everyErr every ≠ 0 then everyErr every else dateErr date) = 2 := by
        unfold everyErr dateErr
        by_cases a : within every 1 1000 = true
        · rw [if_pos a, if_neg (fun hh => hh rfl)]
          by_cases b : within date 0 100000 = true
          · exact absurd ⟨a, by unfold dateErr; rw [if_pos b]⟩ h3
          · rw [if_neg b]
        · rw [if_neg a, if_pos (by decide)]
      rw [h4]
    · rw [if_pos h2]
      exact insp_bad h1 rfl h2
theorem Fs.insp_right {L : List Int} {every date : Int} (h : inspErr L every date = 0) : L.length ≤ 20 ∧ (∀ i, i < L.length → dateBad L i = 0) ∧ (1 ≤ every ∧ every ≤ 1000) ∧ (0 ≤ date ∧ date ≤ 100000) ∧
    inspect L every date = if lastTo L date L.length < 0 then (0, 12) else if lastTo L date L.length + every < date then (0, 22) else (lastTo L date L.length + every, 0) := by
  unfold inspErr at h
  have hm : manyErr L.length 20 (dateBad L) = if 20 < L.length then 8 else fst (dateBad L) L.length := rfl
  by_cases h1 : 20 < L.length
  · rw [if_pos h1] at hm
    rw [hm, if_pos (by decide)] at h
    exact absurd h (by decide)
  · rw [if_neg h1] at hm
    rw [hm] at h
    by_cases h2 : fst (dateBad L) L.length = 0
    · rw [if_neg (fun hh => hh h2)] at h
      by_cases a : within every 1 1000 = true
      · rw [show everyErr every = 0 from if_pos a, if_neg (fun hh => hh rfl)] at h
        exact ⟨by omega, fst_zero h2, Fs.within_iff.1 a, dateErr_ok h, insp_ok h1 h2 a h⟩
      · rw [show everyErr every = 2 from if_neg a, if_pos (by decide)] at h
        exact absurd h (by decide)
    · rw [if_pos h2] at h
      exact absurd h h2
end Go.Proofs.Ytjmaankkbdpikaa
/- Contracts of Handed and NextInspection. No condition. -/

/- The library's sort by inserting, tied to this program's numbers (laid by the library's own command). -/
namespace Go.Proofs.Ytjmaankkbdpikaa
open Go.Shelf
end Go.Proofs.Ytjmaankkbdpikaa
/- The library's sort of records by a function, tied to this program's numbers (laid by the library's own command). -/
namespace Go.Proofs.Ytjmaankkbdpikaa
open Go.Shelf
end Go.Proofs.Ytjmaankkbdpikaa
/- Lists of records joined: slices.Grow and slices.Concat of records. Condition: few lists of few records. -/
namespace Go.Proofs.Ytjmaankkbdpikaa
open Go.RowKit Fs Go.Shelf

def Fs.listLW (ls : List (List WRec)) (i : Nat) : List WRec := ls.getD i []
def Fs.catTo (ls : List (List WRec)) : Nat → List WRec
  | 0 => []
  | k + 1 => catTo ls k ++ listLW ls k
theorem recFlat_join (l m : List WRec) : recFlat (l ++ m) = recFlat l ++ flat m.length 3 fun i j => recCells (listW m i) j := by
  unfold recFlat
  rw [List.length_append]
  symm
  refine flat_join (by decide) (fun i j hi hj => ?_) (fun i j hi hj => ?_)
  · rw [listW_left hi]
  · unfold listW
    rw [List.getD_eq_getElem?_getD, List.getD_eq_getElem?_getD, List.getElem?_append_right (by omega), Nat.add_sub_cancel_left]
def ArrLW (w : World) (A : Option Addr) (ls : List (List WRec)) (c : Nat) (p : Nat → Option Addr) (pc : Nat → Nat) : Prop :=
  Arr w A ls.length c 1 (fun i _ => .slice (p i) (listLW ls i).length (pc i)) ∧ ∀ i, i < ls.length → ArrW w (p i) (listLW ls i) (pc i)
theorem ArrLW.keep {w w' : World} (k : Keep w w') {A : Option Addr} {ls : List (List WRec)} {c : Nat} {p : Nat → Option Addr} {pc : Nat → Nat} (h : ArrLW w A ls c p pc) : ArrLW w' A ls c p pc := ⟨Arr.keep k h.1, fun i hi => (h.2 i hi).keep k⟩
theorem ArrLW.at_ {w : World} {A : Option Addr} {ls : List (List WRec)} {c : Nat} {p : Nat → Option Addr} {pc : Nat → Nat} (h : ArrLW w A ls c p pc) {k : Nat} (hk : k < ls.length) : ∃ b o, A = some ⟨b, o, none⟩ ∧ w.cell? ⟨b, o + k, none⟩ = some (.slice (p k) (listLW ls k).length (pc k)) := by
  obtain ⟨b, o, e, hc⟩ := Arr.at_ h.1 hk
  refine ⟨b, o, e, ?_⟩
  have := hc 0 (by decide)
  rw [Nat.mul_one] at this
  exact this
theorem Fs.catTo_len {ls : List (List WRec)} {B : Nat} (h : ∀ i, i < ls.length → (listLW ls i).length ≤ B) : ∀ k, k ≤ ls.length → (catTo ls k).length ≤ B * k
  | 0, _ => by simp [catTo]
  | k + 1, hk => by
    have ih := catTo_len h k (by omega)
    have := h k (by omega)
    rw [catTo, List.length_append, Nat.mul_succ]
    omega
end Go.Proofs.Ytjmaankkbdpikaa
/- Records sorted by their beginnings. Condition: the row of the records is one's own. -/
namespace Go.Proofs.Ytjmaankkbdpikaa
open Go.RowKit Fs

def Fs.cmpI (x y : Int) : Int := if x < y then -1 else if y < x then 1 else 0
instance : Inhabited WRec := ⟨w0⟩
def encW (x : WRec) : List Value := [.string x.who, .int .i64 x.beg, .int .i64 x.fin]
def Fs.cmpW (x y : WRec) : Int := cmpI x.beg y.beg
theorem Fs.cmpW_lt (x y : WRec) : ltOf cmpW x y = decide (x.beg < y.beg) := by
  unfold ltOf cmpW cmpI
  by_cases h1 : x.beg < y.beg
  · simp [h1]
  · by_cases h2 : y.beg < x.beg <;> simp [h1, h2]
theorem cmpW_swo : Go.Sort.SWO (ltOf cmpW) where
  irrefl x := by rw [cmpW_lt]; simp
  trans x y z h1 h2 := by rw [cmpW_lt] at *; simp at *; omega
  ntrans x y z h1 h2 := by rw [cmpW_lt] at *; simp at *; omega

theorem listW_bang (l : List WRec) (i : Nat) : l.toArray[i]! = listW l i := by
  unfold listW
  rw [List.getD_eq_getElem?_getD]
  by_cases h : i < l.length
  · rw [List.getElem?_eq_getElem h, getElem!_pos _ i (by simpa using h)]
    simp
  · rw [List.getElem?_eq_none (by omega), getElem!_neg _ i (by simpa using h)]
    rfl
theorem encW_at (x : WRec) {c : Nat} (hc : c < 3) : (encW x)[c]! = recCells x c := by
  obtain rfl | rfl | rfl : c = 0 ∨ c = 1 ∨ c = 2 := by omega
  all_goals rfl
theorem own_holdsK {w : World} {base : Nat} {e : TypeId} {g n cap : Nat} {l : List WRec} (h : w.ownsRow base e 3 (.slice (some ⟨g, 0, none⟩) n cap) n (recFlat l)) (hn : n = l.length) : Go.Sort.HoldsK encW 3 w g 0 l.toArray := by
  intro t ht
  rw [Go.Sort.size_flatK] at ht
  have ht' : t < l.length * 3 := by simpa using ht
  have hc := h.cellAt t (by omega)
  have hf := h.frozenAt t
  rw [Go.Sort.get_flatK _ _ _ _ ht, Nat.zero_add, listW_bang, encW_at _ (Nat.mod_lt _ (by decide))]
  refine ⟨?_, hf⟩
  rw [hc]
  exact flat_get t ht'
theorem holdsK_arr {w : World} {g cap : Nat} {d : Array WRec} (h : Go.Sort.HoldsK encW 3 w g 0 d) (hc : d.size ≤ cap) (hm : cap ≤ 9223372036854775807) : ArrW w (some ⟨g, 0, none⟩) d.toList cap := by
  refine ⟨by simpa using hc, hm, fun _ => ⟨g, 0, rfl, fun i j hi hj => ?_⟩⟩
  have hi' : i < d.size := by simpa using hi
  have := (h.cell hi' hj).1
  rw [encW_at _ hj] at this
  rw [this]
  show some _ = some (recCells (listW d.toList i) j)
  rw [← listW_bang]
theorem xPutBelowK {w0 w : World} {g : Nat} {d : Array WRec} {B : Nat} (h : Below B w0 w) (n : Nat) (hg : B ≤ g) : Below B w0 (Go.Sort.putRowK encW 3 (Go.Sort.ahead w n) g 0 d) := by
  refine ⟨h.os, h.tape, h.output, by unfold Go.Sort.putRowK Go.Sort.putRow Go.Sort.mapBlock Go.Sort.ahead; simpa using h.size, fun k hk => ?_⟩
  rw [← h.block k hk]
  unfold Go.Sort.putRowK Go.Sort.putRow Go.Sort.mapBlock Go.Sort.ahead
  simp only [Array.getElem?_modify]
  rw [if_neg (by omega)]
theorem xGrowBelowK {w0 w : World} {B : Nat} (h : Below B w0 w) (os : Array Obj) (hB : B ≤ w.heap.size) : Below B w0 (Go.Sort.grow w os) := by
  refine ⟨h.os, h.tape, h.output, by unfold Go.Sort.grow; have := h.size; simp; omega, fun k hk => ?_⟩
  rw [← h.block k hk]
  exact Go.Sort.heap_grow_old w os (by omega)
/-- m holds what l holds, by beginnings. -/
structure Fs.ByBeg (l m : List WRec) : Prop where
  perm : m.Perm l
  up : ∀ i j, i < j → j < m.length → (listW m i).beg ≤ (listW m j).beg
end Go.Proofs.Ytjmaankkbdpikaa

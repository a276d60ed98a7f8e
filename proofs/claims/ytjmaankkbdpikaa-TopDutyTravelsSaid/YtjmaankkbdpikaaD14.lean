/- Licences: the reference's DateErr, CheckLicences, CopyLicences; the law's licences. No condition. -/
import Derived.Test.YtjmaankkbdpikaaD9
import Derived.Deep.QuietTactic
import Derived.BigQuiet
namespace Go.Proofs.Ytjmaankkbdpikaa
open Go.RowKit Fs

def Fs.dateErr (n : Int) : Int := if within n 0 100000 = true then 0 else 2
def Fs.licErr (x : WRec) : Int := if isName x.who = false then 4 else if dateErr x.beg ≠ 0 ∨ dateErr x.fin ≠ 0 then 2 else if x.fin < x.beg then 9 else 0
def Fs.licsErr (l : List WRec) : Int := if 20 < l.length then 8 else fst (fun i => licErr (listW l i)) l.length
def Fs.licsAt (l : List WRec) : Nat := if 20 < l.length then 0 else idx (fun i => licErr (listW l i)) l.length
theorem Fs.lics_long {l : List WRec} (h : 20 < l.length) : licsErr l = 8 ∧ licsAt l = 0 := ⟨if_pos h, if_pos h⟩
theorem Fs.lics_hit {l : List WRec} {k : Nat} (h : ¬ 20 < l.length) (hk : k < l.length) (h1 : ∀ j, j < k → licErr (listW l j) = 0) (h2 : licErr (listW l k) ≠ 0) : licsErr l = licErr (listW l k) ∧ licsAt l = k := by
  unfold licsErr licsAt
  rw [if_neg h, if_neg h]
  exact fst_hit (f := fun i => licErr (listW l i)) hk h1 h2
theorem Fs.lics_none {l : List WRec} (h : ¬ 20 < l.length) (h1 : ∀ j, j < l.length → licErr (listW l j) = 0) : licsErr l = 0 ∧ licsAt l = 0 := by
  unfold licsErr licsAt
  rw [if_neg h, if_neg h]
  exact ⟨fst_none h1, idx_none h1⟩
end Go.Proofs.Ytjmaankkbdpikaa
/- Licences: Holds, KindErr, Lapses; the law's licences. Condition of Lapses: the licences and the date are right. -/
namespace Go.Proofs.Ytjmaankkbdpikaa
open Go.RowKit Fs

def Fs.holdsAt (l : List WRec) (s : ByteArray) (d : Int) (k : Nat) : Prop := (listW l k).who = s ∧ within d (listW l k).beg (listW l k).fin = true
def Fs.HoldsL (l : List WRec) (s : ByteArray) (d : Int) : Prop := ∃ k, k < l.length ∧ holdsAt l s d k
open Classical in
noncomputable def Fs.licHolds (l : List WRec) (s : ByteArray) (d : Int) : Bool := decide (HoldsL l s d)
theorem licHolds_yes {l : List WRec} {s : ByteArray} {d : Int} (h : HoldsL l s d) : licHolds l s d = true := by unfold licHolds; simpa using h
theorem licHolds_no {l : List WRec} {s : ByteArray} {d : Int} (h : ∀ k, k < l.length → ¬ holdsAt l s d k) : licHolds l s d = false := by
  unfold licHolds
  simp only [decide_eq_false_iff_not]
  exact fun ⟨k, h1, h2⟩ => h k h1 h2
theorem licHolds_is {l : List WRec} {s : ByteArray} {d : Int} (h : licHolds l s d = true) : HoldsL l s d := by unfold licHolds at h; simpa using h
theorem licHolds_not {l : List WRec} {s : ByteArray} {d : Int} (h : licHolds l s d = false) : ¬ HoldsL l s d := by unfold licHolds at h; simpa using h
/-- The last date up to which a licence holds from a date on, or -1. -/
structure Fs.LapsesAt (l : List WRec) (s : ByteArray) (d n : Int) : Prop where
  up : ∀ z, d ≤ z → z ≤ n → HoldsL l s z
  no : d ≤ n → ¬ HoldsL l s (n + 1)
  none : n < d → n = -1 ∧ ¬ HoldsL l s d
  top : n ≤ 100000
theorem Fs.LapsesAt.same {l : List WRec} {s : ByteArray} {d n m : Int} (h : LapsesAt l s d n) (h' : LapsesAt l s d m) : n = m := by
  by_cases e : n < d
  · by_cases e' : m < d
    · rw [(h.none e).1, (h'.none e').1]
    · exact absurd (h'.up d (Int.le_refl _) (by omega)) (h.none e).2
  · by_cases e' : m < d
    · exact absurd (h.up d (Int.le_refl _) (by omega)) (h'.none e').2
    · rcases Int.lt_trichotomy n m with x | x | x
      · exact absurd (h'.up (n + 1) (by omega) (by omega)) (h.no (by omega))
      · exact x
      · exact absurd (h.up (m + 1) (by omega) (by omega)) (h'.no (by omega))
theorem Fs.licErr_ok {x : WRec} (h : licErr x = 0) : isName x.who = true ∧ (0 ≤ x.beg ∧ x.beg ≤ 100000) ∧ (0 ≤ x.fin ∧ x.fin ≤ 100000) ∧ x.beg ≤ x.fin := by
  unfold licErr at h
  cases hn : isName x.who with
  | false => rw [hn, if_pos rfl] at h; exact absurd h (by decide)
  | true =>
    rw [hn, if_neg (by decide)] at h
    by_cases hd : dateErr x.beg ≠ 0 ∨ dateErr x.fin ≠ 0
    · rw [if_pos hd] at h; exact absurd h (by decide)
    · rw [if_neg hd] at h
      have hh : ∀ n, dateErr n = 0 → 0 ≤ n ∧ n ≤ 100000 := fun n hn => by
        unfold dateErr at hn
        by_cases hw : within n 0 100000 = true
        · exact Fs.within_iff.1 hw
        · rw [if_neg hw] at hn; exact absurd hn (by decide)
      have h1 := hh x.beg (Classical.byContradiction fun hc => hd (Or.inl hc))
      have h2 := hh x.fin (Classical.byContradiction fun hc => hd (Or.inr hc))
      by_cases hl : x.fin < x.beg
      · rw [if_pos hl] at h; exact absurd h (by decide)
      · exact ⟨rfl, h1, h2, by omega⟩
theorem Fs.lics_ok {l : List WRec} (h : licsErr l = 0) : l.length ≤ 20 ∧ ∀ i, i < l.length → licErr (listW l i) = 0 := by
  unfold licsErr at h
  by_cases h0 : 20 < l.length
  · rw [if_pos h0] at h; exact absurd h (by decide)
  · rw [if_neg h0] at h
    exact ⟨by omega, fst_zero h⟩
end Go.Proofs.Ytjmaankkbdpikaa
/- Licences: KindErr, MayDriveErr, MayDrive; the law's licences. No condition. -/
namespace Go.Proofs.Ytjmaankkbdpikaa
open Go.RowKit Fs

def Fs.kindErr (l : List WRec) (s : ByteArray) (d : Int) : Int := if licsErr l ≠ 0 then licsErr l else if isName s = false then 4 else dateErr d
def Fs.noName (K : List ByteArray) (i : Nat) : Int := if isName (listS K i) = true then 0 else 4
def Fs.mayErr (l : List WRec) (K : List ByteArray) (d : Int) : Int := if licsErr l ≠ 0 then licsErr l else if 20 < K.length then 8 else if fst (noName K) K.length ≠ 0 then 4 else dateErr d
noncomputable def Fs.noLic (l : List WRec) (K : List ByteArray) (d : Int) (i : Nat) : Int := if licHolds l (listS K i) d = true then 0 else 1
noncomputable def Fs.mayDrive (l : List WRec) (K : List ByteArray) (d : Int) : ByteArray := if fst (noLic l K d) K.length = 0 then ⟨#[]⟩ else listS K (idx (noLic l K d) K.length)
end Go.Proofs.Ytjmaankkbdpikaa
/- The reference's NextInspection. No condition. -/
namespace Go.Proofs.Ytjmaankkbdpikaa
open Go.RowKit Fs

def Fs.dateBad (L : List Int) (i : Nat) : Int := if dateErr (listI L i) ≠ 0 then dateErr (listI L i) else if 0 < i ∧ listI L i ≤ listI L (i - 1) then 9 else 0
def Fs.lastTo (L : List Int) (date : Int) : Nat → Int
  | 0 => -1
  | k + 1 => if listI L k ≤ date then listI L k else lastTo L date k
def Fs.inspect (L : List Int) (every date : Int) : Int × Int :=
  if 20 < L.length then (0, 8) else if fst (dateBad L) L.length ≠ 0 then (0, fst (dateBad L) L.length)
  else if ¬ (within every 1 1000 = true ∧ dateErr date = 0) then (0, 2)
  else if lastTo L date L.length < 0 then (0, 12) else if lastTo L date L.length + every < date then (0, 22) else (lastTo L date L.length + every, 0)
theorem insp_bad {L : List Int} {every date x : Int} (h : ¬ 20 < L.length) (h1 : fst (dateBad L) L.length = x) (h2 : x ≠ 0) : inspect L every date = (0, x) := by
  unfold inspect
  rw [if_neg h, if_pos (by rw [h1]; exact h2), h1]
theorem insp_range {L : List Int} {every date : Int} (h : ¬ 20 < L.length) (h1 : fst (dateBad L) L.length = 0) (h2 : ¬ (within every 1 1000 = true ∧ dateErr date = 0)) : inspect L every date = (0, 2) := by
  unfold inspect
  rw [if_neg h, if_neg (fun hh => hh h1), if_pos h2]
theorem insp_ok {L : List Int} {every date : Int} (h : ¬ 20 < L.length) (h1 : fst (dateBad L) L.length = 0) (h2 : within every 1 1000 = true) (h3 : dateErr date = 0) :
    inspect L every date = if lastTo L date L.length < 0 then (0, 12) else if lastTo L date L.length + every < date then (0, 22) else (lastTo L date L.length + every, 0) := by
  unfold inspect
  rw [if_neg h, if_neg (fun hh => hh h1), if_neg (fun hh => hh ⟨h2, h3⟩)]
theorem Fs.dateErr_ok {n : Int} (h : dateErr n = 0) : 0 ≤ n ∧ n ≤ 100000 := by
  unfold dateErr at h
  by_cases hw : within n 0 100000 = true
  · exact Fs.within_iff.1 hw
  · rw [if_neg hw] at h; exact absurd h (by decide)
theorem Fs.dateBad_ok {L : List Int} {i : Nat} (h : dateBad L i = 0) : 0 ≤ listI L i ∧ listI L i ≤ 100000 := by
  unfold dateBad at h
  by_cases h1 : dateErr (listI L i) = 0
  · exact dateErr_ok h1
  · rw [if_pos h1] at h; exact absurd h h1
theorem Fs.lastTo_is {L : List Int} (h : ∀ i, i < L.length → 0 ≤ listI L i ∧ listI L i ≤ 100000) (date : Int) : ∀ k, k ≤ L.length → -1 ≤ lastTo L date k ∧ lastTo L date k ≤ 100000
  | 0, _ => by show (-1 : Int) ≤ -1 ∧ (-1 : Int) ≤ 100000; omega
  | k + 1, hk => by
    have ih := lastTo_is h date k (by omega)
    have h1 := h k (by omega)
    rw [lastTo]
    split <;> omega
end Go.Proofs.Ytjmaankkbdpikaa

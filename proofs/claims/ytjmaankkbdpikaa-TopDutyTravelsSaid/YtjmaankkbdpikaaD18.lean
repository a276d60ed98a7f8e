/- Uses of plates: the reference's overlap, UsesErr, At, Most. Condition of At and Most: the uses' numbers are small. -/
import Derived.Test.YtjmaankkbdpikaaD14
namespace Go.Proofs.Ytjmaankkbdpikaa
open Go.RowKit Fs

def Fs.overlapB (x y : WRec) : Bool := decide (x.beg < y.fin) && decide (y.beg < x.fin)
def Fs.clashAt (l : List WRec) (k i : Nat) : Prop := (listW l i).who = (listW l k).who ∧ overlapB (listW l i) (listW l k) = true
open Classical in
noncomputable def Fs.useBad (l : List WRec) (k : Nat) : Int :=
  if isName (listW l k).who = false then 4 else if spanErr (listW l k).beg (listW l k).fin ≠ 0 then spanErr (listW l k).beg (listW l k).fin
  else if ∃ i, i < k ∧ clashAt l k i then 13 else 0
noncomputable def Fs.usesErr (l : List WRec) : Int := if 14 < l.length then 8 else fst (useBad l) l.length
theorem uses_hit {l : List WRec} {k : Nat} {x : Int} (h : ¬ 14 < l.length) (hk : k < l.length) (h1 : ∀ j, j < k → useBad l j = 0) (h2 : useBad l k = x) (h3 : x ≠ 0) : usesErr l = x := by
  unfold usesErr
  rw [if_neg h, (fst_hit hk h1 (by rw [h2]; exact h3)).1, h2]
end Go.Proofs.Ytjmaankkbdpikaa
/- Uses of plates: the reference's At and Most, copies; the law's licences and uses. Condition of At and Most: the uses' numbers are small. -/
namespace Go.Proofs.Ytjmaankkbdpikaa
open Go.RowKit Fs

def Fs.FewLicsP (l : List WRec) : Prop := l.length ≤ 22 ∧ ∀ j, j < l.length → (listW l j).who.size ≤ 20
open Classical in
noncomputable def Fs.fewLics (l : List WRec) : Bool := decide (FewLicsP l)
theorem fewLics_yes {l : List WRec} (h : FewLicsP l) : fewLics l = true := by unfold fewLics; simpa using h
theorem fewLics_no {l : List WRec} (h : ¬ FewLicsP l) : fewLics l = false := by unfold fewLics; simpa using h
theorem fewLics_is {l : List WRec} (h : fewLics l = true) : FewLicsP l := by unfold fewLics at h; simpa using h
def Fs.FewUsesP (l : List WRec) : Prop := l.length ≤ 16 ∧ ∀ j, j < l.length → (listW l j).who.size ≤ 20
open Classical in
noncomputable def Fs.fewUses (l : List WRec) : Bool := decide (FewUsesP l)
theorem fewUses_yes {l : List WRec} (h : FewUsesP l) : fewUses l = true := by unfold fewUses; simpa using h
theorem fewUses_no {l : List WRec} (h : ¬ FewUsesP l) : fewUses l = false := by unfold fewUses; simpa using h
theorem fewUses_is {l : List WRec} (h : fewUses l = true) : FewUsesP l := by unfold fewUses at h; simpa using h
def Fs.SmallU (l : List WRec) : Prop := l.length ≤ 100 ∧ ∀ i, i < l.length → 0 ≤ (listW l i).beg ∧ (listW l i).beg < (listW l i).fin ∧ (listW l i).fin ≤ 8640000000
def Fs.atTo (l : List WRec) (t : Int) : Nat → Int
  | 0 => 0
  | k + 1 => if within t (listW l k).beg ((listW l k).fin - 1) = true then atTo l t k + 1 else atTo l t k
def Fs.mostTo (l : List WRec) : Nat → Int
  | 0 => 0
  | k + 1 => max (mostTo l k) (atTo l (listW l k).beg l.length)
theorem Fs.atTo_is (l : List WRec) (t : Int) : ∀ k, 0 ≤ atTo l t k ∧ atTo l t k ≤ k
  | 0 => ⟨Int.le_refl _, Int.le_refl _⟩
  | k + 1 => by
    have ih := atTo_is l t k
    rw [atTo]
    split <;> omega
end Go.Proofs.Ytjmaankkbdpikaa
/- The reference's Handed: the drivers of a car. No condition but a length. -/
namespace Go.Proofs.Ytjmaankkbdpikaa
open Go.RowKit Fs

def Fs.newDriver (l : List WRec) (k : Nat) : Prop := k = 0 ∨ (listW l k).who ≠ (listW l (k - 1)).who
open Classical in
noncomputable def Fs.handedTo (l : List WRec) : Nat → List ByteArray
  | 0 => []
  | k + 1 => if newDriver l k then handedTo l k ++ [(listW l k).who] else handedTo l k
theorem Fs.handedTo_len (l : List WRec) : ∀ k, (handedTo l k).length ≤ k
  | 0 => Nat.le_refl _
  | k + 1 => by
    have ih := handedTo_len l k
    rw [handedTo]
    split
    · rw [List.length_append, List.length_singleton]; omega
    · omega
end Go.Proofs.Ytjmaankkbdpikaa

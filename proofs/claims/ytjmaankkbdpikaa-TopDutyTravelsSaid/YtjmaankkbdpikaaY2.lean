/- CheckPlates. No condition. -/
import Derived.Test.YtjmaankkbdpikaaY1
import Derived.Test.YtjmaankkbdpikaaD24
import Derived.Test.YtjmaankkbdpikaaX15c
import Derived.Test.YtjmaankkbdpikaaT14
import Derived.Sort.LotA
import Derived.Lib.OwnBridge
namespace Go.Proofs.Ytjmaankkbdpikaa
open Go.RowKit Fs

open Classical in
noncomputable def Fs.platesErr (l : List WRec) (P : List Int) (t : Int) : Int :=
  if P.length ≠ l.length then 10 else if fst (plateBad P) l.length ≠ 0 then 2 else if isClock t = false then 2
  else if ∃ i, i < l.length ∧ ∃ k, k < i ∧ plateClash l P i k then 13 else 0
theorem Fs.plateBad_two (P : List Int) (n : Nat) : fst (plateBad P) n = 0 ∨ fst (plateBad P) n = 2 := by
  by_cases h : ∃ k, k < n ∧ (∀ j, j < k → plateBad P j = 0) ∧ plateBad P k ≠ 0
  · obtain ⟨k, hk, h1, h2⟩ := h
    rw [(fst_hit hk h1 h2).1]
    unfold plateBad at h2 ⊢
    by_cases h3 : within (listI P k) 0 13 = true
    · rw [if_pos h3] at h2; exact absurd rfl h2
    · rw [if_neg h3]; exact Or.inr rfl
  · refine Or.inl (fst_none fun j hj => ?_)
    have key : ∀ j, j < n → plateBad P j = 0 := by
      intro j
      induction j using Nat.strongRecOn with
      | _ j ih =>
        intro hj
        by_cases h4 : plateBad P j = 0
        · exact h4
        · exact absurd ⟨j, hj, fun i hi => ih i hi (by omega), h4⟩ h
    exact key j hj
theorem Fs.check_bad {l : List WRec} {P : List Int} {t : Int} (h : platesErr l P t ≠ 0) : checkPlates l P t = (0, platesErr l P t) := by
  unfold platesErr at h ⊢
  by_cases h1 : P.length = l.length
  · rw [if_neg (fun hh => hh h1)] at h ⊢
    rcases plateBad_two P l.length with h2 | h2
    · rw [if_neg (fun hh => hh h2)] at h ⊢
      cases h3 : isClock t with
      | false => rw [if_pos rfl]; exact plate_time h1 h2 h3
      | true =>
        rw [h3, if_neg (by decide)] at h
        rw [if_neg (by decide)]
        by_cases h4 : ∃ i, i < l.length ∧ ∃ k, k < i ∧ plateClash l P i k
        · rw [if_pos h4]; exact plate_clash h1 h2 h3 h4
        · rw [if_neg h4] at h; exact absurd rfl h
    · rw [if_pos (by rw [h2]; decide)]; exact plate_bad h1 h2
  · rw [if_pos h1]; unfold checkPlates; rw [if_pos h1]
structure Fs.PlatesFine (l : List WRec) (P : List Int) (t : Int) : Prop where
  len : P.length = l.length
  bad : fst (plateBad P) l.length = 0
  clock : isClock t = true
  clash : ¬ ∃ i, i < l.length ∧ ∃ k, k < i ∧ plateClash l P i k
theorem Fs.check_fine {l : List WRec} {P : List Int} {t : Int} (h : platesErr l P t = 0) : PlatesFine l P t := by
  unfold platesErr at h
  by_cases h1 : P.length = l.length
  · rw [if_neg (fun hh => hh h1)] at h
    by_cases h2 : fst (plateBad P) l.length = 0
    · rw [if_neg (fun hh => hh h2)] at h
      cases h3 : isClock t with
      | false => rw [h3, if_pos rfl] at h; exact absurd h (by decide)
      | true =>
        rw [h3, if_neg (by decide)] at h
        by_cases h4 : ∃ i, i < l.length ∧ ∃ k, k < i ∧ plateClash l P i k
        · rw [if_pos h4] at h; exact absurd h (by decide)
        · exact ⟨h1, h2, h3, h4⟩
    · rw [if_pos h2] at h; exact absurd h (by decide)
  · rw [if_pos h1] at h; exact absurd h (by decide)
theorem PlatesIn.new (w : World) (A : Option Addr) (n c : Nat) (x : Int) (t : TypeId) : PlatesIn (w.alloc (.cells #[.slice A n c, .int .i64 x] t)) w.heap.size A n c x := ⟨cellNew _ _ _ 0, cellNew _ _ _ 1⟩
end Go.Proofs.Ytjmaankkbdpikaa
/- CheckPlates. No condition. -/
namespace Go.Proofs.Ytjmaankkbdpikaa
open Go.RowKit Fs

theorem xuse_span {l : List WRec} {k : Nat} (h : useBad l k = 0) : isName (listW l k).who = true ∧ spanErr (listW l k).beg (listW l k).fin = 0 ∧ ¬ ∃ i, i < k ∧ clashAt l k i := by
  unfold useBad at h
  cases hn : isName (listW l k).who with
  | false => rw [hn, if_pos rfl] at h; exact absurd h (by decide)
  | true =>
    rw [hn, if_neg (by decide)] at h
    by_cases h1 : spanErr (listW l k).beg (listW l k).fin = 0
    · rw [if_neg (fun hh => hh h1)] at h
      by_cases h2 : ∃ i, i < k ∧ clashAt l k i
      · rw [if_pos h2] at h; exact absurd h (by decide)
      · exact ⟨rfl, h1, h2⟩
    · rw [if_pos h1] at h; exact absurd h h1
theorem xuses_fine {l : List WRec} (h : usesErr l = 0) : l.length ≤ 14 ∧ ∀ k, k < l.length → useBad l k = 0 := by
  unfold usesErr at h
  by_cases h0 : 14 < l.length
  · rw [if_pos h0] at h; exact absurd h (by decide)
  · rw [if_neg h0] at h; exact ⟨by omega, fst_zero h⟩
theorem xuses_small {l : List WRec} (h : usesErr l = 0) : SmallU l :=
  ⟨by have := (xuses_fine h).1; omega, fun i hi => spanErr_ok (xuse_span ((xuses_fine h).2 i hi)).2.1⟩
theorem Fs.plates_wrong {l : List WRec} {P : List Int} {t : Int} (h : (if usesErr l ≠ 0 then usesErr l else platesErr l P t) ≠ 0) : platesOut l P t = (0, if usesErr l ≠ 0 then usesErr l else platesErr l P t) := by
  unfold platesOut
  by_cases h1 : usesErr l = 0
  · rw [if_neg (fun hh => hh h1)] at h
    rw [if_neg (fun hh => hh h1), if_neg (fun hh => hh h1)]
    exact check_bad h
  · rw [if_pos h1, if_pos h1]
theorem Fs.plates_right {l : List WRec} {P : List Int} {t : Int} (h : (if usesErr l ≠ 0 then usesErr l else platesErr l P t) = 0) : usesErr l = 0 ∧ PlatesFine l P t ∧ platesOut l P t = if atTo l t l.length ≠ countTo P l.length then (0, 20) else (countTo P l.length, 0) := by
  by_cases h1 : usesErr l = 0
  · rw [if_neg (fun hh => hh h1)] at h
    have h2 := check_fine h
    exact ⟨h1, h2, by unfold platesOut; rw [if_neg (fun hh => hh h1)]; exact plate_fine h2.len h2.bad h2.clock h2.clash⟩
  · rw [if_pos h1] at h; exact absurd h h1
theorem Fs.countTo_is {P : List Int} (h : ∀ i, i < P.length → 0 ≤ listI P i ∧ listI P i ≤ 13) : ∀ k, k ≤ P.length → 0 ≤ countTo P k ∧ countTo P k ≤ 14
  | 0, _ => ⟨Int.le_refl _, show (0 : Int) ≤ 14 by decide⟩
  | k + 1, hk => by
    have ih := countTo_is h k (by omega)
    have := h k (by omega)
    rw [countTo]
    omega
end Go.Proofs.Ytjmaankkbdpikaa
/- Uses by their beginnings. Condition: there are at most fourteen. -/
namespace Go.Proofs.Ytjmaankkbdpikaa
open Go.RowKit Fs

end Go.Proofs.Ytjmaankkbdpikaa
/- Uses by their beginnings, the list laid. Condition: there are at most fourteen. -/
namespace Go.Proofs.Ytjmaankkbdpikaa
open Go.RowKit Fs

structure Fs.Begun (l : List WRec) (O : List Nat) : Prop where
  perm : O.Perm (List.range l.length)
  up : ∀ i j, i < j → j < O.length → (listW l (O.getD i 0)).beg ≤ (listW l (O.getD j 0)).beg
def encF {n : Nat} (i : Fin n) : Value := .int .i64 (i.val : Nat)
theorem finRange_val (n : Nat) : (List.finRange n).map Fin.val = List.range n := by
  apply List.ext_getElem
  · simp
  · intro i h1 h2
    simp
theorem fin_beg (l : List WRec) {n : Nat} : Go.Sort.SWO (ltOf fun i j : Fin n => cmpI (listW l i.val).beg (listW l j.val).beg) := by
  have e : ∀ x y : Fin n, ltOf (fun i j : Fin n => cmpI (listW l i.val).beg (listW l j.val).beg) x y = decide ((listW l x.val).beg < (listW l y.val).beg) := fun x y => by
    unfold ltOf cmpI
    by_cases h1 : (listW l x.val).beg < (listW l y.val).beg
    · simp [h1]
    · by_cases h2 : (listW l y.val).beg < (listW l x.val).beg <;> simp [h1, h2]
  constructor
  · intro x; rw [e]; simp
  · intro x y z h1 h2; rw [e] at *; simp at *; omega
  · intro x y z h1 h2; rw [e] at *; simp at *; omega
end Go.Proofs.Ytjmaankkbdpikaa

/- The reference's CheckPlates. Condition: the uses' numbers are small. -/
import Derived.Test.YtjmaankkbdpikaaD18
namespace Go.Proofs.Ytjmaankkbdpikaa
open Go.RowKit Fs

def Fs.plateBad (P : List Int) (i : Nat) : Int := if within (listI P i) 0 13 = true then 0 else 2
def Fs.countTo (P : List Int) : Nat → Int
  | 0 => 0
  | k + 1 => max (countTo P k) (listI P k + 1)
def Fs.plateClash (l : List WRec) (P : List Int) (i k : Nat) : Prop := overlapB (listW l i) (listW l k) = true ∧ listI P i = listI P k
open Classical in
noncomputable def Fs.checkPlates (l : List WRec) (P : List Int) (at_ : Int) : Int × Int :=
  if P.length ≠ l.length then (0, 10) else if fst (plateBad P) l.length ≠ 0 then (0, 2) else if isClock at_ = false then (0, 2)
  else if ∃ i, i < l.length ∧ ∃ k, k < i ∧ plateClash l P i k then (0, 13)
  else if atTo l at_ l.length ≠ countTo P l.length then (0, 20) else (countTo P l.length, 0)
theorem plate_bad {l : List WRec} {P : List Int} {at_ : Int} (h : P.length = l.length) (h1 : fst (plateBad P) l.length = 2) : checkPlates l P at_ = (0, 2) := by
  unfold checkPlates
  rw [if_neg (fun hh => hh h), if_pos (by rw [h1]; decide)]
theorem plate_time {l : List WRec} {P : List Int} {at_ : Int} (h : P.length = l.length) (h1 : fst (plateBad P) l.length = 0) (h2 : isClock at_ = false) : checkPlates l P at_ = (0, 2) := by
  unfold checkPlates
  rw [if_neg (fun hh => hh h), if_neg (fun hh => hh h1), if_pos h2]
theorem plate_clash {l : List WRec} {P : List Int} {at_ : Int} (h : P.length = l.length) (h1 : fst (plateBad P) l.length = 0) (h2 : isClock at_ = true) (h3 : ∃ i, i < l.length ∧ ∃ k, k < i ∧ plateClash l P i k) : checkPlates l P at_ = (0, 13) := by
  unfold checkPlates
  rw [if_neg (fun hh => hh h), if_neg (fun hh => hh h1), if_neg (by rw [h2]; decide), if_pos h3]
theorem plate_fine {l : List WRec} {P : List Int} {at_ : Int} (h : P.length = l.length) (h1 : fst (plateBad P) l.length = 0) (h2 : isClock at_ = true) (h3 : ¬ ∃ i, i < l.length ∧ ∃ k, k < i ∧ plateClash l P i k) :
    checkPlates l P at_ = if atTo l at_ l.length ≠ countTo P l.length then (0, 20) else (countTo P l.length, 0) := by
  unfold checkPlates
  rw [if_neg (fun hh => hh h), if_neg (fun hh => hh h1), if_neg (by rw [h2]; decide), if_neg h3]
/-- The cells of plates in the block g. -/
structure PlatesIn (w : World) (g : Nat) (A : Option Addr) (n c : Nat) (x : Int) : Prop where
  c0 : w.cell? ⟨g, 0, none⟩ = some (.slice A n c)
  c1 : w.cell? ⟨g, 1, none⟩ = some (.int .i64 x)
theorem PlatesIn.keep {w w' : World} (k : Keep w w') {g n c : Nat} {A : Option Addr} {x : Int} (m : PlatesIn w g A n c x) : PlatesIn w' g A n c x := ⟨k _ _ m.c0, k _ _ m.c1⟩
end Go.Proofs.Ytjmaankkbdpikaa
/- The reference's Joined. Condition: both lists are right. -/
namespace Go.Proofs.Ytjmaankkbdpikaa
open Go.RowKit Fs

def Fs.mergeL : List WRec → List WRec → List WRec
  | [], b => b
  | x :: a, [] => x :: a
  | x :: a, y :: b => if x.beg < y.beg then x :: mergeL a (y :: b) else y :: mergeL (x :: a) b
termination_by a b => a.length + b.length
open Classical in
noncomputable def Fs.djoinErr (a b : List WRec) : Int :=
  if 0 < a.length ∧ 0 < b.length ∧ (listW a 0).who ≠ (listW b 0).who then 13
  else if ∃ i, i < a.length ∧ ∃ k, k < b.length ∧ overlapB (listW a i) (listW b k) = true then 26
  else if 40 < a.length + b.length then 8 else 0
open Classical in
noncomputable def Fs.clash0 (a b : List WRec) : Bool := decide (0 < a.length ∧ 0 < b.length ∧ (listW a 0).who ≠ (listW b 0).who)
theorem clash0_yes {a b : List WRec} (h : 0 < a.length ∧ 0 < b.length ∧ (listW a 0).who ≠ (listW b 0).who) : clash0 a b = true := by unfold clash0; simpa using h
theorem clash0_no {a b : List WRec} (h : ¬ (0 < a.length ∧ 0 < b.length ∧ (listW a 0).who ≠ (listW b 0).who)) : clash0 a b = false := by unfold clash0; simp only [decide_eq_false_iff_not]; exact h
theorem clash0_is {a b : List WRec} (h : clash0 a b = true) : 0 < a.length ∧ 0 < b.length ∧ (listW a 0).who ≠ (listW b 0).who := by unfold clash0 at h; simpa using h
theorem clash0_isno {a b : List WRec} (h : clash0 a b = false) : ¬ (0 < a.length ∧ 0 < b.length ∧ (listW a 0).who ≠ (listW b 0).who) := by unfold clash0 at h; simpa only [decide_eq_false_iff_not] using h
theorem Fs.drop_w {l : List WRec} {i : Nat} (h : i < l.length) : l.drop i = listW l i :: l.drop (i + 1) := by
  rw [List.drop_eq_getElem_cons h]
  congr 1
  have := listW_get h
  rw [List.getElem?_eq_getElem h] at this
  exact Option.some.inj this
theorem Fs.mergeL_nil (a : List WRec) : mergeL a [] = a := by cases a <;> simp [mergeL]
theorem Fs.mergeL_none (b : List WRec) : mergeL [] b = b := by simp [mergeL]
theorem merge_a {a b out : List WRec} {i k : Nat} (hi : i < a.length) (hk : k < b.length) (h : (listW a i).beg < (listW b k).beg) : out ++ ([listW a i] ++ mergeL (a.drop (i + 1)) (b.drop k)) = out ++ mergeL (a.drop i) (b.drop k) := by
  rw [drop_w hi, drop_w hk, mergeL, if_pos h]
  rfl
theorem merge_b {a b out : List WRec} {i k : Nat} (hi : i < a.length) (hk : k < b.length) (h : ¬ (listW a i).beg < (listW b k).beg) : out ++ ([listW b k] ++ mergeL (a.drop i) (b.drop (k + 1))) = out ++ mergeL (a.drop i) (b.drop k) := by
  rw [drop_w hi, drop_w hk, mergeL, if_neg h]
  rfl
theorem merge_nb {a b out : List WRec} {i k : Nat} (hi : a.length ≤ i) (hk : k < b.length) : out ++ ([listW b k] ++ mergeL (a.drop i) (b.drop (k + 1))) = out ++ mergeL (a.drop i) (b.drop k) := by
  rw [List.drop_eq_nil_of_le hi, mergeL_none, mergeL_none, drop_w hk]
  rfl
theorem merge_na {a b out : List WRec} {i k : Nat} (hi : i < a.length) (hk : b.length ≤ k) : out ++ ([listW a i] ++ mergeL (a.drop (i + 1)) (b.drop k)) = out ++ mergeL (a.drop i) (b.drop k) := by
  rw [List.drop_eq_nil_of_le hk, mergeL_nil, mergeL_nil, drop_w hi]
  rfl
theorem recFlat_more (l : List WRec) (x : WRec) : recFlat (l ++ [x]) = recFlat l ++ [.string x.who, .int .i64 x.beg, .int .i64 x.fin] := by
  rw [show [Value.string x.who, .int .i64 x.beg, .int .i64 x.fin] = flat 1 3 (fun _ j => recCells x j) from rfl]
  unfold recFlat
  have h := flat_join (n := l.length) (m := 1) (size := 3) (C := fun i j => recCells (listW l i) j) (D := fun _ j => recCells x j) (E := fun i j => recCells (listW (l ++ [x]) i) j) (by decide) (fun i j hi _ => by rw [listW_left hi]) (fun i j hi _ => by
    have e : i = 0 := by omega
    subst e
    rw [Nat.add_zero, listW_last])
  rw [h, List.length_append, List.length_singleton]
theorem recOne (x : WRec) : ∀ u ∈ [Value.string x.who, .int .i64 x.beg, .int .i64 x.fin], u.oneCell' = true := by
  intro u hu
  simp at hu
  rcases hu with rfl | rfl | rfl <;> rfl
end Go.Proofs.Ytjmaankkbdpikaa
/- The reference's weekly: the work of the week up to a trip's end. Condition: records are right, the numbers small. -/
namespace Go.Proofs.Ytjmaankkbdpikaa
open Go.RowKit Fs

def Fs.weekly (l : List WRec) (s n : Int) : Int := n + workTo l (s + n - 604800) s l.length
/-- Below its end the week's work up to a trip's end has the trip itself: what brokenAt asks. -/
theorem Fs.weekly_is {l : List WRec} (h : Right l) {s n : Int} (hn : 0 ≤ n) (hs : 0 < l.length → (listW l (l.length - 1)).fin ≤ s) : workTo l (s + n - 604800) (s + n) l.length = workTo l (s + n - 604800) s l.length := by
  have hh : ∀ k, k ≤ l.length → workTo l (s + n - 604800) (s + n) k = workTo l (s + n - 604800) s k := by
    intro k
    induction k with
    | zero => intro _; rfl
    | succ k ih =>
      intro hk
      have h1 := fin_le h (l.length - 1) (by omega) k (by omega)
      have h2 := hs (by omega)
      rw [workTo_next, workTo_next, ih (by omega)]
      unfold overlapOf
      omega
  exact hh _ (Nat.le_refl _)
/-- A later start has no more work in its week: weekly does not rise. -/
theorem Fs.weekly_falls {l : List WRec} {s s' n : Int} (h : Right l) (hs : s ≤ s') (hl : 0 < l.length → (listW l (l.length - 1)).fin ≤ s) : weekly l s' n ≤ weekly l s n := by
  unfold weekly
  have hh : ∀ k, k ≤ l.length → workTo l (s' + n - 604800) s' k ≤ workTo l (s + n - 604800) s k := by
    intro k
    induction k with
    | zero => intro _; exact Int.le_refl _
    | succ k ih =>
      intro hk
      have h1 := fin_le h (l.length - 1) (by omega) k (by omega)
      have h2 := hl (by omega)
      have h3 := ih (by omega)
      rw [workTo_next, workTo_next]
      unfold overlapOf
      omega
  have := hh _ (Nat.le_refl _)
  omega
end Go.Proofs.Ytjmaankkbdpikaa

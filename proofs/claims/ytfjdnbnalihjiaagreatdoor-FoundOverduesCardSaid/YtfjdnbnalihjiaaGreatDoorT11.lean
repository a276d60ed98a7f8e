/- How long a road takes, at a time. Condition: its points are right, and not too many. -/
import Derived.Test.YtfjdnbnalihjiaaGreatDoorT10
import Derived.RegionTactic
namespace Go.Proofs.YtfjdnbnalihjiaaGreatDoor
open Go.RowKit Fs

/-- Points that are right, one by one. -/
def Fs.PtsOk (l : List Pt) : Prop := l.length ≠ 0 ∧ l.length ≤ 8 ∧ ∀ j, j < l.length → errPoint l j = 0
theorem Fs.PtsOk.right {l : List Pt} (h : PtsOk l) {j : Nat} (hj : j < l.length) : ptRight (listP l j) = true := errPoint_right (h.2.2 j hj)
theorem Fs.PtsOk.up {l : List Pt} (h : PtsOk l) : ∀ b, b < l.length → ∀ a, a < b → (listP l a).hour < (listP l b).hour := by
  intro b
  induction b with
  | zero => intro _ a ha; omega
  | succ b ih =>
    intro hb a ha
    have h1 := h.2.2 (b + 1) hb
    have h2 : ¬ ((listP l (b + 1)).hi < (listP l (b + 1)).lo ∨ (0 < b + 1 ∧ (listP l (b + 1)).hour ≤ (listP l b).hour)) := fun hh => by
      rw [errPoint_order (errPoint_right h1) (by simpa using hh)] at h1; cases h1
    have h3 : (listP l b).hour < (listP l (b + 1)).hour := by omega
    by_cases e : a = b
    · subst e; exact h3
    · have := ih (by omega) a (by omega); omega
theorem Fs.behind_at {l : List Pt} {t : Int} {k : Nat} (hk : k < l.length) (h : ∀ j, j < k → (listP l j).hour ≤ t) (ht : t < (listP l k).hour) : behind l t = k := by
  unfold behind
  rw [find_hit hk (fun j hj => by have := h j hj; simp; omega) (by simpa using ht)]
  rfl
theorem Fs.behind_end {l : List Pt} {t : Int} (h : ∀ j, j < l.length → (listP l j).hour ≤ t) : behind l t = l.length := by
  unfold behind
  rw [find_none (fun j hj => by have := h j hj; simp; omega)]
  rfl
/-- A time lies between two neighbours. -/
theorem Fs.left_le {l : List Pt} (h : PtsOk l) {t : Int} (ht : 0 ≤ t ∧ t ≤ 86399) {k : Nat} (hk : k ≤ l.length) (hb : ∀ j, j < k → (listP l j).hour ≤ t) (ha : k < l.length → t < (listP l k).hour) :
    secondsTo t (listP l (k % l.length)).hour ≤ secondsTo (listP l ((k + l.length - 1) % l.length)).hour (listP l (k % l.length)).hour := by
  have hn := h.1
  by_cases e0 : k = 0
  · subst e0
    have ha := ha (by omega)
    rw [Nat.zero_mod, Nat.zero_add, Nat.mod_eq_of_lt (show l.length - 1 < l.length by omega)]
    have r0 := ptRight_is (h.right (j := 0) (by omega))
    have r1 := ptRight_is (h.right (j := l.length - 1) (by omega))
    have h1 : (listP l 0).hour ≤ (listP l (l.length - 1)).hour := by
      by_cases e1 : l.length - 1 = 0
      · rw [e1]; exact Int.le_refl _
      · have := h.up (l.length - 1) (by omega) 0 (by omega); omega
    unfold secondsTo
    omega
  · have e1 : (k + l.length - 1) % l.length = k - 1 := by
      rw [show k + l.length - 1 = (k - 1) + l.length by omega, Nat.add_mod_right, Nat.mod_eq_of_lt (by omega)]
    rw [e1]
    have hb1 := hb (k - 1) (by omega)
    have r1 := ptRight_is (h.right (j := k - 1) (by omega))
    by_cases e2 : k = l.length
    · have : k % l.length = 0 := by rw [e2, Nat.mod_self]
      rw [this]
      have r0 := ptRight_is (h.right (j := 0) (by omega))
      have h1 : (listP l 0).hour ≤ (listP l (k - 1)).hour := by
        by_cases e3 : k - 1 = 0
        · rw [e3]; exact Int.le_refl _
        · have := h.up (k - 1) (by omega) 0 (by omega); omega
      unfold secondsTo
      omega
    · rw [Nat.mod_eq_of_lt (by omega)]
      have ha := ha (by omega)
      have r0 := ptRight_is (h.right (j := k) (by omega))
      unfold secondsTo
      omega

/-- Products of small numbers are small. -/
theorem Fs.mul_le {x y a b : Int} (hx : 0 ≤ x ∧ x ≤ a) (hy : 0 ≤ y ∧ y ≤ b) : 0 ≤ x * y ∧ x * y ≤ a * b :=
  ⟨Int.mul_nonneg hx.1 hy.1, Int.le_trans (Int.mul_le_mul_of_nonneg_right hx.2 hy.1) (Int.mul_le_mul_of_nonneg_left hy.2 (Int.le_trans hx.1 hx.2))⟩
theorem Fs.onLine_is {x y left all : Int} (hx : 0 ≤ x ∧ x ≤ 7200) (hy : 0 ≤ y ∧ y ≤ 7200) (hl : 1 ≤ left ∧ left ≤ all) : 0 ≤ onLine x y left all ∧ onLine x y left all ≤ 7200 := by
  have h1 : 0 ≤ x * left := Int.mul_nonneg hx.1 (by omega)
  have h2 : 0 ≤ y * (all - left) := Int.mul_nonneg hy.1 (by omega)
  have h3 : x * left ≤ 7200 * left := Int.mul_le_mul_of_nonneg_right hx.2 (by omega)
  have h4 : y * (all - left) ≤ 7200 * (all - left) := Int.mul_le_mul_of_nonneg_right hy.2 (by omega)
  unfold onLine
  refine ⟨Int.ediv_nonneg (by omega) (by omega), ?_⟩
  have : (x * left + y * (all - left) + all - 1) / all < 7201 := Int.ediv_lt_of_lt_mul (by omega) (by omega)
  omega
theorem Fs.takesAt_is {l : List Pt} (h : PtsOk l) (a : Int) : (0 ≤ (takesAt l a).1 ∧ (takesAt l a).1 ≤ 7200) ∧ 0 ≤ (takesAt l a).2 ∧ (takesAt l a).2 ≤ 7200 := by
  have t0 := Int.emod_nonneg a (show (86400 : Int) ≠ 0 by decide)
  have t1 := Int.emod_lt_of_pos a (show (0 : Int) < 86400 by decide)
  have hb : ∃ k, k ≤ l.length ∧ behind l (a % 86400) = k ∧ (∀ j, j < k → (listP l j).hour ≤ a % 86400) ∧ (k < l.length → a % 86400 < (listP l k).hour) := by
    cases hf : (List.range l.length).find? fun i => decide (a % 86400 < (listP l i).hour) with
    | none =>
      rw [List.find?_eq_none] at hf
      refine ⟨l.length, Nat.le_refl _, behind_end fun j hj => ?_, fun j hj => ?_, fun hh => absurd hh (Nat.lt_irrefl _)⟩
      all_goals
        have := hf j (by simpa using hj)
        simp at this
        omega
    | some k =>
      rw [List.find?_range_eq_some] at hf
      obtain ⟨h1, h2, h3⟩ := hf
      have h2' : k < l.length := by simpa using h2
      have h4 : ∀ j, j < k → (listP l j).hour ≤ a % 86400 := fun j hj => by
        have := h3 j hj
        simp at this
        omega
      exact ⟨k, by omega, behind_at h2' h4 (by simpa using h1), h4, fun _ => by simpa using h1⟩
  obtain ⟨k, hk, hb, h1, h2⟩ := hb
  have hn : 0 < l.length := Nat.pos_of_ne_zero h.1
  have hl := left_le h ⟨t0, by omega⟩ hk h1 h2
  have p := ptRight_is (h.right (j := (k + l.length - 1) % l.length) (Nat.mod_lt _ hn))
  have q := ptRight_is (h.right (j := k % l.length) (Nat.mod_lt _ hn))
  have s := secondsTo_is (a % 86400) (listP l (k % l.length)).hour
  unfold takesAt
  simp only [hb]
  exact ⟨onLine_is p.2.1 q.2.1 ⟨s.1, hl⟩, onLine_is p.2.2 q.2.2 ⟨s.1, hl⟩⟩

theorem cell_two {w : World} (g h i : Nat) (u v x : Value) (hc : w.cell? ⟨h, i, none⟩ = some x) (hne : g < h) : ((w.setCell ⟨g, 0, none⟩ u).setCell ⟨g, 1, none⟩ v).drew.cell? ⟨h, i, none⟩ = some x := by
  show ((w.setCell ⟨g, 0, none⟩ u).setCell ⟨g, 1, none⟩ v).cell? ⟨h, i, none⟩ = some x
  rw [World.cell?_setCell_far _ _ _ _ (by show g ≠ h; omega), World.cell?_setCell_far _ _ _ _ (by show g ≠ h; omega)]
  exact hc
theorem mark_two {w : World} {g : Nat} (m : MarkAt w g) (u v : Value) : ((w.setCell ⟨g, 0, none⟩ u).setCell ⟨g, 1, none⟩ v).drew.cell? ⟨g, 0, none⟩ = some u ∧ ((w.setCell ⟨g, 0, none⟩ u).setCell ⟨g, 1, none⟩ v).drew.cell? ⟨g, 1, none⟩ = some v :=
  ⟨(World.cell?_setCell_other _ _ _ _ (by simp)).trans (World.cell?_setCell_same _ _ _ m.c0), World.cell?_setCell_same _ _ _ ((World.cell?_setCell_other _ _ _ _ (by simp)).trans m.c1)⟩
theorem Fs.prev_is {n k : Nat} (hk : k ≤ n) (hn : 0 < n) : ∃ j, j = (k + n - 1) % n ∧ j < n ∧ ((k : Int) + (n : Int) - 1) % (n : Int) = (j : Int) :=
  ⟨_, rfl, Nat.mod_lt _ hn, by rw [Int.natCast_emod]; congr 1; omega⟩
theorem Fs.this_is {n k : Nat} (hn : 0 < n) : ∃ j, j = k % n ∧ j < n ∧ (k : Int) % (n : Int) = (j : Int) := ⟨_, rfl, Nat.mod_lt _ hn, by rw [Int.natCast_emod]⟩

end Go.Proofs.YtfjdnbnalihjiaaGreatDoor

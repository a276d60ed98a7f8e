/- The times at which the rules of a day may change. Condition: the tariff is right. -/
import Derived.Test.YtbehabaoeicgeaaC2
namespace Go.Proofs.Ytbehabaoeicgeaa
open Go.RowKit Fs

def Fs.turnsTo (T : Tar) : Nat → List Int
  | 0 => [0]
  | n + 1 => turnsTo T n ++ [(listR T.rules n).beg, (listR T.rules n).fin % 86400]
theorem Fs.turnsTo_len (T : Tar) (n : Nat) : (turnsTo T n).length = 2 * n + 1 := by
  induction n with
  | zero => rfl
  | succ n ih => rw [turnsTo, List.length_append, ih]; simp; omega
theorem Fs.turnsTo_has (T : Tar) (n : Nat) : (0 : Int) ∈ turnsTo T n ∧ ∀ i, i < n → (listR T.rules i).beg ∈ turnsTo T n ∧ (listR T.rules i).fin % 86400 ∈ turnsTo T n := by
  induction n with
  | zero => exact ⟨by simp [turnsTo], fun i hi => by omega⟩
  | succ n ih =>
    obtain ⟨a, b⟩ := ih
    refine ⟨by rw [turnsTo]; exact List.mem_append_left _ a, fun i hi => ?_⟩
    rw [turnsTo]
    by_cases e : i = n
    · subst e; simp
    · obtain ⟨c, d⟩ := b i (by omega)
      exact ⟨List.mem_append_left _ c, List.mem_append_left _ d⟩
theorem Fs.turnsTo_day {T : Tar} (hT : errTar T = 0) (n : Nat) (hn : n ≤ T.rules.length) : ∀ x, x ∈ turnsTo T n → 0 ≤ x ∧ x ≤ 86399 := by
  induction n with
  | zero => intro x hx; simp [turnsTo] at hx; omega
  | succ n ih =>
    intro x hx
    rw [turnsTo, List.mem_append] at hx
    obtain ⟨⟨b0, b1⟩, -⟩ := rule_hours hT (i := n) (by omega)
    rcases hx with hx | hx
    · exact ih (by omega) x hx
    · simp only [List.mem_cons, List.not_mem_nil, or_false] at hx
      omega
theorem Fs.compact_sub (zs : List Int) : (Lib.compact zs).Sublist zs := by
  unfold Lib.compact Lib.compactUpTo
  have h : (List.range zs.length).map (zs.toArray[·]!) = zs := by
    have := Lib.range_map_get zs.toArray
    simpa using this
  exact (List.filter_sublist.map _).trans (by rw [h]; exact List.Sublist.refl _)
theorem Fs.compact_has {zs : List Int} {x : Int} (hx : x ∈ zs) : x ∈ Lib.compact zs := by
  have key : ∀ m, m ≤ zs.length → ∀ j, j < m → zs.toArray[j]! ∈ Lib.compactUpTo zs.toArray m := by
    intro m
    induction m with
    | zero => intro _ j hj; omega
    | succ m ih =>
      intro hm j hj
      rw [Lib.compactUpTo_succ, List.mem_append]
      by_cases e : j = m
      · subst e
        by_cases hk : Lib.keeps zs.toArray j = true
        · rw [if_pos hk]; right; simp
        · left
          unfold Lib.keeps at hk
          simp only [decide_eq_true_eq, not_or, Decidable.not_not] at hk
          rw [hk.2]
          exact ih (by omega) (j - 1) (by omega)
      · left
        exact ih (by omega) j (by omega)
  obtain ⟨j, hj, rfl⟩ := List.getElem_of_mem hx
  have := key zs.length (Nat.le_refl _) j hj
  unfold Lib.compact
  simpa [hj] using this
def Fs.turnsL (T : Tar) : List Int := Lib.compact ((turnsTo T T.rules.length).mergeSort fun x y => decide (x ≤ y))
theorem Fs.turnsL_of {T : Tar} (hT : errTar T = 0) : TurnsOf T (turnsL T) := by
  have hs : ((turnsTo T T.rules.length).mergeSort fun x y => decide (x ≤ y)).Pairwise (· ≤ ·) := by
    have := List.pairwise_mergeSort (le := fun x y : Int => decide (x ≤ y)) (fun a b c h1 h2 => by simp at *; omega) (fun a b => by simp; omega) (turnsTo T T.rules.length)
    simpa using this
  obtain ⟨a, b⟩ := turnsTo_has T T.rules.length
  exact ⟨hs.sublist (compact_sub _), compact_has (List.mem_mergeSort.2 a), fun i hi => compact_has (List.mem_mergeSort.2 (b i hi).1), fun i hi => compact_has (List.mem_mergeSort.2 (b i hi).2), fun x hx => turnsTo_day hT _ (Nat.le_refl _) x (List.mem_mergeSort.1 ((compact_sub _).subset hx))⟩
/-- A row of the call's own of numbers, as the sort asks for it. -/
theorem own_holds {w : World} {base : Nat} {e : TypeId} {v : Value} {l : List Int} (h : w.ownsRow base e 1 v l.length (intVals l)) (hn : l ≠ []) :
    ∃ g c, v = .slice (some ⟨g, 0, none⟩) l.length c ∧ base ≤ g ∧ g < w.heap.size ∧ l.length ≤ c ∧ c ≤ maxLen ∧ Go.Sort.Holds (Value.int .i64) w g 0 l.toArray := by
  rcases h.2 with ⟨hv, hn0⟩ | ⟨g, cap, cur, hv, hb, hh, h1, h2, h3, h4⟩
  · exact absurd (List.eq_nil_of_length_eq_zero hn0) hn
  · subst hv
    refine ⟨g, cap, rfl, hb, (Array.getElem?_eq_some_iff.1 hh).1, h1, h2, fun j hj => ?_⟩
    have hj' : j < l.length := by simpa using hj
    refine ⟨?_, by rw [Nat.zero_add]; exact h.frozenAt j⟩
    rw [Nat.zero_add, h.cellAt j (by omega)]
    unfold intVals
    simp [hj']
/-- .. and as a list is read. -/
theorem holds_arr {w : World} {g : Nat} {l : List Int} {c : Nat} (h : Go.Sort.Holds (Value.int .i64) w g 0 l.toArray) (h1 : l.length ≤ c) (h2 : c ≤ maxLen) : ArrI w (some ⟨g, 0, none⟩) l c := by
  refine ⟨h1, h2, fun _ => ⟨g, 0, rfl, fun i j hi hj => ?_⟩⟩
  have hj0 : j = 0 := by omega
  subst hj0
  have := (h i (by simpa using hi)).1
  rw [Nat.zero_add] at this
  rw [show 0 + i * 1 + 0 = i by omega, this]
  unfold listI
  simp [hi]
theorem putRow_below {w0 w : World} {g : Nat} {d : Array Int} {B : Nat} (h : Below B w0 w) (n : Nat) (hg : B ≤ g) : Below B w0 (Go.Sort.putRow (Value.int .i64) (Go.Sort.ahead w n) g 0 d) := by
  refine ⟨h.os, h.tape, h.output, by unfold Go.Sort.putRow Go.Sort.mapBlock Go.Sort.ahead; simpa using h.size, fun k hk => ?_⟩
  rw [← h.block k hk]
  unfold Go.Sort.putRow Go.Sort.mapBlock Go.Sort.ahead
  simp only [Array.getElem?_modify]
  rw [if_neg (by omega)]
theorem grow_below {w0 w : World} {B : Nat} (h : Below B w0 w) (os : Array Obj) (hB : B ≤ w.heap.size) : Below B w0 (Go.Sort.grow w os) := by
  refine ⟨h.os, h.tape, h.output, by unfold Go.Sort.grow; have := h.size; simp; omega, fun k hk => ?_⟩
  rw [← h.block k hk]
  exact Go.Sort.heap_grow_old w os (by omega)
end Go.Proofs.Ytbehabaoeicgeaa

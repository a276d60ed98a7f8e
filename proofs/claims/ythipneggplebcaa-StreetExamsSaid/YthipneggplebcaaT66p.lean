/- The metres told, summed up as the reference does: plain. Condition: metres are not below nought. -/
import Derived.Test.YthipneggplebcaaT27
import Derived.Test.YthipneggplebcaaT52
namespace Go.Proofs.Ythipneggplebcaa
open Go.RowKit Fs

def Fs.rbest (N : Net) (a b : Int) : Nat → Int
  | 0 => -1
  | k + 1 => if (listD N.roads k).src = a ∧ (listD N.roads k).dst = b ∧ (rbest N a b k < 0 ∨ (listD N.roads k).metres < rbest N a b k) then (listD N.roads k).metres else rbest N a b k
theorem Fs.rbest_is {N : Net} (hm : ∀ i, i < N.roads.length → 0 ≤ (listD N.roads i).metres) (a b : Int) : ∀ k, k ≤ N.roads.length → (bestTo N a b k = -1 → rbest N a b k = -1) ∧ (bestTo N a b k ≠ -1 → rbest N a b k = (listD N.roads (bestTo N a b k).toNat).metres)
  | 0, _ => ⟨fun _ => rfl, fun h => absurd rfl h⟩
  | k + 1, hk => by
    obtain ⟨i1, i2⟩ := rbest_is hm a b k (by omega)
    by_cases hc : (listD N.roads k).src = a ∧ (listD N.roads k).dst = b ∧ (bestTo N a b k = -1 ∨ (listD N.roads k).metres < (listD N.roads (bestTo N a b k).toNat).metres)
    · rw [best_take hc]
      refine ⟨fun h => by omega, fun _ => ?_⟩
      rw [Int.toNat_natCast]
      refine if_pos ⟨hc.1, hc.2.1, ?_⟩
      by_cases h0 : bestTo N a b k = -1
      · left; rw [i1 h0]; decide
      · right; rw [i2 h0]; exact hc.2.2.resolve_left h0
    · rw [best_leave hc]
      have : rbest N a b (k + 1) = rbest N a b k := by
        refine if_neg (fun h => hc ⟨h.1, h.2.1, ?_⟩)
        by_cases h0 : bestTo N a b k = -1
        · exact .inl h0
        · right
          have e := i2 h0
          rcases h.2.2 with h3 | h3
          · obtain ⟨p, hp, hp1, -⟩ := (bestTo_is N a b k).resolve_left h0
            have := hm p (by omega)
            rw [hp, Int.toNat_natCast] at e
            omega
          · rw [← e]; exact h3
      rw [this]
      exact ⟨i1, i2⟩
def Fs.metTo (N : Net) (l : List Int) : Nat → Int
  | 0 => 0
  | k + 1 => metTo N l k + (listD N.roads (bestAt N l k).toNat).metres
theorem Fs.along_sum (N : Net) (l : List Int) (n : Nat) : ∀ k, k ≤ n → alongTo (further N) k (toldTo N l n) 0 = metTo N l k
  | 0, _ => rfl
  | k + 1, hk => by
    show further N _ _ = _
    rw [toldTo_at N l n k (by omega), along_sum N l n k (by omega)]
    rfl
theorem Fs.told_sum {N : Net} {l : List Int} (h : (told N l).2 = 0) : toldM N l = metTo N l (l.length - 1) := by
  obtain ⟨-, h2⟩ := told_ok h
  unfold toldM
  rw [h2, toldTo_len, along_sum N l _ _ (Nat.le_refl _)]
theorem Fs.told_yes {N : Net} {l : List Int} (h : ∀ k, k < l.length - 1 → bestAt N l k ≠ -1) : (told N l).2 = 0 := by unfold told; rw [if_pos h]
theorem Fs.told_no {N : Net} {l : List Int} {k : Nat} (hk : k < l.length - 1) (h : bestAt N l k = -1) : (told N l).2 = 23 := by unfold told; rw [if_neg (fun h' => h' k hk h)]
theorem Fs.sum_le {N : Net} (hm : ∀ i, i < N.roads.length → 0 ≤ (listD N.roads i).metres ∧ (listD N.roads i).metres ≤ 100000) {l : List Int} : ∀ k, (∀ j, j < k → bestAt N l j ≠ -1) → 0 ≤ metTo N l k ∧ metTo N l k ≤ 100000 * k
  | 0, _ => ⟨Int.le_refl _, by show (0 : Int) ≤ _; omega⟩
  | k + 1, h => by
    have ih := sum_le hm k (fun j hj => h j (by omega))
    obtain ⟨p, hp, hp1, -⟩ := best_in (h k (by omega))
    have := hm p hp1
    show 0 ≤ _ + _ ∧ _ + _ ≤ _
    rw [hp, Int.toNat_natCast]
    omega
/-- What the reference says of an examination of a right net. -/
theorem Fs.ex_err {N : Net} {l : List Int} {m e : Int} (hE : netErr N = 0) (h : examErr N l m = e) (he : e ≠ 0) : examined N l m = ((0, 0, false), e) := by
  have hx : exErr N l m = e := by
    unfold exErr; rw [fst2, if_pos hE]; exact h
  unfold examined
  rw [if_neg (by rw [hx]; exact he), hx]
theorem Fs.ex_open {N : Net} {l : List Int} {m : Int} (hE : netErr N = 0) (h : examErr N l m = 0) (h2 : (told N l).2 = 23) : examined N l m = ((0, 0, false), 23) := by
  unfold examined
  rw [if_pos (exErr_zero hE h), if_neg (by rw [h2]; decide), h2]
theorem Fs.ex_fine {N : Net} {l : List Int} {m : Int} (hE : netErr N = 0) (h : examErr N l m = 0) (h2 : (told N l).2 = 0) : examined N l m = ((metTo N l (l.length - 1), leastM N l, decide (1000 * metTo N l (l.length - 1) ≤ (1000 + m) * leastM N l)), 0) := by
  unfold examined
  rw [if_pos (exErr_zero hE h), if_pos h2, told_sum h2]
theorem Fs.places_hit {N : Net} {l : List Int} {k : Nat} (hk : k < l.length) (h1 : ∀ j, j < k → isPlace N (listI l j) = true) (h : isPlace N (listI l k) = false) : placesErr N l = 6 := by
  have := (fst_hit (f := fun i => if isPlace N (listI l i) = true then 0 else 6) (n := l.length) hk (fun j hj => if_pos (h1 j hj)) (by rw [h]; decide)).1
  exact this.trans (if_neg (by rw [h]; decide))
theorem Fs.places_fine {N : Net} {l : List Int} (h1 : ∀ j, j < l.length → isPlace N (listI l j) = true) : placesErr N l = 0 := fst_none (fun j hj => if_pos (h1 j hj))
theorem Fs.best_metres {N : Net} (hm : ∀ i, i < N.roads.length → 0 ≤ (listD N.roads i).metres) {l : List Int} {k : Nat} :
    (bestAt N l k = -1 → rbest N (listI l k) (listI l (k + 1)) N.roads.length = -1) ∧ (bestAt N l k ≠ -1 → 0 ≤ rbest N (listI l k) (listI l (k + 1)) N.roads.length ∧ metTo N l (k + 1) = metTo N l k + rbest N (listI l k) (listI l (k + 1)) N.roads.length) := by
  obtain ⟨h1, h2⟩ := rbest_is hm (listI l k) (listI l (k + 1)) N.roads.length (Nat.le_refl _)
  refine ⟨h1, fun h => ?_⟩
  have e := h2 h
  obtain ⟨p, hp, hp1, -⟩ := best_in h
  have e' : rbest N (listI l k) (listI l (k + 1)) N.roads.length = (listD N.roads (bestAt N l k).toNat).metres := e
  refine ⟨?_, by show _ + _ = _; rw [e']⟩
  rw [e', hp, Int.toNat_natCast]
  exact hm p hp1
theorem Fs.rbest_step (N : Net) (a b : Int) (k : Nat) : rbest N a b (k + 1) = if (listD N.roads k).src = a ∧ (listD N.roads k).dst = b ∧ (rbest N a b k < 0 ∨ (listD N.roads k).metres < rbest N a b k) then (listD N.roads k).metres else rbest N a b k := rfl
theorem Fs.rbest_le {N : Net} (hm : ∀ i, i < N.roads.length → 0 ≤ (listD N.roads i).metres ∧ (listD N.roads i).metres ≤ 100000) (a b : Int) : ∀ k, k ≤ N.roads.length → -1 ≤ rbest N a b k ∧ rbest N a b k ≤ 100000
  | 0, _ => by show -1 ≤ (-1 : Int) ∧ (-1 : Int) ≤ 100000; decide
  | k + 1, hk => by
    have ih := rbest_le hm a b k (by omega)
    have := hm k (by omega)
    rw [rbest_step]
    by_cases h : (listD N.roads k).src = a ∧ (listD N.roads k).dst = b ∧ (rbest N a b k < 0 ∨ (listD N.roads k).metres < rbest N a b k)
    · rw [if_pos h]; omega
    · rw [if_neg h]; exact ih
end Go.Proofs.Ythipneggplebcaa

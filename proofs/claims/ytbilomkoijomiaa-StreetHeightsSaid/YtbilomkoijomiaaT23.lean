/- What an examination comes to. Condition: the net can be read. -/
import Derived.Test.YtbilomkoijomiaaT22
namespace Go.Proofs.Ytbilomkoijomiaa
open Go.RowKit Fs

theorem Fs.toldTo_at (N : Net) (l : List Int) : ∀ n k, k < n → listI (toldTo N l n) k = bestAt N l k
  | 0, k, h => absurd h (Nat.not_lt_zero _)
  | n + 1, k, h => by
    have hl := toldTo_len N l n
    rw [toldTo]
    unfold listI
    by_cases e : k < n
    · rw [List.getD_eq_getElem?_getD, List.getElem?_append_left (by omega), ← List.getD_eq_getElem?_getD]
      have := toldTo_at N l n k e
      unfold listI at this
      exact this
    · rw [List.getD_eq_getElem?_getD, List.getElem?_append_right (by omega), show k - (toldTo N l n).length = 0 by omega]
      have : k = n := by omega
      subst this
      rfl
theorem Fs.best_in {N : Net} {l : List Int} {k : Nat} (h : bestAt N l k ≠ -1) : ∃ p : Nat, bestAt N l k = p ∧ p < N.roads.length ∧ (listD N.roads p).src = listI l k ∧ (listD N.roads p).dst = listI l (k + 1) := by
  rcases bestTo_is N (listI l k) (listI l (k + 1)) N.roads.length with h1 | h1
  · exact absurd h1 h
  · exact h1
/-- The metres of the roads told. -/
def Fs.toldM (N : Net) (l : List Int) : Int := alongTo (further N) (told N l).1.length (told N l).1 0
/-- The least metres from the first place to the last one. -/
def Fs.leastM (N : Net) (l : List Int) : Int := listI (heights N (listI l 0)) (listI l (l.length - 1)).toNat
theorem Fs.told_ok {N : Net} {l : List Int} (h : (told N l).2 = 0) : (∀ k, k < l.length - 1 → bestAt N l k ≠ -1) ∧ (told N l).1 = toldTo N l (l.length - 1) := by
  by_cases hh : ∀ k, k < l.length - 1 → bestAt N l k ≠ -1
  · exact ⟨hh, by rw [told, if_pos hh]⟩
  · rw [told, if_neg hh] at h
    exact absurd h (by decide)
/-- Told, never shorter. -/
theorem Fs.told_least {N : Net} {l : List Int} (hE : netErr N = 0) (hs : 0 ≤ listI l 0 ∧ listI l 0 < N.places.length) (h2 : 2 ≤ l.length) (h : (told N l).2 = 0) : 0 ≤ leastM N l ∧ leastM N l ≤ toldM N l ∧ toldM N l ≤ 100000 * (l.length - 1 : Nat) := by
  obtain ⟨hb, ht⟩ := told_ok h
  obtain ⟨s, hs'⟩ : ∃ s : Nat, listI l 0 = s := ⟨_, (Int.toNat_of_nonneg hs.1).symm⟩
  have hF := search_found (N := N) (nx := further N) (src := s) (L := 0) (net_joined hE) (further_good hE) (by omega) (Int.le_refl _)
  have hlen := toldTo_len N l (l.length - 1)
  have hin : ∀ j, j < (toldTo N l (l.length - 1)).length → 0 ≤ listI (toldTo N l (l.length - 1)) j ∧ listI (toldTo N l (l.length - 1)) j < N.roads.length := by
    intro j hj
    rw [toldTo_at N l _ j (by omega)]
    obtain ⟨p, hp, hp1, -⟩ := best_in (hb j (by omega))
    omega
  have hle := alongTo_le (further_small hE) (x := 0) hin (Int.le_refl _) (l.length - 1) (by omega)
  have hH : heights N (listI l 0) = (search N s 0 (further N)).labels := by rw [hs']; rfl
  have key : ∀ k, k ≤ l.length - 1 → listI (heights N (listI l 0)) (listI l k).toNat ≠ -1 ∧ listI (heights N (listI l 0)) (listI l k).toNat ≤ alongTo (further N) k (toldTo N l (l.length - 1)) 0 := by
    intro k
    induction k with
    | zero =>
      intro _
      rw [hH, hs', Int.toNat_natCast, hF.own]
      exact ⟨by decide, Int.le_refl _⟩
    | succ k ih =>
      intro hk
      obtain ⟨i1, i2⟩ := ih (by omega)
      obtain ⟨p, hp, hp1, hp2, hp3⟩ := best_in (hb k (by omega))
      have hst := hF.step p hp1
      rw [hp2, hp3, ← hH] at hst
      obtain ⟨s1, s2⟩ := hst i1
      refine ⟨s1, ?_⟩
      show _ ≤ alongTo (further N) k (toldTo N l (l.length - 1)) 0 + (listD N.roads (listI (toldTo N l (l.length - 1)) k).toNat).metres
      rw [toldTo_at N l _ k (by omega), hp, Int.toNat_natCast]
      have s3 : listI (heights N (listI l 0)) (listI l (k + 1)).toNat ≤ listI (heights N (listI l 0)) (listI l k).toNat + (listD N.roads p).metres := s2
      omega
  obtain ⟨k1, k2⟩ := key (l.length - 1) (Nat.le_refl _)
  have hpl : ∃ z : Nat, listI l (l.length - 1) = z ∧ z < N.places.length := by
    obtain ⟨p, hp, hp1, hp2, hp3⟩ := best_in (hb (l.length - 2) (by omega))
    rw [show l.length - 2 + 1 = l.length - 1 by omega] at hp3
    have hd := (net_roads_ok hE p hp1).dst
    rw [hp3] at hd
    exact ⟨(listI l (l.length - 1)).toNat, (Int.toNat_of_nonneg hd.1).symm, by omega⟩
  obtain ⟨z, hz, hzl⟩ := hpl
  have hL := hF.least z hzl
  unfold leastM toldM
  rw [ht, hlen]
  rw [hz, Int.toNat_natCast] at k1 k2
  rw [hz, Int.toNat_natCast]
  rw [← hH] at hL
  refine ⟨?_, k2, by omega⟩
  rcases hL with hL | hL
  · exact absurd hL k1
  · exact hL
def Fs.exErr (N : Net) (l : List Int) (m : Int) : Int := fst (listI [netErr N, examErr N l m]) 2
/-- What an examination comes to, and why it is refused. -/
def Fs.examined (N : Net) (l : List Int) (m : Int) : (Int × Int × Bool) × Int :=
  if exErr N l m = 0 then (if (told N l).2 = 0 then ((toldM N l, leastM N l, decide (1000 * toldM N l ≤ (1000 + m) * leastM N l)), 0) else ((0, 0, false), (told N l).2)) else ((0, 0, false), exErr N l m)
theorem Fs.exErr_ok {N : Net} {l : List Int} {m : Int} (h : exErr N l m = 0) : netErr N = 0 ∧ examErr N l m = 0 := ⟨fst_zero h 0 (by decide), fst_zero h 1 (by decide)⟩
theorem Fs.examErr_ok {N : Net} {l : List Int} {m : Int} (h : examErr N l m = 0) : 2 ≤ l.length ∧ l.length ≤ 200 ∧ placesErr N l = 0 ∧ 0 ≤ m ∧ m ≤ 1000 := by
  unfold examErr at h
  by_cases h1 : l.length < 2
  · rw [if_pos h1] at h; exact absurd h (by decide)
  · rw [if_neg h1] at h
    by_cases h2 : 200 < l.length
    · rw [if_pos h2] at h; exact absurd h (by decide)
    · rw [if_neg h2] at h
      by_cases h3 : placesErr N l = 0
      · rw [if_pos h3] at h
        cases hw : within m 0 1000 with
        | true => exact ⟨by omega, by omega, h3, (Fs.within_iff.1 hw).1, (Fs.within_iff.1 hw).2⟩
        | false => rw [hw] at h; exact absurd h (by decide)
      · rw [if_neg h3] at h; exact absurd h h3
theorem Fs.place_in {N : Net} {l : List Int} (h : placesErr N l = 0) {k : Nat} (hk : k < l.length) : 0 ≤ listI l k ∧ listI l k < N.places.length := by
  have := fst_zero h k hk
  cases hp : isPlace N (listI l k) with
  | true => have h := Fs.within_iff.1 hp; exact ⟨h.1, by omega⟩
  | false => rw [hp] at this; exact absurd this (by decide)
end Go.Proofs.Ytbilomkoijomiaa

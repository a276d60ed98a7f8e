/- Going on along all roads as long as something becomes less leads to the labels of the search. Lists and numbers alone. -/
import Derived.Test.YtndhpdjcpagghaaGreatDoorT12
namespace Go.Proofs.YtndhpdjcpagghaaGreatDoor
open Fs

/-- Labels that ways have: none is less than the search's. -/
structure Fs.Told2 (N : Net) (nx : Nat → Int → Int) (src : Nat) (L : Int) (l : List Int) : Prop where
  len : l.length = N.places.length
  own : listI l src = L
  over : ∀ z, z < N.places.length → listI l z ≠ -1 → 0 ≤ listI l z ∧ listI (search N src L nx).labels z ≠ -1 ∧ listI (search N src L nx).labels z ≤ listI l z
  cap : ∀ z, z < N.places.length → listI l z ≤ L + 100000 * ((l.filter (fun x => decide (x ≠ -1))).length - 1 : Int)
/-- No road leads to less. -/
def Fs.Shut2 (N : Net) (nx : Nat → Int → Int) (l : List Int) (k : Nat) : Prop :=
  ∀ i, i < k → listI l (listD N.roads i).src.toNat ≠ -1 → listI l (listD N.roads i).dst.toNat ≠ -1 ∧ listI l (listD N.roads i).dst.toNat ≤ nx i (listI l (listD N.roads i).src.toNat)

theorem Fs.listI_get {l : List Int} {i : Nat} (h : i < l.length) : listI l i = l[i] := by unfold listI; rw [List.getD_eq_getElem?_getD, List.getElem?_eq_getElem h]; rfl
theorem Fs.list_ext {a b : List Int} (hl : a.length = b.length) (h : ∀ i, i < a.length → listI a i = listI b i) : a = b := by
  refine List.ext_getElem hl fun i h1 h2 => ?_
  have := h i h1
  rwa [listI_get h1, listI_get h2] at this

theorem Fs.filt_len (l : List Int) : (l.filter (fun x => decide (x ≠ -1))).length ≤ l.length := List.length_filter_le _ _
theorem Fs.filt_set {l : List Int} {i : Nat} {x : Int} (hi : i < l.length) (hx : x ≠ -1) :
    ((l.set i x).filter (fun x => decide (x ≠ -1))).length = (l.filter (fun x => decide (x ≠ -1))).length + (if listI l i = -1 then 1 else 0) := by
  induction l generalizing i with
  | nil => exact absurd hi (Nat.not_lt_zero _)
  | cons a l ih =>
    cases i with
    | zero =>
      rw [List.set_cons_zero, List.filter_cons, List.filter_cons, if_pos (decide_eq_true hx)]
      show _ = _ + (if a = -1 then 1 else 0)
      by_cases ha : a = -1
      · rw [if_neg (by simpa using ha), if_pos ha]; rfl
      · rw [if_pos (by simpa using ha), if_neg ha]; rfl
    | succ i =>
      have h := ih (i := i) (by simpa using hi)
      rw [List.set_cons_succ, List.filter_cons, List.filter_cons]
      have e : listI (a :: l) (i + 1) = listI l i := by unfold listI; simp
      rw [e]
      split
      · simp only [List.length_cons]; omega
      · exact h

/-- What is left to go down. -/
def Fs.left2 (M : Int) : List Int → Nat
  | [] => 0
  | x :: l => (if x = -1 then M + 1 - 0 else x).toNat + left2 M l
theorem Fs.left2_set {M : Int} {x : Int} : ∀ {l : List Int} {i : Nat}, i < l.length → 0 ≤ x → x ≤ M → (listI l i = -1 ∨ x < listI l i) → left2 M (l.set i x) < left2 M l
  | [], _, hi, _, _, _ => absurd hi (Nat.not_lt_zero _)
  | a :: l, 0, _, h0, hM, h => by
    have h' : a = -1 ∨ x < a := h
    rw [List.set_cons_zero, left2, left2, if_neg (by omega)]
    rcases h' with h' | h'
    · rw [if_pos h']; omega
    · rw [if_neg (by omega)]; omega
  | a :: l, i + 1, hi, h0, hM, h => by
    have := left2_set (M := M) (l := l) (i := i) (by simpa using hi) h0 hM (by simpa [listI] using h)
    rw [List.set_cons_succ, left2, left2]
    omega

theorem Fs.Told2.start {N : Net} {nx : Nat → Int → Int} {src : Nat} {L : Int} (hN : Joined N) (hg : Good N nx) (hs : src < N.places.length) (hL : 0 ≤ L) : Told2 N nx src L ((List.replicate N.places.length (-1)).set src L) := by
  have F := search_found hN hg hs hL
  have e : ∀ z, z < N.places.length → listI ((List.replicate N.places.length (-1)).set src L) z = if src = z then L else -1 := fun z hz => by
    rw [listI_set]
    by_cases h : src = z
    · subst h; rw [if_pos ⟨rfl, by simpa using hs⟩, if_pos rfl]
    · rw [if_neg (fun hh => h hh.1), if_neg h, listI_rep hz]
  refine ⟨by simp, by rw [e src hs, if_pos rfl], fun z hz h => ?_, fun z hz => ?_⟩
  · rw [e z hz] at h ⊢
    by_cases h1 : src = z
    · subst h1; rw [if_pos rfl, F.own]; exact ⟨hL, by omega, Int.le_refl _⟩
    · rw [if_neg h1] at h; exact absurd rfl h
  · have h2 := filt_set (l := List.replicate N.places.length (-1)) (i := src) (x := L) (by simpa using hs) (by omega)
    rw [listI_rep hs, if_pos rfl] at h2
    rw [h2, e z hz]
    split <;> omega
theorem Fs.Told2.cap' {N : Net} {nx : Nat → Int → Int} {src : Nat} {L : Int} {l : List Int} (h : Told2 N nx src L l) (hn : N.places.length ≤ 20) : ∀ z, z < N.places.length → listI l z ≤ L + 1900000 := fun z hz => by
  have h1 := h.cap z hz
  have h2 := filt_len l
  have h3 := h.len
  omega
theorem Fs.Told2.src_at {N : Net} {nx : Nat → Int → Int} {src : Nat} {L : Int} {l : List Int} (_ : Told2 N nx src L l) (hN : Joined N) {i : Nat} (hi : i < N.roads.length) :
    (listD N.roads i).src.toNat < N.places.length ∧ (listD N.roads i).dst.toNat < N.places.length := by
  have := hN i hi
  omega
/-- A label becomes less. -/
theorem Fs.Told2.step {N : Net} {nx : Nat → Int → Int} {src : Nat} {L : Int} {l : List Int} (h : Told2 N nx src L l) (hN : Joined N) (hg : Good N nx) (hm : Small N nx) (hs : src < N.places.length) (hL : 0 ≤ L) {i : Nat} (hi : i < N.roads.length)
    (h1 : listI l (listD N.roads i).src.toNat ≠ -1) (h2 : listI l (listD N.roads i).dst.toNat = -1 ∨ nx i (listI l (listD N.roads i).src.toNat) < listI l (listD N.roads i).dst.toNat) :
    Told2 N nx src L (l.set (listD N.roads i).dst.toNat (nx i (listI l (listD N.roads i).src.toNat))) := by
  have F := search_found hN hg hs hL
  obtain ⟨a1, a2⟩ := h.src_at hN hi
  obtain ⟨b1, b2, b3⟩ := h.over _ a1 h1
  obtain ⟨c1, c2⟩ := hm i _ hi b1
  have c3 := hg.mono i _ _ hi (by rcases F.least _ a1 with hh | hh; exact absurd hh b2; omega : 0 ≤ listI (search N src L nx).labels (listD N.roads i).src.toNat) b3
  obtain ⟨d1, d2⟩ := F.step i hi b2
  have hx : nx i (listI l (listD N.roads i).src.toNat) ≠ -1 := by omega
  have hl := h.len
  have e : ∀ z, listI (l.set (listD N.roads i).dst.toNat (nx i (listI l (listD N.roads i).src.toNat))) z = if (listD N.roads i).dst.toNat = z then nx i (listI l (listD N.roads i).src.toNat) else listI l z := fun z => by
    rw [listI_set]
    by_cases hh : (listD N.roads i).dst.toNat = z
    · rw [if_pos ⟨hh, by omega⟩, if_pos hh]
    · rw [if_neg (fun h => hh h.1), if_neg hh]
  refine ⟨by simp [hl], ?_, fun z hz hne => ?_, fun z hz => ?_⟩
  · rw [e]
    by_cases hh : (listD N.roads i).dst.toNat = src
    · rw [if_pos hh]
      have h3 := F.own
      rw [hh] at d2 h2
      rw [h.own] at h2
      rw [h3] at d2
      omega
    · rw [if_neg hh]; exact h.own
  · rw [e] at hne ⊢
    by_cases hh : (listD N.roads i).dst.toNat = z
    · rw [if_pos hh]
      subst hh
      exact ⟨by omega, d1, by omega⟩
    · rw [if_neg hh] at hne ⊢; exact h.over z hz hne
  · have f := filt_set (l := l) (i := (listD N.roads i).dst.toNat) (x := nx i (listI l (listD N.roads i).src.toNat)) (by omega) hx
    rw [f, e]
    have g1 := h.cap _ a1
    have g2 := h.cap z hz
    by_cases hh : (listD N.roads i).dst.toNat = z
    · rw [if_pos hh]
      subst hh
      rcases h2 with h2 | h2
      · rw [if_pos h2]; omega
      · rw [if_neg (by omega)]; omega
    · rw [if_neg hh]
      split <;> omega
theorem Fs.Shut2.mono {N : Net} {nx : Nat → Int → Int} {l : List Int} {k : Nat} (h : Shut2 N nx l k) (h1 : listI l (listD N.roads k).src.toNat ≠ -1 → listI l (listD N.roads k).dst.toNat ≠ -1 ∧ listI l (listD N.roads k).dst.toNat ≤ nx k (listI l (listD N.roads k).src.toNat)) : Shut2 N nx l (k + 1) := fun i hi hh => by
  by_cases e : i = k
  · subst e; exact h1 hh
  · exact h i (by omega) hh
/-- Labels of ways of which no road leads to less are the search's. -/
theorem Fs.Told2.done {N : Net} {nx : Nat → Int → Int} {src : Nat} {L : Int} {l : List Int} (h : Told2 N nx src L l) (hN : Joined N) (hg : Good N nx) (hs : src < N.places.length) (hL : 0 ≤ L) (hc : Shut2 N nx l N.roads.length) : l = (search N src L nx).labels := by
  have F := search_found hN hg hs hL
  obtain ⟨rk, ht⟩ := F.tree
  have key : ∀ n z, rk z ≤ n → z < N.places.length → listI (search N src L nx).labels z ≠ -1 → listI l z ≠ -1 ∧ listI l z ≤ listI (search N src L nx).labels z := by
    intro n
    induction n with
    | zero =>
      intro z hr hz hl
      by_cases e : listI (search N src L nx).last z = -1
      · rcases F.back z hz e with h1 | h1
        · subst h1; rw [h.own, F.own]; exact ⟨by omega, Int.le_refl _⟩
        · exact absurd h1 hl
      · obtain ⟨-, i, -, -, -, -, -, h6⟩ := ht z hz e
        omega
    | succ n ih =>
      intro z hr hz hl
      by_cases e : listI (search N src L nx).last z = -1
      · rcases F.back z hz e with h1 | h1
        · subst h1; rw [h.own, F.own]; exact ⟨by omega, Int.le_refl _⟩
        · exact absurd h1 hl
      · obtain ⟨-, i, h1, h2, h3, h4, h5, h6⟩ := ht z hz e
        have hj := hN i h1
        obtain ⟨k1, k2⟩ := ih (listD N.roads i).src.toNat (by omega) (by omega) h4
        have hst := hc i h1 k1
        rw [h3, Int.toNat_natCast] at hst
        have hS := (h.over _ (show (listD N.roads i).src.toNat < _ by omega) k1).1
        have := hg.mono i _ _ h1 hS k2
        exact ⟨hst.1, by omega⟩
  refine list_ext (by rw [h.len, F.n1]) fun z hz => ?_
  rw [h.len] at hz
  by_cases e : listI (search N src L nx).labels z = -1
  · rw [e]
    by_cases e2 : listI l z = -1
    · exact e2
    · exact absurd e (h.over z hz e2).2.1
  · obtain ⟨k1, k2⟩ := key (rk z) z (Nat.le_refl _) hz e
    have := (h.over z hz k1).2.2
    omega
end Go.Proofs.YtndhpdjcpagghaaGreatDoor

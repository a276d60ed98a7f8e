/- Going on along all roads as long as something becomes less leads to the labels of the search. Lists and numbers alone. -/
import Derived.Test.YtjmaankkbdpikaaN1
import Derived.Test.YtjmaankkbdpikaaT5
import Derived.Deep.RegionHeld3
namespace Go.Proofs.Ytjmaankkbdpikaa
open Fs

/-- Labels that ways have: none is less than the search's. -/
structure Fs.Told2 (N : Net) (nx : Nat → Int → Int) (src : Nat) (L : Int) (l : List Int) : Prop where
  len : l.length = N.places.length
  own : listI l src = L
  over : ∀ z, z < N.places.length → listI l z ≠ -1 → 0 ≤ listI l z ∧ listI (search N src L nx).labels z ≠ -1 ∧ listI (search N src L nx).labels z ≤ listI l z
  cap : ∀ z, z < N.places.length → listI l z ≤ L + 100000 * ((l.filter (fun x => decide (x ≠ -1))).length - 1 : Int)
/-- No road leads to less. -/
def Fs.Shut2 (N : Net) (nx : Nat → Int → Int) (l : List Int) (k : Nat) : Prop :=
  ∀ i, i < k → listI l (listD N.roads i).src.toNat ≠ -1 → listI l (listD N.roads i).dst.toNat ≠ -1 ∧ listI l (listD N.roads i).dst.toNat ≤ nx i (listI l (listD N.roads i).src.toNat)

theorem Fs.listI_get {l : List Int} {i : Nat} (h : i < l.length) : listI l i = l[i] := by unfold listI; rw [List.getD_eq_getElem?_getD, List.getElem?_eq_getElem h]; rfl
theorem Fs.list_ext {a b : List Int} (hl : a.length = b.length) (h : ∀ i, i < a.length → listI a i = listI b i) : a = b := by
  refine List.ext_getElem hl fun i h1 h2 => ?_
  have := h i h1
  rwa [listI_get h1, listI_get h2] at this

theorem Fs.filt_len (l : List Int) : (l.filter (fun x => decide (x ≠ -1))).length ≤ l.length := List.length_filter_le _ _
theorem Fs.filt_set {l : List Int} {i : Nat} {x : Int} (hi : i < l.length) (hx : x ≠ -1) :
    ((l.set i x).filter (fun x => decide (x ≠ -1))).length = (l.filter (fun x => decide (x ≠ -1))).length + (if listI l i = -1 then 1 else 0) := by
  induction l generalizing i with
  | nil => exact absurd hi (Nat.not_lt_zero _)
  | cons a l ih =>
    cases i with
    | zero =>
      rw [List.set_cons_zero, List.filter_cons, List.filter_cons, if_pos (decide_eq_true hx)]
      show _ = _ + (if a = -1 then 1 else 0)
      by_cases ha : a = -1
      · rw [if_neg (by simpa using ha), if_pos ha]; rfl
      · rw [if_pos (by simpa using ha), if_neg ha]; rfl
    | succ i =>
      have h := ih (i := i) (by simpa using hi)
      rw [List.set_cons_succ, List.filter_cons, List.filter_cons]
      have e : listI (a :: l) (i + 1) = listI l i := by unfold listI; simp
      rw [e]
      split
      · simp only [List.length_cons]; omega
      · exact h

/-- What is left to go down. -/
def Fs.left2 (M : Int) : List Int → Nat
  | [] => 0
  | x :: l => (if x = -1 then M + 1 - 0 else x).toNat + left2 M l
theorem Fs.left2_set {M : Int} {x : Int} : ∀ {l : List Int} {i : Nat}, i < l.length → 0 ≤ x → x ≤ M → (listI l i = -1 ∨ x < listI l i) → left2 M (l.set i x) < left2 M l
  | [], _, hi, _, _, _ => absurd hi (Nat.not_lt_zero _)
  | a :: l, 0, _, h0, hM, h => by
    have h' : a = -1 ∨ x < a := h
    rw [List.set_cons_zero, left2, left2, if_neg (by omega)]
    rcases h' with h' | h'
    · rw [if_pos h']; omega
    · rw [if_neg (by omega)]; omega
  | a :: l, i + 1, hi, h0, hM, h => by
    have := left2_set (M := M) (l := l) (i := i) (by simpa using hi) h0 hM (by simpa [listI] using h)
    rw [List.set_cons_succ, left2, left2]
    omega

theorem Fs.Told2.start {N : Net} {nx : Nat → Int → Int} {src : Nat} {L : Int} (hN : Joined N) (hg : Good N nx) (hs : src < N.places.length) (hL : 0 ≤ L) : Told2 N nx src L ((List.replicate N.places.length (-1)).set src L) := by
  have F := search_found hN hg hs hL
  have e : ∀ z, z < N.places.length → listI ((List.replicate N.places.length (-1)).set src L) z = if src = z then L else -1 := fun z hz => by
    rw [listI_set]
    by_cases h : src = z
    · subst h; rw [if_pos ⟨rfl, by simpa using hs⟩, if_pos rfl]
    · rw [if_neg (fun hh => h hh.1), if_neg h, listI_rep hz]
  refine ⟨by simp, by rw [e src hs, if_pos rfl], fun z hz h => ?_, fun z hz => ?_⟩
  · rw [e z hz] at h ⊢
    by_cases h1 : src = z
    · subst h1; rw [if_pos rfl, F.own]; exact ⟨hL, by omega, Int.le_refl _⟩
    · rw [if_neg h1] at h; exact absurd rfl h
  · have h2 := filt_set (l := List.replicate N.places.length (-1)) (i := src) (x := L) (by simpa using hs) (by omega)
    rw [listI_rep hs, if_pos rfl] at h2
    rw [h2, e z hz]
    split <;> omega
theorem Fs.Told2.cap' {N : Net} {nx : Nat → Int → Int} {src : Nat} {L : Int} {l : List Int} (h : Told2 N nx src L l) (hn : N.places.length ≤ 20) : ∀ z, z < N.places.length → listI l z ≤ L + 1900000 := fun z hz => by
  have h1 := h.cap z hz
  have h2 := filt_len l
  have h3 := h.len
  omega
theorem Fs.Told2.src_at {N : Net} {nx : Nat → Int → Int} {src : Nat} {L : Int} {l : List Int} (_ : Told2 N nx src L l) (hN : Joined N) {i : Nat} (hi : i < N.roads.length) :
    (listD N.roads i).src.toNat < N.places.length ∧ (listD N.roads i).dst.toNat < N.places.length := by
  have := hN i hi
  omega
/-- A label becomes less. -/
theorem Fs.Told2.step {N : Net} {nx : Nat → Int → Int} {src : Nat} {L : Int} {l : List Int} (h : Told2 N nx src L l) (hN : Joined N) (hg : Good N nx) (hm : Small N nx) (hs : src < N.places.length) (hL : 0 ≤ L) {i : Nat} (hi : i < N.roads.length)
    (h1 : listI l (listD N.roads i).src.toNat ≠ -1) (h2 : listI l (listD N.roads i).dst.toNat = -1 ∨ nx i (listI l (listD N.roads i).src.toNat) < listI l (listD N.roads i).dst.toNat) :
    Told2 N nx src L (l.set (listD N.roads i).dst.toNat (nx i (listI l (listD N.roads i).src.toNat))) := by
  have F := search_found hN hg hs hL
  obtain ⟨a1, a2⟩ := h.src_at hN hi
  obtain ⟨b1, b2, b3⟩ := h.over _ a1 h1
  obtain ⟨c1, c2⟩ := hm i _ hi b1
  have c3 := hg.mono i _ _ hi (by rcases F.least _ a1 with hh | hh; exact absurd hh b2; omega : 0 ≤ listI (search N src L nx).labels (listD N.roads i).src.toNat) b3
  obtain ⟨d1, d2⟩ := F.step i hi b2
  have hx : nx i (listI l (listD N.roads i).src.toNat) ≠ -1 := by omega
  have hl := h.len
  have e : ∀ z, listI (l.set (listD N.roads i).dst.toNat (nx i (listI l (listD N.roads i).src.toNat))) z = if (listD N.roads i).dst.toNat = z then nx i (listI l (listD N.roads i).src.toNat) else listI l z := fun z => by
    rw [listI_set]
    by_cases hh : (listD N.roads i).dst.toNat = z
    · rw [if_pos ⟨hh, by omega⟩, if_pos hh]
    · rw [if_neg (fun h => hh h.1), if_neg hh]
  refine ⟨by simp [hl], ?_, fun z hz hne => ?_, fun z hz => ?_⟩
  · rw [e]
    by_cases hh : (listD N.roads i).dst.toNat = src
    · rw [if_pos hh]
      have h3 := F.own
      rw [hh] at d2 h2
      rw [h.own] at h2
      rw [h3] at d2
      omega
    · rw [if_neg hh]; exact h.own
  · rw [e] at hne ⊢
    by_cases hh : (listD N.roads i).dst.toNat = z
    · rw [if_pos hh]
      subst hh
      exact ⟨by omega, d1, by omega⟩
    · rw [if_neg hh] at hne ⊢; exact h.over z hz hne
  · have f := filt_set (l := l) (i := (listD N.roads i).dst.toNat) (x := nx i (listI l (listD N.roads i).src.toNat)) (by omega) hx
    rw [f, e]
    have g1 := h.cap _ a1
    have g2 := h.cap z hz
    by_cases hh : (listD N.roads i).dst.toNat = z
    · rw [if_pos hh]
      subst hh
      rcases h2 with h2 | h2
      · rw [if_pos h2]; omega
      · rw [if_neg (by omega)]; omega
    · rw [if_neg hh]
      split <;> omega
theorem Fs.Shut2.mono {N : Net} {nx : Nat → Int → Int} {l : List Int} {k : Nat} (h : Shut2 N nx l k) (h1 : listI l (listD N.roads k).src.toNat ≠ -1 → listI l (listD N.roads k).dst.toNat ≠ -1 ∧ listI l (listD N.roads k).dst.toNat ≤ nx k (listI l (listD N.roads k).src.toNat)) : Shut2 N nx l (k + 1) := fun i hi hh => by
  by_cases e : i = k
  · subst e; exact h1 hh
  · exact h i (by omega) hh
/-- Labels of ways of which no road leads to less are the search's. -/
theorem Fs.Told2.done {N : Net} {nx : Nat → Int → Int} {src : Nat} {L : Int} {l : List Int} (h : Told2 N nx src L l) (hN : Joined N) (hg : Good N nx) (hs : src < N.places.length) (hL : 0 ≤ L) (hc : Shut2 N nx l N.roads.length) : l = (search N src L nx).labels := by
  have F := search_found hN hg hs hL
  obtain ⟨rk, ht⟩ := F.tree
  have key : ∀ n z, rk z ≤ n → z < N.places.length → listI (search N src L nx).labels z ≠ -1 → listI l z ≠ -1 ∧ listI l z ≤ listI (search N src L nx).labels z := by
    intro n
    induction n with
    | zero =>
      intro z hr hz hl
      by_cases e : listI (search N src L nx).last z = -1
      · rcases F.back z hz e with h1 | h1
        · subst h1; rw [h.own, F.own]; exact ⟨by omega, Int.le_refl _⟩
        · exact absurd h1 hl
      · obtain ⟨-, i, -, -, -, -, -, h6⟩ := ht z hz e
        omega
    | succ n ih =>
      intro z hr hz hl
      by_cases e : listI (search N src L nx).last z = -1
      · rcases F.back z hz e with h1 | h1
        · subst h1; rw [h.own, F.own]; exact ⟨by omega, Int.le_refl _⟩
        · exact absurd h1 hl
      · obtain ⟨-, i, h1, h2, h3, h4, h5, h6⟩ := ht z hz e
        have hj := hN i h1
        obtain ⟨k1, k2⟩ := ih (listD N.roads i).src.toNat (by omega) (by omega) h4
        have hst := hc i h1 k1
        rw [h3, Int.toNat_natCast] at hst
        have hS := (h.over _ (show (listD N.roads i).src.toNat < _ by omega) k1).1
        have := hg.mono i _ _ h1 hS k2
        exact ⟨hst.1, by omega⟩
  refine list_ext (by rw [h.len, F.n1]) fun z hz => ?_
  rw [h.len] at hz
  by_cases e : listI (search N src L nx).labels z = -1
  · rw [e]
    by_cases e2 : listI l z = -1
    · exact e2
    · exact absurd e (h.over z hz e2).2.1
  · obtain ⟨k1, k2⟩ := key (rk z) z (Nat.le_refl _) hz e
    have := (h.over z hz k1).2.2
    omega
end Go.Proofs.Ytjmaankkbdpikaa
/- Nobody overtakes: who sets out later arrives no earlier. Condition: the net is right. -/
namespace Go.Proofs.Ytjmaankkbdpikaa
open Go.RowKit Fs

theorem Fs.PtsOk.order {N : Net} {i : Nat} (h : (errRoad N i).2 = 0) : ∀ j, j < (listD N.roads i).pts.length → inOrder (listP (listD N.roads i).pts j) (listP (listD N.roads i).pts ((j + 1) % (listD N.roads i).pts.length)) = true := by
  unfold errRoad at h
  by_cases h0 : errName (fun j => (listD N.roads j).name) i ≠ 0
  · rw [if_pos h0] at h; exact absurd h h0
  · rw [if_neg h0] at h
    by_cases h1 : errForm N (listD N.roads i) ≠ 0
    · rw [if_pos h1] at h; exact absurd h h1
    · rw [if_neg h1] at h
      unfold errPoints at h
      by_cases e4 : fst (errPoint (listD N.roads i).pts) (listD N.roads i).pts.length ≠ 0
      · rw [if_pos e4] at h; exact absurd h e4
      · rw [if_neg e4] at h
        intro j hj
        have := fst_zero h j hj
        unfold errPair at this
        cases ho : inOrder (listP (listD N.roads i).pts j) (listP (listD N.roads i).pts ((j + 1) % (listD N.roads i).pts.length)) with
        | true => rfl
        | false => rw [ho] at this; exact absurd this (by decide)
/-- A second later along a line is at most a second less. -/
theorem Fs.line_step {x y left all : Int} (ha : 1 ≤ all) (ho : x - y ≤ all) : onLine x y left all - 1 ≤ onLine x y (left - 1) all := by
  have e1 : x * (left - 1) = x * left - x := by rw [Int.mul_sub, Int.mul_one]
  have e2 : y * (all - (left - 1)) = y * (all - left) + y := by
    rw [show all - (left - 1) = (all - left) + 1 by omega, Int.mul_add, Int.mul_one]
  have key : (x * left + y * (all - left) + all - 1) / all - 1 = (x * left + y * (all - left) + all - 1 - all) / all := by
    rw [show x * left + y * (all - left) + all - 1 - all = (x * left + y * (all - left) + all - 1) + all * (-1) by omega, Int.add_mul_ediv_left _ _ (by omega)]
    omega
  unfold onLine
  rw [key, e1, e2]
  exact Int.ediv_le_ediv (by omega) (by omega)
theorem Fs.line_full {x y all : Int} (ha : 1 ≤ all) : onLine x y all all = x := by
  unfold onLine
  rw [Int.sub_self, Int.mul_zero, Int.add_zero, show x * all + all - 1 = (all - 1) + x * all by omega, Int.add_mul_ediv_right _ _ (by omega), Int.ediv_eq_zero_of_lt (by omega) (by omega)]
  omega
theorem Fs.line_none {x y all : Int} (ha : 1 ≤ all) : onLine x y 0 all = y := by
  unfold onLine
  rw [Int.mul_zero, Int.sub_zero, Int.zero_add, show y * all + all - 1 = (all - 1) + y * all by omega, Int.add_mul_ediv_right _ _ (by omega), Int.ediv_eq_zero_of_lt (by omega) (by omega)]
  omega
/-- Where a time lies, and where the next second does. -/
theorem Fs.behind_is (l : List Pt) (t : Int) : behind l t ≤ l.length ∧ (∀ j, j < behind l t → (listP l j).hour ≤ t) ∧ (behind l t < l.length → t < (listP l (behind l t)).hour) := by
  cases hf : (List.range l.length).find? fun i => decide (t < (listP l i).hour) with
  | none =>
    have hb : behind l t = l.length := by unfold behind; rw [hf]; rfl
    rw [List.find?_eq_none] at hf
    rw [hb]
    refine ⟨Nat.le_refl _, fun j hj => ?_, fun hh => absurd hh (Nat.lt_irrefl _)⟩
    have := hf j (by simpa using hj)
    simp at this
    omega
  | some k =>
    have hb : behind l t = k := by unfold behind; rw [hf]; rfl
    rw [List.find?_range_eq_some] at hf
    obtain ⟨h1, h2, h3⟩ := hf
    have h2' : k < l.length := by simpa using h2
    rw [hb]
    refine ⟨by omega, fun j hj => ?_, fun _ => by simpa using h1⟩
    have := h3 j hj
    simp at this
    omega
theorem Fs.behind_of {l : List Pt} {t : Int} {k : Nat} (hk : k ≤ l.length) (h1 : ∀ j, j < k → (listP l j).hour ≤ t) (h2 : k < l.length → t < (listP l k).hour) : behind l t = k := by
  rcases Nat.lt_or_ge k l.length with h | h
  · exact behind_at h h1 (h2 h)
  · obtain rfl : k = l.length := by omega
    exact behind_end h1
def Fs.prevOf (l : List Pt) (t : Int) : Nat := (behind l t + l.length - 1) % l.length
def Fs.nextOf (l : List Pt) (t : Int) : Nat := behind l t % l.length
theorem Fs.next_prev (l : List Pt) (t : Int) (hl : l.length ≠ 0) : nextOf l t = (prevOf l t + 1) % l.length ∧ prevOf l t < l.length := by
  have hn : 0 < l.length := by omega
  unfold nextOf prevOf
  refine ⟨?_, Nat.mod_lt _ hn⟩
  rw [Nat.mod_add_mod, show behind l t + l.length - 1 + 1 = behind l t + l.length by omega, Nat.add_mod_right]
/-- The next second: on the same line one less is left, or the next point has come. -/
theorem Fs.second {l : List Pt} (h : PtsOk l) {t : Int} (ht : 0 ≤ t ∧ t ≤ 86399) :
    (prevOf l ((t + 1) % 86400) = prevOf l t ∧ secondsTo ((t + 1) % 86400) (listP l (nextOf l t)).hour = secondsTo t (listP l (nextOf l t)).hour - 1) ∨
    (prevOf l ((t + 1) % 86400) = nextOf l t ∧ secondsTo t (listP l (nextOf l t)).hour = 1 ∧ (t + 1) % 86400 = (listP l (nextOf l t)).hour) := by
  have hn : 0 < l.length := Nat.pos_of_ne_zero h.1
  obtain ⟨b0, b1, b2⟩ := behind_is l t
  have hh : ∀ j, j < l.length → 0 ≤ (listP l j).hour ∧ (listP l j).hour ≤ 86399 := fun j hj => (ptRight_is (h.right hj)).1
  generalize hk : behind l t = k at *
  by_cases e1 : t = 86399
  · subst e1
    have hkn : k = l.length := by
      rcases Nat.lt_or_ge k l.length with h1 | h1
      · have := b2 h1; have := hh k h1; omega
      · omega
    subst hkn
    have en : nextOf l 86399 = 0 := by unfold nextOf; rw [hk, Nat.mod_self]
    have ep : prevOf l 86399 = l.length - 1 := by
      unfold prevOf
      rw [hk, show l.length + l.length - 1 = (l.length - 1) + l.length by omega, Nat.add_mod_right, Nat.mod_eq_of_lt (by omega)]
    rw [en, ep, show ((86399 : Int) + 1) % 86400 = 0 by decide]
    have h0 := hh 0 hn
    by_cases e2 : (listP l 0).hour = 0
    · right
      refine ⟨?_, by rw [e2]; decide, e2.symm⟩
      have : behind l 0 = 1 := by
        refine behind_of (by omega) (fun j hj => ?_) (fun h1 => ?_)
        · obtain rfl : j = 0 := by omega
          omega
        · have := h.up 1 h1 0 (by omega)
          omega
      unfold prevOf
      rw [this, show 1 + l.length - 1 = l.length by omega, Nat.mod_self]
    · left
      have : behind l 0 = 0 := behind_of (by omega) (fun j hj => by omega) (fun _ => by omega)
      refine ⟨?_, ?_⟩
      · unfold prevOf
        rw [this, Nat.zero_add, Nat.mod_eq_of_lt (by omega)]
      · unfold secondsTo
        omega
  · rw [show (t + 1) % 86400 = t + 1 by omega]
    by_cases e2 : k < l.length ∧ (listP l k).hour = t + 1
    · right
      have en : nextOf l t = k := by unfold nextOf; rw [hk, Nat.mod_eq_of_lt e2.1]
      rw [en]
      refine ⟨?_, by unfold secondsTo; omega, e2.2.symm⟩
      have : behind l (t + 1) = k + 1 := behind_of (by omega) (fun j hj => by
          rcases Nat.lt_or_ge j k with h1 | h1
          · have := b1 j h1; omega
          · obtain rfl : j = k := by omega
            omega) (fun h1 => by have := h.up (k + 1) h1 k (by omega); omega)
      unfold prevOf
      rw [this, show k + 1 + l.length - 1 = k + l.length by omega, Nat.add_mod_right, Nat.mod_eq_of_lt e2.1]
    · left
      have : behind l (t + 1) = k := behind_of b0 (fun j hj => by have := b1 j hj; omega) (fun h1 => by
          have h3 := b2 h1
          have : (listP l k).hour ≠ t + 1 := fun h4 => e2 ⟨h1, h4⟩
          omega)
      refine ⟨by unfold prevOf; rw [this, hk], ?_⟩
      unfold nextOf
      rw [hk]
      by_cases e3 : k = l.length
      · rw [e3, Nat.mod_self]
        have h0 := hh 0 hn
        have h1 := b1 0 (by omega)
        unfold secondsTo
        omega
      · rw [Nat.mod_eq_of_lt (by omega)]
        have h1 := b2 (by omega)
        have h2 : (listP l k).hour ≠ t + 1 := fun h4 => e2 ⟨by omega, h4⟩
        have h3 := hh k (by omega)
        unfold secondsTo
        omega
theorem Fs.takesAt_eq (l : List Pt) (a : Int) : takesAt l a = (onLine (listP l (prevOf l (a % 86400))).lo (listP l (nextOf l (a % 86400))).lo (secondsTo (a % 86400) (listP l (nextOf l (a % 86400))).hour) (secondsTo (listP l (prevOf l (a % 86400))).hour (listP l (nextOf l (a % 86400))).hour),
    onLine (listP l (prevOf l (a % 86400))).hi (listP l (nextOf l (a % 86400))).hi (secondsTo (a % 86400) (listP l (nextOf l (a % 86400))).hour) (secondsTo (listP l (prevOf l (a % 86400))).hour (listP l (nextOf l (a % 86400))).hour)) := rfl
theorem Fs.takes_second {l : List Pt} (h : PtsOk l) (ho : ∀ j, j < l.length → inOrder (listP l j) (listP l ((j + 1) % l.length)) = true) (a : Int) : (takesAt l a).1 - 1 ≤ (takesAt l (a + 1)).1 ∧ (takesAt l a).2 - 1 ≤ (takesAt l (a + 1)).2 := by
  have t0 : 0 ≤ a % 86400 ∧ a % 86400 ≤ 86399 := by omega
  have et : (a + 1) % 86400 = (a % 86400 + 1) % 86400 := by omega
  obtain ⟨np, pl⟩ := next_prev l (a % 86400) h.1
  obtain ⟨np', pl'⟩ := next_prev l ((a + 1) % 86400) h.1
  have ho1 := ho (prevOf l (a % 86400)) pl
  rw [← np] at ho1
  unfold inOrder at ho1
  simp only [Bool.and_eq_true, decide_eq_true_eq] at ho1
  have hs := secondsTo_is (listP l (prevOf l (a % 86400))).hour (listP l (nextOf l (a % 86400))).hour
  rw [takesAt_eq, takesAt_eq]
  dsimp only
  rcases second h t0 with ⟨h1, h2⟩ | ⟨h1, h2, h3⟩
  · have h4 : nextOf l ((a + 1) % 86400) = nextOf l (a % 86400) := by rw [np', np, et, h1]
    rw [h4, et, h1, h2]
    exact ⟨line_step hs.1 ho1.1, line_step hs.1 ho1.2⟩
  · have h5 : (a + 1) % 86400 = (listP l (prevOf l ((a + 1) % 86400))).hour := by rw [et, h1, ← h3]
    have hs2 := secondsTo_is (listP l (prevOf l ((a + 1) % 86400))).hour (listP l (nextOf l ((a + 1) % 86400))).hour
    have h6 : secondsTo ((a + 1) % 86400) (listP l (nextOf l ((a + 1) % 86400))).hour = secondsTo (listP l (prevOf l ((a + 1) % 86400))).hour (listP l (nextOf l ((a + 1) % 86400))).hour := congrArg (fun x => secondsTo x (listP l (nextOf l ((a + 1) % 86400))).hour) h5
    rw [h6, line_full hs2.1, line_full hs2.1, h2, et, h1]
    have k1 := line_step (left := 1) hs.1 ho1.1
    have k2 := line_step (left := 1) hs.1 ho1.2
    rw [show (1 : Int) - 1 = 0 by decide, line_none hs.1] at k1 k2
    exact ⟨k1, k2⟩
theorem Fs.takes_later {l : List Pt} (h : PtsOk l) (ho : ∀ j, j < l.length → inOrder (listP l j) (listP l ((j + 1) % l.length)) = true) (a : Int) : ∀ d : Nat, a + (takesAt l a).1 ≤ a + d + (takesAt l (a + d)).1 ∧ a + (takesAt l a).2 ≤ a + d + (takesAt l (a + d)).2
  | 0 => by simp
  | d + 1 => by
    have h1 := takes_later h ho a d
    have h2 := takes_second h ho (a + d)
    rw [show a + ((d + 1 : Nat) : Int) = a + d + 1 by omega]
    omega
theorem Fs.soonest_good {N : Net} (h : netErr N = 0) : Good N (soonest N) :=
  ⟨fun i x hi hx => (soonest_small h i x hi hx).1, fun i x y hi hx hxy => by
    have := (takes_later (net_roads_ok h i hi).pts (PtsOk.order ((net_sound h).2.2.2 i hi)) x (y - x).toNat).1
    rw [show x + ((y - x).toNat : Int) = y by omega] at this
    exact this⟩
theorem Fs.latest_good {N : Net} (h : netErr N = 0) : Good N (latest N) :=
  ⟨fun i x hi hx => (latest_small h i x hi hx).1, fun i x y hi hx hxy => by
    have := (takes_later (net_roads_ok h i hi).pts (PtsOk.order ((net_sound h).2.2.2 i hi)) x (y - x).toNat).2
    rw [show x + ((y - x).toNat : Int) = y by omega] at this
    exact this⟩
/-- Who sets out later arrives no earlier, and wherever he arrives the other one does. -/
theorem Fs.search_later {N : Net} {nx : Nat → Int → Int} (hN : Joined N) (hg : Good N nx) {src : Nat} (hs : src < N.places.length) {a b : Int} (ha : 0 ≤ a) (hab : a ≤ b) :
    ∀ z, z < N.places.length → listI (search N src b nx).labels z ≠ -1 → listI (search N src a nx).labels z ≠ -1 ∧ listI (search N src a nx).labels z ≤ listI (search N src b nx).labels z := by
  have A := search_found hN hg hs ha
  have B := search_found hN hg hs (show 0 ≤ b by omega)
  generalize search N src a nx = S at *
  generalize search N src b nx = T at *
  obtain ⟨rk, ht⟩ := B.tree
  have key : ∀ n z, rk z ≤ n → z < N.places.length → listI T.labels z ≠ -1 → listI S.labels z ≠ -1 ∧ listI S.labels z ≤ listI T.labels z := by
    intro n
    induction n with
    | zero =>
      intro z hr hz hl
      by_cases e : listI T.last z = -1
      · rcases B.back z hz e with h1 | h1
        · subst h1; rw [A.own, B.own]; exact ⟨by omega, hab⟩
        · exact absurd h1 hl
      · obtain ⟨-, i, -, -, -, -, -, h6⟩ := ht z hz e
        omega
    | succ n ih =>
      intro z hr hz hl
      by_cases e : listI T.last z = -1
      · rcases B.back z hz e with h1 | h1
        · subst h1; rw [A.own, B.own]; exact ⟨by omega, hab⟩
        · exact absurd h1 hl
      · obtain ⟨-, i, h1, h2, h3, h4, h5, h6⟩ := ht z hz e
        have hj := hN i h1
        obtain ⟨k1, k2⟩ := ih (listD N.roads i).src.toNat (by omega) (by omega) h4
        have hst := A.step i h1 k1
        rw [h3, Int.toNat_natCast] at hst
        have hS : 0 ≤ listI S.labels (listD N.roads i).src.toNat := by
          rcases A.least (listD N.roads i).src.toNat (by omega) with h7 | h7
          · exact absurd h7 k1
          · omega
        have := hg.mono i _ _ h1 hS k2
        exact ⟨hst.1, by omega⟩
  exact fun z => key (rk z) z (Nat.le_refl _)
end Go.Proofs.Ytjmaankkbdpikaa
/- How long a road takes, as the reference tells it. Conditions: its points are right; the time is small. -/
namespace Go.Proofs.Ytjmaankkbdpikaa
open Go.RowKit Fs

theorem Fs.ceil_is {m all : Int} (ha : 1 ≤ all) : -((-m) / all) = (m + all - 1) / all := by
  have h := Int.emod_add_mul_ediv (-m) all
  have h0 := Int.emod_nonneg (-m) (show all ≠ 0 by omega)
  have h1 := Int.emod_lt_of_pos (-m) (show 0 < all by omega)
  generalize (-m) / all = q at *
  generalize (-m) % all = r at *
  have e : m + all - 1 = (all - 1 - r) + all * (-q) := by
    rw [Int.mul_neg]; omega
  rw [e, Int.add_mul_ediv_left _ _ (by omega), Int.ediv_eq_zero_of_lt (by omega) (by omega)]
  omega
theorem Fs.line_ref {x y left all : Int} (ha : 1 ≤ all) : onLine x y left all = x + -((-((y - x) * (all - left))) / all) := by
  rw [ceil_is ha]
  have e : x * left + y * (all - left) + all - 1 = ((y - x) * (all - left) + all - 1) + all * x := by
    have h1 : (y - x) * (all - left) = y * (all - left) - x * (all - left) := Int.sub_mul _ _ _
    have h2 : x * (all - left) = x * all - x * left := Int.mul_sub _ _ _
    have h3 : all * x = x * all := Int.mul_comm _ _
    omega
  unfold onLine
  rw [e, Int.add_mul_ediv_left _ _ (by omega)]
  omega
theorem Fs.line_same {x left all : Int} (ha : 1 ≤ all) : onLine x x left all = x := by
  rw [line_ref ha, Int.sub_self, Int.zero_mul]
  simp
/-- A time lies between two neighbours. -/
theorem Fs.around {l : List Pt} (h : PtsOk l) {t : Int} (ht : 0 ≤ t ∧ t ≤ 86399) :
    (t - (listP l (prevOf l t)).hour) % 86400 + secondsTo t (listP l (nextOf l t)).hour = secondsTo (listP l (prevOf l t)).hour (listP l (nextOf l t)).hour := by
  have hn := h.1
  obtain ⟨hk, hb, ha⟩ := behind_is l t
  unfold prevOf nextOf
  generalize behind l t = k at *
  by_cases e0 : k = 0
  · subst e0
    have ha := ha (by omega)
    rw [Nat.zero_mod, Nat.zero_add, Nat.mod_eq_of_lt (show l.length - 1 < l.length by omega)]
    have r0 := ptRight_is (h.right (j := 0) (by omega))
    have r1 := ptRight_is (h.right (j := l.length - 1) (by omega))
    have h1 : (listP l 0).hour ≤ (listP l (l.length - 1)).hour := by
      by_cases e1 : l.length - 1 = 0
      · rw [e1]; exact Int.le_refl _
      · have := h.up (l.length - 1) (by omega) 0 (by omega); omega
    unfold secondsTo
    omega
  · have e1 : (k + l.length - 1) % l.length = k - 1 := by
      rw [show k + l.length - 1 = (k - 1) + l.length by omega, Nat.add_mod_right, Nat.mod_eq_of_lt (by omega)]
    rw [e1]
    have hb1 := hb (k - 1) (by omega)
    have r1 := ptRight_is (h.right (j := k - 1) (by omega))
    by_cases e2 : k = l.length
    · have : k % l.length = 0 := by rw [e2, Nat.mod_self]
      rw [this]
      have r0 := ptRight_is (h.right (j := 0) (by omega))
      have h1 : (listP l 0).hour ≤ (listP l (k - 1)).hour := by
        by_cases e3 : k - 1 = 0
        · rw [e3]; exact Int.le_refl _
        · have := h.up (k - 1) (by omega) 0 (by omega); omega
      unfold secondsTo
      omega
    · rw [Nat.mod_eq_of_lt (by omega)]
      have ha := ha (by omega)
      have r0 := ptRight_is (h.right (j := k) (by omega))
      unfold secondsTo
      omega
/-- The reference's index: the last point that is not behind the time, of the first i, or the last one of all. -/
def Fs.refK (b n i : Nat) : Nat := if min i b = 0 then n - 1 else min i b - 1
theorem Fs.refK_end {l : List Pt} (hl : l.length ≠ 0) (t : Int) : refK (behind l t) l.length l.length = prevOf l t := by
  have hb := (behind_is l t).1
  unfold refK prevOf
  rw [Nat.min_eq_right hb]
  by_cases e : behind l t = 0
  · rw [if_pos e, e, Nat.zero_add, Nat.mod_eq_of_lt (by omega)]
  · rw [if_neg e, show behind l t + l.length - 1 = (behind l t - 1) + l.length by omega, Nat.add_mod_right, Nat.mod_eq_of_lt (by omega)]
theorem Fs.refK_yes {l : List Pt} (h : PtsOk l) {t : Int} {i : Nat} (hi : i < l.length) (hh : (listP l i).hour ≤ t) : refK (behind l t) l.length (i + 1) = i := by
  obtain ⟨-, -, ha⟩ := behind_is l t
  have : i < behind l t := by
    rcases Nat.lt_or_ge i (behind l t) with h1 | h1
    · exact h1
    · have h2 := ha (by omega)
      by_cases e : behind l t = i
      · rw [e] at h2; omega
      · have := h.up i hi (behind l t) (by omega); omega
  unfold refK
  rw [Nat.min_eq_left (by omega), if_neg (by omega)]
  omega
theorem Fs.refK_no {l : List Pt} {t : Int} {i : Nat} (hh : t < (listP l i).hour) : refK (behind l t) l.length (i + 1) = refK (behind l t) l.length i := by
  obtain ⟨-, hb, -⟩ := behind_is l t
  have : behind l t ≤ i := by
    rcases Nat.lt_or_ge i (behind l t) with h1 | h1
    · have := hb i h1; omega
    · exact h1
  unfold refK
  rw [Nat.min_eq_right (by omega), Nat.min_eq_right this]
def Fs.gapOf (l : List Pt) (t : Int) : Int := ((listP l (nextOf l t)).hour - (listP l (prevOf l t)).hour) % 86400
def Fs.offOf (l : List Pt) (t : Int) : Int := (t - (listP l (prevOf l t)).hour) % 86400
theorem Fs.takesAt_one {l : List Pt} (h : PtsOk l) {a : Int} (hz : gapOf l (a % 86400) = 0) : takesAt l a = ((listP l (prevOf l (a % 86400))).lo, (listP l (prevOf l (a % 86400))).hi) := by
  have hn : 0 < l.length := Nat.pos_of_ne_zero h.1
  obtain ⟨np, hp⟩ := next_prev l (a % 86400) h.1
  have hq : nextOf l (a % 86400) < l.length := by rw [np]; exact Nat.mod_lt _ hn
  have r1 := (ptRight_is (h.right hp)).1
  have r2 := (ptRight_is (h.right hq)).1
  have e : (listP l (nextOf l (a % 86400))).hour = (listP l (prevOf l (a % 86400))).hour := by
    unfold gapOf at hz; omega
  have e2 : nextOf l (a % 86400) = prevOf l (a % 86400) := by
    rcases Nat.lt_trichotomy (nextOf l (a % 86400)) (prevOf l (a % 86400)) with h1 | h1 | h1
    · have := h.up _ hp _ h1; omega
    · exact h1
    · have := h.up _ hq _ h1; omega
  have s := secondsTo_is (listP l (prevOf l (a % 86400))).hour (listP l (prevOf l (a % 86400))).hour
  rw [takesAt_eq, e2, line_same s.1, line_same s.1]
theorem Fs.takesAt_two {l : List Pt} (h : PtsOk l) {a : Int} (hz : gapOf l (a % 86400) ≠ 0) : takesAt l a =
    ((listP l (prevOf l (a % 86400))).lo + -((-(((listP l (nextOf l (a % 86400))).lo - (listP l (prevOf l (a % 86400))).lo) * offOf l (a % 86400))) / gapOf l (a % 86400)),
     (listP l (prevOf l (a % 86400))).hi + -((-(((listP l (nextOf l (a % 86400))).hi - (listP l (prevOf l (a % 86400))).hi) * offOf l (a % 86400))) / gapOf l (a % 86400))) := by
  have k := around h (t := a % 86400) (by omega)
  have s := secondsTo_is (listP l (prevOf l (a % 86400))).hour (listP l (nextOf l (a % 86400))).hour
  have e1 : secondsTo (listP l (prevOf l (a % 86400))).hour (listP l (nextOf l (a % 86400))).hour = gapOf l (a % 86400) := by
    unfold gapOf at hz ⊢
    unfold secondsTo
    omega
  have e2 : secondsTo (listP l (prevOf l (a % 86400))).hour (listP l (nextOf l (a % 86400))).hour - secondsTo (a % 86400) (listP l (nextOf l (a % 86400))).hour = offOf l (a % 86400) := by
    unfold offOf; omega
  rw [takesAt_eq, line_ref s.1, line_ref s.1, e2, e1]

/-! ### the calls -/
end Go.Proofs.Ytjmaankkbdpikaa
/- How long a road takes, as the reference tells it: the walk. Conditions: its points are right; the time is small. -/
namespace Go.Proofs.Ytjmaankkbdpikaa
open Go.RowKit Fs

end Go.Proofs.Ytjmaankkbdpikaa

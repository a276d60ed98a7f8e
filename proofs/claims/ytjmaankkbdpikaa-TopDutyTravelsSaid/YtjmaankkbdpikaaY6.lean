/- byBeginning. Condition: there are at most fourteen uses. -/
import Derived.Test.YtjmaankkbdpikaaY2
import Derived.Test.YtjmaankkbdpikaaX16
import Derived.Test.YtjmaankkbdpikaaT15
import Derived.Test.YtjmaankkbdpikaaT43
import Derived.Test.YtjmaankkbdpikaaE7
import Derived.Test.YtjmaankkbdpikaaD24
namespace Go.Proofs.Ytjmaankkbdpikaa
open Go.RowKit Fs

/-- The first k numbers, the rest 0. -/
def fillTo (n k : Nat) : List Value := ((List.range k).map fun i => .int .i64 ((i : Nat) : Int)) ++ List.replicate (n - k) (.int .i64 0)
theorem fill_at {n k : Nat} (h : k < n) : (fillTo n k)[k]? = some (.int .i64 0) := by
  unfold fillTo
  rw [List.getElem?_append_right (by simp), List.length_map, List.length_range, Nat.sub_self]
  rw [List.getElem?_replicate, if_pos (by omega)]
theorem RowV.cong {w : World} {g : Nat} {t : TypeId} {l l' : List Value} (h : RowV w g t l) (e : l = l') : RowV w g t l' := e ▸ h
theorem fill_set {n k : Nat} (h : k < n) : (fillTo n k).set k (.int .i64 ((k : Nat) : Int)) = fillTo n (k + 1) := by
  unfold fillTo
  rw [List.set_append_right _ _ (by simp), List.length_map, List.length_range, Nat.sub_self, show n - k = (n - (k + 1)) + 1 by omega, List.replicate_succ, List.set_cons_zero, List.range_succ, List.map_append]
  simp
theorem fill_all (n : Nat) : fillTo n n = (List.range n).map fun i => .int .i64 ((i : Nat) : Int) := by unfold fillTo; simp
end Go.Proofs.Ytjmaankkbdpikaa
/- The free plate of the least number. Condition: the plates of the earlier uses are below C, C is below 14. -/
namespace Go.Proofs.Ytjmaankkbdpikaa
open Go.RowKit Fs

/-- r is the place of the first false, or there is none. -/
def FreeAt (T : List Bool) (r : Int) : Prop := (∃ j : Nat, r = (j : Int) ∧ j < T.length ∧ T[j]? = some false ∧ ∀ i, i < j → T[i]? = some true) ∨ (r = -1 ∧ ∀ i, i < T.length → T[i]? = some true)
def SameW (w w' : World) : Prop := w = w'
def Fs.takenTo (l : List WRec) (P : List Int) (O : List Nat) (u : Nat) : Nat → List Bool
  | 0 => List.replicate 14 false
  | k + 1 => if overlapB (listW l (O.getD k 0)) (listW l u) = true then (takenTo l P O u k).set (listI P (O.getD k 0)).toNat true else takenTo l P O u k
theorem taken_len (l : List WRec) (P : List Int) (O : List Nat) (u : Nat) : ∀ k, (takenTo l P O u k).length = 14
  | 0 => rfl
  | k + 1 => by
    unfold takenTo
    split
    · rw [List.length_set]; exact taken_len l P O u k
    · exact taken_len l P O u k
theorem taken_is (l : List WRec) (P : List Int) (O : List Nat) (u : Nat) {C : Nat} : ∀ k, (∀ j, j < k → 0 ≤ listI P (O.getD j 0) ∧ listI P (O.getD j 0) < (C : Int)) → ∀ p : Nat, p < 14 → ((takenTo l P O u k)[p]? = some true ↔ ∃ j, j < k ∧ overlapB (listW l (O.getD j 0)) (listW l u) = true ∧ listI P (O.getD j 0) = (p : Int)) := by
  intro k
  induction k with
  | zero =>
    intro _ p hp
    unfold takenTo
    rw [List.getElem?_replicate, if_pos hp]
    exact ⟨fun h => absurd h (by simp), fun ⟨j, hj, _⟩ => absurd hj (Nat.not_lt_zero _)⟩
  | succ k ih =>
    intro hb p hp
    have ih' := ih (fun j hj => hb j (by omega)) p hp
    have hk := hb k (by omega)
    have hl := taken_len l P O u k
    rw [takenTo]
    by_cases ho : overlapB (listW l (O.getD k 0)) (listW l u) = true
    · rw [if_pos ho]
      by_cases e : (listI P (O.getD k 0)).toNat = p
      · subst e
        rw [List.getElem?_set_self (by omega)]
        exact ⟨fun _ => ⟨k, Nat.lt_succ_self k, ho, (Int.toNat_of_nonneg hk.1).symm⟩, fun _ => rfl⟩
      · rw [List.getElem?_set_ne e, ih']
        constructor
        · rintro ⟨j, hj, h1, h2⟩; exact ⟨j, by omega, h1, h2⟩
        · rintro ⟨j, hj, h1, h2⟩
          by_cases ej : j = k
          · subst ej; exact absurd (by rw [h2]; rfl) e
          · exact ⟨j, by omega, h1, h2⟩
    · rw [if_neg ho, ih']
      constructor
      · rintro ⟨j, hj, h1, h2⟩; exact ⟨j, by omega, h1, h2⟩
      · rintro ⟨j, hj, h1, h2⟩
        by_cases ej : j = k
        · subst ej; exact absurd h1 ho
        · exact ⟨j, by omega, h1, h2⟩
structure Fs.Free (l : List WRec) (P : List Int) (O : List Nat) (u k : Nat) (C p : Nat) : Prop where
  le : p ≤ C
  no : ∀ j, j < k → overlapB (listW l (O.getD j 0)) (listW l u) = true → listI P (O.getD j 0) ≠ (p : Int)
  low : ∀ q, q < p → ∃ j, j < k ∧ overlapB (listW l (O.getD j 0)) (listW l u) = true ∧ listI P (O.getD j 0) = (q : Int)
theorem free_is {l : List WRec} {P : List Int} {O : List Nat} {u k C : Nat} {r : Int} (hC : C < 14) (hb : ∀ j, j < k → 0 ≤ listI P (O.getD j 0) ∧ listI P (O.getD j 0) < (C : Int)) (h : FreeAt (takenTo l P O u k) r) : ∃ p : Nat, r = (p : Int) ∧ Free l P O u k C p := by
  have hl := taken_len l P O u k
  have hT := taken_is l P O u k hb
  have hno : (takenTo l P O u k)[C]? ≠ some true := fun hh => by
    obtain ⟨j, hj, _, h2⟩ := (hT C hC).1 hh
    have := (hb j hj).2
    omega
  rcases h with ⟨p, rfl, hp, h1, h2⟩ | ⟨rfl, h2⟩
  · refine ⟨p, rfl, ?_, ?_, ?_⟩
    · by_cases hpc : p ≤ C
      · exact hpc
      · exact absurd (h2 C (by omega)) hno
    · intro j hj h3 h4
      have := (hT p (by omega)).2 ⟨j, hj, h3, h4⟩
      rw [h1] at this
      cases this
    · intro q hq
      exact (hT q (by omega)).1 (h2 q hq)
  · exact absurd (h2 C (by omega)) hno
end Go.Proofs.Ytjmaankkbdpikaa
/- Greedy plates, plainly: they are fine, and as many as the uses at one time. No condition. -/
namespace Go.Proofs.Ytjmaankkbdpikaa
open Go.RowKit Fs

theorem cnt_le {q r : Nat → Bool} : ∀ n, (∀ i, i < n → r i = true → q i = true) → cnt r n ≤ cnt q n
  | 0, _ => Nat.le_refl _
  | n + 1, h => by
    have ih := cnt_le (q := q) (r := r) n fun i hi => h i (by omega)
    rw [cnt, cnt]
    cases hr : r n with
    | true => rw [h n (Nat.lt_succ_self n) hr, if_pos rfl, if_pos rfl]; omega
    | false =>
      rw [if_neg (by decide)]
      split <;> omega
theorem cnt_more {q : Nat → Bool} {f : Nat → Int} {v : Int} : ∀ n, (∃ i, i < n ∧ q i = true ∧ f i = v) → cnt (fun i => q i && decide (f i ≠ v)) n + 1 ≤ cnt q n
  | 0, ⟨_, h, _⟩ => absurd h (Nat.not_lt_zero _)
  | n + 1, ⟨i, hi, h1, h2⟩ => by
    rw [cnt, cnt]
    have mono := cnt_le (q := q) (r := fun i => q i && decide (f i ≠ v)) n fun j _ hh => ((Bool.and_eq_true _ _).mp hh).1
    by_cases e : f n = v
    · rw [if_neg (by simp [e])]
      cases hq : q n with
      | true => rw [if_pos rfl]; omega
      | false =>
        rw [if_neg (by decide)]
        have hin : i < n := by
          by_cases e2 : i = n
          · subst e2; rw [hq] at h1; cases h1
          · omega
        exact cnt_more n ⟨i, hin, h1, h2⟩
    · have hin : i < n := by
        by_cases e2 : i = n
        · subst e2; exact absurd h2 e
        · omega
      have ih := cnt_more (q := q) (f := f) (v := v) n ⟨i, hin, h1, h2⟩
      cases hq : q n with
      | true => rw [if_pos (by simp [e]), if_pos rfl]; omega
      | false => rw [if_neg (by simp), if_neg (by decide)]; exact ih
theorem cnt_ge : ∀ (C : Nat) {q : Nat → Bool} {f : Nat → Int} {n : Nat}, (∀ p : Nat, p < C → ∃ i, i < n ∧ q i = true ∧ f i = (p : Int)) → C ≤ cnt q n
  | 0, _, _, _, _ => Nat.zero_le _
  | C + 1, q, f, n, h => by
    have a := cnt_more (q := q) (f := f) (v := (C : Int)) n (h C (Nat.lt_succ_self C))
    have b := cnt_ge C (q := fun i => q i && decide (f i ≠ (C : Int))) (f := f) (n := n) (fun p hp => by
      obtain ⟨i, hi, h1, h2⟩ := h p (by omega)
      have hne : f i ≠ (C : Int) := by omega
      exact ⟨i, hi, by rw [h1, decide_eq_true hne]; rfl, h2⟩)
    omega
theorem lap_symm (x y : WRec) : overlapB x y = overlapB y x := by unfold overlapB; rw [Bool.and_comm]
theorem lap_iff {x y : WRec} : overlapB x y = true ↔ x.beg < y.fin ∧ y.beg < x.fin := by unfold overlapB; simp
structure Fs.Greedy (l : List WRec) (P : List Int) (O : List Nat) (k C : Nat) (t : Int) : Prop where
  len : P.length = l.length
  le : C ≤ k
  rng : ∀ j, j < k → 0 ≤ listI P (O.getD j 0) ∧ listI P (O.getD j 0) < (C : Int)
  apart : ∀ i j, i < k → j < i → overlapB (listW l (O.getD j 0)) (listW l (O.getD i 0)) = true → listI P (O.getD j 0) ≠ listI P (O.getD i 0)
  none : C = 0 → t = 0
  some : 0 < C → ∃ s, s < k ∧ t = (listW l (O.getD s 0)).beg ∧ ∀ p : Nat, p < C → ∃ j, j < k ∧ inUse l t (O.getD j 0) = true ∧ listI P (O.getD j 0) = (p : Int)
theorem greedy_zero (l : List WRec) (O : List Nat) : Greedy l (List.replicate l.length 0) O 0 0 0 :=
  ⟨by simp, Nat.le_refl _, fun j hj => absurd hj (Nat.not_lt_zero _), fun i _ hi => absurd hi (Nat.not_lt_zero _), fun _ => rfl, fun h => absurd h (Nat.lt_irrefl _)⟩
theorem begun_len {l : List WRec} {O : List Nat} (h : Begun l O) : O.length = l.length := by have := h.perm.length_eq; simpa using this
theorem begun_lt {l : List WRec} {O : List Nat} (h : Begun l O) {j : Nat} (hj : j < O.length) : O.getD j 0 < l.length := by
  have h1 : O.getD j 0 = O[j] := by rw [List.getD_eq_getElem?_getD, List.getElem?_eq_getElem hj]; rfl
  have h2 := h.perm.mem_iff.1 (List.getElem_mem hj)
  rw [h1]
  exact List.mem_range.1 h2
theorem begun_ne {l : List WRec} {O : List Nat} (h : Begun l O) {i j : Nat} (hi : i < O.length) (hj : j < i) : O.getD j 0 ≠ O.getD i 0 := by
  have hn : O.Nodup := h.perm.nodup_iff.2 List.nodup_range
  rw [List.getD_eq_getElem?_getD, List.getD_eq_getElem?_getD, List.getElem?_eq_getElem hi, List.getElem?_eq_getElem (by omega)]
  intro e
  have e2 : O[j] = O[i] := e
  exact List.pairwise_iff_getElem.1 hn j i (by omega) hi hj e2
theorem begun_of {l : List WRec} {O : List Nat} (h : Begun l O) {i : Nat} (hi : i < l.length) : ∃ j, j < O.length ∧ O.getD j 0 = i := by
  have h1 := h.perm.mem_iff.2 (List.mem_range.2 hi)
  obtain ⟨j, hj, e⟩ := List.getElem_of_mem h1
  exact ⟨j, hj, by rw [List.getD_eq_getElem?_getD, List.getElem?_eq_getElem hj]; exact e⟩
theorem listI_set {P : List Int} {i j : Nat} {x : Int} (hi : i < P.length) : listI (P.set i x) j = if i = j then x else listI P j := by
  unfold listI
  rw [List.getD_eq_getElem?_getD, List.getD_eq_getElem?_getD, List.getElem?_set]
  by_cases e : i = j
  · rw [if_pos e, if_pos e, if_pos hi]; rfl
  · rw [if_neg e, if_neg e]
theorem greedy_kept {l : List WRec} {P : List Int} {O : List Nat} (hO : Begun l O) {k : Nat} {x : Int} (hP : P.length = l.length) (hk : k < O.length) {j : Nat} (hj : j < k) : listI (P.set (O.getD k 0) x) (O.getD j 0) = listI P (O.getD j 0) := by
  rw [listI_set (by rw [hP]; exact begun_lt hO hk), if_neg (fun e => begun_ne hO hk hj e.symm)]
theorem greedy_put {l : List WRec} {P : List Int} {O : List Nat} (hO : Begun l O) {k : Nat} {x : Int} (hP : P.length = l.length) (hk : k < O.length) : listI (P.set (O.getD k 0) x) (O.getD k 0) = x := by
  rw [listI_set (by rw [hP]; exact begun_lt hO hk), if_pos rfl]
theorem greedy_old {l : List WRec} {P : List Int} {O : List Nat} {k C p : Nat} {t : Int} (hO : Begun l O) (hk : k < O.length) (g : Greedy l P O k C t) (f : Free l P O (O.getD k 0) k C p) (hp : p ≠ C) : Greedy l (P.set (O.getD k 0) p) O (k + 1) C t := by
  have hK := fun j (hj : j < k) => greedy_kept (x := (p : Int)) hO g.len hk hj
  have hX := greedy_put (x := (p : Int)) hO g.len hk
  have fl := f.le
  refine ⟨by rw [List.length_set]; exact g.len, by have := g.le; omega, ?_, ?_, g.none, ?_⟩
  · intro j hj
    by_cases e : j = k
    · subst e; rw [hX]; omega
    · rw [hK j (by omega)]; exact g.rng j (by omega)
  · intro i j hi hj ho
    rw [hK j (by omega)]
    by_cases e : i = k
    · subst e; rw [hX]; exact f.no j hj ho
    · rw [hK i (by omega)]; exact g.apart i j (by omega) hj ho
  · intro h0
    obtain ⟨s, hs, h1, h2⟩ := g.some h0
    refine ⟨s, by omega, h1, fun q hq => ?_⟩
    obtain ⟨j, hj, h3, h4⟩ := h2 q hq
    exact ⟨j, by omega, h3, by rw [hK j hj]; exact h4⟩
theorem greedy_new {l : List WRec} {P : List Int} {O : List Nat} {k C p : Nat} {t : Int} (hO : Begun l O) (hU : UsesOk l) (hk : k < O.length) (g : Greedy l P O k C t) (f : Free l P O (O.getD k 0) k C p) (hp : p = C) :
    Greedy l (P.set (O.getD k 0) p) O (k + 1) (C + 1) (listW l (O.getD k 0)).beg := by
  have hK := fun j (hj : j < k) => greedy_kept (x := (p : Int)) hO g.len hk hj
  have hX := greedy_put (x := (p : Int)) hO g.len hk
  have hsp := spanErr_ok (hU.one _ (begun_lt hO hk)).2
  subst hp
  refine ⟨by rw [List.length_set]; exact g.len, by have := g.le; omega, ?_, ?_, fun h => absurd h (by omega), ?_⟩
  · intro j hj
    by_cases e : j = k
    · subst e; rw [hX]; omega
    · rw [hK j (by omega)]; have := g.rng j (by omega); omega
  · intro i j hi hj ho
    rw [hK j (by omega)]
    by_cases e : i = k
    · subst e; rw [hX]; exact f.no j hj ho
    · rw [hK i (by omega)]; exact g.apart i j (by omega) hj ho
  · intro _
    refine ⟨k, by omega, rfl, fun q hq => ?_⟩
    by_cases e : q = p
    · refine ⟨k, by omega, ?_, by rw [hX, e]⟩
      exact Fs.within_iff.2 ⟨Int.le_refl _, by omega⟩
    · obtain ⟨j, hj, h3, h4⟩ := f.low q (by omega)
      refine ⟨j, by omega, ?_, by rw [hK j hj]; exact h4⟩
      have h5 := lap_iff.1 h3
      exact Fs.within_iff.2 ⟨hO.up j k hj hk, by omega⟩
theorem count_le {P : List Int} {C : Int} (h0 : 0 ≤ C) : ∀ k, (∀ i, i < k → listI P i + 1 ≤ C) → countTo P k ≤ C
  | 0, _ => h0
  | k + 1, h => by
    rw [countTo]
    have := count_le h0 k fun i hi => h i (by omega)
    have := h k (Nat.lt_succ_self k)
    omega
theorem use_lap {l : List WRec} {t : Int} {a b : Nat} (qa : inUse l t a = true) (qb : inUse l t b = true) : overlapB (listW l a) (listW l b) = true := by
  have x := Fs.within_iff.1 (show within t (listW l a).beg ((listW l a).fin - 1) = true from qa)
  have y := Fs.within_iff.1 (show within t (listW l b).beg ((listW l b).fin - 1) = true from qb)
  exact lap_iff.2 ⟨by omega, by omega⟩
theorem greedy_apart {l : List WRec} {P : List Int} {O : List Nat} {C : Nat} {t : Int} (hO : Begun l O) (g : Greedy l P O O.length C t) {a b : Nat} (ha : a < l.length) (hb : b < l.length) (hab : a ≠ b) (ho : overlapB (listW l a) (listW l b) = true) : listI P a ≠ listI P b := by
  obtain ⟨i, hi, rfl⟩ := begun_of hO ha
  obtain ⟨j, hj, rfl⟩ := begun_of hO hb
  rcases Nat.lt_trichotomy i j with h | h | h
  · exact g.apart j i hj h ho
  · exact absurd (by rw [h]) hab
  · exact fun e => g.apart i j hi h (by rw [lap_symm]; exact ho) e.symm
theorem greedy_end {l : List WRec} {P : List Int} {O : List Nat} {C : Nat} {t : Int} (hO : Begun l O) (hU : UsesOk l) (g : Greedy l P O O.length C t) : PlatesIs l P t := by
  have hz := uses_zero hU
  refine ⟨fun h => absurd hz h, fun _ => ?_⟩
  have hl := begun_len hO
  have h14 := hU.len
  have hC : C ≤ 14 := by have := g.le; omega
  have rng : ∀ i, i < l.length → 0 ≤ listI P i ∧ listI P i < (C : Int) := fun i hi => by
    obtain ⟨j, hj, rfl⟩ := begun_of hO hi
    exact g.rng j hj
  have bad : fst (plateBad P) l.length = 0 := fst_none fun i hi => by
    unfold plateBad
    have := rng i hi
    rw [if_pos (Fs.within_iff.2 ⟨this.1, by omega⟩)]
  have clk : isClock t = true := by
    by_cases h0 : 0 < C
    · obtain ⟨s, hs, rfl, -⟩ := g.some h0
      have := spanErr_ok (hU.one _ (begun_lt hO hs)).2
      unfold isClock
      exact Fs.within_iff.2 ⟨this.1, by omega⟩
    · rw [g.none (by omega)]; decide
  have clash : ¬ ∃ i, i < l.length ∧ ∃ k, k < i ∧ plateClash l P i k := fun ⟨i, hi, k, hk, h1, h2⟩ => greedy_apart hO g hi (by omega) (by omega) h1 h2
  have top : ∀ t', atTo l t' l.length ≤ (C : Int) := fun t' => by
    rw [atTo_cnt]
    have := pigeon C (q := inUse l t') (f := listI P) (n := l.length) (fun i hi _ => rng i hi) (fun a b ha hb qa qb => greedy_apart hO g ha (by omega) (by omega) (use_lap qa qb))
    omega
  have low : (C : Int) ≤ atTo l t l.length := by
    rw [atTo_cnt]
    by_cases h0 : 0 < C
    · obtain ⟨s, hs, -, h2⟩ := g.some h0
      have := cnt_ge C (q := inUse l t) (f := listI P) (n := l.length) (fun p hp => by
        obtain ⟨j, hj, h3, h4⟩ := h2 p hp
        exact ⟨_, begun_lt hO hj, h3, h4⟩)
      omega
    · omega
  have cle : countTo P l.length ≤ (C : Int) := count_le (by omega) _ fun i hi => by have := (rng i hi).2; omega
  have cge : (C : Int) ≤ countTo P l.length := by
    by_cases h0 : 0 < C
    · obtain ⟨s, hs, -, h2⟩ := g.some h0
      obtain ⟨j, hj, -, h4⟩ := h2 (C - 1) (by omega)
      have := count_ge (P := P) (begun_lt hO hj)
      omega
    · have : l.length = 0 := by
        rcases Nat.eq_zero_or_pos l.length with h | h
        · exact h
        · have := rng 0 h; omega
      rw [this, countTo]; omega
  have hat : atTo l t l.length = countTo P l.length := by have := top t; omega
  rw [plate_fine g.len bad clk clash, if_neg (fun h => h hat)]
  have m1 : mostTo l l.length ≤ (C : Int) := most_le (by omega) _ fun i _ => top _
  have m2 : (C : Int) ≤ mostTo l l.length := by
    by_cases h0 : 0 < C
    · obtain ⟨s, hs, e, -⟩ := g.some h0
      have := most_ge (l := l) (begun_lt hO hs)
      rw [← e] at this
      omega
    · have := most_pos l l.length; omega
  rw [show countTo P l.length = mostTo l l.length by omega]
end Go.Proofs.Ytjmaankkbdpikaa

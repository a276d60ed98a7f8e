/- The reference's TripErr and Allowed. Condition: records are right. -/
import Derived.Test.YtjmaankkbdpikaaT47
import Derived.Test.YtjmaankkbdpikaaN2
namespace Go.Proofs.Ytjmaankkbdpikaa
open Go.RowKit Fs

/-- What a right trip has. -/
theorem Fs.dtrip_ok {R : DRules} {l : List WRec} {t : DTrip} (h : dtripErr R l t = 0) : Behind l t ∧ (0 ≤ t.lo ∧ t.lo ≤ 200000) ∧ (0 ≤ t.hi ∧ t.hi ≤ 200000) ∧ t.lo ≤ t.hi ∧ brokenRule R l = 0 := by
  unfold dtripErr at h
  by_cases h40 : 40 ≤ l.length
  · rw [if_pos h40] at h; exact absurd h (by decide)
  · rw [if_neg h40] at h
    by_cases hb : isClock t.start = true ∧ within t.lo 0 200000 = true ∧ within t.hi 0 200000 = true
    · obtain ⟨h1, h2, h3⟩ := hb
      rw [if_neg (by rw [h1, h2, h3]; decide)] at h
      have a1 := within_iff.1 (show within t.start 0 8640000000 = true from h1)
      have a2 := within_iff.1 h2
      have a3 := within_iff.1 h3
      by_cases h9 : t.hi < t.lo
      · rw [if_pos h9] at h; exact absurd h (by decide)
      · rw [if_neg h9] at h
        by_cases hx : t.next ≠ -1 ∧ isClock t.next = false
        · rw [if_pos hx] at h; exact absurd h (by decide)
        · rw [if_neg hx] at h
          by_cases hl : 0 < l.length ∧ t.start < (listW l (l.length - 1)).fin
          · rw [if_pos hl] at h; exact absurd h (by decide)
          · rw [if_neg hl] at h
            by_cases hk : brokenRule R l ≠ 0
            · rw [if_pos hk] at h; exact absurd h (by decide)
            · have hn : -1 ≤ t.next ∧ t.next ≤ 8640000000 := by
                by_cases e : t.next = -1
                · omega
                · have a4 := within_iff.1 (show within t.next 0 8640000000 = true from by
                    cases e4 : isClock t.next with
                    | false => exact absurd ⟨e, e4⟩ hx
                    | true => exact e4)
                  omega
              exact ⟨⟨by omega, a1.1, a1.2, hn.1, hn.2, fun hp => Int.not_lt.1 fun hc => hl ⟨hp, hc⟩⟩, a2, a3, by omega, Classical.byContradiction hk⟩
    · rw [if_pos (by cases h1 : isClock t.start <;> cases h2 : within t.lo 0 200000 <;> cases h3 : within t.hi 0 200000 <;> first | rfl | exact absurd ⟨h1, h2, h3⟩ hb)] at h
      exact absurd h (by decide)
end Go.Proofs.Ytjmaankkbdpikaa
/- A longer trip breaks what a shorter one breaks: plain facts. Condition: records are right. -/
namespace Go.Proofs.Ytjmaankkbdpikaa.Fs

theorem workTo_next (l : List WRec) (a b : Int) (k : Nat) : workTo l a b (k + 1) = workTo l a b k + overlapOf (listW l k) a b := rfl
theorem workTo_congr {l m : List WRec} (a b : Int) : ∀ k, (∀ i, i < k → listW l i = listW m i) → workTo l a b k = workTo m a b k
  | 0, _ => rfl
  | k + 1, h => by
    rw [workTo_next, workTo_next, workTo_congr a b k (fun i hi => h i (by omega)), h k (by omega)]
/-- A window that goes on by d loses no more work at its beginning than d. -/
theorem slide {l : List WRec} (h : Right l) (a d B : Int) (hd : 0 ≤ d) (hB : ∀ i, i < l.length → (listW l i).fin ≤ B) :
    ∀ k, k < l.length → workTo l a B (k + 1) ≤ workTo l (a + d) (B + d) (k + 1) + max 0 (min d ((listW l k).fin - a))
  | 0, hk => by
    have h1 := h.one 0 hk
    have h2 := hB 0 hk
    rw [workTo_next, workTo_next, show workTo l a B 0 = 0 from rfl, show workTo l (a + d) (B + d) 0 = 0 from rfl]
    unfold overlapOf
    omega
  | k + 1, hk => by
    have ih := slide h a d B hd hB k (by omega)
    have h1 := h.one (k + 1) hk
    have h2 := hB (k + 1) hk
    have h3 := h.next (k + 1) (by omega) hk
    rw [show k + 1 - 1 = k from rfl] at h3
    rw [workTo_next l a B (k + 1), workTo_next l (a + d) (B + d) (k + 1)]
    generalize workTo l a B (k + 1) = u at *
    generalize workTo l (a + d) (B + d) (k + 1) = v at *
    unfold overlapOf
    omega
theorem fin_le {l : List WRec} (h : Right l) : ∀ k, k < l.length → ∀ i, i ≤ k → (listW l i).fin ≤ (listW l k).fin
  | 0, _, i, hi => by obtain rfl : i = 0 := by omega
                      exact Int.le_refl _
  | k + 1, hk, i, hi => by
    by_cases e : i = k + 1
    · subst e; exact Int.le_refl _
    · have h1 := fin_le h k (by omega) i (by omega)
      have h2 := h.one (k + 1) hk
      have h3 := h.next (k + 1) (by omega) hk
      rw [show k + 1 - 1 = k from rfl] at h3
      omega
theorem slide_all {l : List WRec} (h : Right l) (a d B : Int) (hd : 0 ≤ d) (hB : 0 < l.length → (listW l (l.length - 1)).fin ≤ B) : workTo l a B l.length ≤ workTo l (a + d) (B + d) l.length + d := by
  rcases Nat.eq_zero_or_pos l.length with h0 | h0
  · rw [h0, show workTo l a B 0 = 0 from rfl, show workTo l (a + d) (B + d) 0 = 0 from rfl]; omega
  · have h1 := slide h a d B hd (fun i hi => Int.le_trans (fin_le h (l.length - 1) (by omega) i (by omega)) (hB h0)) (l.length - 1) (by omega)
    rw [Nat.sub_add_cancel h0] at h1
    omega
/-! ### a trip behind right records -/
theorem withTrip_at {l : List WRec} {s n : Int} {i : Nat} (h : i < l.length) : listW (withTrip l s n) i = listW l i := listW_left h
theorem withTrip_last (l : List WRec) (s n : Int) : listW (withTrip l s n) l.length = ⟨xName, s, s + n⟩ := listW_last l _
theorem firstIn_congr {l m : List WRec} (gap : Int) : ∀ k, (∀ i, i ≤ k → (listW l i).beg = (listW m i).beg) → (∀ i, i < k → (listW l i).fin = (listW m i).fin) → firstIn l gap k = firstIn m gap k
  | 0, _, _ => rfl
  | k + 1, h1, h2 => by
    rw [firstIn, firstIn, h1 (k + 1) (Nat.le_refl _), h2 k (by omega), firstIn_congr gap k (fun i hi => h1 i (by omega)) (fun i hi => h2 i (by omega))]
theorem withTrip_first (l : List WRec) (s n n' gap : Int) : firstIn (withTrip l s n) gap l.length = firstIn (withTrip l s n') gap l.length := by
  refine firstIn_congr gap _ (fun i hi => ?_) (fun i hi => ?_)
  · by_cases e : i < l.length
    · rw [withTrip_at e, withTrip_at e]
    · obtain rfl : i = l.length := by omega
      rw [withTrip_last, withTrip_last]
  · rw [withTrip_at hi, withTrip_at hi]
theorem lengthsTo_congr {l m : List WRec} (f : Nat) : ∀ k, (∀ i, i < k → listW l i = listW m i) → lengthsTo l f k = lengthsTo m f k
  | 0, _ => rfl
  | k + 1, h => by
    rw [lengthsTo, lengthsTo, lengthsTo_congr f k (fun i hi => h i (by omega)), h k (by omega)]
theorem withTrip_stint (l : List WRec) (s n brk : Int) : stintOf (withTrip l s n) brk l.length = lengthsTo l (firstIn (withTrip l s 0) brk l.length) l.length + n := by
  have hf := firstIn_le (withTrip l s 0) brk l.length
  rw [stintOf, withTrip_first l s n 0, lengthsTo_next hf, withTrip_last, lengthsTo_congr (m := l) _ l.length (fun i hi => withTrip_at hi)]
  show _ + (s + n) - s = _
  omega
theorem withTrip_shift (l : List WRec) (s n gap : Int) : (listW (withTrip l s n) l.length).fin - (listW (withTrip l s n) (firstIn (withTrip l s n) gap l.length)).beg = s + n - (listW (withTrip l s 0) (firstIn (withTrip l s 0) gap l.length)).beg := by
  have hf := firstIn_le (withTrip l s 0) gap l.length
  rw [withTrip_first l s n 0, withTrip_last]
  generalize firstIn (withTrip l s 0) gap l.length = f at *
  by_cases e : f < l.length
  · rw [withTrip_at e, withTrip_at e]
  · obtain rfl : f = l.length := by omega
    rw [withTrip_last, withTrip_last]
theorem withTrip_week (l : List WRec) (s n : Int) (hn : 0 ≤ n) (hn' : n ≤ 604800) : workTo (withTrip l s n) (s + n - 604800) (s + n) (l.length + 1) = workTo l (s + n - 604800) (s + n) l.length + n := by
  rw [workTo_next, withTrip_last, workTo_congr (m := l) _ _ l.length (fun i hi => withTrip_at hi)]
  unfold overlapOf
  dsimp only
  omega
theorem brokenAt_zero {R : DRules} {l : List WRec} {k : Nat} : brokenAt R l k = 0 ↔ stintOf l R.brk k ≤ R.stint ∧ (listW l k).fin - (listW l (firstIn l R.rest k)).beg ≤ R.shift ∧ workTo l ((listW l k).fin - 604800) (listW l k).fin (k + 1) ≤ R.week := by
  unfold brokenAt
  by_cases h1 : R.stint < stintOf l R.brk k
  · rw [if_pos h1]
    exact ⟨fun h => absurd h (by decide), fun h => absurd h.1 (by omega)⟩
  · rw [if_neg h1]
    by_cases h2 : R.shift < (listW l k).fin - (listW l (firstIn l R.rest k)).beg
    · rw [if_pos h2]
      exact ⟨fun h => absurd h (by decide), fun h => absurd h.2.1 (by omega)⟩
    · rw [if_neg h2]
      by_cases h3 : R.week < workTo l ((listW l k).fin - 604800) (listW l k).fin (k + 1)
      · rw [if_pos h3]
        exact ⟨fun h => absurd h (by decide), fun h => absurd h.2.2 (by omega)⟩
      · rw [if_neg h3]
        exact ⟨fun _ => ⟨by omega, by omega, by omega⟩, fun _ => rfl⟩
/-- The three rules at a trip's end, told of the records and of the trip's length. -/
theorem withTrip_zero {R : DRules} {l : List WRec} {s n : Int} (hn : 0 ≤ n) (hn' : n ≤ 604800) : brokenAt R (withTrip l s n) l.length = 0 ↔
    lengthsTo l (firstIn (withTrip l s 0) R.brk l.length) l.length + n ≤ R.stint ∧ s + n - (listW (withTrip l s 0) (firstIn (withTrip l s 0) R.rest l.length)).beg ≤ R.shift ∧ workTo l (s + n - 604800) (s + n) l.length + n ≤ R.week := by
  rw [brokenAt_zero, withTrip_stint, withTrip_shift, show (listW (withTrip l s n) l.length).fin = s + n by rw [withTrip_last], withTrip_week l s n hn hn']
theorem broken_mono {R : DRules} {l : List WRec} {s n n' : Int} (h : Right l) (hs : 0 < l.length → (listW l (l.length - 1)).fin ≤ s) (h0 : 0 ≤ n) (h1 : n ≤ n') (h2 : n' ≤ 604800) (hb : brokenAt R (withTrip l s n') l.length = 0) : brokenAt R (withTrip l s n) l.length = 0 := by
  rw [withTrip_zero (by omega) (by omega)] at hb ⊢
  have h3 := slide_all h (s + n - 604800) (n' - n) (s + n) (by omega) (fun hp => by have := hs hp; omega)
  rw [show s + n - 604800 + (n' - n) = s + n' - 604800 by omega, show s + n + (n' - n) = s + n' by omega] at h3
  exact ⟨by omega, by omega, by omega⟩
theorem breaks_zero {R : DRules} {l : List WRec} {t : DTrip} {n : Int} : breaks R l t n = 0 ↔ (0 < n → brokenAt R (withTrip l t.start n) l.length = 0) ∧ (t.next ≠ -1 → R.rest ≤ t.next - (t.start + n)) := by
  unfold breaks
  by_cases h1 : 0 < n ∧ brokenAt R (withTrip l t.start n) l.length ≠ 0
  · rw [if_pos h1]
    exact ⟨fun h => absurd h h1.2, fun h => absurd (h.1 h1.1) h1.2⟩
  · rw [if_neg h1]
    have h3 : 0 < n → brokenAt R (withTrip l t.start n) l.length = 0 := fun h => Classical.byContradiction fun hc => h1 ⟨h, hc⟩
    by_cases h2 : t.next ≠ -1 ∧ t.next - (t.start + n) < R.rest
    · rw [if_pos h2]
      exact ⟨fun h => absurd h (by decide), fun h => absurd (h.2 h2.1) (by omega)⟩
    · rw [if_neg h2]
      exact ⟨fun _ => ⟨h3, fun h => Int.not_lt.1 fun hc => h2 ⟨h, hc⟩⟩, fun _ => rfl⟩
theorem breaks_mono {R : DRules} {l : List WRec} {t : DTrip} {n n' : Int} (h : Right l) (hT : Behind l t) (h1 : n ≤ n') (h2 : n' ≤ 604800) (hb : breaks R l t n' = 0) : breaks R l t n = 0 := by
  rw [breaks_zero] at hb ⊢
  refine ⟨fun hp => broken_mono h hT.last (by omega) h1 h2 (hb.1 (by omega)), fun hx => ?_⟩
  have := hb.2 hx
  omega
end Go.Proofs.Ytjmaankkbdpikaa.Fs
/- The reference's LongestFrom. Condition: records are right, the start is behind them. -/
namespace Go.Proofs.Ytjmaankkbdpikaa
open Go.RowKit Fs

/-- n is the greatest length of a trip from a start that breaks no rule. -/
structure Fs.Longest (R : DRules) (l : List WRec) (t : DTrip) (n : Int) : Prop where
  n0 : 0 ≤ n
  n1 : n ≤ 200000
  ok : breaks R l t n = 0
  no : ∀ m, n < m → m ≤ 200000 → breaks R l t m ≠ 0
theorem Fs.Longest.same {R : DRules} {l : List WRec} {t : DTrip} {n m : Int} (h : Longest R l t n) (h' : Longest R l t m) : n = m := by
  rcases Int.lt_trichotomy n m with e | e | e
  · exact absurd h'.ok (h.no m e h'.n1)
  · exact e
  · exact absurd h.ok (h'.no n e h.n1)
def Fs.bare (s : Int) : DTrip := ⟨s, 0, 0, -1⟩
theorem Fs.bare_zero (R : DRules) (l : List WRec) (s : Int) : breaks R l (bare s) 0 = 0 :=
  breaks_zero.2 ⟨fun h => absurd h (by decide), fun h => absurd rfl h⟩

end Go.Proofs.Ytjmaankkbdpikaa

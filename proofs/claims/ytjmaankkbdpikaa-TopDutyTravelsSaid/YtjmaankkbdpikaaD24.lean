/- From which time on a trip is allowed: plain facts for EarliestStart. Condition: records are right. -/
import Derived.Test.YtjmaankkbdpikaaD21
import Derived.Test.YtjmaankkbdpikaaD18
import Derived.Test.YtjmaankkbdpikaaD14
import Derived.Test.YtjmaankkbdpikaaD9
namespace Go.Proofs.Ytjmaankkbdpikaa.Fs

/-- The trip from another start. -/
def fromAt (t : DTrip) (z : Int) : DTrip := ⟨z, t.lo, t.hi, t.next⟩
/-- Two starts are as far from the last record as each other, for a gap. -/
def sameSide (l : List WRec) (gap z z' : Int) : Prop := 0 < l.length → (z - (listW l (l.length - 1)).fin < gap ↔ z' - (listW l (l.length - 1)).fin < gap)
theorem withTrip_len (l : List WRec) (z n : Int) : (withTrip l z n).length = l.length + 1 := by simp [withTrip]
theorem first_side {l : List WRec} {gap z z' n : Int} (h : sameSide l gap z z') : firstIn (withTrip l z n) gap l.length = firstIn (withTrip l z' n) gap l.length := by
  rcases Nat.eq_zero_or_pos l.length with h0 | h0
  · rw [h0]; rfl
  · obtain ⟨k, hk⟩ : ∃ k, l.length = k + 1 := ⟨l.length - 1, by omega⟩
    have e1 : ∀ y, (listW (withTrip l y n) (k + 1)).beg = y := fun y => by rw [← hk, withTrip_last]
    have e2 : ∀ y, (listW (withTrip l y n) k).fin = (listW l k).fin := fun y => by rw [withTrip_at (by omega)]
    have hs := h h0
    rw [show l.length - 1 = k by omega] at hs
    rw [hk, firstIn, firstIn, e1, e1, e2, e2]
    by_cases a : z - (listW l k).fin < gap
    · rw [if_pos a, if_pos (hs.1 a)]
      exact firstIn_congr gap k (fun i hi => by rw [withTrip_at (by omega), withTrip_at (by omega)]) (fun i hi => by rw [withTrip_at (by omega), withTrip_at (by omega)])
    · rw [if_neg a, if_neg (fun b => a (hs.2 b))]
/-- In one segment: what is allowed later is allowed earlier, as long as the week allows it. -/
theorem seg_ok {R : DRules} {l : List WRec} {t : DTrip} {z z' : Int} (hr : Right l) (hl : 0 < l.length → (listW l (l.length - 1)).fin ≤ z) (hz : z ≤ z') (hh0 : 0 ≤ t.hi) (hh1 : t.hi ≤ 200000)
    (h1 : sameSide l R.brk z z') (h2 : sameSide l R.rest z z') (hw : 0 < t.hi → weekly l z t.hi ≤ R.week) (hok : breaks R l (fromAt t z') t.hi = 0) : breaks R l (fromAt t z) t.hi = 0 := by
  rw [breaks_zero] at hok ⊢
  refine ⟨fun hp => ?_, fun hx => ?_⟩
  · have a := hok.1 hp
    have hl' : 0 < l.length → (listW l (l.length - 1)).fin ≤ z' := fun h => Int.le_trans (hl h) hz
    rw [show (fromAt t z').start = z' from rfl] at a
    rw [show (fromAt t z).start = z from rfl]
    rw [withTrip_zero hh0 (by omega)] at a ⊢
    obtain ⟨a1, a2, a3⟩ := a
    have hw := hw hp
    unfold weekly at hw
    rw [weekly_is hr hh0 hl]
    rw [first_side h1, first_side h2]
    refine ⟨a1, ?_, by omega⟩
    have hf := firstIn_le (withTrip l z' 0) R.rest l.length
    generalize firstIn (withTrip l z' 0) R.rest l.length = f at *
    by_cases e : f < l.length
    · rw [withTrip_at e] at a2 ⊢
      omega
    · obtain rfl : f = l.length := by omega
      rw [withTrip_last] at a2 ⊢
      dsimp only at a2 ⊢
      omega
  · have b := hok.2 hx
    show R.rest ≤ t.next - (z + t.hi)
    have b' : R.rest ≤ t.next - (z' + t.hi) := b
    omega
/-- Where the week forbids a trip it is not allowed. -/
theorem week_no {R : DRules} {l : List WRec} {t : DTrip} {z : Int} (hr : Right l) (hl : 0 < l.length → (listW l (l.length - 1)).fin ≤ z) (hp : 0 < t.hi) (hh1 : t.hi ≤ 200000) (hw : R.week < weekly l z t.hi) : breaks R l (fromAt t z) t.hi ≠ 0 := by
  intro hok
  rw [breaks_zero] at hok
  have a := hok.1 hp
  rw [show (fromAt t z).start = z from rfl, withTrip_zero (by omega) (by omega), weekly_is hr (by omega) hl] at a
  unfold weekly at hw
  omega
end Go.Proofs.Ytjmaankkbdpikaa.Fs
/- The earliest start, plainly: segment by segment. Condition: records and rules are right. -/
namespace Go.Proofs.Ytjmaankkbdpikaa.Fs

def lastFin (l : List WRec) : Int := (listW l (l.length - 1)).fin
/-- Where the segments begin. -/
def beginsOf (R : DRules) (l : List WRec) (s : Int) : List Int := if l.length = 0 then [s] else [s, max s (lastFin l + R.brk), max s (lastFin l + R.rest)]
def endOf (s : Int) : Int := min (s + 10000000) 8640000000
/-- n is the least start from s on, up to the end, from which a trip is surely allowed, or -1. -/
structure Earliest (R : DRules) (l : List WRec) (t : DTrip) (n : Int) : Prop where
  yes : n ≠ -1 → t.start ≤ n ∧ n ≤ endOf t.start ∧ breaks R l (fromAt t n) t.hi = 0
  no : ∀ z, t.start ≤ z → z ≤ endOf t.start → (n = -1 ∨ z < n) → breaks R l (fromAt t z) t.hi ≠ 0
theorem Earliest.same {R : DRules} {l : List WRec} {t : DTrip} {n m : Int} (h : Earliest R l t n) (h' : Earliest R l t m) : n = m := by
  by_cases e : n = -1
  · by_cases e' : m = -1
    · rw [e, e']
    · obtain ⟨a, b, c⟩ := h'.yes e'
      exact absurd c (h.no m a b (Or.inl e))
  · obtain ⟨a, b, c⟩ := h.yes e
    by_cases e' : m = -1
    · exact absurd c (h'.no n a b (Or.inl e'))
    · obtain ⟨a', b', c'⟩ := h'.yes e'
      rcases Int.lt_trichotomy n m with x | x | x
      · exact absurd c (h'.no n a b (Or.inr x))
      · exact x
      · exact absurd c' (h.no m a' b' (Or.inr x))
/-- What stands when the segments below i are done. -/
def Done (R : DRules) (l : List WRec) (t : DTrip) (B : List Int) (i : Nat) : Prop :=
  ∀ z, t.start ≤ z → z ≤ endOf t.start → (i < B.length → z < listI B i) → breaks R l (fromAt t z) t.hi ≠ 0
structure Ready (R : DRules) (l : List WRec) (t : DTrip) : Prop where
  right : Right l
  behind : Behind l t
  hi0 : 0 ≤ t.hi
  hi1 : t.hi ≤ 200000
  order : R.brk ≤ R.rest
  /-- the week is not full as it is -/
  idle : t.hi = 0 → ∀ z, t.start ≤ z → weekly l z 0 ≤ R.week
theorem begins_from {R : DRules} {l : List WRec} {s : Int} {i : Nat} (h : i < (beginsOf R l s).length) : s ≤ listI (beginsOf R l s) i := by
  unfold beginsOf at h ⊢
  by_cases e : l.length = 0
  · rw [if_pos e] at h ⊢
    obtain rfl : i = 0 := by simpa using h
    exact Int.le_refl _
  · rw [if_neg e] at h ⊢
    have : i < 3 := h
    obtain rfl | rfl | rfl : i = 0 ∨ i = 1 ∨ i = 2 := by omega
    · exact Int.le_refl _
    · show s ≤ max s (lastFin l + R.brk); omega
    · show s ≤ max s (lastFin l + R.rest); omega
/-- Two starts of one segment have the records on the same sides. -/
theorem begins_side {R : DRules} {l : List WRec} {s z z' : Int} {i : Nat} (ho : R.brk ≤ R.rest) (h : i < (beginsOf R l s).length)
    (h1 : listI (beginsOf R l s) i ≤ z) (h2 : listI (beginsOf R l s) i ≤ z') (h3 : i + 1 < (beginsOf R l s).length → z < listI (beginsOf R l s) (i + 1)) (h4 : i + 1 < (beginsOf R l s).length → z' < listI (beginsOf R l s) (i + 1)) :
    sameSide l R.brk z z' ∧ sameSide l R.rest z z' := by
  unfold beginsOf at h h1 h2 h3 h4
  by_cases e : l.length = 0
  · exact ⟨fun hp => absurd hp (by omega), fun hp => absurd hp (by omega)⟩
  · rw [if_neg e] at h h1 h2 h3 h4
    have hi : i < 3 := h
    unfold sameSide
    rw [show (listW l (l.length - 1)).fin = lastFin l from rfl]
    obtain rfl | rfl | rfl : i = 0 ∨ i = 1 ∨ i = 2 := by omega
    · have a1 : s ≤ z := h1
      have a2 : s ≤ z' := h2
      have a3 : z < max s (lastFin l + R.brk) := h3 (by show 1 < 3; decide)
      have a4 : z' < max s (lastFin l + R.brk) := h4 (by show 1 < 3; decide)
      constructor <;> intro _ <;> constructor <;> intro _ <;> omega
    · have a1 : max s (lastFin l + R.brk) ≤ z := h1
      have a2 : max s (lastFin l + R.brk) ≤ z' := h2
      have a3 : z < max s (lastFin l + R.rest) := h3 (by show 2 < 3; decide)
      have a4 : z' < max s (lastFin l + R.rest) := h4 (by show 2 < 3; decide)
      constructor <;> intro _ <;> constructor <;> intro _ <;> omega
    · have a1 : max s (lastFin l + R.rest) ≤ z := h1
      have a2 : max s (lastFin l + R.rest) ≤ z' := h2
      constructor <;> intro _ <;> constructor <;> intro _ <;> omega
variable {R : DRules} {l : List WRec} {t : DTrip}
theorem Ready.last (h : Ready R l t) {z : Int} (hz : t.start ≤ z) : 0 < l.length → (listW l (l.length - 1)).fin ≤ z := fun hp => Int.le_trans (h.behind.last hp) hz
/-- What the search for the week gives. -/
structure WeekAt (R : DRules) (l : List WRec) (t : DTrip) (b e x : Int) : Prop where
  low : b ≤ x
  top : x ≤ e
  before : ∀ z, b ≤ z → z < x → R.week < weekly l z t.hi
  here : x = e ∨ weekly l x t.hi ≤ R.week
theorem WeekAt.none (h : Ready R l t) {b e x : Int} (hb : t.start ≤ b) (w : WeekAt R l t b e x) {z : Int} (h1 : b ≤ z) (h2 : z < x) : breaks R l (fromAt t z) t.hi ≠ 0 := by
  have h3 := w.before z h1 h2
  by_cases hp : 0 < t.hi
  · exact week_no h.right (h.last (by omega)) hp h.hi1 h3
  · have h0 : t.hi = 0 := by have := h.hi0; omega
    have := h.idle h0 z (by omega)
    rw [h0] at h3
    omega
theorem done_zero (R : DRules) (l : List WRec) (t : DTrip) : Done R l t (beginsOf R l t.start) 0 := fun z h1 _ h3 => by
  have h4 : z < listI (beginsOf R l t.start) 0 := h3 (by unfold beginsOf; split <;> simp)
  have h5 : listI (beginsOf R l t.start) 0 = t.start := by unfold beginsOf; split <;> rfl
  omega
/-- A segment that begins behind the end. -/
theorem done_far {i : Nat} (_ : i < (beginsOf R l t.start).length) (hD : Done R l t (beginsOf R l t.start) i) (h : endOf t.start < listI (beginsOf R l t.start) i) : Done R l t (beginsOf R l t.start) (i + 1) :=
  fun z h1 h2 _ => hD z h1 h2 fun _ => by omega
/-- A segment in which the week forbids the trip throughout. -/
theorem done_skip (h : Ready R l t) {i : Nat} {x : Int} (hi : i + 1 < (beginsOf R l t.start).length) (hD : Done R l t (beginsOf R l t.start) i) (w : WeekAt R l t (listI (beginsOf R l t.start) i) (endOf t.start) x)
    (hx : listI (beginsOf R l t.start) (i + 1) ≤ x) : Done R l t (beginsOf R l t.start) (i + 1) := fun z h1 h2 h3 => by
  have h4 := h3 hi
  by_cases e : z < listI (beginsOf R l t.start) i
  · exact hD z h1 h2 fun _ => e
  · exact w.none h (begins_from (by omega)) (by omega) (by omega)
/-- A segment whose first time that the week allows is forbidden. -/
theorem done_step (h : Ready R l t) {i : Nat} {x : Int} (hi : i < (beginsOf R l t.start).length) (hD : Done R l t (beginsOf R l t.start) i) (w : WeekAt R l t (listI (beginsOf R l t.start) i) (endOf t.start) x)
    (hx : ¬ (i + 1 < (beginsOf R l t.start).length ∧ listI (beginsOf R l t.start) (i + 1) ≤ x ∧ listI (beginsOf R l t.start) i < listI (beginsOf R l t.start) (i + 1)))
    (hb : breaks R l (fromAt t x) t.hi ≠ 0) : Done R l t (beginsOf R l t.start) (i + 1) := fun z h1 h2 h3 hok => by
  by_cases e : z < listI (beginsOf R l t.start) i
  · exact hD z h1 h2 (fun _ => e) hok
  · by_cases e2 : z < x
    · exact w.none h (begins_from hi) (by omega) e2 hok
    · have hx1 := begins_from hi
      have hxl := w.low
      rcases w.here with e3 | e3
      · obtain rfl : z = x := by omega
        exact hb hok
      · have hs := begins_side (z := x) (z' := z) h.order hi w.low (by omega) (fun hh => by
          have := h3 hh
          by_cases e5 : listI (beginsOf R l t.start) (i + 1) ≤ x
          · exact absurd ⟨hh, e5, by omega⟩ hx
          · omega) h3
        exact hb (seg_ok h.right (h.last (by omega)) (by omega) h.hi0 h.hi1 hs.1 hs.2 (fun _ => e3) hok)
theorem earliest_found (h : Ready R l t) {i : Nat} {x : Int} (hi : i < (beginsOf R l t.start).length) (hD : Done R l t (beginsOf R l t.start) i) (w : WeekAt R l t (listI (beginsOf R l t.start) i) (endOf t.start) x)
    (hb : breaks R l (fromAt t x) t.hi = 0) : Earliest R l t x := by
  have hx1 := begins_from hi
  have hxl := w.low
  have hst := h.behind.from0
  refine ⟨fun _ => ⟨by omega, w.top, hb⟩, fun z h1 h2 h3 => ?_⟩
  rcases h3 with h3 | h3
  · omega
  · by_cases e : z < listI (beginsOf R l t.start) i
    · exact hD z h1 h2 fun _ => e
    · exact w.none h hx1 (by omega) h3
theorem earliest_none (hD : Done R l t (beginsOf R l t.start) (beginsOf R l t.start).length) : Earliest R l t (-1) :=
  ⟨fun h => absurd rfl h, fun z h1 h2 _ => hD z h1 h2 fun h => absurd h (Nat.lt_irrefl _)⟩
theorem drules_is {R : DRules} (h : drulesErr R = 0) : R.brk ≤ R.rest ∧ 1 ≤ R.week ∧ (1 ≤ R.brk ∧ R.brk ≤ 2000000) ∧ (1 ≤ R.rest ∧ R.rest ≤ 2000000) := by
  unfold drulesErr at h
  by_cases hb : ruleOk R.brk = true ∧ ruleOk R.rest = true ∧ ruleOk R.stint = true ∧ ruleOk R.shift = true ∧ ruleOk R.week = true
  · obtain ⟨h1, h2, h3, h4, h5⟩ := hb
    rw [if_neg (by rw [h1, h2, h3, h4, h5]; decide)] at h
    have a1 := within_iff.1 (show within R.brk 1 2000000 = true from h1)
    have a2 := within_iff.1 (show within R.rest 1 2000000 = true from h2)
    have a5 := within_iff.1 (show within R.week 1 2000000 = true from h5)
    by_cases hr : R.rest < R.brk
    · rw [if_pos hr] at h; exact absurd h (by decide)
    · exact ⟨by omega, a5.1, a1, a2⟩
  · rw [if_pos (by cases h1 : ruleOk R.brk <;> cases h2 : ruleOk R.rest <;> cases h3 : ruleOk R.stint <;> cases h4 : ruleOk R.shift <;> cases h5 : ruleOk R.week <;> first | rfl | exact absurd ⟨h1, h2, h3, h4, h5⟩ hb)] at h
    exact absurd h (by decide)
/-- A right trip is ready. -/
theorem ready_of (hB : bothErr R l = 0) (hT : dtripErr R l t = 0) : Ready R l t := by
  obtain ⟨hd, hr⟩ := both_ok hB
  obtain ⟨h1, h2, h3, h4, h5⟩ := dtrip_ok hT
  have hR := recs_right hr
  have hw := drules_is hd
  refine ⟨hR, h1, h3.1, h3.2, hw.1, fun _ z hz => ?_⟩
  rcases Nat.eq_zero_or_pos l.length with h0 | h0
  · unfold weekly
    rw [h0]
    show 0 + 0 ≤ R.week
    omega
  · have a := fst_zero h5 (l.length - 1) (by omega)
    have b := (brokenAt_zero.1 a).2.2
    rw [Nat.sub_add_cancel h0] at b
    have c := weekly_falls (n := 0) hR (Int.le_trans (h1.last h0) hz) (fun _ => Int.le_refl _)
    unfold weekly at c ⊢
    rw [show (listW l (l.length - 1)).fin + 0 - 604800 = (listW l (l.length - 1)).fin - 604800 by omega] at c
    omega
end Go.Proofs.Ytjmaankkbdpikaa.Fs
/- What the functions of chapter 7 answer, plainly. No condition. -/
namespace Go.Proofs.Ytjmaankkbdpikaa
open Go.RowKit Fs

def Fs.workErr (l : List WRec) (a b : Int) : Int := if recsErr true l ≠ 0 then recsErr true l else if !(isClock a && isClock b) then 2 else if b < a then 9 else 0
def Fs.workOut (l : List WRec) (a b : Int) : Int := if workErr l a b = 0 then workTo l a b l.length else 0
def Fs.groupsOut (R : DRules) (l : List WRec) (gap : Int) : List (Int × Int) := if bothErr R l = 0 then groups l gap else []
def Fs.brokenErr (R : DRules) (l : List WRec) : Int := if bothErr R l ≠ 0 then bothErr R l else if brokenRule R l = 0 then 12 else 0
def Fs.brokenOut (R : DRules) (l : List WRec) : Int × Nat := if brokenErr R l = 0 then (brokenRule R l, brokenRec R l) else (0, 0)
def Fs.allowedOut (R : DRules) (l : List WRec) (t : DTrip) : Int × Int := if lawTripErr R l t = 0 then allowed R l t else (0, 0)
structure Fs.LongestIs (R : DRules) (l : List WRec) (s n : Int) : Prop where
  bad : lawTripErr R l (bare s) ≠ 0 → n = 0
  good : lawTripErr R l (bare s) = 0 → Longest R l (bare s) n
/-- What EarliestStart answers: n, and the error z. -/
structure Fs.EarliestIs (R : DRules) (l : List WRec) (t : DTrip) (n z : Int) : Prop where
  bad : lawTripErr R l t ≠ 0 → n = 0 ∧ z = lawTripErr R l t
  good : lawTripErr R l t = 0 → ∃ m, Earliest R l t m ∧ ((m = -1 ∧ n = 0 ∧ z = 12) ∨ (m ≠ -1 ∧ n = m ∧ z = 0))
noncomputable def Fs.joinedErr (a b : List WRec) : Int := if recsErr true a ≠ 0 then recsErr true a else if recsErr true b ≠ 0 then recsErr true b else djoinErr a b
noncomputable def Fs.joinedOut (a b : List WRec) : List WRec := if joinedErr a b = 0 then mergeL a b else []
noncomputable def Fs.holdsOut (l : List WRec) (s : ByteArray) (d : Int) : Bool := if kindErr l s d = 0 then licHolds l s d else false
structure Fs.LapsesIs (l : List WRec) (s : ByteArray) (d n z : Int) : Prop where
  bad : kindErr l s d ≠ 0 → n = 0 ∧ z = kindErr l s d
  good : kindErr l s d = 0 → ∃ m, LapsesAt l s d m ∧ ((m < d ∧ n = 0 ∧ z = 12) ∨ (d ≤ m ∧ n = m ∧ z = 0))
noncomputable def Fs.mayOut (l : List WRec) (K : List ByteArray) (d : Int) : ByteArray := if mayErr l K d = 0 then mayDrive l K d else ⟨#[]⟩
noncomputable def Fs.handedOut (l : List WRec) : List ByteArray := if recsErr false l = 0 then handedTo l l.length else []
noncomputable def Fs.platesOut (l : List WRec) (P : List Int) (t : Int) : Int × Int := if usesErr l ≠ 0 then (0, usesErr l) else checkPlates l P t
structure Fs.PlatesIs (l : List WRec) (P : List Int) (t : Int) : Prop where
  bad : usesErr l ≠ 0 → P = [] ∧ t = 0
  good : usesErr l = 0 → checkPlates l P t = (mostTo l l.length, 0)

theorem own_recs {w : World} {B : Nat} {e : TypeId} {v : Value} {l : List WRec} (h : w.ownsRow B e 3 v l.length (recFlat l)) : ∃ A c, v = .slice A l.length c ∧ ArrW w A l c := own_row h
end Go.Proofs.Ytjmaankkbdpikaa
/- Plain facts for chapter 7's functions: groups, a stint's work in two ways, candidates for the earliest start. Condition: records are in order. -/
namespace Go.Proofs.Ytjmaankkbdpikaa.Fs

/-- Spans within bounds, in any order. -/
structure Mild (l : List WRec) : Prop where
  len : l.length ≤ 41
  one : ∀ i, i < l.length → 0 ≤ (listW l i).beg ∧ (listW l i).beg ≤ (listW l i).fin ∧ (listW l i).fin ≤ 8640200000
theorem Fit.mild {l : List WRec} (h : Fit l) : Mild l := ⟨h.len, fun i hi => by have := h.one i hi; omega⟩
theorem overlap_mild {x : WRec} {a b : Int} (h0 : 0 ≤ x.beg) (h2 : x.fin ≤ 8640200000) : 0 ≤ overlapOf x a b ∧ overlapOf x a b ≤ 8640200000 := by
  unfold overlapOf
  omega
theorem workTo_mild {l : List WRec} (h : Mild l) (a b : Int) : ∀ k, k ≤ l.length → 0 ≤ workTo l a b k ∧ workTo l a b k ≤ 8640200000 * k
  | 0, _ => ⟨Int.le_refl _, Int.le_refl _⟩
  | k + 1, hk => by
    have ih := workTo_mild h a b k (by omega)
    have h1 := h.one k (by omega)
    have h2 := overlap_mild (a := a) (b := b) h1.1 h1.2.2
    rw [workTo_next]
    omega
theorem listW_drop (l : List WRec) (f i : Nat) : listW (l.drop f) i = listW l (f + i) := by
  unfold listW
  rw [List.getD_eq_getElem?_getD, List.getD_eq_getElem?_getD, List.getElem?_drop]
theorem xtake_len {l : List WRec} {n : Nat} (h : n ≤ l.length) : (l.take n).length = n := by rw [List.length_take]; omega
theorem xtake_at {l : List WRec} {n i : Nat} (h : i < n) : listW (l.take n) i = listW l i := by
  unfold listW
  rw [List.getD_eq_getElem?_getD, List.getD_eq_getElem?_getD, List.getElem?_take, if_pos h]
theorem Fit.take {l : List WRec} (h : Fit l) {n : Nat} (hn : n ≤ l.length) : Fit (l.take n) := by
  refine ⟨by rw [xtake_len hn]; have := h.len; omega, fun i hi => ?_, fun i hp hi => ?_⟩
  · rw [xtake_len hn] at hi
    rw [xtake_at hi]
    exact h.one i (by omega)
  · rw [xtake_len hn] at hi
    rw [xtake_at hi, xtake_at (by omega)]
    exact h.next i hp (by omega)
theorem Mild.drop {l : List WRec} (h : Mild l) (f : Nat) : Mild (l.drop f) := by
  refine ⟨by rw [List.length_drop]; have := h.len; omega, fun i hi => ?_⟩
  rw [List.length_drop] at hi
  rw [listW_drop]
  exact h.one (f + i) (by omega)
theorem fit_beg {l : List WRec} (h : Fit l) : ∀ k, k < l.length → ∀ i, i ≤ k → (listW l i).beg ≤ (listW l k).beg
  | 0, _, i, hi => by obtain rfl : i = 0 := by omega
                      exact Int.le_refl _
  | k + 1, hk, i, hi => by
    by_cases e : i = k + 1
    · subst e; exact Int.le_refl _
    · have h1 := fit_beg h k (by omega) i (by omega)
      have h2 := h.next (k + 1) (by omega) hk
      rw [Nat.add_sub_cancel] at h2
      have h3 := h.one k (by omega)
      omega
theorem fit_fin {l : List WRec} (h : Fit l) : ∀ k, k < l.length → ∀ i, i ≤ k → (listW l i).fin ≤ (listW l k).fin
  | 0, _, i, hi => by obtain rfl : i = 0 := by omega
                      exact Int.le_refl _
  | k + 1, hk, i, hi => by
    by_cases e : i = k + 1
    · subst e; exact Int.le_refl _
    · have h1 := fit_fin h k (by omega) i (by omega)
      have h2 := h.next (k + 1) (by omega) hk
      rw [Nat.add_sub_cancel] at h2
      have h3 := h.one (k + 1) hk
      omega
/-- The work of the records from f on, told as work in the span from its beginning to the last end. -/
theorem work_tail {l : List WRec} (h : Fit l) {f n : Nat} (hf : f ≤ n) (hn : n < l.length) : ∀ j, f + j ≤ n + 1 → workTo (l.drop f) (listW l f).beg (listW l n).fin j = lengthsTo l f (f + j)
  | 0, _ => (lengthsTo_self l f).symm
  | j + 1, hj => by
    have h1 := fit_beg h (f + j) (by omega) f (by omega)
    have h2 := fit_fin h n hn (f + j) (by omega)
    have h3 := h.one (f + j) (by omega)
    rw [workTo_next, work_tail h hf hn j (by omega), show f + (j + 1) = f + j + 1 from rfl, lengthsTo_next (by omega), listW_drop]
    unfold overlapOf
    omega
theorem stint_tail {l : List WRec} (h : Fit l) {brk : Int} {n : Nat} (hn : n + 1 = l.length) : workTo (l.drop (firstIn l brk n)) (listW l (firstIn l brk n)).beg (listW l n).fin (l.drop (firstIn l brk n)).length = stintOf l brk n := by
  have hf := firstIn_le l brk n
  rw [List.length_drop, work_tail h hf (by omega) _ (by omega), stintOf]
  congr 1
  omega
theorem goesOn_zero' (l : List WRec) (gap : Int) : goesOn l gap 0 = false := rfl
/-- The last group begins where firstIn says. -/
theorem groups_last (l : List WRec) (gap : Int) : ∀ k, ((groupsTo l gap (k + 1)).getLastD (0, 0)).1 = ((firstIn l gap k : Nat) : Int)
  | 0 => rfl
  | k + 1 => by
    rw [groupsTo]
    have hg := goesOn_succ l gap k
    by_cases h : (listW l (k + 1)).beg - (listW l k).fin < gap
    · rw [hg, if_pos (decide_eq_true h), List.getLastD_concat, firstIn, if_pos h]
      exact groups_last l gap k
    · rw [hg, if_neg (by simpa using h), List.getLastD_concat, firstIn, if_neg h]
theorem brokenAt_congrT {R : DRules} {l m : List WRec} {k : Nat} (h : ∀ i, i ≤ k → (listW l i).beg = (listW m i).beg ∧ (listW l i).fin = (listW m i).fin) : brokenAt R l k = brokenAt R m k := by
  have e : ∀ gap, firstIn l gap k = firstIn m gap k := fun gap => firstIn_congr gap k (fun i hi => (h i hi).1) (fun i hi => (h i (by omega)).2)
  have el : ∀ f n, n ≤ k + 1 → lengthsTo l f n = lengthsTo m f n := by
    intro f n
    induction n with
    | zero => intro _; rfl
    | succ n ih => intro hn; rw [lengthsTo, lengthsTo, ih (by omega), (h n (by omega)).1, (h n (by omega)).2]
  have ew : ∀ a b n, n ≤ k + 1 → workTo l a b n = workTo m a b n := by
    intro a b n
    induction n with
    | zero => intro _; rfl
    | succ n ih =>
      intro hn
      rw [workTo_next, workTo_next, ih (by omega)]
      unfold overlapOf
      rw [(h n (by omega)).1, (h n (by omega)).2]
  have hf := firstIn_le m R.rest k
  unfold brokenAt stintOf
  rw [e, e, el _ _ (Nat.le_refl _), (h k (Nat.le_refl _)).2, (h _ hf).1, ew _ _ _ (Nat.le_refl _)]
theorem brokenAt_upTo {R : DRules} {l : List WRec} {k : Nat} : brokenAt R (l.take (k + 1)) k = brokenAt R l k :=
  brokenAt_congrT fun i hi => by rw [xtake_at (by omega)]; exact ⟨rfl, rfl⟩
theorem with_who (R : DRules) (l : List WRec) (who : ByteArray) (s n : Int) : brokenAt R (l ++ [⟨who, s, s + n⟩]) l.length = brokenAt R (withTrip l s n) l.length := by
  refine brokenAt_congrT fun i hi => ?_
  unfold withTrip
  by_cases e : i < l.length
  · rw [listW_left e, listW_left e]; exact ⟨rfl, rfl⟩
  · obtain rfl : i = l.length := by omega
    rw [listW_last, listW_last]; exact ⟨rfl, rfl⟩
theorem work_more {l : List WRec} {who : ByteArray} {s n : Int} (hr : Right l) (hl : 0 < l.length → (listW l (l.length - 1)).fin ≤ s) (hn : 0 ≤ n) (hn' : n ≤ 604800) :
    workTo (l ++ [⟨who, s, s + n⟩]) (s + n - 604800) (s + n) (l.length + 1) = weekly l s n := by
  rw [workTo_next, listW_last, workTo_congr (m := l) _ _ l.length (fun i hi => listW_left hi), weekly_is hr hn hl]
  unfold overlapOf weekly
  dsimp only
  omega
theorem more_mild {l : List WRec} {who : ByteArray} {s n : Int} (hr : Right l) (hl : l.length < 41) (h0 : 0 ≤ s) (h1 : s ≤ 8640000000) (h2 : 0 ≤ n) (h3 : n ≤ 200000) : Mild (l ++ [⟨who, s, s + n⟩]) := by
  refine ⟨by simp; omega, fun i hi => ?_⟩
  by_cases e : i < l.length
  · rw [listW_left e]; have := hr.one i e; omega
  · obtain rfl : i = l.length := by simp at hi; omega
    rw [listW_last]
    show 0 ≤ s ∧ s ≤ s + n ∧ s + n ≤ 8640200000
    omega
theorem more_fit {l : List WRec} {who : ByteArray} {s n : Int} (hr : Right l) (hl : l.length < 41) (h0 : 0 ≤ s) (h1 : s ≤ 8640000000) (h2 : 0 < n) (h3 : n ≤ 200000) (h4 : 0 < l.length → (listW l (l.length - 1)).fin ≤ s) : Fit (l ++ [⟨who, s, s + n⟩]) := by
  refine ⟨by simp; omega, fun i hi => ?_, fun i hp hi => ?_⟩
  · by_cases e : i < l.length
    · rw [listW_left e]; have := hr.one i e; omega
    · obtain rfl : i = l.length := by simp at hi; omega
      rw [listW_last]
      show 0 ≤ s ∧ s < s + n ∧ s + n ≤ 8640200000
      omega
  · by_cases e : i < l.length
    · rw [listW_left e, listW_left (by omega)]; exact hr.next i hp e
    · obtain rfl : i = l.length := by simp at hi; omega
      rw [listW_last, listW_left (by omega)]
      exact h4 hp

/-! ### the earliest start among a few candidates -/
/-- What the candidates are: all in the list, and nothing else. -/
structure Cands (R : DRules) (l : List WRec) (t : DTrip) (W : Int) (C : List Int) : Prop where
  start : t.start ∈ C
  week : W ∈ C
  brk : 0 < l.length → lastFin l + R.brk ∈ C
  rest : 0 < l.length → lastFin l + R.rest ∈ C
theorem cand_step {R : DRules} {l : List WRec} {t : DTrip} {W : Int} {C : List Int} (h : Ready R l t) (hC : Cands R l t W C) (hW : WeekAt R l t t.start (endOf t.start) W)
    {z : Int} (h1 : t.start ≤ z) (h2 : z ≤ endOf t.start) (hz : breaks R l (fromAt t z) t.hi = 0) :
    ∃ c, c ∈ C ∧ t.start ≤ c ∧ c ≤ z ∧ breaks R l (fromAt t c) t.hi = 0 := by
  have hWz : W ≤ z := by
    by_cases e : z < W
    · exact absurd hz (hW.none h (Int.le_refl _) h1 e)
    · omega
  have low := hW.low
  -- the greatest candidate up to z
  have key : ∀ c, t.start ≤ c → c ≤ z → W ≤ c → (0 < l.length → lastFin l + R.brk ≤ z → lastFin l + R.brk ≤ c) → (0 < l.length → lastFin l + R.rest ≤ z → lastFin l + R.rest ≤ c) → breaks R l (fromAt t c) t.hi = 0 := by
    intro c c1 c2 c3 c4 c5
    refine seg_ok h.right (h.last c1) c2 h.hi0 h.hi1 (fun hp => ?_) (fun hp => ?_) (fun hp => ?_) hz
    · have := c4 hp
      unfold lastFin at this
      constructor <;> intro _ <;> omega
    · have := c5 hp
      unfold lastFin at this
      constructor <;> intro _ <;> omega
    · rcases hW.here with e | e
      · have : weekly l c t.hi ≤ R.week := by
          -- W is the end itself, so c and z are it
          have hcz : c = z := by omega
          subst hcz
          have hz' := hz
          by_cases hw : R.week < weekly l c t.hi
          · exact absurd hz' (week_no h.right (h.last c1) hp h.hi1 hw)
          · omega
        exact this
      · exact Int.le_trans (weekly_falls h.right c3 (h.last low)) e
  by_cases hp : 0 < l.length
  · have m1 := hC.brk hp
    have m2 := hC.rest hp
    have ho := h.order
    by_cases e2 : lastFin l + R.rest ≤ z
    · by_cases e3 : lastFin l + R.rest ≤ W
      · exact ⟨W, hC.week, low, hWz, key W low hWz (Int.le_refl _) (fun _ _ => by omega) (fun _ _ => e3)⟩
      · exact ⟨lastFin l + R.rest, m2, by omega, e2, key _ (by omega) e2 (by omega) (fun _ _ => by omega) (fun _ _ => Int.le_refl _)⟩
    · by_cases e1 : lastFin l + R.brk ≤ z
      · by_cases e3 : lastFin l + R.brk ≤ W
        · exact ⟨W, hC.week, low, hWz, key W low hWz (Int.le_refl _) (fun _ _ => e3) (fun _ h => absurd h e2)⟩
        · exact ⟨lastFin l + R.brk, m1, by omega, e1, key _ (by omega) e1 (by omega) (fun _ _ => Int.le_refl _) (fun _ h => absurd h e2)⟩
      · exact ⟨W, hC.week, low, hWz, key W low hWz (Int.le_refl _) (fun _ h => absurd h e1) (fun _ h => absurd h e2)⟩
  · exact ⟨W, hC.week, low, hWz, key W low hWz (Int.le_refl _) (fun h => absurd h hp) (fun h => absurd h hp)⟩
/-- The first good one of ascending candidates is the earliest start. -/
theorem cand_found {R : DRules} {l : List WRec} {t : DTrip} {W : Int} {C : List Int} (h : Ready R l t) (hC : Cands R l t W C) (hW : WeekAt R l t t.start (endOf t.start) W) {i : Nat}
    (hs : ∀ a b, a < b → b < C.length → listI C a ≤ listI C b) (hb : ∀ j, j < i → (within (listI C j) t.start (endOf t.start) = false ∨ breaks R l (fromAt t (listI C j)) t.hi ≠ 0))
    (hw : within (listI C i) t.start (endOf t.start) = true) (hok : breaks R l (fromAt t (listI C i)) t.hi = 0) : Earliest R l t (listI C i) := by
  have hw' := within_iff.1 hw
  refine ⟨fun _ => ⟨hw'.1, hw'.2, hok⟩, fun z h1 h2 h3 hz => ?_⟩
  have hst := h.behind.from0
  have h3 : z < listI C i := by omega
  obtain ⟨c, hc, c1, c2, c3⟩ := cand_step h hC hW h1 h2 hz
  obtain ⟨j, hj, e⟩ := List.getElem_of_mem hc
  have ej : listI C j = c := by
    unfold listI
    rw [List.getD_eq_getElem?_getD, List.getElem?_eq_getElem hj, e]
    rfl
  by_cases hji : j < i
  · rcases hb j hji with hh | hh
    · rw [ej, within_iff.2 ⟨c1, by omega⟩] at hh
      exact absurd hh (by decide)
    · rw [ej] at hh
      exact hh c3
  · have : listI C i ≤ listI C j := by
      by_cases e5 : i = j
      · subst e5; exact Int.le_refl _
      · exact hs i j (by omega) hj
    omega
theorem cand_none {R : DRules} {l : List WRec} {t : DTrip} {W : Int} {C : List Int} (h : Ready R l t) (hC : Cands R l t W C) (hW : WeekAt R l t t.start (endOf t.start) W)
    (hb : ∀ j, j < C.length → (within (listI C j) t.start (endOf t.start) = false ∨ breaks R l (fromAt t (listI C j)) t.hi ≠ 0)) : Earliest R l t (-1) := by
  refine ⟨fun hh => absurd rfl hh, fun z h1 h2 _ hz => ?_⟩
  obtain ⟨c, hc, c1, c2, c3⟩ := cand_step h hC hW h1 h2 hz
  obtain ⟨j, hj, e⟩ := List.getElem_of_mem hc
  have ej : listI C j = c := by
    unfold listI
    rw [List.getD_eq_getElem?_getD, List.getElem?_eq_getElem hj, e]
    rfl
  rcases hb j hj with hh | hh
  · rw [ej, within_iff.2 ⟨c1, by omega⟩] at hh
    exact absurd hh (by decide)
  · rw [ej] at hh
    exact hh c3
end Go.Proofs.Ytjmaankkbdpikaa.Fs

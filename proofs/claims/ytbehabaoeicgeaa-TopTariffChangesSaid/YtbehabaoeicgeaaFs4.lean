/- The fare by the law and the utmost one, plainly, and that all its numbers are in their ranges. Condition: the trip is accepted. -/
import Derived.Test.YtbehabaoeicgeaaW9a
import Derived.Test.YtbehabaoeicgeaaW9b
import Derived.Test.YtbehabaoeicgeaaW5d
namespace Go.Proofs.Ytbehabaoeicgeaa.Fs
open Go.RowKit

theorem tar_sound {T : Tar} (h : errTar T = 0) : (isName T.name = true ∧ (1 ≤ T.unit ∧ T.unit ≤ 999999999) ∧ (0 ≤ T.step ∧ T.step ≤ 100000) ∧ T.zones.length ≠ 0) ∧ ∀ k, k < 5 → errList T k = 0 := by
  unfold errTar at h
  by_cases h1 : errHead T = 0
  · rw [if_neg (fun hh => hh h1)] at h
    refine ⟨?_, fst_zero h⟩
    unfold errHead at h1
    split at h1
    · simp at h1
    · rename_i hn
      split at h1
      · simp at h1
      · rename_i hw
        split at h1
        · simp at h1
        · rename_i hz
          simp at hn hw
          exact ⟨by simpa using hn, within_true hw.1, within_true hw.2, hz⟩
  · rw [if_pos h1] at h
    exact absurd h h1
theorem list_sound {T : Tar} (h : errTar T = 0) (k : Nat) (hk : k < 5) : listLen T k ≤ listMost k ∧ ∀ i, i < listLen T k → listErr T k i = 0 := by
  have := (tar_sound h).2 k hk
  unfold errList at this
  split at this
  · simp at this
  · exact ⟨by omega, fst_zero this⟩
theorem rule_sound {T : Tar} (h : errTar T = 0) : T.rules.length ≤ 12 ∧ ∀ i, i < T.rules.length →
    (0 ≤ (listR T.rules i).start ∧ (listR T.rules i).start ≤ 100000) ∧ (0 ≤ (listR T.rules i).metre ∧ (listR T.rules i).metre ≤ 1000000) ∧ (0 ≤ (listR T.rules i).second ∧ (listR T.rules i).second ≤ 1000000) := by
  obtain ⟨a, b⟩ := list_sound h 2 (by omega)
  refine ⟨a, fun i hi => ?_⟩
  have hb : errRule T i = 0 := b i hi
  unfold errRule at hb
  simp only at hb
  repeat (split at hb; · first | (exfalso; revert hb; decide) | (exfalso; exact (by assumption : _ ≠ _) hb))
  unfold errTerms at hb
  split at hb
  · rename_i hw
    simp only [Bool.and_eq_true] at hw
    exact ⟨within_true hw.1.1.2, within_true hw.1.2, within_true hw.2⟩
  · simp at hb
theorem extra_sound {T : Tar} (h : errTar T = 0) : T.extras.length ≤ 6 ∧ ∀ i, i < T.extras.length → 0 ≤ (listE T.extras i).amount ∧ (listE T.extras i).amount ≤ 100000 := by
  obtain ⟨a, b⟩ := list_sound h 3 (by omega)
  refine ⟨a, fun i hi => ?_⟩
  have hb : errExtra T i = 0 := b i hi
  unfold errExtra at hb
  split at hb
  · exact absurd hb (by assumption)
  · split at hb
    · exact within_true (by assumption)
    · simp at hb
theorem fix_sound {T : Tar} (h : errTar T = 0) : T.fixed.length ≤ 16 ∧ ∀ i, i < T.fixed.length → 0 ≤ (listF T.fixed i).amount ∧ (listF T.fixed i).amount ≤ 100000 := by
  obtain ⟨a, b⟩ := list_sound h 4 (by omega)
  refine ⟨a, fun i hi => ?_⟩
  have hb : errFix T i = 0 := b i hi
  unfold errFix at hb
  split at hb
  · simp at hb
  · split at hb
    · simp at hb
    · rename_i hw
      simp at hw
      exact within_true hw
theorem extras_sound {T : Tar} {l : List Int} (h : (errExtras' T l).2 = 0) : l.length = T.extras.length ∧ ∀ k, k < l.length → 0 ≤ listI l k ∧ listI l k ≤ 20 := by
  unfold errExtras' at h
  split at h
  · simp at h
  · rename_i hl
    refine ⟨by omega, fun k hk => ?_⟩
    have hb : extraBad l k = 0 := fst_zero h k hk
    unfold extraBad at hb
    split at hb
    · exact within_true (by assumption)
    · simp at hb
theorem sumTo_bd {f : Nat → Int} {n : Nat} {m : Int} (h : ∀ k, k < n → 0 ≤ f k ∧ f k ≤ m) : 0 ≤ sumTo f n ∧ sumTo f n ≤ n * m := by
  induction n with
  | zero => simp [sumTo]
  | succ n ih =>
    have a := ih fun k hk => h k (by omega)
    have b := h n (by omega)
    rw [sumTo]
    have : ((n + 1 : Nat) : Int) * m = n * m + m := by rw [Int.natCast_add, Int.add_mul]; simp
    omega
theorem sumTo_le {f g : Nat → Int} {n : Nat} (h : ∀ k, k < n → f k ≤ g k) : sumTo f n ≤ sumTo g n := by
  induction n with
  | zero => simp [sumTo]
  | succ n ih =>
    have a := ih fun k hk => h k (by omega)
    have b := h n (by omega)
    rw [sumTo, sumTo]
    omega
theorem sumTo_congr {f g : Nat → Int} {n : Nat} (h : ∀ k, k < n → f k = g k) : sumTo f n = sumTo g n := by
  induction n with
  | zero => rfl
  | succ n ih => rw [sumTo, sumTo, ih fun k hk => h k (by omega), h n (by omega)]

def startC (T : Tar) (rl : List Int) : Int := (listR T.rules (listI rl 0).toNat).start
def extrasC (T : Tar) (X : Trip) : Int := sumTo (extraCents T X.extras) X.extras.length
def drivenC (q : Nat) (T : Tar) (X : Trip) (rl : List Int) : Int := sumTo (listI (ptL q T rl X.segs)) X.segs.length / T.unit * T.step
def fixedC (T : Tar) (X : Trip) : Int × Bool := fixedFare T (listG X.segs 0).zone (listG X.segs (X.segs.length - 1)).zone
structure Fare where
  start : Int
  driven : Int
  extras : Int
  total : Int
def fare0 : Fare := ⟨0, 0, 0, 0⟩
/-- The fare by reckoning q, and its error. -/
def fareV (q : Nat) (T : Tar) (X : Trip) (rl : List Int) : Fare :=
  if X.fixed then (if (fixedC T X).2 then ⟨0, (fixedC T X).1, extrasC T X, (fixedC T X).1 + extrasC T X⟩ else fare0)
  else ⟨startC T rl, drivenC q T X rl, extrasC T X, startC T rl + drivenC q T X rl + extrasC T X⟩
def fareE (T : Tar) (X : Trip) : Int := if X.fixed then (if (fixedC T X).2 then 0 else 12) else 0

/-- All rules are the tariff's. -/
def RulesIn (T : Tar) (X : Trip) (rl : List Int) : Prop := rl.length = X.segs.length ∧ ∀ k, k < X.segs.length → 0 ≤ listI rl k ∧ listI rl k < T.rules.length
theorem pt_ok {T : Tar} {X : Trip} {rl : List Int} (h : (checkTrip' T X).2 = 0) (hr : RulesIn T X rl) (k : Nat) (hk : k < X.segs.length) :
    (0 ≤ ptM T rl X.segs k ∧ ptM T rl X.segs k ≤ 100000000000) ∧ (0 ≤ ptS T rl X.segs k ∧ ptS T rl X.segs k ≤ 36000000000) := by
  obtain ⟨h1, h2, h3, h4⟩ := trip_ok h
  obtain ⟨-, -, hs⟩ := segs_ok h4
  obtain ⟨⟨a0, a1⟩, b0, b1⟩ := hs k hk
  obtain ⟨-, hu⟩ := rule_sound h1
  obtain ⟨r0, r1⟩ := hr.2 k hk
  obtain ⟨-, ⟨m0, m1⟩, s0, s1⟩ := hu (listI rl k).toNat (by omega)
  unfold ptM ptS
  refine ⟨⟨Int.mul_nonneg m0 a0, ?_⟩, Int.mul_nonneg s0 (by omega), ?_⟩
  · calc _ ≤ 1000000 * (listG X.segs k).metres := Int.mul_le_mul_of_nonneg_right m1 a0
      _ ≤ 1000000 * 100000 := Int.mul_le_mul_of_nonneg_left a1 (by omega)
      _ = _ := by decide
  · calc _ ≤ 1000000 * (listG X.segs k).seconds := Int.mul_le_mul_of_nonneg_right s1 (by omega)
      _ ≤ 1000000 * 36000 := Int.mul_le_mul_of_nonneg_left b1 (by omega)
      _ = _ := by decide
theorem reck_bd (q : Nat) {a b : Int} (h0 : 0 ≤ a) (h1 : a ≤ 100000000000) (h2 : 0 ≤ b) (h3 : b ≤ 36000000000) : 0 ≤ reck q a b ∧ reck q a b ≤ 136000000000 := by
  match q with
  | 0 => show 0 ≤ max a b ∧ max a b ≤ 136000000000; omega
  | q + 1 => show 0 ≤ a + b ∧ a + b ≤ 136000000000; omega
theorem ptsum_ok {q : Nat} {T : Tar} {X : Trip} {rl : List Int} (h : (checkTrip' T X).2 = 0) (hr : RulesIn T X rl) (k : Nat) (hk : k ≤ X.segs.length) :
    0 ≤ sumTo (listI (ptL q T rl X.segs)) k ∧ sumTo (listI (ptL q T rl X.segs)) k ≤ 8160000000000 := by
  obtain ⟨h1, h2, h3, h4⟩ := trip_ok h
  obtain ⟨-, h60, -⟩ := segs_ok h4
  have := sumTo_bd (f := listI (ptL q T rl X.segs)) (n := k) (m := 136000000000) fun i hi => by
    rw [ptL_at (by omega)]
    obtain ⟨⟨a0, a1⟩, b0, b1⟩ := pt_ok h hr i (by omega)
    exact reck_bd q a0 a1 b0 b1
  omega
theorem driven_ok {q : Nat} {T : Tar} {X : Trip} {rl : List Int} (h : (checkTrip' T X).2 = 0) (hr : RulesIn T X rl) : 0 ≤ drivenC q T X rl ∧ drivenC q T X rl ≤ 816000000000000000 := by
  obtain ⟨h1, -⟩ := trip_ok h
  obtain ⟨⟨-, ⟨u0, u1⟩, ⟨s0, s1⟩, -⟩, -⟩ := tar_sound h1
  obtain ⟨a, b⟩ := ptsum_ok (q := q) h hr X.segs.length (Nat.le_refl _)
  have d0 : 0 ≤ sumTo (listI (ptL q T rl X.segs)) X.segs.length / T.unit := Int.ediv_nonneg a (by omega)
  have d1 : sumTo (listI (ptL q T rl X.segs)) X.segs.length / T.unit ≤ 8160000000000 := Int.le_trans (Int.ediv_le_self _ a) b
  unfold drivenC
  refine ⟨Int.mul_nonneg d0 s0, ?_⟩
  calc _ ≤ 8160000000000 * T.step := Int.mul_le_mul_of_nonneg_right d1 s0
    _ ≤ 8160000000000 * 100000 := Int.mul_le_mul_of_nonneg_left s1 (by omega)
    _ = _ := by decide
theorem cents_ok {T : Tar} {X : Trip} (h : (checkTrip' T X).2 = 0) (k : Nat) (hk : k < X.extras.length) : 0 ≤ extraCents T X.extras k ∧ extraCents T X.extras k ≤ 2000000 := by
  obtain ⟨h1, -, h3, -⟩ := trip_ok h
  obtain ⟨e1, e2⟩ := extras_sound h3
  obtain ⟨-, e3⟩ := extra_sound h1
  obtain ⟨a0, a1⟩ := e2 k hk
  obtain ⟨b0, b1⟩ := e3 k (by omega)
  unfold extraCents
  refine ⟨Int.mul_nonneg b0 a0, ?_⟩
  calc _ ≤ 100000 * listI X.extras k := Int.mul_le_mul_of_nonneg_right b1 a0
    _ ≤ 100000 * 20 := Int.mul_le_mul_of_nonneg_left a1 (by omega)
    _ = _ := by decide
theorem extrasC_ok {T : Tar} {X : Trip} (h : (checkTrip' T X).2 = 0) (k : Nat) (hk : k ≤ X.extras.length) : 0 ≤ sumTo (extraCents T X.extras) k ∧ sumTo (extraCents T X.extras) k ≤ 12000000 := by
  obtain ⟨h1, -, h3, -⟩ := trip_ok h
  obtain ⟨e1, -⟩ := extras_sound h3
  obtain ⟨e2, -⟩ := extra_sound h1
  have := sumTo_bd (f := extraCents T X.extras) (n := k) (m := 2000000) fun i hi => cents_ok h i (by omega)
  omega
theorem fixed_sound {T : Tar} {a b : Int} (h : errTar T = 0) : 0 ≤ (fixedFare T a b).1 ∧ (fixedFare T a b).1 ≤ 100000 := by
  unfold fixedFare
  rcases fixIndex_bd T.fixed a b with hx | ⟨k, hk, hx⟩
  · rw [hx, if_pos (by omega)]; exact ⟨Int.le_refl _, by decide⟩
  · rw [hx, if_neg (by omega)]
    exact (fix_sound h).2 _ (by simpa using hk)
theorem startC_ok {T : Tar} {X : Trip} {rl : List Int} (h : (checkTrip' T X).2 = 0) (hr : RulesIn T X rl) : 0 ≤ startC T rl ∧ startC T rl ≤ 100000 := by
  obtain ⟨h1, -, -, h4⟩ := trip_ok h
  obtain ⟨n1, -, -⟩ := segs_ok h4
  obtain ⟨r0, r1⟩ := hr.2 0 (by omega)
  exact ((rule_sound h1).2 (listI rl 0).toNat (by omega)).1
end Go.Proofs.Ytbehabaoeicgeaa.Fs

/- The reference's latest time to set out. Conditions: the net is right; the places are places; the time is small. -/
import Derived.Test.YtjmaankkbdpikaaT50
import Derived.Test.YtjmaankkbdpikaaN2
import Derived.Test.YtjmaankkbdpikaaT62
import Derived.Test.YtjmaankkbdpikaaT53
import Derived.Test.YtjmaankkbdpikaaT9
import Derived.Deep.RegionHeld3
import Derived.Deep.CutRange
import Derived.Deep.CutBlock
namespace Go.Proofs.Ytjmaankkbdpikaa
open Go.RowKit Fs

/-- Where one way leads, it leads at any time, by any steps. -/
theorem Fs.search_reach {N : Net} {nx nx' : Nat → Int → Int} (hN : Joined N) (hg : Good N nx) (hg' : Good N nx') {src : Nat} (hs : src < N.places.length) {a b : Int} (ha : 0 ≤ a) (hb : 0 ≤ b) :
    ∀ z, z < N.places.length → listI (search N src a nx).labels z ≠ -1 → listI (search N src b nx').labels z ≠ -1 := by
  have A := search_found hN hg hs ha
  have B := search_found hN hg' hs hb
  generalize search N src a nx = S at *
  generalize search N src b nx' = T at *
  obtain ⟨rk, ht⟩ := A.tree
  have key : ∀ n z, rk z ≤ n → z < N.places.length → listI S.labels z ≠ -1 → listI T.labels z ≠ -1 := by
    intro n
    induction n with
    | zero =>
      intro z hr hz hl
      by_cases e : listI S.last z = -1
      · rcases A.back z hz e with h1 | h1
        · subst h1; rw [B.own]; omega
        · exact absurd h1 hl
      · obtain ⟨-, i, -, -, -, -, -, h6⟩ := ht z hz e
        omega
    | succ n ih =>
      intro z hr hz hl
      by_cases e : listI S.last z = -1
      · rcases A.back z hz e with h1 | h1
        · subst h1; rw [B.own]; omega
        · exact absurd h1 hl
      · obtain ⟨-, i, h1, h2, h3, h4, h5, h6⟩ := ht z hz e
        have hj := hN i h1
        have k1 := ih (listD N.roads i).src.toNat (by omega) (by omega) h4
        have hst := B.step i h1 k1
        rw [h3, Int.toNat_natCast] at hst
        exact hst.1
  exact fun z => key (rk z) z (Nat.le_refl _)
def Fs.lateAt (N : Net) (f t : Nat) (m : Int) : Int := listI (search N f m (latest N)).labels t
def Fs.NoWay (N : Net) (f t : Nat) (a : Int) : Prop := listI (search N f 0 (soonest N)).labels t < 0 ∨ a < lateAt N f t 0
def Fs.LatestRef (N : Net) (f t : Nat) (a r : Int) : Prop :=
  (NoWay N f t a ∧ r = -1) ∨ (¬ NoWay N f t a ∧ 0 ≤ r ∧ r ≤ 604800 ∧ lateAt N f t r ≤ a ∧ ∀ m, r < m → m ≤ 604800 → a < lateAt N f t m)
theorem Fs.late_up {N : Net} (hE : netErr N = 0) {f t : Nat} (hf : f < N.places.length) (ht : t < N.places.length) (h : ¬ listI (search N f 0 (soonest N)).labels t < 0) {x y : Int} (hx : 0 ≤ x) (hxy : x ≤ y) :
    x ≤ lateAt N f t x ∧ lateAt N f t x ≤ lateAt N f t y := by
  have r := search_reach (net_joined hE) (soonest_good hE) (latest_good hE) hf (Int.le_refl 0) (show 0 ≤ y by omega) t ht (by omega)
  have r2 := search_reach (net_joined hE) (soonest_good hE) (latest_good hE) hf (Int.le_refl 0) hx t ht (by omega)
  have l := (search_found (net_joined hE) (latest_good hE) hf hx).least t ht
  have := (search_later (net_joined hE) (latest_good hE) hf hx hxy t ht r).2
  unfold lateAt
  omega

end Go.Proofs.Ytjmaankkbdpikaa
/- The law of the latest time to set out. No condition. -/
namespace Go.Proofs.Ytjmaankkbdpikaa
open Go.RowKit Fs

theorem Fs.isPlace_is {N : Net} {z : Int} (h : isPlace N z = true) : 0 ≤ z ∧ z < N.places.length := by
  have h := Fs.within_iff.1 h; exact ⟨h.1, by omega⟩
theorem Fs.isPlace_yes {N : Net} {z : Nat} (h : z < N.places.length) : isPlace N z = true := Fs.within_iff.2 ⟨by omega, by omega⟩
theorem Fs.trip_zero {N : Net} {f t : Nat} {m : Int} (hf : f < N.places.length) (ht : t < N.places.length) (h : 0 ≤ m ∧ m ≤ 604800) : tripErr N f t m = 0 := by
  rw [trip_is, if_pos ⟨isPlace_yes hf, isPlace_yes ht⟩]
  exact if_pos (Fs.within_iff.2 h)
theorem Fs.est_is (N : Net) (f t m : Int) : estErr N f t m = if netErr N = 0 then tripErr N f t m else netErr N := fst2 _ _
theorem Fs.way_there {N : Net} (hE : netErr N = 0) {f t : Nat} (hf : f < N.places.length) (ht : t < N.places.length) (h : ¬ listI (search N f 0 (soonest N)).labels t < 0) {m : Int} (hm : 0 ≤ m) :
    listI (search N f m (soonest N)).labels t ≠ -1 ∧ listI (search N f m (latest N)).labels t ≠ -1 :=
  ⟨search_reach (net_joined hE) (soonest_good hE) (soonest_good hE) hf (Int.le_refl 0) hm t ht (by omega), search_reach (net_joined hE) (soonest_good hE) (latest_good hE) hf (Int.le_refl 0) hm t ht (by omega)⟩
theorem Fs.est_ok {N : Net} (hE : netErr N = 0) {f t : Nat} (hf : f < N.places.length) (ht : t < N.places.length) (h : ¬ listI (search N f 0 (soonest N)).labels t < 0) {m : Int} (hm : 0 ≤ m ∧ m ≤ 604800) :
    estimate N f t m = ((listI (search N f m (soonest N)).labels t, lateAt N f t m), 0) := by
  have e : estErr N f t m = 0 := by rw [est_is, if_pos hE]; exact trip_zero hf ht hm
  obtain ⟨w1, w2⟩ := way_there hE hf ht h hm.1
  unfold estimate
  rw [if_neg (fun h => h e), Int.toNat_natCast]
  exact if_neg (fun hh => hh.elim w1 w2)
theorem Fs.latest_same {N : Net} (hE : netErr N = 0) {f t : Nat} (hf : f < N.places.length) (ht : t < N.places.length) {a x y r : Int} (ha : 0 ≤ a ∧ a ≤ 604800) (hl : LatestIs N f t a x y) (hr : LatestRef N f t a r) :
    (NoWay N f t a ∧ r = -1 ∧ x = 0 ∧ y = 12) ∨ (¬ NoWay N f t a ∧ 0 ≤ r ∧ r ≤ 604800 ∧ x = r ∧ y = 0 ∧ lateAt N f t r ≤ a ∧ (r + 1 ≤ 604800 → a < lateAt N f t (r + 1))) := by
  have e0 : estErr N f t a = 0 := by rw [est_is, if_pos hE]; exact trip_zero hf ht ha
  rcases hl with ⟨h, -⟩ | ⟨-, k, k1, k2, k3, k4⟩
  · exact absurd e0 h
  · simp only [Int.toNat_natCast] at k2 k3
    rcases hr with ⟨n, rfl⟩ | ⟨n, r0, r1, r2, r3⟩
    · left
      refine ⟨n, rfl, ?_⟩
      have t0 : tooLate N f t a 0 = true := by
        unfold tooLate
        rcases n with n | n
        · have : listI (search N f ((0 : Nat) : Int) (latest N)).labels t = -1 := by
            by_cases e : listI (search N f ((0 : Nat) : Int) (latest N)).labels t = -1
            · exact e
            · have := search_reach (net_joined hE) (latest_good hE) (soonest_good hE) hf (show (0 : Int) ≤ ((0 : Nat) : Int) by decide) (Int.le_refl 0) t ht e
              have l := (search_found (net_joined hE) (soonest_good hE) hf (Int.le_refl 0)).least t ht
              omega
          rw [this]; rfl
        · have : decide (a < listI (search N f ((0 : Nat) : Int) (latest N)).labels t) = true := decide_eq_true n
          rw [this, Bool.or_true]
      have k0 : k = 0 := by
        rcases Nat.eq_zero_or_pos k with h | h
        · exact h
        · have := k2 0 h; rw [t0] at this; cases this
      rcases k4 with ⟨-, h1, h2⟩ | ⟨h, -⟩
      · exact ⟨h1, h2⟩
      · exact absurd k0 h
    · right
      have hw : ¬ listI (search N f 0 (soonest N)).labels t < 0 := fun h => n (.inl h)
      have u1 := (late_up hE hf ht hw r0 (Int.le_refl r)).1
      have tl : ∀ i : Nat, tooLate N f t a i = decide (a < lateAt N f t i) := fun i => by
        unfold tooLate
        rw [decide_eq_false (way_there hE hf ht hw (show (0 : Int) ≤ (i : Int) by omega)).2, Bool.false_or]
        rfl
      obtain ⟨q, hq⟩ : ∃ q : Nat, r = q := ⟨_, (Int.toNat_of_nonneg r0).symm⟩
      subst hq
      have g1 : q < k := by
        rcases Nat.lt_or_ge q k with h | h
        · exact h
        · have := k3 q h (by omega)
          rw [tl] at this
          have := of_decide_eq_true this
          omega
      have g2 : k = q + 1 := by
        rcases Nat.lt_or_ge (q + 1) k with h | h
        · have h1 := k2 (k - 1) (by omega)
          rw [tl] at h1
          have h1 := of_decide_eq_false h1
          have := r3 ((k - 1 : Nat) : Int) (by omega) (by omega)
          omega
        · omega
      rcases k4 with ⟨h, -⟩ | ⟨-, h1, h2⟩
      · omega
      · exact ⟨n, r0, r1, by omega, h2, r2, fun h => r3 _ (by omega) h⟩

end Go.Proofs.Ytjmaankkbdpikaa
/- The law of heights: which are accepted. No condition. -/
namespace Go.Proofs.Ytjmaankkbdpikaa
open Go.RowKit Fs

def Fs.noPlace (N : Net) (i : Int) : Int := if isPlace N i then 0 else 6
theorem Fs.fst3 (x y z : Int) : fst (listI [x, y, z]) 3 = if x = 0 then (if y = 0 then z else y) else x := by
  by_cases h : x = 0
  · rw [if_pos h]
    by_cases h2 : y = 0
    · rw [if_pos h2]
      by_cases h3 : z = 0
      · rw [h, h2, h3]; rfl
      · exact (fst_hit (f := listI [x, y, z]) (k := 2) (by decide) (fun j hj => by rcases (show j = 0 ∨ j = 1 by omega) with rfl | rfl; exact h; exact h2) h3).1
    · rw [if_neg h2]
      exact (fst_hit (f := listI [x, y, z]) (k := 1) (by decide) (fun j hj => by obtain rfl : j = 0 := (by omega); exact h) h2).1
  · rw [if_neg h]
    exact (fst_hit (f := listI [x, y, z]) (k := 0) (by decide) (fun j hj => absurd hj (Nat.not_lt_zero _)) h).1
theorem Fs.chHeights_net {N : Net} {x y : Int} {l : List Int} (h : netErr N ≠ 0) : chHeights N x y l = (0, netErr N) := by
  have : chErr N x y l = netErr N := by unfold chErr; rw [fst3, if_neg h]
  unfold chHeights
  rw [this, if_neg h]
theorem Fs.chHeights_place {N : Net} {x y : Int} {l : List Int} (h : netErr N = 0) (h2 : ¬ (isPlace N x = true ∧ isPlace N y = true)) : chHeights N x y l = (0, 6) := by
  have : chErr N x y l = 6 := by unfold chErr; rw [fst3, if_pos h, place_two, if_neg h2]; rfl
  unfold chHeights
  rw [this]
  rfl
theorem Fs.isPlace_in {N : Net} {z : Int} (h : isPlace N z = true) : 0 ≤ z ∧ z < N.places.length := by
  have h := Fs.within_iff.1 h; exact ⟨h.1, by omega⟩

end Go.Proofs.Ytjmaankkbdpikaa

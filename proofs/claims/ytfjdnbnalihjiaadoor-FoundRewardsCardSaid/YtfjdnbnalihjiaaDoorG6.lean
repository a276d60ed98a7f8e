/- Chains: the reference's CheckChain, ChainErr, until, HolderAt, StateAt, RightAt; RewardOf. Conditions: the chain is right, or short. -/
import Derived.Test.YtfjdnbnalihjiaaDoorG5
namespace Go.Proofs.YtfjdnbnalihjiaaDoor
open Go.RowKit Fs

theorem Fs.evt_day {x : Thg} {l : List Evt} {k : Nat} (h : evtAt x l k = 0) : 0 ≤ (lEvt l k).day ∧ (lEvt l k).day ≤ 100000 := by
  unfold evtAt at h
  by_cases h0 : (lEvt l k).item ≠ x.name
  · rw [if_pos h0] at h; exact absurd h (by decide)
  · rw [if_neg h0] at h
    by_cases h1 : isDay (lEvt l k).day = false
    · rw [if_pos h1] at h; exact absurd h (by decide)
    · exact Fs.within_iff.1 (show within (lEvt l k).day 0 100000 = true by simpa [isDay] using h1)
theorem Fs.chain_hit {x : Thg} {l : List Evt} {k : Nat} {e : Int} (h0 : thgErr x = 0) (h : ¬ 30 < l.length) (hk : k < l.length) (h1 : ∀ j, j < k → evtAt x l j = 0) (h2 : evtAt x l k = e) (h3 : e ≠ 0) : chainErr x l = e ∧ chainAt x l = k := by
  unfold chainErr chainAt
  rw [if_neg (fun hh => hh h0), if_neg h, if_neg (fun hh => hh h0), if_neg h]
  have := fst_hit hk h1 (by rw [h2]; exact h3)
  exact ⟨this.1.trans h2, this.2⟩
theorem Fs.chain_ok {x : Thg} {l : List Evt} (h : chainErr x l = 0) : thgErr x = 0 ∧ l.length ≤ 30 ∧ ∀ j, j < l.length → evtAt x l j = 0 := by
  unfold chainErr at h
  by_cases h0 : thgErr x = 0
  · rw [if_neg (fun hh => hh h0)] at h
    by_cases h1 : 30 < l.length
    · rw [if_pos h1] at h; exact absurd h (by decide)
    · rw [if_neg h1] at h
      exact ⟨h0, by omega, fun j hj => fst_zero h j hj⟩
  · rw [if_pos h0] at h; exact absurd h h0
theorem Fs.chain_zero {x : Thg} {l : List Evt} (h0 : thgErr x = 0) (h1 : l.length ≤ 30) (h2 : ∀ j, j < l.length → evtAt x l j = 0) : chainErr x l = 0 ∧ chainAt x l = 0 := by
  unfold chainErr chainAt
  rw [if_neg (fun hh => hh h0), if_neg (by omega), if_neg (fun hh => hh h0), if_neg (by omega)]
  exact ⟨fst_none h2, idx_none h2⟩
theorem ret2_nat {a b : Int} {i j : Nat} (h : a = b) (h2 : i = j) : Ending.returned (.tuple #[.int .i64 (i : Int), .int .i64 a]) = .returned (.tuple #[.int .i64 (j : Int), .int .i64 b]) := by rw [h, h2]
theorem Fs.untilTo_eq {l : List Evt} {day : Int} {k : Nat} (hk : k ≤ l.length) (h2 : k < l.length → day < (lEvt l k).day) : ∀ f i, i + f = l.length → i ≤ k → (∀ j, i ≤ j → j < k → (lEvt l j).day ≤ day) → untilTo l day i f = k := by
  intro f
  induction f with
  | zero => intro i h1 h3 _; rw [untilTo]; omega
  | succ f ih =>
    intro i h1 h3 h4
    rw [untilTo]
    by_cases e : i < k
    · rw [if_pos ⟨by omega, h4 i (Nat.le_refl _) e⟩]
      exact ih (i + 1) (by omega) (by omega) (fun j hj hjk => h4 j (by omega) hjk)
    · obtain rfl : i = k := by omega
      rw [if_neg (fun hh => by have := h2 hh.1; have := hh.2; omega)]
theorem Fs.until_eq {l : List Evt} {day : Int} {k : Nat} (hk : k ≤ l.length) (h2 : k < l.length → day < (lEvt l k).day) (h3 : ∀ j, j < k → (lEvt l j).day ≤ day) : untilN l day = k :=
  untilTo_eq hk h2 _ 0 (by omega) (Nat.zero_le _) (fun j _ hj => h3 j hj)
set_option maxHeartbeats 800000 in
theorem rRewardOf_any (v : Int) (w : World) :
    Calls Tryd.prog 15 #[.int .i64 v] w fun e w' => e = .returned (.tuple #[.int .i64 (reward v), .int .i64 (rewErr v)]) ∧ w = w' := by
  cases hm : isMoney v with
  | false =>
    have F := Lib.hid (show reward v = 0 by unfold reward; rw [hm]; rfl)
    have F2 := Lib.hid (show rewErr v = 2 by unfold rewErr; rw [hm]; rfl)
    go_enter Tryd.func15, Tryd.ntmps15
    go_wp2_with fail
    refine (bwithin_any _ _ _ _).mono ?_
    rintro e w9 ⟨rfl, rfl⟩
    rw [show within v 0 1000000000 = false from hm]
    go_wp2_with fail
    go_ret2
    exact ⟨by rw [F.out, F2.out]; rfl, rfl⟩
  | true =>
    obtain ⟨m0, m1⟩ := Fs.within_iff.1 (show within v 0 1000000000 = true from hm)
    have F2 := Lib.hid (show rewErr v = 0 by unfold rewErr; rw [hm]; rfl)
    have hw1 : IntKind.i64.wrap (v - 50000) = v - 50000 := by rw [IntKind.wrap_i64]; omega
    by_cases hv : v ≤ 50000
    · have F := Lib.hid (show reward v = (5 * v + 0).tdiv 100 by unfold reward; rw [hm, if_pos rfl, show min v 50000 = v by omega, show max 0 (v - 50000) = 0 by omega]; rfl)
      have hmin : min v 50000 = v := by omega
      have hmax : max 0 (v - 50000) = 0 := by omega
      have hw2 : IntKind.i64.wrap (5 * v) = 5 * v := by rw [IntKind.wrap_i64]; omega
      have hw5 : IntKind.i64.wrap ((5 * v).tdiv 100) = (5 * v).tdiv 100 := by rw [IntKind.wrap_i64, Int.tdiv_eq_ediv_of_nonneg (by omega)]; omega
      go_enter Tryd.func15, Tryd.ntmps15
      go_wp2_with fail
      refine (bwithin_any _ _ _ _).mono ?_
      rintro e w9 ⟨rfl, rfl⟩
      rw [show within v 0 1000000000 = true from hm]
      go_wp2_with fail
      go_ret2
      exact ⟨by rw [F.out, F2.out, Int.add_zero]; rfl, rfl⟩
    · have F := Lib.hid (show reward v = (250000 + 3 * (v - 50000)).tdiv 100 by unfold reward; rw [hm, if_pos rfl, show min v 50000 = 50000 by omega, show max 0 (v - 50000) = v - 50000 by omega]; rfl)
      have hmin : min v 50000 = 50000 := by omega
      have hmax : max 0 (v - 50000) = v - 50000 := by omega
      have hw3 : IntKind.i64.wrap (3 * (v - 50000)) = 3 * (v - 50000) := by rw [IntKind.wrap_i64]; omega
      have hw4 : IntKind.i64.wrap (250000 + 3 * (v - 50000)) = 250000 + 3 * (v - 50000) := by rw [IntKind.wrap_i64]; omega
      have hw5 : IntKind.i64.wrap ((250000 + 3 * (v - 50000)).tdiv 100) = (250000 + 3 * (v - 50000)).tdiv 100 := by rw [IntKind.wrap_i64, Int.tdiv_eq_ediv_of_nonneg (by omega)]; omega
      go_enter Tryd.func15, Tryd.ntmps15
      go_wp2_with fail
      refine (bwithin_any _ _ _ _).mono ?_
      rintro e w9 ⟨rfl, rfl⟩
      rw [show within v 0 1000000000 = true from hm]
      go_wp2_with fail
      go_ret2
      exact ⟨by rw [F.out, F2.out]; rfl, rfl⟩
end Go.Proofs.YtfjdnbnalihjiaaDoor

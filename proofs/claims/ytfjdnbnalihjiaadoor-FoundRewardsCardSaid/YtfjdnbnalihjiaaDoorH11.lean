/- The laws of rewards and of chains. No condition. -/
import Derived.Test.YtfjdnbnalihjiaaDoorH2
namespace Go.Proofs.YtfjdnbnalihjiaaDoor
open Go.RowKit Fs

theorem Fs.rew_ok {n : Int} (h : rewErr n = 0) : 0 ≤ n ∧ n ≤ 1000000000 := by
  unfold rewErr at h
  by_cases e : isMoney n = true
  · exact Fs.within_iff.1 e
  · rw [if_neg e] at h; exact absurd h (by decide)
theorem Fs.rew_zero {n : Int} (h0 : 0 ≤ n) (h1 : n ≤ 1000000000) : rewErr n = 0 := if_pos (Fs.within_iff.2 ⟨h0, h1⟩)
theorem Fs.rew_is {n : Int} (h0 : 0 ≤ n) (h1 : n ≤ 1000000000) : reward n = (5 * min n 50000 + 3 * max 0 (n - 50000)) / 100 := by
  unfold reward
  rw [if_pos (show isMoney n = true from Fs.within_iff.2 ⟨h0, h1⟩), Int.tdiv_eq_ediv_of_nonneg (by omega)]
theorem Fs.rew_pos {n : Int} (h0 : 0 ≤ n) (h1 : n ≤ 1000000000) : 0 ≤ reward n ∧ reward n ≤ 1000000000 := by
  rw [rew_is h0 h1]; omega
theorem Fs.rew_mono {n m : Int} (h0 : 0 ≤ n) (h1 : n ≤ 1000000000) (h2 : n ≤ m) (h3 : m ≤ 1000000000) : reward n ≤ reward m := by
  rw [rew_is h0 h1, rew_is (by omega) h3]; omega
theorem Fs.rew_most {n : Int} (h0 : 0 ≤ n) (h1 : n ≤ 1000000000) : 100 * reward n ≤ 5 * n := by
  rw [rew_is h0 h1]; omega
set_option linter.unusedSimpArgs false in
set_option maxHeartbeats 12800000 in
set_option maxRecDepth 100000 in
theorem lawRewards_any (n more : Int) (w : World) (tbs : TabSt w) :
    Calls Tryd.prog 4 #[.int .i64 n, .int .i64 more] w fun e w' => e = .returned (.bool true) ∧ Below w.heap.size w w' := by
  have HW := Lib.hid (Below.refl w.heap.size w)
  have TBS := Lib.hid tbs
  clear tbs
  go_enter Tryd.func4, Tryd.ntmps4
  go_wp2_with fail
  refine (lawAwake_any _ (TBS.out.keep (Keep.below HW.out))).mono ?_
  rintro e' w1 ⟨rfl, hb1⟩
  replace HW := Lib.hid (HW.out.trans (hb1.mono HW.out.size))
  clear hb1
  go_wp2_with fail
  refine (xRewardOf_any n _).mono ?_
  rintro e' w2 ⟨rfl, hb1⟩
  replace HW := Lib.hid (HW.out.trans (hb1.mono HW.out.size))
  clear hb1
  go_wp2_with fail
  refine (rRewardOf_any n _).mono ?_
  rintro e' w3 ⟨rfl, rfl⟩
  have ee1 : ((rewErr n) == (rewErr n)) = true := by simp
  have ee1b : ((rewErr n) != (rewErr n)) = false := by simp
  have ee2 : ((reward n) == (reward n)) = true := by simp
  have ee2b : ((reward n) != (reward n)) = false := by simp
  by_cases he : rewErr n = 0
  · obtain ⟨n0, n1⟩ := rew_ok he
    rw [he] at ee1 ee1b ⊢
    clear he
    go_wp2_with fail
    refine (bwithin_any _ _ _ _).mono ?_
    rintro e w9 ⟨rfl, rfl⟩
    cases hin : within more n 1000000000 with
    | false =>
      go_wp2_with fail
      go_ret
      exact ⟨rfl, HW.out⟩
    | true =>
      obtain ⟨m0, m1⟩ := Fs.within_iff.1 hin
      have F1 := rew_zero (show 0 ≤ more by omega) m1
      have F2 := rew_mono n0 n1 m0 m1
      have F3 := rew_most n0 n1
      have F4 := rew_pos n0 n1
      have hw1 : IntKind.i64.wrap (100 * reward n) = 100 * reward n := by rw [IntKind.wrap_i64]; omega
      have hw2 : IntKind.i64.wrap (5 * n) = 5 * n := by rw [IntKind.wrap_i64]; omega
      have d1 : decide (reward more ≥ reward n) = true := decide_eq_true F2
      have d2 : decide (reward n ≤ reward more) = true := decide_eq_true F2
      have d3 : decide (100 * reward n ≤ 5 * n) = true := decide_eq_true F3
      clear hin
      go_wp2_with fail
      refine (xRewardOf_any more _).mono ?_
      rintro e' w5 ⟨rfl, hb1⟩
      replace HW := Lib.hid (HW.out.trans (hb1.mono HW.out.size))
      rw [F1]
      clear F1
      clear hb1
      go_wp2_with fail
      go_ret
      exact ⟨rfl, HW.out⟩
  · have e1 : (rewErr n == 0) = false := by simpa using he
    have e2 : (rewErr n != 0) = true := by simpa using he
    clear he
    go_wp2_with fail
    go_ret
    exact ⟨rfl, HW.out⟩
end Go.Proofs.YtfjdnbnalihjiaaDoor

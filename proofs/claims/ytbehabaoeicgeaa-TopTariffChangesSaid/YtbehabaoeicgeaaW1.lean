/- The small functions of tariffs return what the plain functions of the same name say, and write nothing. Conditions: the numbers that are added are small. -/
import Derived.WalkKit
import Derived.WalkSpells
import Derived.WalkLawsBesides
import Derived.Deep.QuietTactic
import Derived.BigQuiet
import Derived.Test.YtbehabaoeicgeaaProg
import Derived.Test.YtbehabaoeicgeaaMem
namespace Go.Proofs.Ytbehabaoeicgeaa
open Go.RowKit Fs

theorem ret_bool {a b : Bool} (h : a = b) : Ending.returned (.bool a) = .returned (.bool b) := by rw [h]
theorem ret_int {a b : Int} (h : a = b) : Ending.returned (.int .i64 a) = .returned (.int .i64 b) := by rw [h]

set_option maxHeartbeats 400000 in
theorem within_any (n a b : Int) (w : World) : Calls Try.prog 31 #[.int .i64 n, .int .i64 a, .int .i64 b] w fun e w' => e = .returned (.bool (within n a b)) ∧ w = w' := by
  go_enter Try.func31, Try.ntmps31
  go_wp2
  all_goals (go_ret; exact ⟨ret_bool (by first | (simp [within, *]; done) | (simp [within]; omega)), rfl⟩)
set_option maxHeartbeats 400000 in
theorem bwithin_any (n a b : Int) (w : World) : Calls Try.prog 9 #[.int .i64 n, .int .i64 a, .int .i64 b] w fun e w' => e = .returned (.bool (within n a b)) ∧ w = w' := by
  go_enter Try.func9, Try.ntmps9
  go_wp2
  all_goals (go_ret; exact ⟨ret_bool (by first | (simp [within, *]; done) | (simp [within]; omega)), rfl⟩)
set_option maxHeartbeats 400000 in
theorem isDate_any (n : Int) (w : World) : Calls Try.prog 46 #[.int .i64 n] w fun e w' => e = .returned (.bool (isDate n)) ∧ w = w' := by
  go_enter Try.func46, Try.ntmps46
  go_wp2_with (go_at_call 31; refine (within_any _ _ _ _).mono ?_; rintro e w' ⟨rfl, rfl⟩)
  go_ret
  exact ⟨rfl, rfl⟩
set_option maxHeartbeats 400000 in
theorem letter_any (c : UInt8) (w : World) : Calls Try.prog 83 #[.int .u8 c.toNat] w fun e w' => e = .returned (.bool (letter c)) ∧ w = w' := by
  go_enter Try.func83, Try.ntmps83
  go_wp2
  all_goals (go_ret; refine ⟨ret_bool ?_, rfl⟩)
  all_goals (unfold letter; rw [Bool.eq_iff_iff]; simp; omega)
set_option maxHeartbeats 400000 in
theorem digit_any (c : UInt8) (w : World) : Calls Try.prog 84 #[.int .u8 c.toNat] w fun e w' => e = .returned (.bool (digit c)) ∧ w = w' := by
  go_enter Try.func84, Try.ntmps84
  go_wp2
  all_goals (go_ret; refine ⟨ret_bool ?_, rfl⟩)
  all_goals (unfold digit; rw [Bool.eq_iff_iff]; simp; omega)
set_option maxHeartbeats 400000 in
theorem many_any (n a b : Int) (w : World) (hb0 : 0 ≤ b) (hb : b ≤ 1000) : Calls Try.prog 18 #[.int .i64 n, .int .i64 a, .int .i64 b] w fun e w' => e = .returned (.bool (many n a b)) ∧ w = w' := by
  go_enter Try.func18, Try.ntmps18
  go_wp2
  all_goals (go_ret; exact ⟨ret_bool (by first | (simp [many, *]; done) | (simp [many]; omega)), rfl⟩)
set_option maxHeartbeats 400000 in
theorem moment_any (d t : Int) (w : World) : Calls Try.prog 30 #[.agg #[.int .i64 d, .int .i64 t]] w fun e w' => e = .returned (.int .i64 (errMoment d t)) ∧ Below w.heap.size w w' := by
  go_enter Try.func30, Try.ntmps30
  go_wp2_with (first | (go_at_call 31; refine (within_any _ _ _ _).mono ?_; rintro e w' ⟨rfl, rfl⟩) | (go_at_call 46; refine (isDate_any _ _).mono ?_; rintro e w' ⟨rfl, rfl⟩))
  all_goals (go_ret; exact ⟨by simp_all [errMoment], (Below.refl _ _).alloc (Nat.le_refl _) _⟩)
set_option maxHeartbeats 400000 in
theorem lawful_any (a b : Int) (w : World) : Calls Try.prog 22 #[.int .i64 a, .int .i64 b] w fun e w' => e = .returned (.int .i64 (max a b)) ∧ w = w' := by
  go_enter Try.func22, Try.ntmps22
  go_wp2
  all_goals (go_ret; exact ⟨by first | rfl | (apply ret_int; omega), rfl⟩)
set_option maxHeartbeats 400000 in
theorem utmost_any (a b : Int) (w : World) (h0 : 0 ≤ a) (h1 : a ≤ 1000000000000000000) (h2 : 0 ≤ b) (h3 : b ≤ 1000000000000000000) : Calls Try.prog 38 #[.int .i64 a, .int .i64 b] w fun e w' => e = .returned (.int .i64 (a + b)) ∧ w = w' := by
  go_enter Try.func38, Try.ntmps38
  go_wp2
  go_ret
  exact ⟨rfl, rfl⟩
set_option maxHeartbeats 400000 in
theorem later_any (d t s : Int) (w : World) (h0 : 0 ≤ d) (h1 : d ≤ 100000) (h2 : 0 ≤ t) (h3 : t ≤ 86399) (h4 : 0 ≤ s) (h5 : s ≤ 100000000) :
    Calls Try.prog 32 #[.agg #[.int .i64 d, .int .i64 t], .int .i64 s] w fun e w' => e = .returned (.agg #[.int .i64 (later d t s).1, .int .i64 (later d t s).2]) ∧ Below w.heap.size w w' := by
  go_enter Try.func32, Try.ntmps32
  go_wp2
  exact bodyPost_ret (v := .agg #[.int .i64 (later d t s).1, .int .i64 (later d t s).2]) (by simp [results, Try.results32, go_sem, later]) rfl ⟨rfl, ((Below.refl _ _).alloc (Nat.le_refl _) _).alloc (by simp) _⟩
set_option maxHeartbeats 400000 in
theorem terms_any (r : Rule) (z d : Option Addr) (zc dc : Nat) (w : World) : Calls Try.prog 70 #[ruleV r z d zc dc] w fun e w' => e = .returned (.int .i64 (errTerms r)) ∧ Below w.heap.size w w' := by
  go_enter Try.func70, Try.ntmps70
  go_wp2_with (go_at_call 31; refine (within_any _ _ _ _).mono ?_; rintro e w' ⟨rfl, rfl⟩)
  all_goals (go_ret; exact ⟨ret_int (by unfold errTerms; simp_all), (Below.refl _ _).alloc (Nat.le_refl _) _⟩)
set_option maxHeartbeats 400000 in
theorem inHours_any (r : Rule) (z d : Option Addr) (zc dc : Nat) (t : Int) (w : World) : Calls Try.prog 44 #[ruleV r z d zc dc, .int .i64 t] w fun e w' => e = .returned (.bool (inHours r t)) ∧ Below w.heap.size w w' := by
  go_enter Try.func44, Try.ntmps44
  go_wp2
  all_goals (go_ret; refine ⟨ret_bool ?_, (Below.refl _ _).alloc (Nat.le_refl _) _⟩)
  all_goals (unfold inHours; first | (simp [*]; done) | (rw [Bool.eq_iff_iff]; split <;> simp <;> omega))
set_option maxHeartbeats 400000 in
theorem isZone_any (T : Tar) (v : Value) (zone : Int) (w : World) (hT : RdTar w v T) : Calls Try.prog 40 #[v, .int .i64 zone] w fun e w' => e = .returned (.bool (isZone T zone)) ∧ Below w.heap.size w w' := by
  obtain ⟨z, h, r, e, f, zc, hc, rc, ec, fc, a, rfl, m⟩ := hT
  have b1 := m.zones.le.1
  have b2 := m.zones.le.2
  clear m
  go_enter Try.func40, Try.ntmps40
  go_wp2_with (go_at_call 31; refine (within_any _ _ _ _).mono ?_; rintro e w' ⟨rfl, rfl⟩)
  go_ret
  exact ⟨rfl, (Below.refl _ _).alloc (Nat.le_refl _) _⟩
set_option maxHeartbeats 400000 in
theorem short_any (X : Trip) (v : Value) (w : World) (hX : RdTrip w v X) : Calls Try.prog 7 #[v] w fun e w' => e = .returned (.bool (short X)) ∧ Below w.heap.size w w' := by
  obtain ⟨e, s, ec, sc, rfl, h1, h2⟩ := hX
  have b1 := h1.le.1
  have b2 := h1.le.2
  have b3 := h2.le.1
  have b4 := h2.le.2
  clear h1 h2
  go_enter Try.func7, Try.ntmps7
  go_wp2_with (go_at_call 18; refine (many_any _ _ _ _ (by omega) (by omega)).mono ?_; rintro e w' ⟨rfl, rfl⟩)
  all_goals (go_ret; refine ⟨ret_bool ?_, (Below.refl _ _).alloc (Nat.le_refl _) _⟩)
  all_goals (unfold short; first | (simp_all; done) | (simp_all; omega))
end Go.Proofs.Ytbehabaoeicgeaa

/- The small functions of streets return what the plain functions of the same name say. Conditions: the numbers that are subtracted are small. -/
import Derived.WalkKit
import Derived.WalkSpells
import Derived.WalkLawsBesides
import Derived.Deep.QuietTactic
import Derived.BigQuiet
import Derived.Lib.Hide
import Derived.Test.YtbilomkoijomiaaProg
import Derived.Test.YtbilomkoijomiaaNM
namespace Go.Proofs.Ytbilomkoijomiaa
open Go.RowKit Fs

theorem ret_bool {a b : Bool} (h : a = b) : Ending.returned (.bool a) = .returned (.bool b) := by rw [h]
theorem ret_int {a b : Int} (h : a = b) : Ending.returned (.int .i64 a) = .returned (.int .i64 b) := by rw [h]

set_option maxHeartbeats 400000 in
theorem within_any (n a b : Int) (w : World) : Calls Try.prog 86 #[.int .i64 n, .int .i64 a, .int .i64 b] w fun e w' => e = .returned (.bool (within n a b)) ∧ w = w' := by
  go_enter Try.func86, Try.ntmps86
  go_wp2
  all_goals (go_ret; exact ⟨ret_bool (by first | (simp [within, *]; done) | (simp [within]; omega)), rfl⟩)
set_option maxHeartbeats 400000 in
theorem bwithin_any (n a b : Int) (w : World) : Calls Try.prog 33 #[.int .i64 n, .int .i64 a, .int .i64 b] w fun e w' => e = .returned (.bool (within n a b)) ∧ w = w' := by
  go_enter Try.func33, Try.ntmps33
  go_wp2
  all_goals (go_ret; exact ⟨ret_bool (by first | (simp [within, *]; done) | (simp [within]; omega)), rfl⟩)
set_option maxHeartbeats 400000 in
theorem isTaken_any (n : Int) (w : World) : Calls Try.prog 126 #[.int .i64 n] w fun e w' => e = .returned (.bool (within n 0 7200)) ∧ w = w' := by
  go_enter Try.func126, Try.ntmps126
  go_wp2_with (go_at_call 86; refine (within_any _ _ _ _).mono ?_; rintro e w' ⟨rfl, rfl⟩)
  go_ret
  exact ⟨rfl, rfl⟩
set_option maxHeartbeats 400000 in
theorem letter_any (c : UInt8) (w : World) : Calls Try.prog 124 #[.int .u8 c.toNat] w fun e w' => e = .returned (.bool (letter c)) ∧ w = w' := by
  go_enter Try.func124, Try.ntmps124
  go_wp2
  all_goals (go_ret; refine ⟨ret_bool ?_, rfl⟩)
  all_goals (unfold letter; rw [Bool.eq_iff_iff]; simp; omega)
set_option maxHeartbeats 400000 in
theorem digit_any (c : UInt8) (w : World) : Calls Try.prog 125 #[.int .u8 c.toNat] w fun e w' => e = .returned (.bool (digit c)) ∧ w = w' := by
  go_enter Try.func125, Try.ntmps125
  go_wp2
  all_goals (go_ret; refine ⟨ret_bool ?_, rfl⟩)
  all_goals (unfold digit; rw [Bool.eq_iff_iff]; simp; omega)
/-- A day's seconds, as operands. -/
theorem day_bounds {a b : Int} (ha : 0 ≤ a ∧ a ≤ 86399) (hb : 0 ≤ b ∧ b ≤ 86399) : 0 ≤ b - a + 86400 - 1 ∧ (b - a + 86400 - 1) = b - a + 86399 := by omega
set_option maxHeartbeats 400000 in
theorem secondsTo_any (a b : Int) (w : World) (ha : 0 ≤ a ∧ a ≤ 86399) (hb : 0 ≤ b ∧ b ≤ 86399) : Calls Try.prog 113 #[.int .i64 a, .int .i64 b] w fun e w' => e = .returned (.int .i64 (secondsTo a b)) ∧ w = w' := by
  obtain ⟨a0, a1⟩ := ha
  obtain ⟨b0, b1⟩ := hb
  have h0 : 0 ≤ b - a + 86400 - 1 := by omega
  go_enter Try.func113, Try.ntmps113
  go_wp2
  go_ret
  exact ⟨ret_int (by unfold secondsTo; congr 2; omega), rfl⟩
theorem secondsTo_is (a b : Int) : 1 ≤ secondsTo a b ∧ secondsTo a b ≤ 86400 := by
  unfold secondsTo
  have h1 := Int.emod_nonneg (b - a + 86399) (show (86400 : Int) ≠ 0 by decide)
  have h2 := Int.emod_lt_of_pos (b - a + 86399) (show (0 : Int) < 86400 by decide)
  omega
theorem ptRight_is {p : Pt} (h : ptRight p = true) : (0 ≤ p.hour ∧ p.hour ≤ 86399) ∧ (0 ≤ p.lo ∧ p.lo ≤ 7200) ∧ 0 ≤ p.hi ∧ p.hi ≤ 7200 := by
  unfold ptRight at h
  rw [Bool.and_eq_true, Bool.and_eq_true] at h
  exact ⟨Fs.within_iff.1 h.1.1, Fs.within_iff.1 h.1.2, Fs.within_iff.1 h.2⟩
set_option maxHeartbeats 400000 in
theorem inOrder_any (p q : Pt) (w : World) (hp : ptRight p = true) (hq : ptRight q = true) : Calls Try.prog 127 #[ptV p, ptV q] w fun e w' => e = .returned (.bool (inOrder p q)) ∧ Below w.heap.size w w' := by
  obtain ⟨ph, ⟨p0, p1⟩, p2, p3⟩ := ptRight_is hp
  obtain ⟨qh, ⟨q0, q1⟩, q2, q3⟩ := ptRight_is hq
  obtain ⟨s0, s1⟩ := secondsTo_is p.hour q.hour
  clear hp hq
  go_enter Try.func127, Try.ntmps127
  go_wp2_with (go_at_call 113; refine (secondsTo_any _ _ _ ph qh).mono ?_; rintro e w' ⟨rfl, rfl⟩)
  all_goals (go_ret; exact ⟨ret_bool (by first | (simp [inOrder, *]; done) | (simp [inOrder]; omega)), ((Below.refl _ _).alloc (Nat.le_refl _) _).alloc (by simp) _⟩)
set_option maxHeartbeats 400000 in
theorem roundedUp_any (a b : Int) (w : World) (h0 : 0 ≤ a) (h1 : a ≤ 1000000000000000000) (h2 : 1 ≤ b) (h3 : b ≤ 1000000000) : Calls Try.prog 115 #[.int .i64 a, .int .i64 b] w fun e w' => e = .returned (.int .i64 ((a + b - 1) / b)) ∧ w = w' := by
  have h4 : 0 ≤ a + b - 1 := by omega
  have h5 : (b == 0) = false := by simpa using (show b ≠ 0 by omega)
  have h6 : (a + b - 1) / b ≤ 1000000000000000000 + 1000000000 := Int.le_trans (Int.ediv_le_self b h4) (by omega)
  have h7 : 0 ≤ (a + b - 1) / b := Int.ediv_nonneg h4 (by omega)
  go_enter Try.func115, Try.ntmps115
  go_wp2
  go_ret
  exact ⟨rfl, rfl⟩
set_option maxHeartbeats 400000 in
theorem isPlace_any (N : Net) (v : Value) (z : Int) (w : World) (hN : RdNet w v N) : Calls Try.prog 111 #[v, .int .i64 z] w fun e w' => e = .returned (.bool (isPlace N z)) ∧ Below w.heap.size w w' := by
  obtain ⟨P, R, pc, rc, a, rfl, m⟩ := hN
  have b1 := m.places.le.1
  have b2 := m.places.le.2
  clear m
  go_enter Try.func111, Try.ntmps111
  go_wp2_with (go_at_call 86; refine (within_any _ _ _ _).mono ?_; rintro e w' ⟨rfl, rfl⟩)
  go_ret
  exact ⟨rfl, (Below.refl _ _).alloc (Nat.le_refl _) _⟩
set_option maxHeartbeats 400000 in
theorem rIsPlace_any (N : Net) (v : Value) (z : Int) (w : World) (hN : RdNet w v N) : Calls Try.prog 82 #[v, .int .i64 z] w fun e w' => e = .returned (.bool (isPlace N z)) ∧ Below w.heap.size w w' := by
  obtain ⟨P, R, pc, rc, a, rfl, m⟩ := hN
  have b1 := m.places.le.1
  have b2 := m.places.le.2
  clear m
  go_enter Try.func82, Try.ntmps82
  go_wp2_with (go_at_call 33; refine (bwithin_any _ _ _ _).mono ?_; rintro e w' ⟨rfl, rfl⟩)
  go_ret
  exact ⟨rfl, (Below.refl _ _).alloc (Nat.le_refl _) _⟩
set_option maxHeartbeats 400000 in
theorem isRoad_any (N : Net) (v : Value) (z : Int) (w : World) (hN : RdNet w v N) : Calls Try.prog 75 #[v, .int .i64 z] w fun e w' => e = .returned (.bool (isRoad N z)) ∧ Below w.heap.size w w' := by
  obtain ⟨P, R, pc, rc, a, rfl, m⟩ := hN
  have b1 := m.roads.le.1
  have b2 := m.roads.le.2
  clear m
  go_enter Try.func75, Try.ntmps75
  go_wp2_with (go_at_call 86; refine (within_any _ _ _ _).mono ?_; rintro e w' ⟨rfl, rfl⟩)
  go_ret
  exact ⟨rfl, (Below.refl _ _).alloc (Nat.le_refl _) _⟩
set_option maxHeartbeats 400000 in
theorem rIsRoad_any (N : Net) (v : Value) (z : Int) (w : World) (hN : RdNet w v N) : Calls Try.prog 73 #[v, .int .i64 z] w fun e w' => e = .returned (.bool (isRoad N z)) ∧ Below w.heap.size w w' := by
  obtain ⟨P, R, pc, rc, a, rfl, m⟩ := hN
  have b1 := m.roads.le.1
  have b2 := m.roads.le.2
  clear m
  go_enter Try.func73, Try.ntmps73
  go_wp2_with (go_at_call 33; refine (bwithin_any _ _ _ _).mono ?_; rintro e w' ⟨rfl, rfl⟩)
  go_ret
  exact ⟨rfl, (Below.refl _ _).alloc (Nat.le_refl _) _⟩
def Fs.timeErr (a : Int) : Int := if within a 0 604800 then 0 else 2
set_option maxHeartbeats 400000 in
theorem timeErr_any (a : Int) (w : World) : Calls Try.prog 68 #[.int .i64 a] w fun e w' => e = .returned (.int .i64 (timeErr a)) ∧ w = w' := by
  go_enter Try.func68, Try.ntmps68
  go_wp2_with (go_at_call 86; refine (within_any _ _ _ _).mono ?_; rintro e w' ⟨rfl, rfl⟩)
  all_goals (go_ret; exact ⟨ret_int (by unfold timeErr; simp_all), rfl⟩)
set_option maxHeartbeats 400000 in
theorem rTimeErr_any (a : Int) (w : World) : Calls Try.prog 22 #[.int .i64 a] w fun e w' => e = .returned (.int .i64 (timeErr a)) ∧ w = w' := by
  go_enter Try.func22, Try.ntmps22
  go_wp2_with (go_at_call 33; refine (bwithin_any _ _ _ _).mono ?_; rintro e w' ⟨rfl, rfl⟩)
  all_goals (go_ret; exact ⟨ret_int (by unfold timeErr; simp_all), rfl⟩)
end Go.Proofs.Ytbilomkoijomiaa

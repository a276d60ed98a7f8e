/- Lists of numbers: where a number stands, their sum, whether they ascend; the kind of a date; names. Conditions: sums stay small. -/
import Derived.Lib.Hide
import Derived.Test.YtbehabaoeicgeaaW1
namespace Go.Proofs.Ytbehabaoeicgeaa
open Go.RowKit Fs

set_option maxHeartbeats 400000 in
theorem index_any (l : List Int) (A : Option Addr) (c : Nat) (x : Int) (w : World) (h : ArrI w A l c) :
    Calls Try.prog 55 #[.slice A l.length c, .int .i64 x] w fun e w' => e = .returned (.int .i64 (indexOf l x)) ∧ w = w' := by
  have b1 := h.le.1
  have b2 := h.le.2
  go_enter Try.func55, Try.ntmps55
  go_wp2
  go_loop [8] (fun i => ∃ k : Nat, k ≤ l.length ∧ i = .int .i64 k ∧ (∀ j, j < k → listI l j ≠ x)) (fun i => l.length - (intOf i).toNat)
  case atStart => exact ⟨0, Nat.zero_le _, rfl, fun j hj => absurd hj (Nat.not_lt_zero _)⟩
  case round =>
    obtain ⟨k, hk, rfl, hn⟩ := hrel
    have Hn := Lib.hid hn
    clear hn
    by_cases hlt : k < l.length
    · obtain ⟨b, o, rfl, hc⟩ := h.at_ hlt
      by_cases hx : x = listI l k
      · have hx' : (x == listI l k) = true := by simpa using hx
        have F := Lib.hid (indexOf_hit hlt Hn.out hx.symm)
        clear hx
        go_wp2
        go_ret
        exact ⟨ret_int F.out.symm, rfl⟩
      · have hx' : (x == listI l k) = false := by simpa using hx
        have F : Hid (∀ j, j < k + 1 → listI l j ≠ x) := fun j hj => by
          by_cases e : j = k
          · subst e; exact fun h => hx h.symm
          · exact Hn.out j (by omega)
        clear hx
        go_wp2
        go_round
        case rel => exact ⟨k + 1, by omega, by go_num, F.out⟩
        case measure => simp [intOf]; omega
    · have F := Lib.hid (indexOf_none (l := l) (x := x) fun j hj => Hn.out j (by omega))
      go_wp2
      go_ret
      exact ⟨ret_int F.out.symm, rfl⟩
set_option maxHeartbeats 400000 in
theorem contains_any (l : List Int) (A : Option Addr) (c : Nat) (x : Int) (w : World) (h : ArrI w A l c) :
    Calls Try.prog 45 #[.slice A l.length c, .int .i64 x] w fun e w' => e = .returned (.bool (l.contains x)) ∧ w = w' := by
  go_enter Try.func45, Try.ntmps45
  go_wp2_with (go_at_call 55; refine (index_any l _ _ _ _ h).mono ?_; rintro e w' ⟨rfl, rfl⟩)
  go_ret
  exact ⟨ret_bool (indexOf_ge l x), rfl⟩
set_option maxHeartbeats 400000 in
theorem sum_any (l : List Int) (A : Option Addr) (c : Nat) (w : World) (h : ArrI w A l c) (hs : ∀ k, k ≤ l.length → -1000000000000000000 ≤ sumTo (listI l) k ∧ sumTo (listI l) k ≤ 1000000000000000000) :
    Calls Try.prog 36 #[.slice A l.length c] w fun e w' => e = .returned (.int .i64 (sumTo (listI l) l.length)) ∧ w = w' := by
  have b1 := h.le.1
  have b2 := h.le.2
  have Hs := Lib.hid hs
  clear hs
  go_enter Try.func36, Try.ntmps36
  go_wp2
  go_loop [3, 8] (fun s i => ∃ k : Nat, k ≤ l.length ∧ i = .int .i64 k ∧ s = .int .i64 (sumTo (listI l) k)) (fun _ i => l.length - (intOf i).toNat)
  case atStart => exact ⟨0, Nat.zero_le _, rfl, rfl⟩
  case round =>
    obtain ⟨k, hk, rfl, rfl⟩ := hrel
    by_cases hlt : k < l.length
    · obtain ⟨b, o, rfl, hc⟩ := h.at_ hlt
      have s1 := Hs.out k (by omega)
      have s2 := Hs.out (k + 1) (by omega)
      simp only [sumTo] at s2
      obtain ⟨s1a, s1b⟩ := s1
      obtain ⟨s2a, s2b⟩ := s2
      go_wp2
      go_round
      case rel => exact ⟨k + 1, by omega, by go_num, rfl⟩
      case measure => simp [intOf]; omega
    · have e : k = l.length := by omega
      have F : Hid (sumTo (listI l) k = sumTo (listI l) l.length) := by rw [e]; rfl
      clear e
      go_wp2
      go_ret
      exact ⟨ret_int F.out, rfl⟩
set_option maxHeartbeats 400000 in
theorem inSet_any (l : List Int) (A : Option Addr) (c i : Nat) (m x : Int) (w : World) (h : ArrI w A l c) (hi : i < l.length) :
    Calls Try.prog 67 #[.slice A l.length c, .int .i64 i, .int .i64 m, .int .i64 x] w fun e w' => e = .returned (.int .i64 (errInSet l i m x)) ∧ Below w.heap.size w w' := by
  have b1 := h.le.1
  have b2 := h.le.2
  obtain ⟨b, o, rfl, hc⟩ := h.at_ hi
  cases hw : within (listI l i) 0 m with
  | false =>
    have F := Lib.hid (show errInSet l i m x = x by unfold errInSet; rw [hw]; rfl)
    go_enter Try.func67, Try.ntmps67
    go_wp2_with (go_at_call 31; refine (within_any _ _ _ _).mono ?_; rintro e w' ⟨rfl, rfl⟩)
    go_ret
    exact ⟨ret_int F.out.symm, Below.refl _ _⟩
  | true =>
    by_cases h0 : 0 < i
    · obtain ⟨b', o', e', hc'⟩ := h.at_ (k := i - 1) (by omega)
      obtain ⟨rfl, rfl⟩ : b = b' ∧ o = o' := by simpa using e'
      clear e'
      have d0 : decide ((0 : Int) < (i : Int)) = true := by simpa using h0
      have ib1 : (0 : Int) ≤ (i : Int) - 1 := by omega
      have ib2 : (i : Int) - 1 < (l.length : Int) := by omega
      have ix : ((i : Int) - 1).toNat = i - 1 := by omega
      by_cases h1 : listI l i ≤ listI l (i - 1)
      · have d1 : decide (listI l i ≤ listI l (i - 1)) = true := by simpa using h1
        have F := Lib.hid (show errInSet l i m x = 9 by unfold errInSet; rw [hw, if_pos rfl, if_pos ⟨h0, h1⟩])
        go_enter Try.func67, Try.ntmps67
        go_wp2_with (go_at_call 31; refine (within_any _ _ _ _).mono ?_; rintro e w' ⟨rfl, rfl⟩)
        go_quiet (fail)
        go_wp2
        go_ret
        exact ⟨ret_int F.out.symm, bdrewN (Below.refl _ _) _⟩
      · have d1 : decide (listI l i ≤ listI l (i - 1)) = false := by simpa using h1
        have F := Lib.hid (show errInSet l i m x = 0 by unfold errInSet; rw [hw, if_pos rfl, if_neg (fun hh => h1 hh.2)])
        go_enter Try.func67, Try.ntmps67
        go_wp2_with (go_at_call 31; refine (within_any _ _ _ _).mono ?_; rintro e w' ⟨rfl, rfl⟩)
        go_quiet (fail)
        go_wp2
        go_ret
        exact ⟨ret_int F.out.symm, bdrewN (Below.refl _ _) _⟩
    · have d0 : decide ((0 : Int) < (i : Int)) = false := by simpa using h0
      have F := Lib.hid (show errInSet l i m x = 0 by unfold errInSet; rw [hw, if_pos rfl, if_neg (fun hh => h0 hh.1)])
      go_enter Try.func67, Try.ntmps67
      go_wp2_with (go_at_call 31; refine (within_any _ _ _ _).mono ?_; rintro e w' ⟨rfl, rfl⟩)
      go_quiet (fail)
      go_wp2
      go_ret
      exact ⟨ret_int F.out.symm, bdrewN (Below.refl _ _) _⟩
set_option maxHeartbeats 400000 in
theorem errSet_any (l : List Int) (A : Option Addr) (c : Nat) (m x : Int) (w : World) (h : ArrI w A l c) :
    Calls Try.prog 69 #[.slice A l.length c, .int .i64 m, .int .i64 x] w fun e w' => e = .returned (.int .i64 (errSet l m x)) ∧ Below w.heap.size w w' := by
  have b1 := h.le.1
  have b2 := h.le.2
  go_enter Try.func69, Try.ntmps69
  go_wp2
  go_loopw [11] (fun i wr => ∃ k : Nat, k ≤ l.length ∧ i = .int .i64 k ∧ Hid (∀ j, j < k → errInSet l j m x = 0) ∧ Below w.heap.size w wr) (fun i _ => l.length - (intOf i).toNat)
  case atStart => exact ⟨0, Nat.zero_le _, rfl, fun j hj => absurd hj (Nat.not_lt_zero _), Below.refl _ _⟩
  case round =>
    obtain ⟨k, hk, rfl, Hn, hb⟩ := hrel
    by_cases hlt : k < l.length
    · have hr : ArrI wr A l c := h.keep (Keep.below hb)
      by_cases h0 : errInSet l k m x = 0
      · have F : Hid (∀ j, j < k + 1 → errInSet l j m x = 0) := fun j hj => by
          by_cases e : j = k
          · subst e; exact h0
          · exact Hn.out j (by omega)
        have d0 : (errInSet l k m x == 0) = true := by simpa using h0
        clear h0
        go_wp2_with (go_at_call 67; refine (inSet_any l _ _ _ _ _ _ hr hlt).mono ?_; rintro e w1 ⟨rfl, hb1⟩)
        go_roundw
        case rel => exact ⟨k + 1, by omega, by go_num, F, hb.trans (hb1.mono hb.size)⟩
        case measure => simp [intOf]; omega
      · have F := Lib.hid (show errSet l m x = errInSet l k m x from (fst_hit hlt Hn.out h0).1)
        have d0 : (errInSet l k m x == 0) = false := by simpa using h0
        clear h0
        go_wp2_with (go_at_call 67; refine (inSet_any l _ _ _ _ _ _ hr hlt).mono ?_; rintro e w1 ⟨rfl, hb1⟩)
        go_ret
        exact ⟨ret_int F.out.symm, hb.trans (hb1.mono hb.size)⟩
    · have F := Lib.hid (show errSet l m x = 0 from fst_none fun j hj => Hn.out j (by omega))
      go_wp2
      go_ret
      exact ⟨ret_int F.out.symm, hb⟩
set_option maxHeartbeats 400000 in
theorem kindOf_any (T : Tar) (v : Value) (d : Int) (w : World) (hT : RdTar w v T) (h0 : 0 ≤ d) : Calls Try.prog 52 #[v, .int .i64 d] w fun e w' => e = .returned (.int .i64 (kindOf T d)) ∧ Below w.heap.size w w' := by
  obtain ⟨z, h, r, e, f, zc, hc, rc, ec, fc, a, rfl, m⟩ := hT
  have hh := m.hols
  clear m
  cases hx : T.hols.contains d with
  | true =>
    have F := Lib.hid (show kindOf T d = 7 by unfold kindOf; rw [hx]; rfl)
    have Hx := Lib.hid hx
    clear hx
    go_enter Try.func52, Try.ntmps52
    go_wp2_with (go_at_call 45; refine (contains_any T.hols _ _ _ _ (hh.keep (Keep.alloc w _))).mono ?_; rintro e w' ⟨rfl, rfl⟩; rw [Hx.out])
    go_ret
    exact ⟨ret_int F.out.symm, (Below.refl _ _).alloc (Nat.le_refl _) _⟩
  | false =>
    have F := Lib.hid (show kindOf T d = d % 7 by unfold kindOf; rw [hx]; rfl)
    have Hx := Lib.hid hx
    clear hx
    go_enter Try.func52, Try.ntmps52
    go_wp2_with (go_at_call 45; refine (contains_any T.hols _ _ _ _ (hh.keep (Keep.alloc w _))).mono ?_; rintro e w' ⟨rfl, rfl⟩; rw [Hx.out])
    go_ret
    exact ⟨ret_int F.out.symm, (Below.refl _ _).alloc (Nat.le_refl _) _⟩
end Go.Proofs.Ytbehabaoeicgeaa

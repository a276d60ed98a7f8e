/- The errors of names in lists of names, for each of the three lists that have names. Condition: there are fewer than 2^63 of them. -/
import Derived.Test.YtbehabaoeicgeaaW3
namespace Go.Proofs.Ytbehabaoeicgeaa
open Go.RowKit Fs

theorem str_eq {a b : ByteArray} (h : a = b) : (a.toList == b.toList) = true := by rw [h]; simp
theorem str_ne {a b : ByteArray} (h : a ≠ b) : (a.toList == b.toList) = false := by
  rw [beq_eq_false_iff_ne, ByteArray.toList_eq, ByteArray.toList_eq]
  intro e
  apply h
  cases a; cases b
  simp only at e
  rw [Array.toList_inj.1 e]

set_option maxHeartbeats 400000 in
theorem errNameZ_any (name : Nat → ByteArray) (p : Addr) (i : Nat) (w : World) (hi : i ≤ 9223372036854775806) (HK : Hid (∀ j : Nat, j ≤ i → Calls Try.prog 66 #[.int .i64 j, .pointer (some p)] w fun e w' => e = .returned (.string (name j)) ∧ w = w')) :
    Calls Try.prog 65 #[.int .i64 i, .func (.func 66) #[] #[.pointer (some p)]] w fun e w' => e = .returned (.int .i64 (errName name i)) ∧ w = w' := by
  cases hnm : isName (name i) with
  | false =>
    have F := Lib.hid (show errName name i = 4 by unfold errName; rw [hnm]; rfl)
    have N := Lib.hid hnm
    clear hnm
    go_enter Try.func65, Try.ntmps65
    go_wp2_with (first | (go_at_call 66; refine (HK.out i (by omega)).mono ?_; rintro e w' ⟨rfl, rfl⟩) | (go_at_call 64; refine (isName_any _ _).mono ?_; rintro e w' ⟨rfl, rfl⟩; rw [N.out]))
    go_ret
    exact ⟨ret_int F.out.symm, rfl⟩
  | true =>
    have F0 := Lib.hid (show errName name i = fst (fun j => if name j = name i then 5 else 0) i by unfold errName; rw [hnm]; rfl)
    have N := Lib.hid hnm
    clear hnm
    go_enter Try.func65, Try.ntmps65
    go_wp2_with (first | (go_at_call 66; refine (HK.out i (by omega)).mono ?_; rintro e w' ⟨rfl, rfl⟩) | (go_at_call 64; refine (isName_any _ _).mono ?_; rintro e w' ⟨rfl, rfl⟩; rw [N.out]))
    go_loop [12] (fun u => ∃ k : Nat, k ≤ i ∧ u = .int .i64 k ∧ Hid (∀ j, j < k → name j ≠ name i)) (fun u => i - (intOf u).toNat)
    case atStart => exact ⟨0, Nat.zero_le _, rfl, fun j hj => absurd hj (Nat.not_lt_zero _)⟩
    case round =>
      obtain ⟨k, hk, rfl, Hn⟩ := hrel
      by_cases hlt : k < i
      · by_cases hq : name k = name i
        · have F := Lib.hid (F0.out.trans ((fst_hit (f := fun j => if name j = name i then 5 else 0) hlt (fun j hj => if_neg (Hn.out j hj)) (by rw [if_pos hq]; decide)).1.trans (if_pos hq)))
          have q := str_eq hq
          clear hq
          go_wp2_with fail
          refine (HK.out k (by omega)).mono ?_
          rintro e w' ⟨rfl, rfl⟩
          go_wp2_with fail
          refine (HK.out i (by omega)).mono ?_
          rintro e w' ⟨rfl, rfl⟩
          go_wp2_with fail
          go_ret
          exact ⟨ret_int F.out.symm, rfl⟩
        · have F : Hid (∀ j, j < k + 1 → name j ≠ name i) := fun j hj => by
            by_cases e : j = k
            · subst e; exact hq
            · exact Hn.out j (by omega)
          have q := str_ne hq
          clear hq
          go_wp2_with fail
          refine (HK.out k (by omega)).mono ?_
          rintro e w' ⟨rfl, rfl⟩
          go_wp2_with fail
          refine (HK.out i (by omega)).mono ?_
          rintro e w' ⟨rfl, rfl⟩
          go_wp2_with fail
          go_round
          case rel => exact ⟨k + 1, by omega, by go_num, F⟩
          case measure => simp [intOf]; omega
      · have F := Lib.hid (F0.out.trans (fst_none (f := fun j => if name j = name i then 5 else 0) fun j hj => if_neg (Hn.out j (by omega))))
        go_wp2
        go_ret
        exact ⟨ret_int F.out.symm, rfl⟩
set_option maxHeartbeats 400000 in
theorem errNameR_any (name : Nat → ByteArray) (p : Addr) (i : Nat) (w : World) (hi : i ≤ 9223372036854775806) (HK : Hid (∀ j : Nat, j ≤ i → Calls Try.prog 68 #[.int .i64 j, .pointer (some p)] w fun e w' => e = .returned (.string (name j)) ∧ w = w')) :
    Calls Try.prog 65 #[.int .i64 i, .func (.func 68) #[] #[.pointer (some p)]] w fun e w' => e = .returned (.int .i64 (errName name i)) ∧ w = w' := by
  cases hnm : isName (name i) with
  | false =>
    have F := Lib.hid (show errName name i = 4 by unfold errName; rw [hnm]; rfl)
    have N := Lib.hid hnm
    clear hnm
    go_enter Try.func65, Try.ntmps65
    go_wp2_with (first | (go_at_call 68; refine (HK.out i (by omega)).mono ?_; rintro e w' ⟨rfl, rfl⟩) | (go_at_call 64; refine (isName_any _ _).mono ?_; rintro e w' ⟨rfl, rfl⟩; rw [N.out]))
    go_ret
    exact ⟨ret_int F.out.symm, rfl⟩
  | true =>
    have F0 := Lib.hid (show errName name i = fst (fun j => if name j = name i then 5 else 0) i by unfold errName; rw [hnm]; rfl)
    have N := Lib.hid hnm
    clear hnm
    go_enter Try.func65, Try.ntmps65
    go_wp2_with (first | (go_at_call 68; refine (HK.out i (by omega)).mono ?_; rintro e w' ⟨rfl, rfl⟩) | (go_at_call 64; refine (isName_any _ _).mono ?_; rintro e w' ⟨rfl, rfl⟩; rw [N.out]))
    go_loop [12] (fun u => ∃ k : Nat, k ≤ i ∧ u = .int .i64 k ∧ Hid (∀ j, j < k → name j ≠ name i)) (fun u => i - (intOf u).toNat)
    case atStart => exact ⟨0, Nat.zero_le _, rfl, fun j hj => absurd hj (Nat.not_lt_zero _)⟩
    case round =>
      obtain ⟨k, hk, rfl, Hn⟩ := hrel
      by_cases hlt : k < i
      · by_cases hq : name k = name i
        · have F := Lib.hid (F0.out.trans ((fst_hit (f := fun j => if name j = name i then 5 else 0) hlt (fun j hj => if_neg (Hn.out j hj)) (by rw [if_pos hq]; decide)).1.trans (if_pos hq)))
          have q := str_eq hq
          clear hq
          go_wp2_with fail
          refine (HK.out k (by omega)).mono ?_
          rintro e w' ⟨rfl, rfl⟩
          go_wp2_with fail
          refine (HK.out i (by omega)).mono ?_
          rintro e w' ⟨rfl, rfl⟩
          go_wp2_with fail
          go_ret
          exact ⟨ret_int F.out.symm, rfl⟩
        · have F : Hid (∀ j, j < k + 1 → name j ≠ name i) := fun j hj => by
            by_cases e : j = k
            · subst e; exact hq
            · exact Hn.out j (by omega)
          have q := str_ne hq
          clear hq
          go_wp2_with fail
          refine (HK.out k (by omega)).mono ?_
          rintro e w' ⟨rfl, rfl⟩
          go_wp2_with fail
          refine (HK.out i (by omega)).mono ?_
          rintro e w' ⟨rfl, rfl⟩
          go_wp2_with fail
          go_round
          case rel => exact ⟨k + 1, by omega, by go_num, F⟩
          case measure => simp [intOf]; omega
      · have F := Lib.hid (F0.out.trans (fst_none (f := fun j => if name j = name i then 5 else 0) fun j hj => if_neg (Hn.out j (by omega))))
        go_wp2
        go_ret
        exact ⟨ret_int F.out.symm, rfl⟩
set_option maxHeartbeats 400000 in
theorem errNameE_any (name : Nat → ByteArray) (p : Addr) (i : Nat) (w : World) (hi : i ≤ 9223372036854775806) (HK : Hid (∀ j : Nat, j ≤ i → Calls Try.prog 71 #[.int .i64 j, .pointer (some p)] w fun e w' => e = .returned (.string (name j)) ∧ w = w')) :
    Calls Try.prog 65 #[.int .i64 i, .func (.func 71) #[] #[.pointer (some p)]] w fun e w' => e = .returned (.int .i64 (errName name i)) ∧ w = w' := by
  cases hnm : isName (name i) with
  | false =>
    have F := Lib.hid (show errName name i = 4 by unfold errName; rw [hnm]; rfl)
    have N := Lib.hid hnm
    clear hnm
    go_enter Try.func65, Try.ntmps65
    go_wp2_with (first | (go_at_call 71; refine (HK.out i (by omega)).mono ?_; rintro e w' ⟨rfl, rfl⟩) | (go_at_call 64; refine (isName_any _ _).mono ?_; rintro e w' ⟨rfl, rfl⟩; rw [N.out]))
    go_ret
    exact ⟨ret_int F.out.symm, rfl⟩
  | true =>
    have F0 := Lib.hid (show errName name i = fst (fun j => if name j = name i then 5 else 0) i by unfold errName; rw [hnm]; rfl)
    have N := Lib.hid hnm
    clear hnm
    go_enter Try.func65, Try.ntmps65
    go_wp2_with (first | (go_at_call 71; refine (HK.out i (by omega)).mono ?_; rintro e w' ⟨rfl, rfl⟩) | (go_at_call 64; refine (isName_any _ _).mono ?_; rintro e w' ⟨rfl, rfl⟩; rw [N.out]))
    go_loop [12] (fun u => ∃ k : Nat, k ≤ i ∧ u = .int .i64 k ∧ Hid (∀ j, j < k → name j ≠ name i)) (fun u => i - (intOf u).toNat)
    case atStart => exact ⟨0, Nat.zero_le _, rfl, fun j hj => absurd hj (Nat.not_lt_zero _)⟩
    case round =>
      obtain ⟨k, hk, rfl, Hn⟩ := hrel
      by_cases hlt : k < i
      · by_cases hq : name k = name i
        · have F := Lib.hid (F0.out.trans ((fst_hit (f := fun j => if name j = name i then 5 else 0) hlt (fun j hj => if_neg (Hn.out j hj)) (by rw [if_pos hq]; decide)).1.trans (if_pos hq)))
          have q := str_eq hq
          clear hq
          go_wp2_with fail
          refine (HK.out k (by omega)).mono ?_
          rintro e w' ⟨rfl, rfl⟩
          go_wp2_with fail
          refine (HK.out i (by omega)).mono ?_
          rintro e w' ⟨rfl, rfl⟩
          go_wp2_with fail
          go_ret
          exact ⟨ret_int F.out.symm, rfl⟩
        · have F : Hid (∀ j, j < k + 1 → name j ≠ name i) := fun j hj => by
            by_cases e : j = k
            · subst e; exact hq
            · exact Hn.out j (by omega)
          have q := str_ne hq
          clear hq
          go_wp2_with fail
          refine (HK.out k (by omega)).mono ?_
          rintro e w' ⟨rfl, rfl⟩
          go_wp2_with fail
          refine (HK.out i (by omega)).mono ?_
          rintro e w' ⟨rfl, rfl⟩
          go_wp2_with fail
          go_round
          case rel => exact ⟨k + 1, by omega, by go_num, F⟩
          case measure => simp [intOf]; omega
      · have F := Lib.hid (F0.out.trans (fst_none (f := fun j => if name j = name i then 5 else 0) fun j hj => if_neg (Hn.out j (by omega))))
        go_wp2
        go_ret
        exact ⟨ret_int F.out.symm, rfl⟩
end Go.Proofs.Ytbehabaoeicgeaa

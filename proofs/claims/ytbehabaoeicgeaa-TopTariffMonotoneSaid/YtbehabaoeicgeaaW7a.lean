/- The only rule of a list; the error of a tariff; the errors of the supplements and the segments of a trip. No condition. -/
import Derived.Test.YtbehabaoeicgeaaW6b
import Derived.Test.YtbehabaoeicgeaaFs2
namespace Go.Proofs.Ytbehabaoeicgeaa
open Go.RowKit Fs

set_option maxHeartbeats 400000 in
theorem only_any (l : List Int) (A : Option Addr) (c : Nat) (w : World) (h : ArrI w A l c) :
    Calls Try.prog 28 #[.slice A l.length c] w fun e w' => e = .returned (.tuple #[.int .i64 (only l).1, .int .i64 (only l).2]) ∧ w = w' := by
  have b1 := h.le.1
  have b2 := h.le.2
  by_cases h0 : l.length = 0
  · have F := Lib.hid (show only l = (0, 12) by unfold only; rw [if_pos h0])
    have d0 : (((l.length : Nat) : Int) == 0) = true := by simp [h0]
    clear h0
    go_enter Try.func28, Try.ntmps28
    go_wp2
    go_ret2
    exact ⟨by rw [F.out]; rfl, rfl⟩
  · have d0 : (((l.length : Nat) : Int) == 0) = false := by simp; intro e; exact h0 (by simp [e])
    by_cases h1 : l.length = 1
    · obtain ⟨b, o, rfl, c0⟩ := h.at_ (k := 0) (by omega)
      have F := Lib.hid (show only l = (listI l 0, 0) by unfold only; rw [if_neg h0, if_pos h1])
      have d1 : (((l.length : Nat) : Int) == 1) = true := by simp [h1]
      have hp : 0 < l.length := by omega
      simp only [Nat.add_zero] at c0
      clear h0 h1
      go_enter Try.func28, Try.ntmps28
      go_wp2
      go_ret2
      exact ⟨by rw [F.out]; rfl, rfl⟩
    · have F := Lib.hid (show only l = (0, 13) by unfold only; rw [if_neg h0, if_neg h1])
      have d1 : (((l.length : Nat) : Int) == 1) = false := by
        rw [beq_eq_false_iff_ne]; omega
      clear h0 h1
      go_enter Try.func28, Try.ntmps28
      go_wp2
      go_ret2
      exact ⟨by rw [F.out]; rfl, rfl⟩
def extraBad (l : List Int) (i : Nat) : Int := if within (listI l i) 0 20 then 0 else 2
def errExtras' (T : Tar) (l : List Int) : Int × Int :=
  if l.length ≠ T.extras.length then (0, 10) else (((idx (extraBad l) l.length : Nat) : Int), fst (extraBad l) l.length)
set_option maxHeartbeats 400000 in
theorem checkExtras_any (T : Tar) (v : Value) (l : List Int) (A : Option Addr) (c : Nat) (w : World) (hT : RdTar w v T) (hl : ArrI w A l c) :
    Calls Try.prog 47 #[v, .slice A l.length c] w fun e w' => e = .returned (.tuple #[.int .i64 (errExtras' T l).1, .int .i64 (errExtras' T l).2]) ∧ Below w.heap.size w w' := by
  obtain ⟨z, h, r, e, f, zc, hc, rc, ec, fc, a, rfl, m⟩ := hT
  have a1 := m.extras.le.1
  have a2 := m.extras.le.2
  clear m
  have b1 := hl.le.1
  have b2 := hl.le.2
  by_cases hn : l.length = T.extras.length
  · have d0 : (((l.length : Nat) : Int) != ((T.extras.length : Nat) : Int)) = false := by simp [hn]
    have F0 := Lib.hid (show errExtras' T l = (((idx (extraBad l) l.length : Nat) : Int), fst (extraBad l) l.length) by unfold errExtras'; rw [if_neg (fun hh => hh hn)])
    clear hn
    go_enter Try.func47, Try.ntmps47
    go_wp2
    go_loop [16] (fun u => ∃ k : Nat, k ≤ l.length ∧ u = .int .i64 k ∧ Hid (∀ j, j < k → extraBad l j = 0)) (fun u => l.length - (intOf u).toNat)
    case atStart => exact ⟨0, Nat.zero_le _, rfl, fun j hj => absurd hj (Nat.not_lt_zero _)⟩
    case round =>
      obtain ⟨k, hk, rfl, Hn⟩ := hrel
      by_cases hlt : k < l.length
      · obtain ⟨b, o, rfl, c0⟩ := hl.at_ hlt
        have c0 := fun x => Keep.alloc w x _ _ c0
        cases hx : within (listI l k) 0 20 with
        | true =>
          have F : Hid (∀ j, j < k + 1 → extraBad l j = 0) := fun j hj => by
            by_cases e : j = k
            · subst e; unfold extraBad; rw [hx]; rfl
            · exact Hn.out j (by omega)
          have X := Lib.hid hx
          clear hx
          go_wp2_with (go_at_call 31; refine (within_any _ _ _ _).mono ?_; rintro e' w' ⟨rfl, rfl⟩; rw [X.out])
          go_round
          case rel => exact ⟨k + 1, by omega, by go_num, F⟩
          case measure => simp [intOf]; omega
        | false =>
          have hb : extraBad l k = 2 := by unfold extraBad; rw [hx]; rfl
          have F := Lib.hid (show errExtras' T l = ((k : Int), 2) by
            obtain ⟨e1, e2⟩ := fst_hit hlt Hn.out (by rw [hb]; decide)
            rw [F0.out, e1, e2, hb])
          have X := Lib.hid hx
          clear hx hb
          go_wp2_with (go_at_call 31; refine (within_any _ _ _ _).mono ?_; rintro e' w' ⟨rfl, rfl⟩; rw [X.out])
          go_ret2
          exact ⟨by rw [F.out]; rfl, (Below.refl _ _).alloc (Nat.le_refl _) _⟩
      · have F := Lib.hid (show errExtras' T l = (0, 0) by
          rw [F0.out, fst_none fun j hj => Hn.out j (by omega), idx_none fun j hj => Hn.out j (by omega)]; rfl)
        go_wp2
        go_ret2
        exact ⟨by rw [F.out]; rfl, (Below.refl _ _).alloc (Nat.le_refl _) _⟩
  · have d0 : (((l.length : Nat) : Int) != ((T.extras.length : Nat) : Int)) = true := by
      rw [bne_iff_ne]; omega
    have F := Lib.hid (show errExtras' T l = (0, 10) by unfold errExtras'; rw [if_pos hn])
    clear hn
    go_enter Try.func47, Try.ntmps47
    go_wp2
    go_ret2
    exact ⟨by rw [F.out]; rfl, (Below.refl _ _).alloc (Nat.le_refl _) _⟩
end Go.Proofs.Ytbehabaoeicgeaa

/- The cents of a trip's supplements. Conditions: the trip has as many numbers as the tariff has supplements, and all are in their ranges. -/
import Derived.Test.YtbehabaoeicgeaaW8a
namespace Go.Proofs.Ytbehabaoeicgeaa
open Go.RowKit Fs

/-- The cents of supplement i. -/
def extraCents (T : Tar) (l : List Int) (i : Nat) : Int := (listE T.extras i).amount * listI l i
set_option maxHeartbeats 1000000 in
set_option maxRecDepth 100000 in
theorem extrasOf_any (T : Tar) (X : Trip) (v x : Value) (w : World) (hT : RdTar w v T) (hX : RdTrip w x X) (hlen : X.extras.length ≤ T.extras.length)
    (hs : Hid (∀ k, k < X.extras.length → 0 ≤ extraCents T X.extras k ∧ extraCents T X.extras k ≤ 1000000000000 ∧ 0 ≤ sumTo (extraCents T X.extras) k ∧ sumTo (extraCents T X.extras) k ≤ 1000000000000000)) :
    Calls Try.prog 34 #[v, x] w fun e w' => e = .returned (.int .i64 (sumTo (extraCents T X.extras) X.extras.length)) ∧ Below w.heap.size w w' := by
  obtain ⟨z, h, r, e, f, zc, hc, rc, ec, fc, a, rfl, m⟩ := hT
  obtain ⟨xe, xs, xec, xsc, rfl, x1, x2⟩ := hX
  have he := m.extras
  have b1 := he.le.1
  have b2 := he.le.2
  have b3 := x1.le.1
  have b4 := x1.le.2
  clear m x2
  go_enter Try.func34, Try.ntmps34
  go_wp2_with fail
  go_loop [5, 11] (fun s u => ∃ k : Nat, k ≤ X.extras.length ∧ u = .int .i64 k ∧ s = .int .i64 (sumTo (extraCents T X.extras) k)) (fun _ u => X.extras.length - (intOf u).toNat)
  case atStart => exact ⟨0, Nat.zero_le _, rfl, rfl⟩
  case round =>
    obtain ⟨k, hk, rfl, rfl⟩ := hrel
    by_cases hlt : k < X.extras.length
    · obtain ⟨b, o, rfl, c0⟩ := x1.at_ hlt
      obtain ⟨eb, eo, rfl, _, c1⟩ := he.at_ (k := k) (by omega)
      have c0 := fun y z => (Keep.trans (Keep.alloc w y) (Keep.alloc (w.alloc y) z)) _ _ c0
      have c1 := fun y z => (Keep.trans (Keep.alloc w y) (Keep.alloc (w.alloc y) z)) _ _ c1
      obtain ⟨s1, s2, s3, s4⟩ := hs.out k hlt
      unfold extraCents at s1 s2
      go_wp2_with fail
      go_round
      case rel => exact ⟨k + 1, by omega, by go_num, rfl⟩
      case measure => simp [intOf]; omega
    · have e5 : k = X.extras.length := by omega
      have F := Lib.hid (show sumTo (extraCents T X.extras) k = sumTo (extraCents T X.extras) X.extras.length by rw [e5])
      clear e5
      go_wp2
      go_ret
      exact ⟨ret_int F.out, ((Below.refl _ _).alloc (Nat.le_refl _) _).alloc (by simp) _⟩
end Go.Proofs.Ytbehabaoeicgeaa

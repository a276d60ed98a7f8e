/- The error of a tariff, alone. No condition. -/
import Derived.Test.YtbehabaoeicgeaaW6c
namespace Go.Proofs.Ytbehabaoeicgeaa
open Go.RowKit Fs

set_option maxHeartbeats 400000 in
theorem tarErr_any (T : Tar) (v : Value) (w : World) (hT : RdTar w v T) :
    Calls Try.prog 39 #[v] w fun e w' => e = .returned (.int .i64 (errTar T)) ∧ Below w.heap.size w w' := by
  have hT0 := hT
  obtain ⟨z, h, r, e, f, zc, hc, rc, ec, fc, a, rfl, m⟩ := hT
  clear m
  go_enter Try.func39, Try.ntmps39
  go_wp2_with fail
  refine (check_any T _ _ (hT0.keep (Keep.alloc _ _))).mono ?_
  rintro e' w1 ⟨rfl, hb1⟩
  have hbw1 : Below w.heap.size w w1 := ((Below.refl _ _).alloc (Nat.le_refl _) _).trans (hb1.mono (by simp))
  clear hb1
  go_wp2_with fail
  go_ret
  exact ⟨rfl, hbw1.alloc hbw1.size _⟩
end Go.Proofs.Ytbehabaoeicgeaa

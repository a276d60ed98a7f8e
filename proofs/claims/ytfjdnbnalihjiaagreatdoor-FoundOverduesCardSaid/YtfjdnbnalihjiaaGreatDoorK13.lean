/- The text of the hat. No condition. -/
import Derived.Test.YtfjdnbnalihjiaaGreatDoorXU
import Derived.Test.YtfjdnbnalihjiaaGreatDoorK7
import Derived.Test.YtfjdnbnalihjiaaGreatDoorK11
namespace Go.Proofs.YtfjdnbnalihjiaaGreatDoor
open Go.RowKit Fs

/-! ### the text of the hat -/
set_option maxRecDepth 100000 in
set_option maxHeartbeats 1600000 in
theorem xSmall10_any (w : World) : Calls Tryz.prog 193 #[.int .i64 10] w fun e w' => e = .returned (.string ⟨#[49, 48]⟩) ∧ w = w' := by
  go_enter Tryz.func193, Tryz.ntmps193
  go_wp2_with fail
  go_ret
  exact ⟨rfl, rfl⟩
set_option maxHeartbeats 1600000 in
theorem xFormatInt10_any (w : World) : Calls Tryz.prog 167 #[.int .i64 10, .int .i64 10] w fun e w' => e = .returned (.string ⟨#[49, 48]⟩) ∧ w = w' := by
  go_enter Tryz.func167, Tryz.ntmps167
  go_wp2_with fail
  refine (xSmall10_any _).mono ?_
  rintro e w' ⟨rfl, rfl⟩
  go_wp2_with fail
  go_ret
  exact ⟨rfl, rfl⟩
set_option maxHeartbeats 1600000 in
theorem xItoa10i_any (w : World) : Calls Tryz.prog 148 #[.int .i64 10] w fun e w' => e = .returned (.string ⟨#[49, 48]⟩) ∧ w = w' := by
  go_enter Tryz.func148, Tryz.ntmps148
  go_wp2_with fail
  refine (xFormatInt10_any _).mono ?_
  rintro e w' ⟨rfl, rfl⟩
  go_wp2_with fail
  go_ret
  exact ⟨rfl, rfl⟩
set_option maxHeartbeats 1600000 in
theorem xItoa10_any (w : World) : Calls Tryz.prog 124 #[.int .i64 10] w fun e w' => e = .returned (.string ⟨#[49, 48]⟩) ∧ Below w.heap.size w w' := by
  go_enter Tryz.func124, Tryz.ntmps124
  go_wp2_with fail
  refine (xItoa10i_any _).mono ?_
  rintro e w' ⟨rfl, rfl⟩
  go_wp2_with fail
  go_ret
  exact ⟨rfl, Below.refl _ _⟩
theorem Fs.hat_few : FewTexts (lThg exItems 0) ⟨#[49, 48]⟩ := by
  refine ⟨by decide, by decide, by decide, by decide, fun i hi => ?_⟩
  have : i = 0 ∨ i = 1 ∨ i = 2 := by
    have h3 : (lThg exItems 0).marks.length = 3 := by decide
    omega
  rcases this with e | e | e <;> subst e <;> exact ⟨by decide, by decide⟩
theorem Fs.hat_is : joinB 32 (textTo2 (lThg exItems 0) ⟨#[49, 48]⟩ (lThg exItems 0).marks.length) = hatText := by decide +kernel
theorem xFormatHat_any (v : Value) (w : World) (hv : RdThg w v (lThg exItems 0)) :
    Calls Tryz.prog 74 #[v] w fun e w' => e = .returned (.string hatText) ∧ Below w.heap.size w w' := by
  rw [← hat_is]
  exact xFormat_any (lThg exItems 0) v ⟨#[49, 48]⟩ w hv (fun w => xItoa10_any w) hat_few
end Go.Proofs.YtfjdnbnalihjiaaGreatDoor
/- What the program's functions of chapter 9 answer, together. No condition of its own. -/


/- The example's fare is as it should be: the walk over the examples says yes. No condition. -/
import Derived.Test.YtbehabaoeicgeaaW11a
namespace Go.Proofs.Ytbehabaoeicgeaa
open Go.RowKit Fs

set_option maxHeartbeats 1600000 in
set_option maxRecDepth 100000 in
theorem tariffed_any (w : World) :
    Calls Try.prog 5 #[] w fun e w' => e = .returned (.bool true) ∧ Below w.heap.size w w' := by
  have F1 := Lib.hid fare_example.1
  have F2 := Lib.hid fare_example.2
  go_enter Try.func5, Try.ntmps5
  go_wp2_with fail
  refine (city_any _).mono ?_
  rintro e' w1 ⟨v1, rfl, h1, hb1⟩
  have H1 := Lib.hid h1
  have HB1 := Lib.hid hb1
  clear h1 hb1
  go_wp2_with fail
  refine (ride_any _).mono ?_
  rintro e' w2 ⟨v2, rfl, h2, hb2⟩
  have H2 := Lib.hid h2
  have HT2 := Lib.hid (H1.out.keep (Keep.below hb2))
  have HB2 := Lib.hid (HB1.out.trans (hb2.mono HB1.out.size))
  clear h2 hb2
  go_wp2_with fail
  refine (fareOf_any cityT rideX _ _ _ HT2.out H2.out (by decide)).mono ?_
  rintro e' w3 ⟨rfl, hb3⟩
  rw [F1.out, F2.out]
  have HB3 := Lib.hid (HB2.out.trans (hb3.mono HB2.out.size))
  clear hb3
  go_wp2_with fail
  go_ret
  exact ⟨rfl, HB3.out.alloc HB3.out.size _⟩
end Go.Proofs.Ytbehabaoeicgeaa

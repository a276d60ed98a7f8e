/- Four examples of the chapter are right. No condition. -/
import Derived.Test.YtndhpdjcpagghaaGreatDoorT26
import Derived.Test.YtndhpdjcpagghaaGreatDoorT29
import Derived.Test.YtndhpdjcpagghaaGreatDoorT34
namespace Go.Proofs.YtndhpdjcpagghaaGreatDoor
open Go.RowKit Fs

theorem takes_example : takes exNet 0 1800 = ((400, 500), 0) := by kernel_rfl
theorem late_example : tooLate exNet 0 2 290 0 = false ∧ tooLate exNet 0 2 290 1 = true ∧ estErr exNet 0 2 290 = 0 := ⟨by kernel_rfl, by kernel_rfl, by kernel_rfl⟩
theorem latest_example {x y : Int} (h : LatestIs exNet 0 2 290 x y) : x = 0 ∧ y = 0 := by
  obtain ⟨e1, e2, e3⟩ := late_example
  rcases h with ⟨h, -⟩ | ⟨-, k, h1, h2, h3, h4⟩
  · exact absurd e3 h
  · have k1 : k ≠ 0 := fun hk => by
      subst hk
      have := h3 0 (Nat.le_refl _) (by decide)
      rw [show tooLate exNet (0 : Int).toNat (2 : Int).toNat 290 0 = false from e1] at this
      cases this
    have k2 : k ≤ 1 := by
      rcases Nat.lt_or_ge 1 k with h | h
      · have := h2 1 h
        rw [show tooLate exNet (0 : Int).toNat (2 : Int).toNat 290 1 = true from e2] at this
        cases this
      · exact h
    rcases h4 with ⟨h, -⟩ | ⟨-, h5, h6⟩
    · exact absurd h k1
    · exact ⟨by omega, h6⟩

set_option maxHeartbeats 3200000 in
set_option maxRecDepth 100000 in
theorem awake_any (w : World) :
    Calls Tryz.prog 5 #[] w fun e w' => e = .returned (.bool true) ∧ Below w.heap.size w w' := by
  have F0 := Lib.hid takes_example
  have F1 := Lib.hid estimate_example
  have F2 := Lib.hid shortest_example
  go_enter Tryz.func5, Tryz.ntmps5
  go_wp2_with fail
  refine (net_any _).mono ?_
  rintro e' w1 ⟨v1, rfl, h1, hb1⟩
  have H1 := Lib.hid h1
  have HB := Lib.hid hb1
  clear h1 hb1
  go_wp2_with fail
  refine (takes_any exNet _ 0 1800 _ H1.out).mono ?_
  rintro e' w2 ⟨rfl, hb2⟩
  rw [F0.out]
  replace HB := Lib.hid (HB.out.trans (hb2.mono HB.out.size))
  clear hb2 H1
  go_wp2_with fail
  refine (net_any _).mono ?_
  rintro e' w3 ⟨v3, rfl, h3, hb3⟩
  have H3 := Lib.hid h3
  replace HB := Lib.hid ((HB.out.alloc HB.out.size _).trans (hb3.mono (HB.out.alloc HB.out.size _).size))
  have R0 := Lib.hid ((Keep.below hb3) _ _ (cellNew w2 #[.int .i64 400, .int .i64 500] 54 0))
  have R1 := Lib.hid ((Keep.below hb3) _ _ (cellNew w2 #[.int .i64 400, .int .i64 500] 54 1))
  clear h3 hb3
  go_wp2_with fail
  refine (estimate_any exNet _ 0 2 0 _ H3.out).mono ?_
  rintro e' w4 ⟨rfl, hb4⟩
  rw [F1.out]
  replace HB := Lib.hid (HB.out.trans (hb4.mono HB.out.size))
  replace R0 := Lib.hid ((Keep.below hb4) _ _ R0.out)
  replace R1 := Lib.hid ((Keep.below hb4) _ _ R1.out)
  clear hb4 H3
  go_wp2_with fail
  refine (net_any _).mono ?_
  rintro e' w5 ⟨v5, rfl, h5, hb5⟩
  have H5 := Lib.hid h5
  replace HB := Lib.hid ((HB.out.alloc HB.out.size _).trans (hb5.mono (HB.out.alloc HB.out.size _).size))
  replace R0 := Lib.hid ((Keep.below hb5) _ _ (Keep.alloc _ _ _ _ R0.out))
  replace R1 := Lib.hid ((Keep.below hb5) _ _ (Keep.alloc _ _ _ _ R1.out))
  have S0 := Lib.hid ((Keep.below hb5) _ _ (cellNew w4 #[.int .i64 160, .int .i64 290] 54 0))
  have S1 := Lib.hid ((Keep.below hb5) _ _ (cellNew w4 #[.int .i64 160, .int .i64 290] 54 1))
  clear h5 hb5
  go_wp2_with fail
  refine (shortest_any exNet _ 0 2 _ H5.out).mono ?_
  rintro e' w6 ⟨l, A, c, rfl, -, -, -, hb6⟩
  rw [F2.out]
  replace HB := Lib.hid (HB.out.trans (hb6.mono HB.out.size))
  replace R0 := Lib.hid ((Keep.below hb6) _ _ R0.out)
  replace R1 := Lib.hid ((Keep.below hb6) _ _ R1.out)
  replace S0 := Lib.hid ((Keep.below hb6) _ _ S0.out)
  replace S1 := Lib.hid ((Keep.below hb6) _ _ S1.out)
  clear hb6 H5
  go_wp2_with fail
  refine (net_any _).mono ?_
  rintro e' w7 ⟨v7, rfl, h7, hb7⟩
  have H7 := Lib.hid h7
  replace HB := Lib.hid (HB.out.trans (hb7.mono HB.out.size))
  replace R0 := Lib.hid ((Keep.below hb7) _ _ R0.out)
  replace R1 := Lib.hid ((Keep.below hb7) _ _ R1.out)
  replace S0 := Lib.hid ((Keep.below hb7) _ _ S0.out)
  replace S1 := Lib.hid ((Keep.below hb7) _ _ S1.out)
  clear h7 hb7
  go_wp2_with fail
  refine (latestFor_any exNet _ 0 2 290 _ H7.out).mono ?_
  rintro e' w8 ⟨x, y, rfl, hl, hb8⟩
  obtain ⟨rfl, rfl⟩ := latest_example hl
  replace HB := Lib.hid (HB.out.trans (hb8.mono HB.out.size))
  have r0 := (Keep.below hb8) _ _ R0.out
  have r1 := (Keep.below hb8) _ _ R1.out
  have s0 := (Keep.below hb8) _ _ S0.out
  have s1 := (Keep.below hb8) _ _ S1.out
  clear hb8 H7 hl
  go_wp2_with fail
  go_ret
  exact ⟨rfl, HB.out⟩
end Go.Proofs.YtndhpdjcpagghaaGreatDoor

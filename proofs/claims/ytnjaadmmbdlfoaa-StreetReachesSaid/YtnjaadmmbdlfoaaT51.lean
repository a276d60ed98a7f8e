/- The law of heights: which are accepted. No condition. -/
import Derived.Test.YtnjaadmmbdlfoaaT35
import Derived.Test.YtnjaadmmbdlfoaaT38
import Derived.Test.YtnjaadmmbdlfoaaT44
import Derived.Test.YtnjaadmmbdlfoaaT49
import Derived.Deep.CutBlock
namespace Go.Proofs.Ytnjaadmmbdlfoaa
open Go.RowKit Fs

def Fs.noPlace (N : Net) (i : Int) : Int := if isPlace N i then 0 else 6
set_option maxHeartbeats 400000 in
theorem rPlaceErr_any (N : Net) (v : Value) (i : Int) (w : World) (hN : RdNet w v N) : Calls Try.prog 15 #[v, .int .i64 i] w fun e w' => e = .returned (.int .i64 (noPlace N i)) ∧ Below w.heap.size w w' := by
  have hN0 := Lib.hid hN
  obtain ⟨P, R, pc, rc, a, rfl, m⟩ := hN
  clear m
  have BN := Lib.hid (BoxN.new w N P R pc rc 25)
  obtain ⟨n0, n1⟩ := BN.out
  cases hr : isPlace N i with
  | true =>
    have X := Lib.hid hr
    go_enter Try.func15, Try.ntmps15
    go_wp2_with (go_at_call 39; refine (rIsPlace_any N _ i _ (hN0.out.keep (Keep.alloc w _))).mono ?_; rintro e w1 ⟨rfl, hb1⟩; rw [X.out])
    go_ret
    exact ⟨ret_int (by unfold noPlace; rw [if_pos hr]), ((Below.refl _ _).alloc (Nat.le_refl _) _).trans (hb1.mono (by simp))⟩
  | false =>
    have X := Lib.hid hr
    go_enter Try.func15, Try.ntmps15
    go_wp2_with (go_at_call 39; refine (rIsPlace_any N _ i _ (hN0.out.keep (Keep.alloc w _))).mono ?_; rintro e w1 ⟨rfl, hb1⟩; rw [X.out])
    go_ret
    exact ⟨ret_int (by unfold noPlace; rw [hr]; rfl), ((Below.refl _ _).alloc (Nat.le_refl _) _).trans (hb1.mono (by simp))⟩
theorem Fs.fst3 (x y z : Int) : fst (listI [x, y, z]) 3 = if x = 0 then (if y = 0 then z else y) else x := by
  by_cases h : x = 0
  · rw [if_pos h]
    by_cases h2 : y = 0
    · rw [if_pos h2]
      by_cases h3 : z = 0
      · rw [h, h2, h3]; rfl
      · exact (fst_hit (f := listI [x, y, z]) (k := 2) (by decide) (fun j hj => by rcases (show j = 0 ∨ j = 1 by omega) with rfl | rfl; exact h; exact h2) h3).1
    · rw [if_neg h2]
      exact (fst_hit (f := listI [x, y, z]) (k := 1) (by decide) (fun j hj => by obtain rfl : j = 0 := (by omega); exact h) h2).1
  · rw [if_neg h]
    exact (fst_hit (f := listI [x, y, z]) (k := 0) (by decide) (fun j hj => absurd hj (Nat.not_lt_zero _)) h).1
theorem Fs.chHeights_net {N : Net} {x y : Int} {l : List Int} (h : netErr N ≠ 0) : chHeights N x y l = (0, netErr N) := by
  have : chErr N x y l = netErr N := by unfold chErr; rw [fst3, if_neg h]
  unfold chHeights
  rw [this, if_neg h]
theorem Fs.chHeights_place {N : Net} {x y : Int} {l : List Int} (h : netErr N = 0) (h2 : ¬ (isPlace N x = true ∧ isPlace N y = true)) : chHeights N x y l = (0, 6) := by
  have : chErr N x y l = 6 := by unfold chErr; rw [fst3, if_pos h, place_two, if_neg h2]; rfl
  unfold chHeights
  rw [this]
  rfl
theorem Fs.isPlace_in {N : Net} {z : Int} (h : isPlace N z = true) : 0 ≤ z ∧ z < N.places.length := by
  have h := Fs.within_iff.1 h; exact ⟨h.1, by omega⟩

end Go.Proofs.Ytnjaadmmbdlfoaa

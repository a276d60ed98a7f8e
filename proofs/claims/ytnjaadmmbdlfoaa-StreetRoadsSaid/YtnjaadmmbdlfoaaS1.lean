/- Two lists that read alike are told to be the same. No condition. -/
import Derived.WalkKit
import Derived.WalkSpells
import Derived.WalkLawsBesides
import Derived.Deep.QuietTactic
import Derived.BigQuiet
import Derived.Lib.Hide
import Derived.Test.YtnjaadmmbdlfoaaProg
import Derived.Test.YtnjaadmmbdlfoaaMem
namespace Go.Proofs.Ytnjaadmmbdlfoaa
open Go.RowKit Fs

set_option maxHeartbeats 800000 in
set_option maxRecDepth 100000 in
theorem ints_same (l : List Int) (A B : Option Addr) (c e : Nat) (w : World) (hA : ArrI w A l c) (hB : ArrI w B l e) :
    Calls Try.prog 17 #[.slice A l.length c, .slice B l.length e] w fun x w' => x = .returned (.bool true) ∧ Below w.heap.size w w' := by
  have b1 := hA.le.1
  have b2 := hA.le.2
  go_enter Try.func17, Try.ntmps17
  have d1 : ((l.length : Int) != (l.length : Int)) = false := by simp
  go_wp2_with fail
  clear d1
  go_loopw [5] (fun u wr => ∃ k : Nat, k ≤ l.length ∧ u = .int .i64 k ∧ Hid (Below w.heap.size w wr)) (fun u _ => l.length - (intOf u).toNat)
  case atStart => exact ⟨0, Nat.zero_le _, rfl, Lib.hid (Below.refl _ _)⟩
  case round =>
    obtain ⟨k, hk, rfl, HB⟩ := hrel
    by_cases hlt : k < l.length
    · have hkr : decide ((k : Int) < (l.length : Int)) = true := decide_eq_true (by omega)
      have d2 : (listI l k != listI l k) = false := by simp
      obtain ⟨b, o, rfl, h1⟩ := (hA.keep (Keep.below HB.out)).at_ hlt
      obtain ⟨b', o', rfl, h2⟩ := (hB.keep (Keep.below HB.out)).at_ hlt
      have i0 : (0 : Int) ≤ (k : Int) := by omega
      have i1 : (k : Int) < (l.length : Int) := by omega
      go_wp2_with fail
      go_quiet (fail)
      go_wp2_with fail
      go_roundw
      case rel => exact ⟨k + 1, by omega, by go_num, Lib.hid (bdrewN HB.out _)⟩
      case measure => simp [intOf]; omega
    · have hkr : decide ((k : Int) < (l.length : Int)) = false := decide_eq_false (by omega)
      go_wp2_with fail
      go_ret
      exact ⟨rfl, HB.out⟩
set_option maxHeartbeats 800000 in
set_option maxRecDepth 100000 in
theorem texts_same (l : List ByteArray) (A B : Option Addr) (c e : Nat) (w : World) (hA : ArrS w A l c) (hB : ArrS w B l e) :
    Calls Try.prog 45 #[.slice A l.length c, .slice B l.length e] w fun x w' => x = .returned (.bool true) ∧ Below w.heap.size w w' := by
  have b1 := hA.le.1
  have b2 := hA.le.2
  go_enter Try.func45, Try.ntmps45
  have d1 : ((l.length : Int) != (l.length : Int)) = false := by simp
  go_wp2_with fail
  clear d1
  go_loopw [5] (fun u wr => ∃ k : Nat, k ≤ l.length ∧ u = .int .i64 k ∧ Hid (Below w.heap.size w wr)) (fun u _ => l.length - (intOf u).toNat)
  case atStart => exact ⟨0, Nat.zero_le _, rfl, Lib.hid (Below.refl _ _)⟩
  case round =>
    obtain ⟨k, hk, rfl, HB⟩ := hrel
    by_cases hlt : k < l.length
    · have hkr : decide ((k : Int) < (l.length : Int)) = true := decide_eq_true (by omega)
      obtain ⟨b, o, rfl, h1⟩ := (hA.keep (Keep.below HB.out)).at_ hlt
      obtain ⟨b', o', rfl, h2⟩ := (hB.keep (Keep.below HB.out)).at_ hlt
      have i0 : (0 : Int) ≤ (k : Int) := by omega
      have i1 : (k : Int) < (l.length : Int) := by omega
      go_wp2_with fail
      go_quiet (fail)
      go_wp2_with fail
      go_roundw
      case rel => exact ⟨k + 1, by omega, by go_num, Lib.hid (bdrewN HB.out _)⟩
      case measure => simp [intOf]; omega
    · have hkr : decide ((k : Int) < (l.length : Int)) = false := decide_eq_false (by omega)
      go_wp2_with fail
      go_ret
      exact ⟨rfl, HB.out⟩
end Go.Proofs.Ytnjaadmmbdlfoaa

/- The reference's arrivals of a right way. Conditions: the net is right; the way is one of at most a thousand roads; the time is small. -/
import Derived.Test.YtndhpdjcpagghaaGreatDoorRP
import Derived.Test.YtndhpdjcpagghaaGreatDoorT43
import Derived.Test.YtndhpdjcpagghaaGreatDoorT52
import Derived.Test.YtndhpdjcpagghaaGreatDoorT35
namespace Go.Proofs.YtndhpdjcpagghaaGreatDoor
open Go.RowKit Fs

end Go.Proofs.YtndhpdjcpagghaaGreatDoor
/- The law of ways: which are right, their arrivals and metres. No condition. -/
namespace Go.Proofs.YtndhpdjcpagghaaGreatDoor
open Go.RowKit Fs

theorem Fs.avErr_first {N : Net} {l : List Int} {a : Int} (h : cwErr N l ≠ 0) : avErr N l a = cwErr N l := by
  have : avErr N l a = listI [cwErr N l, timeErr a] 0 := (fst_hit (k := 0) (n := 2) (by decide) (fun j hj => absurd hj (Nat.not_lt_zero _)) h).1
  exact this
theorem Fs.avErr_time {N : Net} {l : List Int} {a : Int} (h : cwErr N l = 0) : avErr N l a = timeErr a := by
  unfold avErr
  rw [h]
  by_cases e : timeErr a = 0
  · rw [e]; rfl
  · have : fst (listI [0, timeErr a]) 2 = listI [0, timeErr a] 1 := (fst_hit (k := 1) (n := 2) (by decide) (fun j hj => by
      obtain rfl : j = 0 := by omega
      rfl) e).1
    exact this
def Fs.shortL (n : Nat) : Bool := decide (n ≤ 12) || (decide (200 < n) && decide (n ≤ 202))
set_option maxHeartbeats 800000 in
theorem short_any (l : List Int) (A : Option Addr) (c : Nat) (w : World) (h : ArrI w A l c) :
    Calls Tryz.prog 7 #[.slice A l.length c] w fun e w' => e = .returned (.bool (shortL l.length)) ∧ w = w' := by
  have b1 := h.le.1
  have b2 := h.le.2
  clear h
  go_enter Tryz.func7, Tryz.ntmps7
  by_cases h1 : l.length ≤ 12
  · have d1 : decide ((l.length : Int) ≤ 12) = true := decide_eq_true (by omega)
    have G := Lib.hid (show shortL l.length = true by unfold shortL; rw [decide_eq_true h1]; rfl)
    clear h1
    go_wp2_with fail
    go_ret
    exact ⟨ret_bool G.out.symm, rfl⟩
  · have d1 : decide ((l.length : Int) ≤ 12) = false := decide_eq_false (by omega)
    by_cases h2 : 200 < l.length
    · have d2 : decide ((l.length : Int) > 200) = true := decide_eq_true (by omega)
      have d3 : decide (200 < (l.length : Int)) = true := decide_eq_true (by omega)
      by_cases h3 : l.length ≤ 202
      · have d4 : decide ((l.length : Int) ≤ 202) = true := decide_eq_true (by omega)
        have G := Lib.hid (show shortL l.length = true by unfold shortL; rw [decide_eq_false h1, decide_eq_true h2, decide_eq_true h3]; rfl)
        clear h1 h2 h3
        go_wp2_with fail
        go_ret
        exact ⟨ret_bool G.out.symm, rfl⟩
      · have d4 : decide ((l.length : Int) ≤ 202) = false := decide_eq_false (by omega)
        have G := Lib.hid (show shortL l.length = false by unfold shortL; rw [decide_eq_false h1, decide_eq_true h2, decide_eq_false h3]; rfl)
        clear h1 h2 h3
        go_wp2_with fail
        go_ret
        exact ⟨ret_bool G.out.symm, rfl⟩
    · have d2 : decide ((l.length : Int) > 200) = false := decide_eq_false (by omega)
      have d3 : decide (200 < (l.length : Int)) = false := decide_eq_false (by omega)
      have G := Lib.hid (show shortL l.length = false by unfold shortL; rw [decide_eq_false h1, decide_eq_false h2]; rfl)
      clear h1 h2
      go_wp2_with fail
      go_ret
      exact ⟨ret_bool G.out.symm, rfl⟩
theorem Fs.shortL_le {n : Nat} (h : shortL n = true) : n ≤ 202 := by
  unfold shortL at h
  by_cases h1 : n ≤ 12
  · omega
  · rw [decide_eq_false h1, Bool.false_or, Bool.and_eq_true] at h
    exact of_decide_eq_true h.2

end Go.Proofs.YtndhpdjcpagghaaGreatDoor

/- Limits: the law's short, item, claim, Few, Short. No condition. -/
import Derived.Test.YtfjdnbnalihjiaaDoorG7
namespace Go.Proofs.YtfjdnbnalihjiaaDoor
open Go.RowKit Fs

/-- A bool that tells P where it is true. -/
def IfB (P : Prop) (e : Ending) : Prop := ∃ b, e = .returned (.bool b) ∧ (b = true → P)
set_option linter.unusedSimpArgs false in
set_option maxHeartbeats 1600000 in
set_option maxRecDepth 100000 in
theorem lawShort_any (l : List Mrk) (A : Option Addr) (c : Nat) (w : World) (h : ArrMk w A l c) :
    Calls Tryd.prog 42 #[.slice A l.length c] w fun e w' => IfB (l.length ≤ 10) e ∧ w = w' := by
  have b1 := h.le.1
  have b2 := h.le.2
  have HA := Lib.hid h
  clear h
  go_enter Tryd.func42, Tryd.ntmps42
  by_cases h40 : 10 < l.length
  · have d1 : decide ((l.length : Int) > 10) = true := decide_eq_true (by omega)
    have d2 : decide ((10 : Int) < (l.length : Int)) = true := decide_eq_true (by omega)
    go_wp2_with fail
    go_ret
    exact ⟨⟨_, rfl, fun hh => absurd hh (by decide)⟩, rfl⟩
  · have H40 := Lib.hid h40
    have d1 : decide ((l.length : Int) > 10) = false := decide_eq_false (by omega)
    have d2 : decide ((10 : Int) < (l.length : Int)) = false := decide_eq_false (by omega)
    clear h40
    go_wp2_with fail
    go_loop [3] (fun u => ∃ k : Nat, k ≤ l.length ∧ u = .int .i64 k) (fun u => l.length - (intOf u).toNat)
    case atStart => exact ⟨0, Nat.zero_le _, rfl⟩
    case round =>
      obtain ⟨k, hk, rfl⟩ := hrel
      by_cases hlt : k < l.length
      · have hkn : (k : Int) < (l.length : Int) := by omega
        obtain ⟨b, o, rfl, q0, q1⟩ := HA.out.at_ hlt
        by_cases h1 : (20 : Int) < ((lMrk l k).key.size : Int)
        · have e1 : decide ((20 : Int) < ((lMrk l k).key.size : Int)) = true := decide_eq_true h1
          have e2 : decide (((lMrk l k).key.size : Int) > 20) = true := decide_eq_true h1
          go_wp2_with fail
          go_ret
          exact ⟨⟨_, rfl, fun hh => absurd hh (by decide)⟩, rfl⟩
        · have e1 : decide ((20 : Int) < ((lMrk l k).key.size : Int)) = false := decide_eq_false h1
          have e2 : decide (((lMrk l k).key.size : Int) > 20) = false := decide_eq_false h1
          by_cases h2 : (20 : Int) < ((lMrk l k).val.size : Int)
          · have e3 : decide ((20 : Int) < ((lMrk l k).val.size : Int)) = true := decide_eq_true h2
            have e4 : decide (((lMrk l k).val.size : Int) > 20) = true := decide_eq_true h2
            go_wp2_with fail
            go_ret
            exact ⟨⟨_, rfl, fun hh => absurd hh (by decide)⟩, rfl⟩
          · have e3 : decide ((20 : Int) < ((lMrk l k).val.size : Int)) = false := decide_eq_false h2
            have e4 : decide (((lMrk l k).val.size : Int) > 20) = false := decide_eq_false h2
            go_wp2_with fail
            go_round
            case rel => exact ⟨k + 1, by omega, by go_num⟩
            case measure => simp [intOf]; omega
      · go_wp2_with fail
        go_ret
        exact ⟨⟨_, rfl, fun _ => by have := H40.out; omega⟩, rfl⟩
set_option linter.unusedSimpArgs false in
set_option maxHeartbeats 1600000 in
theorem lawItem_any (x : Thg) (v : Value) (w : World) (hv : RdThg w v x) :
    Calls Tryd.prog 21 #[v] w fun e w' => IfB (x.marks.length ≤ 10) e ∧ Below w.heap.size w w' := by
  obtain ⟨p, pc, rfl, m⟩ := hv
  have HW := Lib.hid ((Below.refl w.heap.size w).alloc (Nat.le_refl _) (.cells #[.string x.name, .int .i64 x.day, .string x.who, .slice p x.marks.length pc] 24))
  have M := Lib.hid (m.keep (Keep.below HW.out))
  obtain ⟨q0, q1, q2, q3⟩ := ThgAt.new w x p pc 24
  clear m
  go_enter Tryd.func21, Tryd.ntmps21
  by_cases h1 : (x.name.size : Int) ≤ 20
  · have e1 : decide ((x.name.size : Int) ≤ 20) = true := decide_eq_true h1
    by_cases h2 : (x.who.size : Int) ≤ 20
    · have e2 : decide ((x.who.size : Int) ≤ 20) = true := decide_eq_true h2
      go_wp2_with fail
      refine (lawShort_any x.marks p pc _ M.out).mono ?_
      rintro e' w1 ⟨⟨b, rfl, hb⟩, rfl⟩
      go_wp2_with fail
      go_ret
      exact ⟨⟨_, rfl, hb⟩, HW.out⟩
    · have e2 : decide ((x.who.size : Int) ≤ 20) = false := decide_eq_false h2
      go_wp2_with fail
      go_ret
      exact ⟨⟨_, rfl, fun hh => absurd hh (by decide)⟩, HW.out⟩
  · have e1 : decide ((x.name.size : Int) ≤ 20) = false := decide_eq_false h1
    go_wp2_with fail
    go_ret
    exact ⟨⟨_, rfl, fun hh => absurd hh (by decide)⟩, HW.out⟩
end Go.Proofs.YtfjdnbnalihjiaaDoor

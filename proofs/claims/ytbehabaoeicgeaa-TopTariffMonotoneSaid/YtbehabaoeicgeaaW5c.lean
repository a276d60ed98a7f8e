/- The fixed fare from a zone to another one. No condition. -/
import Derived.Test.YtbehabaoeicgeaaW4
namespace Go.Proofs.Ytbehabaoeicgeaa
open Go.RowKit Fs

def fixHit (a b : Int) (x : Fix) : Bool := x.src == a && x.dst == b
set_option maxHeartbeats 400000 in
theorem fixFn_any (x : Fix) (a b : Int) (p q : Nat) (w : World) (ha : w.cell? ⟨p, 0, none⟩ = some (.int .i64 a)) (hb : w.cell? ⟨q, 0, none⟩ = some (.int .i64 b)) :
    Calls Try.prog 50 #[.agg #[.int .i64 x.src, .int .i64 x.dst, .int .i64 x.amount], .pointer (some ⟨p, 0, none⟩), .pointer (some ⟨q, 0, none⟩)] w fun e w' => e = .returned (.bool (fixHit a b x)) ∧ Below w.heap.size w w' := by
  have ha := fun o => Keep.alloc w o _ _ ha
  have hb := fun o => Keep.alloc w o _ _ hb
  cases h1 : (x.src == a) with
  | false =>
    have F := Lib.hid (show fixHit a b x = false by unfold fixHit; rw [h1]; rfl)
    go_enter Try.func50, Try.ntmps50
    go_wp2
    go_ret
    exact ⟨ret_bool F.out.symm, (Below.refl _ _).alloc (Nat.le_refl _) _⟩
  | true =>
    have F := Lib.hid (show fixHit a b x = (x.dst == b) by unfold fixHit; rw [h1]; rfl)
    go_enter Try.func50, Try.ntmps50
    go_wp2
    go_ret
    exact ⟨ret_bool F.out.symm, (Below.refl _ _).alloc (Nat.le_refl _) _⟩
/-- Where the first fixed fare from a to b stands, or -1. -/
def fixIndex (l : List Fix) (a b : Int) : Int := match (List.range l.length).find? fun i => fixHit a b (listF l i) with
  | some i => i
  | none => -1
set_option maxHeartbeats 400000 in
theorem fixIndex_any (l : List Fix) (A : Option Addr) (c : Nat) (a b : Int) (p q : Nat) (w : World) (h : ArrF w A l c) (ha : w.cell? ⟨p, 0, none⟩ = some (.int .i64 a)) (hb : w.cell? ⟨q, 0, none⟩ = some (.int .i64 b)) :
    Calls Try.prog 49 #[.slice A l.length c, .func (.func 50) #[] #[.pointer (some ⟨p, 0, none⟩), .pointer (some ⟨q, 0, none⟩)]] w fun e w' => e = .returned (.int .i64 (fixIndex l a b)) ∧ Below w.heap.size w w' := by
  have b1 := h.le.1
  have b2 := h.le.2
  have Ha := Lib.hid ha
  have Hb := Lib.hid hb
  clear ha hb
  go_enter Try.func49, Try.ntmps49
  go_wp2
  go_loopw [8] (fun i wr => ∃ k : Nat, k ≤ l.length ∧ i = .int .i64 k ∧ Hid (∀ j, j < k → fixHit a b (listF l j) = false) ∧ Below w.heap.size w wr) (fun i _ => l.length - (intOf i).toNat)
  case atStart => exact ⟨0, Nat.zero_le _, rfl, fun j hj => absurd hj (Nat.not_lt_zero _), Below.refl _ _⟩
  case round =>
    obtain ⟨k, hk, rfl, Hn, hbl⟩ := hrel
    by_cases hlt : k < l.length
    · have hr : ArrF wr A l c := h.keep (Keep.below hbl)
      have Ha' := Lib.hid (Keep.below hbl _ _ Ha.out)
      have Hb' := Lib.hid (Keep.below hbl _ _ Hb.out)
      obtain ⟨ab, ao, rfl, c0, c1, c2⟩ := hr.at_ hlt
      cases hx : fixHit a b (listF l k) with
      | true =>
        have F := Lib.hid (show fixIndex l a b = k by unfold fixIndex; rw [find_hit hlt (fun j hj => Hn.out j hj) hx])
        have X := Lib.hid hx
        clear hx
        go_wp2_with (go_at_call 50; refine (fixFn_any (listF l k) a b _ _ _ Ha'.out Hb'.out).mono ?_; rintro e w1 ⟨rfl, hb1⟩; rw [X.out])
        go_ret
        exact ⟨ret_int F.out.symm, hbl.trans (hb1.mono hbl.size)⟩
      | false =>
        have F : Hid (∀ j, j < k + 1 → fixHit a b (listF l j) = false) := fun j hj => by
          by_cases e : j = k
          · subst e; exact hx
          · exact Hn.out j (by omega)
        have X := Lib.hid hx
        clear hx
        go_wp2_with (go_at_call 50; refine (fixFn_any (listF l k) a b _ _ _ Ha'.out Hb'.out).mono ?_; rintro e w1 ⟨rfl, hb1⟩; rw [X.out])
        go_roundw
        case rel => exact ⟨k + 1, by omega, by go_num, F, hbl.trans (hb1.mono hbl.size)⟩
        case measure => simp [intOf]; omega
    · have F := Lib.hid (show fixIndex l a b = -1 by unfold fixIndex; rw [find_none (fun j hj => Hn.out j (by omega))])
      go_wp2
      go_ret
      exact ⟨ret_int F.out.symm, hbl⟩
end Go.Proofs.Ytbehabaoeicgeaa

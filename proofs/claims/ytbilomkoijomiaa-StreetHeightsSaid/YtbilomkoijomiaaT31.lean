/- sort.Search: the first number from which on a function says yes. Condition: who said yes says yes for all later ones. -/
import Derived.Test.YtbilomkoijomiaaT12
import Derived.Deep.LoopGhost
namespace Go.Proofs.Ytbilomkoijomiaa
open Go.RowKit Fs

set_option maxHeartbeats 1600000 in
set_option maxRecDepth 100000 in
theorem sortSearch_any (K : Nat) (p1 p2 : Value) (n : Nat) (p : Nat → Bool) (w : World) (hn : n ≤ 1000000000) (hcall : ∀ (args : Array Value) (w : World), (callFunc K args).run Try.prog w = .ok (.enter K args) w)
    (hf : ∀ w', Below w.heap.size w w' → ∀ i : Nat, i < n → Calls Try.prog K #[.int .i64 i, p1, p2] w' fun e w'' => e = .returned (.bool (p i)) ∧ Below w'.heap.size w' w'')
    (hmono : ∀ a b, a ≤ b → b < n → p a = true → p b = true) :
    Calls Try.prog 93 #[.int .i64 n, .func (.func K) #[] #[p1, p2]] w fun e w' => ∃ k : Nat, k ≤ n ∧ e = .returned (.int .i64 k) ∧ (∀ t, t < k → p t = false) ∧ (∀ t, k ≤ t → t < n → p t = true) ∧ Below w.heap.size w w' := by
  have HCALL := Lib.hid hcall
  have HF := Lib.hid hf
  have HM := Lib.hid hmono
  clear hcall hf hmono
  go_enter Try.func93, Try.ntmps93
  go_wp2_with fail
  go_loopw [5, 6] (fun s5 s6 wr => ∃ lo hi : Nat, s5 = .int .i64 lo ∧ s6 = .int .i64 hi ∧ lo ≤ hi ∧ hi ≤ n ∧ Hid ((∀ t, t < lo → p t = false) ∧ (∀ t, hi ≤ t → t < n → p t = true)) ∧ Hid (Below w.heap.size w wr)) (fun s5 s6 _ => (intOf s6).toNat - (intOf s5).toNat)
  case atStart => exact ⟨0, n, rfl, rfl, Nat.zero_le _, Nat.le_refl _, Lib.hid ⟨fun t ht => absurd ht (Nat.not_lt_zero _), fun t h1 h2 => by omega⟩, Lib.hid (Below.refl _ _)⟩
  case round =>
    obtain ⟨lo, hi, rfl, rfl, hlh, hin, I, HB⟩ := hrel
    by_cases hlt : lo < hi
    · obtain ⟨mid, hmid⟩ : ∃ mid : Nat, mid = (lo + hi) / 2 := ⟨_, rfl⟩
      have hm1 : lo ≤ mid := by omega
      have hm2 : mid < hi := by omega
      have hme : ((lo : Int) + (hi : Int)) / 2 = (mid : Int) := by omega
      have hc := HF.out wr HB.out mid (by omega)
      have HC := Lib.hid hc
      have hcall := HCALL.out
      clear hc hmid
      cases hp : p mid with
      | false =>
        have HP := Lib.hid hp
        clear hp
        go_wp2_with fail
        refine HC.out.mono ?_
        rintro e w2 ⟨rfl, hb2⟩
        rw [HP.out]
        go_wp2_with fail
        go_roundw
        case rel =>
          refine ⟨mid + 1, hi, by go_num, rfl, by omega, hin, Lib.hid ⟨fun t ht => ?_, I.out.2⟩, Lib.hid (HB.out.trans (hb2.mono HB.out.size))⟩
          cases h : p t with
          | false => rfl
          | true =>
            have := HM.out t mid (by omega) (by omega) h
            rw [HP.out] at this
            cases this
        case measure => simp [intOf]; omega
      | true =>
        have HP := Lib.hid hp
        clear hp
        go_wp2_with fail
        refine HC.out.mono ?_
        rintro e w2 ⟨rfl, hb2⟩
        rw [HP.out]
        go_wp2_with fail
        go_roundw
        case rel =>
          exact ⟨lo, mid, rfl, rfl, hm1, by omega, Lib.hid ⟨I.out.1, fun t ht htn => HM.out mid t ht htn HP.out⟩, Lib.hid (HB.out.trans (hb2.mono HB.out.size))⟩
        case measure => simp [intOf]; omega
    · obtain rfl : hi = lo := by omega
      clear hlt
      go_wp2_with fail
      go_ret
      exact ⟨hi, hin, rfl, I.out.1, I.out.2, HB.out⟩
end Go.Proofs.Ytbilomkoijomiaa

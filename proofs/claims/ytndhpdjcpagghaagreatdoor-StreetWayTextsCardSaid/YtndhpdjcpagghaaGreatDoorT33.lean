/- LatestFor: the last second from which one surely arrives in time. Condition: the net can be read. -/
import Derived.Test.YtndhpdjcpagghaaGreatDoorT24
import Derived.Test.YtndhpdjcpagghaaGreatDoorT17
import Derived.Test.YtndhpdjcpagghaaGreatDoorT31
namespace Go.Proofs.YtndhpdjcpagghaaGreatDoor
open Go.RowKit Fs

/-- Who sets out at a second arrives too late, or nowhere. -/
def Fs.tooLate (N : Net) (f t : Nat) (a : Int) (i : Nat) : Bool := decide (listI (search N f i (latest N)).labels t = -1) || decide (a < listI (search N f i (latest N)).labels t)
theorem Fs.tooLate_later {N : Net} (hE : netErr N = 0) {f t : Nat} (hf : f < N.places.length) (ht : t < N.places.length) {a : Int} {i j : Nat} (hij : i ≤ j) (h : tooLate N f t a i = true) : tooLate N f t a j = true := by
  cases hj : tooLate N f t a j with
  | true => rfl
  | false =>
    unfold tooLate at h hj
    simp only [Bool.or_eq_false_iff, decide_eq_false_iff_not] at hj
    obtain ⟨k1, k2⟩ := search_later (net_joined hE) (latest_good hE) hf (show (0 : Int) ≤ i by omega) (show (i : Int) ≤ j by omega) t ht hj.1
    simp only [Bool.or_eq_true, decide_eq_true_eq] at h
    rcases h with h | h
    · exact absurd h k1
    · omega

set_option maxHeartbeats 6400000 in
set_option maxRecDepth 100000 in
theorem late1_any (N : Net) (P R : Option Addr) (pc rc g h f t i : Nat) (a : Int) (w : World) (hE : netErr N = 0) (hN : RdNet w (netV N P R pc rc) N) (hB : BoxN w g N P R pc rc) (hT : TripAt w h f t a) (hf : f < N.places.length) (ht : t < N.places.length) (hi : i ≤ 1000000) :
    Calls Tryz.prog 63 #[.int .i64 i, .pointer (some ⟨g, 0, none⟩), .pointer (some ⟨h, 0, none⟩)] w fun e w' => e = .returned (.bool (tooLate N f t a i)) ∧ Below w.heap.size w w' := by
  have hN0 := Lib.hid hN
  have HT := Lib.hid hT
  have HB0 := Lib.hid hB
  clear hN hT hB
  obtain ⟨n0, n1⟩ := HB0.out
  obtain ⟨c0, c1, c2⟩ := HT.out
  have hfd : treeField0 := treeField0_is
  unfold treeField0 at hfd
  have HZL := Lib.hid (show t < (search N f i (latest N)).labels.length by rw [search_len.1]; exact ht)
  have htn : (t : Int) < (N.places.length : Int) := by omega
  go_enter Tryz.func63, Tryz.ntmps63
  go_upto_region 1 with fail
  go_cut [5] from 6 to 17 (fun s wx => s = .int .i64 (listI (search N f i (latest N)).labels t) ∧ Hid (Below w.heap.size w wx))
  case first =>
    have HBd : Hid (Below w.heap.size w w.drew) := Lib.hid (Below.refl _ _).drew
    have KN : Hid (∀ w', Below w.heap.size w w' → RdNet w' (netV N P R pc rc) N) := Lib.hid fun w' hw => (hN0.out.keep (Keep.below hw))
    go_region_with
      (first
        | (go_at_call 64
           refine (latest_any N _ _ (KN.out _ (by first | exact HBd.out | exact HBC.out)) hE).mono ?_
           rintro e' w2 ⟨f1, rfl, hf1, hb1⟩
           have HBC := Lib.hid (below_after hb1 (by first | exact HBd.out | exact HBC.out))
           obtain ⟨n0, n1⟩ := HB0.out.keep (Keep.below HBC.out)
           obtain ⟨c0, c1, c2⟩ := HT.out.keep (Keep.below HBC.out)
           have HF1 := Lib.hid hf1
           clear hf1)
        | (go_at_call 59
           refine (search_any N (latest N) _ f1 f i _ (KN.out _ (by first | exact HBd.out | exact HBC.out)) hE HF1.out (latest_small hE) hf (by omega) (by omega)).mono ?_
           rintro e' w2 ⟨gl, ga, rfl, hrl, -, -, -, hb1⟩
           have HBC := Lib.hid (below_after hb1 (by first | exact HBd.out | exact HBC.out))
           obtain ⟨n0, n1⟩ := HB0.out.keep (Keep.below HBC.out)
           obtain ⟨c0, c1, c2⟩ := HT.out.keep (Keep.below HBC.out)
           have t0 := hrl.int (i := t) HZL.out
           clear hrl))
    all_goals
      go_wp2_with fail
      go_meet
      exact ⟨rfl, HBC⟩
  case rest =>
    obtain ⟨rfl, HB⟩ := hcut
    clear n0 n1 c0 c1 c2
    obtain ⟨c0, c1, c2⟩ := HT.out.keep (Keep.below HB.out)
    by_cases h1 : listI (search N f i (latest N)).labels t = -1
    · have e1 : (listI (search N f i (latest N)).labels t == -1) = true := by simpa using h1
      have HF := Lib.hid (show tooLate N f t a i = true by unfold tooLate; rw [decide_eq_true h1]; rfl)
      clear h1
      go_wp2_with fail
      go_ret
      exact ⟨ret_bool HF.out.symm, HB.out⟩
    · have e1 : (listI (search N f i (latest N)).labels t == -1) = false := by simpa using h1
      have HF := Lib.hid (show tooLate N f t a i = decide (a < listI (search N f i (latest N)).labels t) by unfold tooLate; rw [decide_eq_false h1]; rfl)
      clear h1
      go_wp2_with fail
      go_ret
      exact ⟨ret_bool HF.out.symm, HB.out⟩
end Go.Proofs.YtndhpdjcpagghaaGreatDoor

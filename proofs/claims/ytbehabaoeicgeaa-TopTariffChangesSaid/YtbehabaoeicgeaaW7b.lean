/- The rules that hold on a date. Condition: there are at most a million rules. -/
import Derived.Test.YtbehabaoeicgeaaW6b
import Derived.Test.YtbehabaoeicgeaaOwn
import Derived.Test.YtbehabaoeicgeaaFs2
namespace Go.Proofs.Ytbehabaoeicgeaa
open Go.RowKit Fs

theorem Try.infoInt : (Try.prog.info? 3).map (fun i => (i.zero, i.size, i.bytes)) = some (some (.int .i64 0), 1, 8) := by kernel_rfl
set_option maxHeartbeats 1000000 in
set_option maxRecDepth 100000 in
theorem rulesOn_any (T : Tar) (v : Value) (d : Int) (w : World) (hT : RdTar w v T) (h0 : 0 ≤ d) (hn : T.rules.length ≤ 1000000) :
    Calls Try.prog 41 #[v, .int .i64 d] w fun e w' => ∃ A c, e = .returned (.slice A (rOn T d).length c) ∧ ArrI w' A (rOn T d) c ∧ Below w.heap.size w w' := by
  have hT0 := hT
  obtain ⟨z, h, r, e, f, zc, hc, rc, ec, fc, a, rfl, m⟩ := hT
  have hr := m.rules
  have b1 := hr.le.1
  have b2 := hr.le.2
  clear m
  obtain ⟨i0, hi, hz0, hz1, hz2⟩ := info_parts Try.infoInt
  go_enter Try.func41, Try.ntmps41
  go_wp2_with fail
  refine (kindOf_any T _ _ _ (hT0.keep (Keep.alloc _ _)) h0).mono ?_
  rintro e' w1 ⟨rfl, hb1⟩
  have hbw1 : Below w.heap.size w w1 := ((Below.refl _ _).alloc (Nat.le_refl _) _).trans (hb1.mono (by simp))
  have BX := (BoxT.new w T z h r e f zc hc rc ec fc 28).keep (Keep.below hb1)
  have c5 := BX.c5
  clear BX hb1
  go_wp2_with fail
  clear c5
  go_loopw [6, 15] (fun s u wr => ∃ k : Nat, k ≤ T.rules.length ∧ u = .int .i64 k ∧ Hid (wr.ownsRow w.heap.size 3 1 s (onTo T d k).length (intVals (onTo T d k))) ∧ Hid (Below w.heap.size w wr)) (fun _ u _ => T.rules.length - (intOf u).toNat)
  case atStart => exact ⟨0, Nat.zero_le _, rfl, World.ownsRow_nil _ _ _ _, hbw1⟩
  case round =>
    obtain ⟨k, hk, rfl, HO, HB⟩ := hrel
    by_cases hlt : k < T.rules.length
    · have hrr := hr.keep (Keep.below HB.out)
      obtain ⟨b, o, rfl, q⟩ := hrr.at_ hlt
      obtain ⟨c0, c1, c2, c3, c4, c5, c6, c7, c8, c9⟩ := q
      have hdz := (hrr.2 k hlt).2
      have hkr : decide ((k : Int) < (T.rules.length : Int)) = true := decide_eq_true (by omega)
      have hws : w.heap.size ≤ wr.heap.size := HB.out.size
      cases hx : onDate T d k with
      | true =>
        have hx1 : within d (listR T.rules k).lo (listR T.rules k).hi = true := by unfold onDate at hx; simp only [Bool.and_eq_true] at hx; exact hx.1
        have hx2 : (listR T.rules k).days.contains (kindOf T d) = true := by unfold onDate at hx; simp only [Bool.and_eq_true] at hx; exact hx.2
        have X1 := Lib.hid hx1
        have X2 := Lib.hid hx2
        have F := Lib.hid (onTo_yes hx)
        clear hx hx1 hx2
        have hlen := onTo_le T d k
        go_wp2_with (first | (go_at_call 31; refine (within_any _ _ _ _).mono ?_; rintro e' w' ⟨rfl, rfl⟩; rw [X1.out]) | (go_at_call 45; refine (contains_any (listR T.rules k).days _ _ _ _ (hdz.keep (Keep.alloc _ _))).mono ?_; rintro e' w' ⟨rfl, rfl⟩; rw [X2.out]) | (at_builtin; refine wpList_append_own _ rfl (.tmp 32) (.tmp 34) 23 rfl w.heap.size 3 i0 (.int .i64 0) 1 8 Try.underlying23 hi hz0 hz1 hz2 rfl (by decide) _ _ _ rfl ((HO.out.alloc _).alloc _) ⟨wr.heap.size + 1, 0, none⟩ 1 1 [.int .i64 (k : Int)] rfl rfl ?c1 ?c2 ?c3 ?c4 ?c5 ?_))
        case c1 => exact news1 _ _ _ _
        case c2 => exact oneInt _
        case c3 => unfold maxLen; omega
        case c4 => omega
        case c5 => simp; omega
        intro v2 w2 hown2 hg2 _
        have HB2 := Lib.hid (((HB.out.alloc hws _).alloc (by simp; omega) _).grown hg2 (by simp; omega) (fun j hj => (HO.out.lt j hj).1))
        have HO2 : Hid (w2.ownsRow w.heap.size 3 1 v2 (onTo T d (k + 1)).length (intVals (onTo T d (k + 1)))) := by
          rw [F.out, intVals_snoc, List.length_append]
          exact hown2
        clear hown2 hg2
        go_wp2
        go_roundw
        case rel => exact ⟨k + 1, by omega, by go_num, HO2, HB2⟩
        case measure => simp [intOf]; omega
      | false =>
        have F := Lib.hid (onTo_no hx)
        cases hx1 : within d (listR T.rules k).lo (listR T.rules k).hi with
        | false =>
          have X1 := Lib.hid hx1
          clear hx hx1
          go_wp2_with (first | (go_at_call 31; refine (within_any _ _ _ _).mono ?_; rintro e' w' ⟨rfl, rfl⟩; rw [X1.out]))
          go_roundw
          case rel => exact ⟨k + 1, by omega, by go_num, by rw [F.out]; exact HO.out.alloc _, HB.out.alloc hws _⟩
          case measure => simp [intOf]; omega
        | true =>
          have hx2 : (listR T.rules k).days.contains (kindOf T d) = false := by unfold onDate at hx; rw [hx1] at hx; simpa using hx
          have X1 := Lib.hid hx1
          have X2 := Lib.hid hx2
          clear hx hx1 hx2
          go_wp2_with (first | (go_at_call 31; refine (within_any _ _ _ _).mono ?_; rintro e' w' ⟨rfl, rfl⟩; rw [X1.out]) | (go_at_call 45; refine (contains_any (listR T.rules k).days _ _ _ _ (hdz.keep (Keep.alloc _ _))).mono ?_; rintro e' w' ⟨rfl, rfl⟩; rw [X2.out]))
          go_roundw
          case rel => exact ⟨k + 1, by omega, by go_num, by rw [F.out]; exact HO.out.alloc _, HB.out.alloc hws _⟩
          case measure => simp [intOf]; omega
    · have e : k = T.rules.length := by omega
      have HO' : Hid (wr.ownsRow w.heap.size 3 1 u6 (rOn T d).length (intVals (rOn T d))) := by unfold rOn; rw [← e]; exact HO
      clear e
      go_wp2
      obtain ⟨A, c, hv, ha⟩ := own_arr HO'.out
      subst hv
      go_ret
      exact ⟨A, c, rfl, ha, HB.out⟩
end Go.Proofs.Ytbehabaoeicgeaa

/- The error of the segments of a trip. No condition. -/
import Derived.Test.YtbehabaoeicgeaaW6b
import Derived.Test.YtbehabaoeicgeaaFs2
namespace Go.Proofs.Ytbehabaoeicgeaa
open Go.RowKit Fs

def segBad (T : Tar) (l : List Seg) (i : Nat) : Int := errSeg T (listG l i)
def errSegs' (T : Tar) (l : List Seg) : Int × Int :=
  if l.length = 0 then (0, 10) else if 60 < l.length then (0, 8) else (((idx (segBad T l) l.length : Nat) : Int), fst (segBad T l) l.length)
set_option maxHeartbeats 1000000 in
set_option maxRecDepth 100000 in
theorem checkSegs_any (T : Tar) (v : Value) (l : List Seg) (A : Option Addr) (c : Nat) (w : World) (hT : RdTar w v T) (hl : ArrG w A l c) :
    Calls Try.prog 48 #[v, .slice A l.length c] w fun e w' => e = .returned (.tuple #[.int .i64 (errSegs' T l).1, .int .i64 (errSegs' T l).2]) ∧ Below w.heap.size w w' := by
  have hT0 := hT
  obtain ⟨z, h, r, e, f, zc, hc, rc, ec, fc, a, rfl, m⟩ := hT
  clear m
  have BX := BoxT.new w T z h r e f zc hc rc ec fc 28
  have b1 := hl.le.1
  have b2 := hl.le.2
  by_cases h0 : l.length = 0
  · have F := Lib.hid (show errSegs' T l = (0, 10) by unfold errSegs'; rw [if_pos h0])
    have d0 : (((l.length : Nat) : Int) == 0) = true := by simp [h0]
    clear h0 BX
    go_enter Try.func48, Try.ntmps48
    go_wp2
    go_ret2
    exact ⟨by rw [F.out]; rfl, (Below.refl _ _).alloc (Nat.le_refl _) _⟩
  · have d0 : (((l.length : Nat) : Int) == 0) = false := by rw [beq_eq_false_iff_ne]; omega
    by_cases h6 : 60 < l.length
    · have F := Lib.hid (show errSegs' T l = (0, 8) by unfold errSegs'; rw [if_neg h0, if_pos h6])
      clear h0 BX
      go_enter Try.func48, Try.ntmps48
      go_wp2
      go_ret2
      exact ⟨by rw [F.out]; rfl, (Below.refl _ _).alloc (Nat.le_refl _) _⟩
    · have F0 := Lib.hid (show errSegs' T l = (((idx (segBad T l) l.length : Nat) : Int), fst (segBad T l) l.length) by unfold errSegs'; rw [if_neg h0, if_neg h6])
      clear h0
      have HBX := Lib.hid BX
      clear BX
      go_enter Try.func48, Try.ntmps48
      go_wp2_with fail
      go_loopw [18] (fun u wr => ∃ k : Nat, k ≤ l.length ∧ u = .int .i64 k ∧ Hid (∀ j, j < k → segBad T l j = 0) ∧ Hid (Below (w.alloc (.cells #[.string T.name, .int .i64 T.unit, .int .i64 T.step, .slice z T.zones.length zc, .slice h T.hols.length hc, .slice r T.rules.length rc, .slice e T.extras.length ec, .slice f T.fixed.length fc] 28)).heap.size (w.alloc (.cells #[.string T.name, .int .i64 T.unit, .int .i64 T.step, .slice z T.zones.length zc, .slice h T.hols.length hc, .slice r T.rules.length rc, .slice e T.extras.length ec, .slice f T.fixed.length fc] 28)) wr)) (fun u _ => l.length - (intOf u).toNat)
      case atStart => exact ⟨0, Nat.zero_le _, rfl, fun j hj => absurd hj (Nat.not_lt_zero _), Below.refl _ _⟩
      case round =>
        obtain ⟨k, hk, rfl, Hn, HB⟩ := hrel
        have HW := Lib.hid (((Below.refl _ _).alloc (Nat.le_refl _) _).trans (HB.out.mono (by simp)) : Below w.heap.size w wr)
        by_cases hlt : k < l.length
        · have hkp : Keep w wr := Keep.below HW.out
          have hlr := hl.keep hkp
          obtain ⟨b, o, rfl, c0, c1, c2⟩ := hlr.at_ hlt
          obtain ⟨t0, t1, t2, t3, t4, t5, t6, t7⟩ := HBX.out.keep (Keep.below HB.out)
          have hws : w.heap.size < wr.heap.size := by have := HB.out.size; simp at this; omega
          have HT := Lib.hid (hT0.keep (hkp.trans (Keep.alloc wr (.cells #[.int .i64 (listG l k).zone, .int .i64 (listG l k).metres, .int .i64 (listG l k).seconds] 40))))
          have hkr : decide ((k : Int) < (l.length : Int)) = true := decide_eq_true (by omega)
          clear hkp
          go_wp2_with fail
          refine (isZone_any T _ _ _ HT.out).mono ?_
          rintro e' w1 ⟨rfl, hb1⟩
          have g1 : w1.cell? ⟨wr.heap.size, 1, none⟩ = some (.int .i64 (listG l k).metres) := Keep.below hb1 _ _ (cellNew _ _ _ _)
          have g2 : w1.cell? ⟨wr.heap.size, 2, none⟩ = some (.int .i64 (listG l k).seconds) := Keep.below hb1 _ _ (cellNew _ _ _ _)
          have hb2 := (HB.out.alloc HB.out.size (.cells #[.int .i64 (listG l k).zone, .int .i64 (listG l k).metres, .int .i64 (listG l k).seconds] 40)).trans (hb1.mono (by have := HB.out.size; simp at this ⊢; omega))
          have HB2 := Lib.hid hb2
          have HW2 := Lib.hid (((Below.refl _ _).alloc (Nat.le_refl _) _).trans (hb2.mono (by simp)) : Below w.heap.size w w1)
          clear hb1 hb2 c0 c1 c2 t0 t1 t2 t3 t4 t5 t6 t7
          by_cases hz : segBad T l k = 0
          · have F : Hid (∀ j, j < k + 1 → segBad T l j = 0) := fun j hj => by
              by_cases e : j = k
              · subst e; exact hz
              · exact Hn.out j (by omega)
            have e1 : isZone T (listG l k).zone = true := by
              cases hh : isZone T (listG l k).zone with
              | true => rfl
              | false => unfold segBad errSeg at hz; rw [hh] at hz; simp at hz
            have e2 : within (listG l k).metres 0 100000 = true ∧ within (listG l k).seconds 1 36000 = true := by
              unfold segBad errSeg at hz
              rw [e1] at hz
              simp at hz
              exact hz
            obtain ⟨e2, e3⟩ := e2
            have E1 := Lib.hid e1
            have E2 := Lib.hid e2
            have E3 := Lib.hid e3
            clear hz e1 e2 e3
            rw [E1.out]
            go_wp2_with fail
            refine (within_any _ _ _ _).mono ?_
            rintro e' w' ⟨rfl, rfl⟩
            rw [E2.out]
            go_wp2_with fail
            refine (within_any _ _ _ _).mono ?_
            rintro e' w' ⟨rfl, rfl⟩
            rw [E3.out]
            go_wp2_with fail
            go_roundw
            case rel => exact ⟨k + 1, by omega, by go_num, F, HB2⟩
            case measure => simp [intOf]; omega
          · obtain ⟨f1, f2⟩ := fst_hit hlt Hn.out hz
            have F := Lib.hid (show errSegs' T l = ((k : Int), segBad T l k) by rw [F0.out, f1, f2])
            have N := Lib.hid hz
            clear f1 f2 hz
            go_wp2_with (go_at_call 31; refine (within_any _ _ _ _).mono ?_; rintro e' w' ⟨rfl, rfl⟩)
            all_goals first
              | (go_ret2; refine ⟨?_, HW2.out⟩; rw [F.out]; unfold segBad errSeg; simp_all; done)
              | (exfalso; refine N.out ?_; unfold segBad errSeg; simp_all; done)
        · have F := Lib.hid (show errSegs' T l = (0, 0) by
            rw [F0.out, fst_none fun j hj => Hn.out j (by omega), idx_none fun j hj => Hn.out j (by omega)]; rfl)
          go_wp2
          go_ret2
          exact ⟨by rw [F.out]; rfl, HW.out⟩
end Go.Proofs.Ytbehabaoeicgeaa

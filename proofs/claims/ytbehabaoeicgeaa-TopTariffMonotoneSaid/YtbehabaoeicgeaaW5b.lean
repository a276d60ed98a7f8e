/- The error of a tariff's rule. No condition. -/
import Derived.Test.YtbehabaoeicgeaaW5a
namespace Go.Proofs.Ytbehabaoeicgeaa
open Go.RowKit Fs


set_option maxHeartbeats 1000000 in
set_option maxRecDepth 100000 in
theorem ruleErr_any (T : Tar) (v : Value) (i : Nat) (w : World) (hT : RdTar w v T) (hi : i < T.rules.length) :
    Calls Try.prog 59 #[v, .int .i64 i] w fun e w' => e = .returned (.int .i64 (errRule T i)) ∧ Below w.heap.size w w' := by
  obtain ⟨z, h, r, e, f, zc, hc, rc, ec, fc, a, rfl, m⟩ := hT
  have hr := m.rules
  have b1 := hr.le.1
  have b2 := hr.le.2
  have b3 := m.zones.le.1
  have b4 := m.zones.le.2
  clear m
  have hz := (hr.2 i hi).1
  have hd := (hr.2 i hi).2
  obtain ⟨b, o, rfl, q⟩ := hr.at_ hi
  have c0 := fun x => Keep.alloc w x _ _ q.c0
  have c1 := fun x => Keep.alloc w x _ _ q.c1
  have c2 := fun x => Keep.alloc w x _ _ q.c2
  have c3 := fun x => Keep.alloc w x _ _ q.c3
  have c4 := fun x => Keep.alloc w x _ _ q.c4
  have c5 := fun x => Keep.alloc w x _ _ q.c5
  have c6 := fun x => Keep.alloc w x _ _ q.c6
  have c7 := fun x => Keep.alloc w x _ _ q.c7
  have c8 := fun x => Keep.alloc w x _ _ q.c8
  have c9 := fun x => Keep.alloc w x _ _ q.c9
  clear q
  by_cases hn : errName (fun j => (listR T.rules j).name) i = 0
  · have F := Lib.hid (show errRule T i = if !(isDate (listR T.rules i).lo && isDate (listR T.rules i).hi) then 2
      else if (listR T.rules i).hi < (listR T.rules i).lo then 9
      else if (listR T.rules i).zones.length = 0 ∨ (listR T.rules i).days.length = 0 then 10
      else if errSet (listR T.rules i).zones ((T.zones.length : Int) - 1) 6 ≠ 0 then errSet (listR T.rules i).zones ((T.zones.length : Int) - 1) 6
      else if errSet (listR T.rules i).days 7 2 ≠ 0 then errSet (listR T.rules i).days 7 2
      else errTerms (listR T.rules i) by unfold errRule; rw [if_neg (by rw [hn]; decide)])
    have N := Lib.hid hn
    clear hn
    go_enter Try.func59, Try.ntmps59
    go_wp2_with fail
    refine (errNameR_any (fun j => (listR T.rules j).name) _ i _ (by omega) (fun j hj => ruleName_any T.rules _ rc _ j a _ (hr.keep (Keep.alloc w _)) (cellNew _ _ _ _) (by omega))).mono ?_
    rintro e w' ⟨rfl, rfl⟩
    rw [N.out]
    go_wp2_with (go_at_call 46; refine (isDate_any _ _).mono ?_; rintro e w' ⟨rfl, rfl⟩)
    all_goals first
      | (go_ret; refine ⟨ret_int ?_, ((Below.refl _ _).alloc (Nat.le_refl _) _).alloc (by simp) _⟩; rw [F.out]; clear c0 c1 c2 c3 c4 c5 c6 c7 c8 c9; first | (simp_all; done) | (simp_all; omega))
      | skip
    refine (errSet_any (listR T.rules i).zones _ _ _ _ _ (hz.keep ((Keep.alloc _ _).trans (Keep.alloc _ _)))).mono ?_
    rintro e w1 ⟨rfl, hb1⟩
    have hd1 := (hd.keep (((Keep.alloc _ _).trans (Keep.alloc _ _)).trans (Keep.below hb1)))
    have hc1 := fun (b o : Nat) (h : b < _) => Below.cell hb1 (p := ⟨b, o, none⟩) h
    have hf1 := fun (b o : Nat) (h : b < _) => Below.frozen hb1 (p := ⟨b, o, none⟩) h
    have hs1 : w.heap.size + 1 < w1.heap.size := by have := hb1.size; simp at this; omega
    have hbw1 : Below w.heap.size w w1 := (((Below.refl _ _).alloc (Nat.le_refl _) _).alloc (by simp) _).trans (hb1.mono (by simp; omega))
    have HB := Lib.hid hb1
    clear hb1 c0 c1 c2 c3 c4 c5 c6 c7 c8 c9
    go_wp2_with fail
    all_goals first
      | (go_ret; refine ⟨ret_int ?_, hbw1⟩; rw [F.out]; clear hc1 hf1; first | (simp_all; done) | (simp_all; omega))
      | skip
    refine (errSet_any (listR T.rules i).days _ _ _ _ _ hd1).mono ?_
    rintro e w2 ⟨rfl, hb2⟩
    have hc2 := fun (b o : Nat) (h : b < _) => Below.cell hb2 (p := ⟨b, o, none⟩) h
    have hf2 := fun (b o : Nat) (h : b < _) => Below.frozen hb2 (p := ⟨b, o, none⟩) h
    have hbw2 : Below w.heap.size w w2 := hbw1.trans (hb2.mono (by omega))
    have hs2 : w1.heap.size ≤ w2.heap.size := hb2.size
    have HB2 := Lib.hid hb2
    clear hb2 hd1
    go_wp2_with fail
    all_goals first
      | (go_ret; refine ⟨ret_int ?_, hbw2⟩; rw [F.out]; clear hc1 hf1 hc2 hf2; first | (simp_all; done) | (simp_all; omega))
      | skip
    refine (terms_any (listR T.rules i) _ _ _ _ _).mono ?_
    rintro e w3 ⟨rfl, hb3⟩
    have hbw3 : Below w.heap.size w w3 := hbw2.trans (hb3.mono (by omega))
    have HB3 := Lib.hid hb3
    clear hb3
    go_wp2_with fail
    go_ret
    refine ⟨ret_int ?_, hbw3⟩
    rw [F.out]
    clear hc1 hf1 hc2 hf2
    first | (simp_all; done) | (simp_all; omega)
  · have F := Lib.hid (show errRule T i = errName (fun j => (listR T.rules j).name) i by unfold errRule; rw [if_pos hn])
    have d0 : (errName (fun j => (listR T.rules j).name) i == 0) = false := by simpa using hn
    clear hn
    go_enter Try.func59, Try.ntmps59
    go_wp2_with fail
    refine (errNameR_any (fun j => (listR T.rules j).name) _ i _ (by omega) (fun j hj => ruleName_any T.rules _ rc _ j a _ (hr.keep (Keep.alloc w _)) (cellNew _ _ _ _) (by omega))).mono ?_
    rintro e w' ⟨rfl, rfl⟩
    go_wp2_with fail
    go_ret
    exact ⟨ret_int F.out.symm, (Below.refl _ _).alloc (Nat.le_refl _) _⟩
end Go.Proofs.Ytbehabaoeicgeaa

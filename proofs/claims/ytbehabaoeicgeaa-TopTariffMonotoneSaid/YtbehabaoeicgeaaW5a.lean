/- The errors of a tariff's head, and of its zones, holidays and supplements one by one. No condition. -/
import Derived.Test.YtbehabaoeicgeaaW4
namespace Go.Proofs.Ytbehabaoeicgeaa
open Go.RowKit Fs

theorem cellNew (w : World) (cs : Array Value) (t : TypeId) (i : Nat) : (w.alloc (.cells cs t)).cell? ⟨w.heap.size, i, none⟩ = cs[i]? := cell_of_row _ _ i cs t (0, 0) (heap_alloc_new w _)

set_option maxHeartbeats 400000 in
theorem zoneErr_any (T : Tar) (v : Value) (i : Nat) (w : World) (hT : RdTar w v T) (hi : i < T.zones.length) :
    Calls Try.prog 57 #[v, .int .i64 i] w fun e w' => e = .returned (.int .i64 (errName (listS T.zones) i)) ∧ Below w.heap.size w w' := by
  obtain ⟨z, h, r, e, f, zc, hc, rc, ec, fc, a, rfl, m⟩ := hT
  have hz := m.zones
  have b1 := hz.le.1
  have b2 := hz.le.2
  clear m
  go_enter Try.func57, Try.ntmps57
  go_wp2_with fail
  refine (errNameZ_any (listS T.zones) _ i _ (by omega) (fun j hj => zoneName_any T.zones z zc _ j _ (hz.keep (Keep.alloc w _)) (cellNew _ _ _ _) (by omega))).mono ?_
  rintro e w' ⟨rfl, rfl⟩
  go_wp2_with fail
  go_ret
  exact ⟨rfl, (Below.refl _ _).alloc (Nat.le_refl _) _⟩
set_option maxHeartbeats 400000 in
theorem holErr_any (T : Tar) (v : Value) (i : Nat) (w : World) (hT : RdTar w v T) (hi : i < T.hols.length) :
    Calls Try.prog 58 #[v, .int .i64 i] w fun e w' => e = .returned (.int .i64 (errInSet T.hols i 100000 2)) ∧ Below w.heap.size w w' := by
  obtain ⟨z, h, r, e, f, zc, hc, rc, ec, fc, a, rfl, m⟩ := hT
  have hh := m.hols
  clear m
  go_enter Try.func58, Try.ntmps58
  go_wp2_with (go_at_call 67; refine (inSet_any T.hols _ _ _ _ _ _ (hh.keep (Keep.alloc w _)) hi).mono ?_; rintro e w1 ⟨rfl, hb1⟩)
  go_ret
  exact ⟨rfl, ((Below.refl _ _).alloc (Nat.le_refl _) _).trans (hb1.mono (by simp))⟩
set_option maxHeartbeats 400000 in
theorem headErr_any (T : Tar) (v : Value) (w : World) (hT : RdTar w v T) :
    Calls Try.prog 56 #[v] w fun e w' => e = .returned (.int .i64 (errHead T)) ∧ Below w.heap.size w w' := by
  obtain ⟨z, h, r, e, f, zc, hc, rc, ec, fc, a, rfl, m⟩ := hT
  clear m
  go_enter Try.func56, Try.ntmps56
  go_wp2_with (first | (go_at_call 64; refine (isName_any _ _).mono ?_; rintro e w' ⟨rfl, rfl⟩) | (go_at_call 31; refine (within_any _ _ _ _).mono ?_; rintro e w' ⟨rfl, rfl⟩))
  all_goals (go_ret; refine ⟨ret_int ?_, (Below.refl _ _).alloc (Nat.le_refl _) _⟩)
  all_goals (unfold errHead; first | (simp_all; done) | (simp_all; omega))
set_option maxHeartbeats 400000 in
theorem extraErr_any (T : Tar) (v : Value) (i : Nat) (w : World) (hT : RdTar w v T) (hi : i < T.extras.length) :
    Calls Try.prog 60 #[v, .int .i64 i] w fun e w' => e = .returned (.int .i64 (errExtra T i)) ∧ Below w.heap.size w w' := by
  obtain ⟨z, h, r, e, f, zc, hc, rc, ec, fc, a, rfl, m⟩ := hT
  have he := m.extras
  have b1 := he.le.1
  have b2 := he.le.2
  clear m
  obtain ⟨b, o, rfl, c0, c1⟩ := he.at_ hi
  have c1 := fun x => Keep.alloc w x _ _ c1
  by_cases hn : errName (fun j => (listE T.extras j).name) i = 0
  · have F := Lib.hid (show errExtra T i = if within (listE T.extras i).amount 0 100000 then 0 else 2 by unfold errExtra; rw [if_neg (by rw [hn]; decide)])
    have N := Lib.hid hn
    clear hn
    go_enter Try.func60, Try.ntmps60
    go_wp2_with fail
    refine (errNameE_any (fun j => (listE T.extras j).name) _ i _ (by omega) (fun j hj => extraName_any T.extras _ ec _ j _ (he.keep (Keep.alloc w _)) (cellNew _ _ _ _) (by omega))).mono ?_
    rintro e w' ⟨rfl, rfl⟩
    rw [N.out]
    go_wp2_with (go_at_call 31; refine (within_any _ _ _ _).mono ?_; rintro e w' ⟨rfl, rfl⟩)
    all_goals (go_ret; refine ⟨ret_int ?_, (Below.refl _ _).alloc (Nat.le_refl _) _⟩)
    all_goals (rw [F.out]; simp_all)
  · have F := Lib.hid (show errExtra T i = errName (fun j => (listE T.extras j).name) i by unfold errExtra; rw [if_pos hn])
    have d0 : (errName (fun j => (listE T.extras j).name) i == 0) = false := by simpa using hn
    clear hn
    go_enter Try.func60, Try.ntmps60
    go_wp2_with fail
    refine (errNameE_any (fun j => (listE T.extras j).name) _ i _ (by omega) (fun j hj => extraName_any T.extras _ ec _ j _ (he.keep (Keep.alloc w _)) (cellNew _ _ _ _) (by omega))).mono ?_
    rintro e w' ⟨rfl, rfl⟩
    go_wp2_with fail
    go_ret
    exact ⟨ret_int F.out.symm, (Below.refl _ _).alloc (Nat.le_refl _) _⟩
end Go.Proofs.Ytbehabaoeicgeaa

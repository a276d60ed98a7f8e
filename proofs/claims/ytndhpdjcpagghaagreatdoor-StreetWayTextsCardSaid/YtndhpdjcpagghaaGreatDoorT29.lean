/- Takes: how long a road takes at a time. Condition: the net can be read. -/
import Derived.Test.YtndhpdjcpagghaaGreatDoorT17
namespace Go.Proofs.YtndhpdjcpagghaaGreatDoor
open Go.RowKit Fs

def Fs.noRoad (N : Net) (i : Int) : Int := if isRoad N i then 0 else 6
def Fs.tkErr (N : Net) (i a : Int) : Int := fst (listI [netErr N, noRoad N i, timeErr a]) 3
def Fs.takes (N : Net) (i a : Int) : (Int × Int) × Int :=
  if tkErr N i a = 0 then (takesAt (listD N.roads i.toNat).pts a, 0) else ((0, 0), tkErr N i a)
theorem Fs.tkErr_ok {N : Net} {i a : Int} (h : tkErr N i a = 0) : netErr N = 0 ∧ (0 ≤ i ∧ i < N.roads.length) ∧ 0 ≤ a ∧ a ≤ 604800 := by
  have h1 : noRoad N i = 0 := fst_zero h 1 (by decide)
  have h2 : timeErr a = 0 := fst_zero h 2 (by decide)
  refine ⟨fst_zero h 0 (by decide), ?_, ?_⟩
  · unfold noRoad at h1
    cases hp : isRoad N i with
    | true => have h := Fs.within_iff.1 hp; exact ⟨h.1, by omega⟩
    | false => rw [hp] at h1; exact absurd h1 (by decide)
  · unfold timeErr at h2
    cases hp : within a 0 604800 with
    | true => exact Fs.within_iff.1 hp
    | false => rw [hp] at h2; exact absurd h2 (by decide)

set_option maxHeartbeats 400000 in
theorem noRoad_any (N : Net) (v : Value) (i : Int) (w : World) (hN : RdNet w v N) : Calls Tryz.prog 52 #[v, .int .i64 i] w fun e w' => e = .returned (.int .i64 (noRoad N i)) ∧ Below w.heap.size w w' := by
  have hN0 := Lib.hid hN
  obtain ⟨P, R, pc, rc, a, rfl, m⟩ := hN
  clear m
  have BN := Lib.hid (BoxN.new w N P R pc rc 25)
  obtain ⟨n0, n1⟩ := BN.out
  cases hr : isRoad N i with
  | true =>
    have X := Lib.hid hr
    go_enter Tryz.func52, Tryz.ntmps52
    go_wp2_with (go_at_call 84; refine (isRoad_any N _ i _ (hN0.out.keep (Keep.alloc w _))).mono ?_; rintro e w1 ⟨rfl, hb1⟩; rw [X.out])
    go_ret
    exact ⟨ret_int (by unfold noRoad; rw [if_pos hr]), ((Below.refl _ _).alloc (Nat.le_refl _) _).trans (hb1.mono (by simp))⟩
  | false =>
    have X := Lib.hid hr
    go_enter Tryz.func52, Tryz.ntmps52
    go_wp2_with (go_at_call 84; refine (isRoad_any N _ i _ (hN0.out.keep (Keep.alloc w _))).mono ?_; rintro e w1 ⟨rfl, hb1⟩; rw [X.out])
    go_ret
    exact ⟨ret_int (by unfold noRoad; rw [hr]; rfl), ((Below.refl _ _).alloc (Nat.le_refl _) _).trans (hb1.mono (by simp))⟩
theorem arr3New (w : World) (x y z : Int) (ty : TypeId) : ArrI (w.alloc (.cells #[.int .i64 x, .int .i64 y, .int .i64 z] ty)) (some ⟨w.heap.size, 0, none⟩) [x, y, z] 3 := by
  refine ⟨Nat.le_refl _, by decide, fun _ => ⟨w.heap.size, 0, rfl, fun i j hi hj => ?_⟩⟩
  have hj0 : j = 0 := by omega
  subst hj0
  have hi : i < 3 := hi
  match i, hi with
  | 0, _ => exact cellNew w _ _ 0
  | 1, _ => exact cellNew w _ _ 1
  | 2, _ => exact cellNew w _ _ 2

set_option maxHeartbeats 3200000 in
set_option maxRecDepth 100000 in
theorem takes_any (N : Net) (v : Value) (i a : Int) (w : World) (hN : RdNet w v N) :
    Calls Tryz.prog 22 #[v, .int .i64 i, .int .i64 a] w fun e w' => e = .returned (.tuple #[.agg #[.int .i64 (takes N i a).1.1, .int .i64 (takes N i a).1.2], .int .i64 (takes N i a).2]) ∧ Below w.heap.size w w' := by
  have hN0 := Lib.hid hN
  obtain ⟨P, R, pc, rc, ar, rfl, m⟩ := hN
  have M := Lib.hid m
  have rb1 := m.roads.le.1
  have rb2 := m.roads.le.2
  clear m
  have BN := Lib.hid ((BoxN.new w N P R pc rc 25).keep (Keep.alloc _ (.cells #[.int .i64 0, .int .i64 0] 54)))
  have RT := Lib.hid (show MarkAt ((w.alloc (.cells #[.slice P N.places.length pc, .slice R N.roads.length rc] 25)).alloc (.cells #[.int .i64 0, .int .i64 0] 54)) (w.heap.size + 1) from by
    have := MarkAt.new (w.alloc (.cells #[.slice P N.places.length pc, .slice R N.roads.length rc] 25)) 54
    simpa using this)
  go_enter Tryz.func22, Tryz.ntmps22
  go_upto_region 1 with fail
  generalize hwb : (w.alloc _).alloc _ = wb at *
  have HW : Hid (Below w.heap.size w wb) := by rw [← hwb]; exact Lib.hid (((Below.refl _ _).alloc (Nat.le_refl _) _).alloc (by simp) _)
  clear hwb
  obtain ⟨n0, n1⟩ := BN.out
  go_cut [8] from 9 to 17 (fun s wx => s = .int .i64 (tkErr N i a) ∧ Hid (Below wb.heap.size wb wx))
  case first =>
    have HBd : Hid (Below wb.heap.size wb wb.drew) := Lib.hid (Below.refl _ _).drew
    have MK : Hid (∀ w', Below wb.heap.size wb w' → w'.cell? ⟨w.heap.size, 0, none⟩ = some (.slice P N.places.length pc) ∧ w'.cell? ⟨w.heap.size, 1, none⟩ = some (.slice R N.roads.length rc) ∧ Hid (Below wb.heap.size wb w')) :=
      Lib.hid fun w' hw => ⟨Keep.below hw _ _ n0, Keep.below hw _ _ n1, Lib.hid hw⟩
    have KN : Hid (∀ w', Below wb.heap.size wb w' → RdNet w' (netV N P R pc rc) N) := Lib.hid fun w' hw => (hN0.out.keep (Keep.below (HW.out.trans (hw.mono HW.out.size))))
    go_region_held3 (fun w' => w'.cell? ⟨w.heap.size, 0, none⟩ = some (.slice P N.places.length pc) ∧ w'.cell? ⟨w.heap.size, 1, none⟩ = some (.slice R N.roads.length rc) ∧ Hid (Below wb.heap.size wb w'))
      (first
        | exact MK.out _ HBd.out
        | (go_split_ands; exact ⟨by assumption, by assumption, by assumption⟩)
        | (go_split_ands; exact MK.out _ (Below.trans (Hid.out (by assumption)) (hb1.mono (Hid.out (by assumption) : Below wb.heap.size wb _).size)))
        | (go_split_ands; exact MK.out _ (Below.alloc (Hid.out (by assumption)) (Hid.out (by assumption) : Below wb.heap.size wb _).size _)))
      ((first
          | (go_at_call 30
             go_split_ands
             refine (errNet_any N _ _ (KN.out _ (Hid.out (by assumption)))).mono ?_
             rintro e' w1 ⟨rfl, hb1⟩)
          | (go_at_call 52
             go_split_ands
             refine (noRoad_any N _ i _ (KN.out _ (Hid.out (by assumption)))).mono ?_
             rintro e' w1 ⟨rfl, hb1⟩)
          | (go_at_call 53
             refine (timeErr_any a _).mono ?_
             rintro e' w1 ⟨rfl, rfl⟩)
          | (go_at_call 51
             refine (firstError_any [netErr N, noRoad N i, timeErr a] _ _ _ (by first | exact arr3New _ _ _ _ _ | exact ArrI.keep (Keep.drew _) (arr3New _ _ _ _ _))).mono ?_
             rintro e' w1 ⟨rfl, rfl⟩)))
    all_goals
      rename_i hS
      obtain ⟨-, -, hbb⟩ := hS
      go_wp2_with fail
      go_meet
      exact ⟨rfl, hbb⟩
  case rest =>
    obtain ⟨rfl, HB⟩ := hcut
    obtain ⟨wp, hwp⟩ : ∃ wp, wp = wc := ⟨_, rfl⟩
    subst hwp
    clear n0 n1
    have HX := Lib.hid (HW.out.trans (HB.out.mono HW.out.size))
    obtain ⟨r0, r1, rf0, rf1⟩ := RT.out.below HB.out RT.out.lt
    by_cases he : tkErr N i a = 0
    · have hEE := Lib.hid (tkErr_ok he)
      have HF := Lib.hid (show takes N i a = (takesAt (listD N.roads i.toNat).pts a, 0) from if_pos he)
      rw [he]
      clear he
      obtain ⟨k, hk⟩ : ∃ k : Nat, i = k := ⟨_, (Int.toNat_of_nonneg hEE.out.2.1.1).symm⟩
      subst hk
      have hkl : k < N.roads.length := by have := hEE.out.2.1.2; omega
      have hkn : (k : Int) < (N.roads.length : Int) := by omega
      have ha0 := hEE.out.2.2.1
      have HOK := Lib.hid (net_roads_ok hEE.out.1 k hkl).pts
      obtain ⟨n0, n1⟩ := BN.out.keep (Keep.below HB.out)
      have hr := M.out.roads.keep (Keep.below HX.out)
      obtain ⟨b, o, hRa, q⟩ := hr.at_ hkl
      have HP := Lib.hid (hr.2 k hkl)
      subst hRa
      have q4 := q.c4
      clear q hr
      go_wp2_with (go_at_call 54; refine (takesAt_any _ _ _ a _ HP.out HOK.out ha0).mono ?_; rintro e w1 ⟨rfl, hb1⟩; obtain ⟨r0, r1, rf0, rf1⟩ := RT.out.below (HB.out.trans (hb1.mono HB.out.size)) RT.out.lt)
      have HX1 := HX.out.trans (hb1.mono HX.out.size)
      refine bodyPost_ret (v := .tuple #[.agg #[.int .i64 (takesAt (listD N.roads k).pts a).1, .int .i64 (takesAt (listD N.roads k).pts a).2], .int .i64 0]) (by simp [results, Tryz.results22, go_sem, r0, r1]) rfl ⟨by rw [HF.out, Int.toNat_natCast], ?_⟩
      exact ((HX1.setCell (p := ⟨w.heap.size + 1, 0, none⟩) (by dsimp only; omega) _).setCell (p := ⟨w.heap.size + 1, 1, none⟩) (by dsimp only; omega) _)
    · have hz : (tkErr N i a == 0) = false := by simpa using he
      have HF := Lib.hid (show takes N i a = ((0, 0), tkErr N i a) from if_neg he)
      clear he
      go_wp2_with fail
      refine bodyPost_ret (v := .tuple #[.agg #[.int .i64 0, .int .i64 0], .int .i64 (tkErr N i a)]) (by simp [results, Tryz.results22, go_sem, r0, r1]) rfl ⟨by rw [HF.out], ?_⟩
      exact ((HX.out.setCell (p := ⟨w.heap.size + 1, 0, none⟩) (by dsimp only; omega) _).setCell (p := ⟨w.heap.size + 1, 1, none⟩) (by dsimp only; omega) _)
end Go.Proofs.YtndhpdjcpagghaaGreatDoor

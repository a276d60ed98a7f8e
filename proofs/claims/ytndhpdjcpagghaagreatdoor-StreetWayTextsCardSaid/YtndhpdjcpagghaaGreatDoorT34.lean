/- LatestFor, and what it answers. Condition: the net can be read. -/
import Derived.Test.YtndhpdjcpagghaaGreatDoorT33
import Derived.Test.YtndhpdjcpagghaaGreatDoorT19
namespace Go.Proofs.YtndhpdjcpagghaaGreatDoor
open Go.RowKit Fs

/-- What LatestFor answers: the last second from which one is not too late. -/
def Fs.LatestIs (N : Net) (f t a : Int) (x y : Int) : Prop :=
  (estErr N f t a ≠ 0 ∧ x = 0 ∧ y = estErr N f t a) ∨
  (estErr N f t a = 0 ∧ ∃ k : Nat, k ≤ a.toNat + 1 ∧ (∀ i, i < k → tooLate N f.toNat t.toNat a i = false) ∧ (∀ i, k ≤ i → i < a.toNat + 1 → tooLate N f.toNat t.toNat a i = true) ∧ ((k = 0 ∧ x = 0 ∧ y = 12) ∨ (k ≠ 0 ∧ x = ((k - 1 : Nat) : Int) ∧ y = 0)))

set_option maxHeartbeats 3200000 in
set_option maxRecDepth 100000 in
theorem latestFor_any (N : Net) (v : Value) (f t a : Int) (w : World) (hN : RdNet w v N) :
    Calls Tryz.prog 26 #[v, stripV f t a] w fun e w' => ∃ x y, e = .returned (.tuple #[.int .i64 x, .int .i64 y]) ∧ LatestIs N f t a x y ∧ Below w.heap.size w w' := by
  have hN0 := Lib.hid hN
  obtain ⟨P, R, pc, rc, ar, rfl, m⟩ := hN
  clear m
  have BN := Lib.hid ((BoxN.new w N P R pc rc 25).keep (Keep.alloc _ (.cells #[.int .i64 f, .int .i64 t, .int .i64 a] 60)))
  have BT := Lib.hid (TripAt.new1 w (.cells #[.slice P N.places.length pc, .slice R N.roads.length rc] 25) f t a 60)
  go_enter Tryz.func26, Tryz.ntmps26
  go_upto_region 1 with fail
  generalize hwb : (w.alloc _).alloc _ = wb at *
  have HW : Hid (Below w.heap.size w wb) := by rw [← hwb]; exact Lib.hid (((Below.refl _ _).alloc (Nat.le_refl _) _).alloc (by simp) _)
  clear hwb
  obtain ⟨n0, n1⟩ := BN.out
  obtain ⟨c0, c1, c2⟩ := BT.out
  go_cut [6] from 8 to 14 (fun s wx => s = .int .i64 (estErr N f t a) ∧ Hid (Below wb.heap.size wb wx))
  case first =>
    have HBd : Hid (Below wb.heap.size wb wb.drew) := Lib.hid (Below.refl _ _).drew
    have MK : Hid (∀ w', Below wb.heap.size wb w' → w'.cell? ⟨w.heap.size, 0, none⟩ = some (.slice P N.places.length pc) ∧ w'.cell? ⟨w.heap.size, 1, none⟩ = some (.slice R N.roads.length rc) ∧ w'.cell? ⟨w.heap.size + 1, 0, none⟩ = some (.int .i64 f) ∧ w'.cell? ⟨w.heap.size + 1, 1, none⟩ = some (.int .i64 t) ∧ w'.cell? ⟨w.heap.size + 1, 2, none⟩ = some (.int .i64 a) ∧ Hid (Below wb.heap.size wb w')) :=
      Lib.hid fun w' hw => ⟨Keep.below hw _ _ n0, Keep.below hw _ _ n1, Keep.below hw _ _ c0, Keep.below hw _ _ c1, Keep.below hw _ _ c2, Lib.hid hw⟩
    go_region_held3 (fun w' => w'.cell? ⟨w.heap.size, 0, none⟩ = some (.slice P N.places.length pc) ∧ w'.cell? ⟨w.heap.size, 1, none⟩ = some (.slice R N.roads.length rc) ∧ w'.cell? ⟨w.heap.size + 1, 0, none⟩ = some (.int .i64 f) ∧ w'.cell? ⟨w.heap.size + 1, 1, none⟩ = some (.int .i64 t) ∧ w'.cell? ⟨w.heap.size + 1, 2, none⟩ = some (.int .i64 a) ∧ Hid (Below wb.heap.size wb w'))
      (first
        | exact MK.out _ HBd.out
        | (go_split_ands; exact ⟨by assumption, by assumption, by assumption, by assumption, by assumption, by assumption⟩)
        | (go_split_ands; exact MK.out _ (Below.trans (Hid.out (by assumption)) (hb1.mono (Hid.out (by assumption) : Below wb.heap.size wb _).size)))
        | (go_split_ands; exact MK.out _ (Below.alloc (Hid.out (by assumption)) (Hid.out (by assumption) : Below wb.heap.size wb _).size _)))
      ((first
          | (go_at_call 30
             go_split_ands
             refine (errNet_any N _ _ (hN0.out.keep (Keep.below (HW.out.trans ((Hid.out (by assumption) : Below wb.heap.size wb _).mono HW.out.size))))).mono ?_
             rintro e' w1 ⟨rfl, hb1⟩)
          | (go_at_call 55
             go_split_ands
             refine (tripErr_any N _ f t a _ (hN0.out.keep (Keep.below (HW.out.trans ((Hid.out (by assumption) : Below wb.heap.size wb _).mono HW.out.size))))).mono ?_
             rintro e' w1 ⟨rfl, hb1⟩)
          | (go_at_call 51
             refine (firstError_any [netErr N, tripErr N f t a] _ _ _ (by first | exact arr2New _ _ _ _ | exact ArrI.keep (Keep.drew _) (arr2New _ _ _ _))).mono ?_
             rintro e' w1 ⟨rfl, rfl⟩)))
    all_goals
      rename_i hS
      obtain ⟨-, -, -, -, -, hbb⟩ := hS
      go_wp2_with fail
      go_meet
      exact ⟨rfl, hbb⟩
  case rest =>
    obtain ⟨rfl, HB⟩ := hcut
    obtain ⟨wp, hwp⟩ : ∃ wp, wp = wc := ⟨_, rfl⟩
    subst hwp
    clear n0 n1 c0 c1 c2
    have HX := Lib.hid (HW.out.trans (HB.out.mono HW.out.size))
    by_cases he : estErr N f t a = 0
    · have hEE := Lib.hid (estErr_ok he)
      have hPP := Lib.hid (tripErr_ok hEE.out.2)
      have HZ := Lib.hid he
      rw [he]
      clear he
      obtain ⟨s, hs⟩ : ∃ s : Nat, f = s := ⟨_, (Int.toNat_of_nonneg (Fs.within_iff.1 hPP.out.1).1).symm⟩
      obtain ⟨u, hu⟩ : ∃ u : Nat, t = u := ⟨_, (Int.toNat_of_nonneg (Fs.within_iff.1 hPP.out.2.1).1).symm⟩
      have hsl : s < N.places.length := by have := (Fs.within_iff.1 hPP.out.1).2; omega
      have hul : u < N.places.length := by have := (Fs.within_iff.1 hPP.out.2.1).2; omega
      have hta : 0 ≤ a ∧ a ≤ 604800 := by
        have h := hPP.out.2.2
        unfold timeErr at h
        cases hw : within a 0 604800 with
        | true => exact Fs.within_iff.1 hw
        | false => rw [hw] at h; cases h
      obtain ⟨q, hq⟩ : ∃ q : Nat, a = q := ⟨_, (Int.toNat_of_nonneg hta.1).symm⟩
      subst hs
      subst hu
      subst hq
      have HBN := Lib.hid (BN.out.keep (Keep.below HB.out))
      have HBT := Lib.hid (BT.out.keep (Keep.below HB.out))
      have HN1 := Lib.hid (hN0.out.keep (Keep.below HX.out))
      have HE := Lib.hid hEE.out.1
      obtain ⟨c0, c1, c2⟩ := HBT.out
      go_wp2_with (go_at_call 62; rw [show (q : Int) + 1 = ((q + 1 : Nat) : Int) by omega]; refine (sortSearch_any 63 (.pointer (some ⟨w.heap.size, 0, none⟩)) (.pointer (some ⟨w.heap.size + 1, 0, none⟩)) (q + 1) (tooLate N s u q) _ (by omega) (fun args w => by kernel_rfl) (fun w' hw i hi => late1_any N P R pc rc _ _ s u i q w' HE.out (HN1.out.keep (Keep.below hw)) (HBN.out.keep (Keep.below hw)) (HBT.out.keep (Keep.below hw)) hsl hul (by omega)) (fun i j hij _ h => tooLate_later HE.out hsl hul hij h)).mono ?_; rintro e w1 ⟨k, hk, rfl, hk1, hk2, hb1⟩; have HK1 := Lib.hid hk1; have HK2 := Lib.hid hk2; clear hk1 hk2)
      all_goals
        rename_i hk0
        have HX1 := Lib.hid (HX.out.trans (hb1.mono HX.out.size))
        have hk' : k ≤ (q : Int).toNat + 1 := by rw [Int.toNat_natCast]; exact hk
        have HK2' : ∀ i, k ≤ i → i < (q : Int).toNat + 1 → tooLate N s u q i = true := fun i h1 h2 => HK2.out i h1 (by rw [Int.toNat_natCast] at h2; exact h2)
        first
          | (have hk1 : k ≠ 0 := by
               have : (k : Int) ≠ 0 := by simpa using hk0
               omega
             refine bodyPost_ret (v := .tuple #[.int .i64 ((k : Int) - 1), .int .i64 0]) (by simp [results, Tryz.results26, go_sem]) rfl ⟨_, _, rfl, .inr ⟨HZ.out, k, hk', HK1.out, HK2', .inr ⟨hk1, by omega, rfl⟩⟩, HX1.out⟩)
          | (have hk1 : k = 0 := by
               have : (k : Int) = 0 := by simpa using hk0
               omega
             refine bodyPost_ret (v := .tuple #[.int .i64 0, .int .i64 12]) (by simp [results, Tryz.results26, go_sem]) rfl ⟨_, _, rfl, .inr ⟨HZ.out, k, hk', HK1.out, HK2', .inl ⟨hk1, rfl, rfl⟩⟩, HX1.out⟩)
    · have hz : (estErr N f t a == 0) = false := by simpa using he
      have HZ := Lib.hid he
      clear he
      go_wp2_with fail
      refine bodyPost_ret (v := .tuple #[.int .i64 0, .int .i64 (estErr N f t a)]) (by simp [results, Tryz.results26, go_sem]) rfl ⟨_, _, rfl, .inl ⟨HZ.out, rfl, rfl⟩, HX.out⟩
end Go.Proofs.YtndhpdjcpagghaaGreatDoor

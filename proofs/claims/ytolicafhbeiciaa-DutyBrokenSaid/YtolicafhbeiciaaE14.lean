/- The law of the first broken rule: as specified; without the records behind it it is the same one. No condition. -/
import Derived.Test.YtolicafhbeiciaaV1
import Derived.Deep.RegionHeld3
import Derived.Deep.CutRange
import Derived.Deep.CutBlock
namespace Go.Proofs.Ytolicafhbeiciaa
open Go.RowKit Fs

set_option linter.unusedSimpArgs false in
set_option maxHeartbeats 12800000 in
set_option maxRecDepth 100000 in
theorem lawBroken_any (R : DRules) (l : List WRec) (A : Option Addr) (c : Nat) (w : World) (h : ArrW w A l c) :
    Calls Try.prog 5 #[drulesV R, .slice A l.length c] w fun e w' => e = .returned (.bool true) ∧ Below w.heap.size w w' := by
  have b1 := h.le.1
  have b2 := h.le.2
  have HA := Lib.hid h
  clear h
  have BR := Lib.hid (RulesIn.new w R 23)
  go_enter Try.func5, Try.ntmps5
  go_upto_region 1 with fail
  generalize hwb : w.alloc _ = wb at *
  have HW : Hid (Below w.heap.size w wb) := by rw [← hwb]; exact Lib.hid ((Below.refl _ _).alloc (Nat.le_refl _) _)
  clear hwb
  obtain ⟨a0, a1, a2, a3, a4⟩ := BR.out
  go_wp2_with fail
  refine (lawAwake_any _).mono ?_
  rintro e' w1 ⟨rfl, hb1⟩
  replace HW := Lib.hid (HW.out.trans (hb1.mono HW.out.size))
  replace BR := Lib.hid (BR.out.keep (Keep.below hb1))
  clear a0 a1 a2 a3 a4
  clear hb1
  go_wp2_with fail
  refine (lawFew_any l A c _ (HA.out.keep (Keep.below HW.out))).mono ?_
  rintro e' wA ⟨rfl, rfl⟩
  cases hf : fewR l with
  | false =>
    go_wp2_with fail
    go_ret
    exact ⟨rfl, HW.out⟩
  | true =>
    have hl := (fewR_is hf).1
    have hl : l.length ≤ 42 := by omega
    clear hf
    obtain ⟨wA, hwA⟩ : ∃ wz, wz = w1 := ⟨_, rfl⟩
    subst hwA
    obtain ⟨a0, a1, a2, a3, a4⟩ := BR.out
    go_wp2_with fail
    go_cut [5, 6] from 18 to 24 (fun s1 s2 wx => ∃ g : Nat, s1 = .pointer (some ⟨g, 0, none⟩) ∧ s2 = .int .i64 (brokenErr R l) ∧ wA.heap.size ≤ g ∧ Hid (TreeAt wx g (.int .i64 (brokenOut R l).1) (.int .i64 (brokenOut R l).2)) ∧ Hid (Below wA.heap.size wA wx))
    case first =>
      have HBd : Hid (Below wA.heap.size wA wA.drew) := Lib.hid (Below.refl _ _).drew
      have MK : Hid (∀ w', Below wA.heap.size wA w' → w'.cell? ⟨w.heap.size, 0, none⟩ = some (.int .i64 R.brk) ∧ w'.cell? ⟨w.heap.size, 1, none⟩ = some (.int .i64 R.rest) ∧ w'.cell? ⟨w.heap.size, 2, none⟩ = some (.int .i64 R.stint) ∧ w'.cell? ⟨w.heap.size, 3, none⟩ = some (.int .i64 R.shift) ∧ w'.cell? ⟨w.heap.size, 4, none⟩ = some (.int .i64 R.week) ∧ Hid (Below wA.heap.size wA w')) :=
        Lib.hid fun w' hw => ⟨Keep.below hw _ _ a0, Keep.below hw _ _ a1, Keep.below hw _ _ a2, Keep.below hw _ _ a3, Keep.below hw _ _ a4, Lib.hid hw⟩
      have KA : Hid (∀ w', Below wA.heap.size wA w' → ArrW w' A l c) := Lib.hid fun w' hw => (HA.out.keep (Keep.below (HW.out.trans (hw.mono HW.out.size))))
      go_region_held3 (fun w' => w'.cell? ⟨w.heap.size, 0, none⟩ = some (.int .i64 R.brk) ∧ w'.cell? ⟨w.heap.size, 1, none⟩ = some (.int .i64 R.rest) ∧ w'.cell? ⟨w.heap.size, 2, none⟩ = some (.int .i64 R.stint) ∧ w'.cell? ⟨w.heap.size, 3, none⟩ = some (.int .i64 R.shift) ∧ w'.cell? ⟨w.heap.size, 4, none⟩ = some (.int .i64 R.week) ∧ Hid (Below wA.heap.size wA w'))
        (first
          | exact MK.out _ HBd.out
          | (go_split_ands; exact ⟨by assumption, by assumption, by assumption, by assumption, by assumption, by assumption⟩)
          | (go_split_ands; exact MK.out _ (Below.trans (Hid.out (by assumption)) (hb1.mono (Hid.out (by assumption) : Below wA.heap.size wA _).size)))
          | (go_split_ands; exact MK.out _ (Below.alloc (Hid.out (by assumption)) (Hid.out (by assumption) : Below wA.heap.size wA _).size _))
          | (go_split_ands; exact MK.out _ (below_realloc (Hid.out (by assumption)) hle _))
          | (go_split_ands; exact MK.out _ (Below.setCell (Below.setCell (Hid.out (by assumption)) (by show wA.heap.size ≤ _; first | exact Nat.le_refl _ | assumption | omega | (simp; done) | (simp; omega)) _) (by show wA.heap.size ≤ _; first | exact Nat.le_refl _ | assumption | omega | (simp; done) | (simp; omega)) _)))
        ((first
          | (go_at_call 20
             go_split_ands
             refine (copyRecs_any l A c _ (KA.out _ (Hid.out (by assumption))) (by omega)).mono ?_
             rintro e' wz5 ⟨⟨A5, c5, rfl, h5⟩, hb1⟩
             have hle := Nat.le_trans (Hid.out (by assumption) : Below wA.heap.size wA _).size hb1.size
             have H5 := Lib.hid h5
             clear h5
             try (first
               | (have HT0 := (HT.out.keep hb1 : TreeAt _ _ (.int .i64 0) (.int .i64 0)); (try simp only [size_drew] at HT0); (try simp only [World.size_alloc] at HT0); (try simp only [size_drew] at HT0); have HT := Lib.hid HT0; clear HT0; obtain ⟨q0, q1, qf0, qf1⟩ := HT.out)
               | (have HT0 := ((TreeAt.new _ _ _ 47).keep hb1 : TreeAt _ _ (.int .i64 0) (.int .i64 0)); (try simp only [size_drew] at HT0); (try simp only [World.size_alloc] at HT0); (try simp only [size_drew] at HT0); have HT := Lib.hid HT0; clear HT0; obtain ⟨q0, q1, qf0, qf1⟩ := HT.out)
               | (have HT0 := ((TreeAt.new _ _ _ 47).keepD hb1 : TreeAt _ _ (.int .i64 0) (.int .i64 0)); (try simp only [size_drew] at HT0); (try simp only [World.size_alloc] at HT0); (try simp only [size_drew] at HT0); have HT := Lib.hid HT0; clear HT0; obtain ⟨q0, q1, qf0, qf1⟩ := HT.out)))
          | (go_at_call 29
             go_split_ands
             refine (xBroken_any R l _ _ _ (by first | exact H5.out | exact H5.out.keep (Keep.alloc _ _))).mono ?_
             rintro e' wz7 ⟨rfl, hb1⟩
             have hle := Nat.le_trans (Hid.out (by assumption) : Below wA.heap.size wA _).size hb1.size
             try (first
               | (have HT0 := (HT.out.keep hb1 : TreeAt _ _ (.int .i64 0) (.int .i64 0)); (try simp only [size_drew] at HT0); (try simp only [World.size_alloc] at HT0); (try simp only [size_drew] at HT0); have HT := Lib.hid HT0; clear HT0; obtain ⟨q0, q1, qf0, qf1⟩ := HT.out)
               | (have HT0 := ((TreeAt.new _ _ _ 47).keep hb1 : TreeAt _ _ (.int .i64 0) (.int .i64 0)); (try simp only [size_drew] at HT0); (try simp only [World.size_alloc] at HT0); (try simp only [size_drew] at HT0); have HT := Lib.hid HT0; clear HT0; obtain ⟨q0, q1, qf0, qf1⟩ := HT.out)
               | (have HT0 := ((TreeAt.new _ _ _ 47).keepD hb1 : TreeAt _ _ (.int .i64 0) (.int .i64 0)); (try simp only [size_drew] at HT0); (try simp only [World.size_alloc] at HT0); (try simp only [size_drew] at HT0); have HT := Lib.hid HT0; clear HT0; obtain ⟨q0, q1, qf0, qf1⟩ := HT.out)))))
      all_goals
        rename_i hS
        obtain ⟨-, -, -, -, -, hbb⟩ := hS
        go_wp2_with fail
        go_meet
        first
          | exact ⟨_, rfl, rfl, by omega, Lib.hid (TreeAt.new _ _ _ _), hbb⟩
          | exact ⟨_, rfl, rfl, by omega, Lib.hid (HT.out.set _ _), hbb⟩
    case rest =>
      obtain ⟨gHO, rfl, rfl, hgHO, HO, HB⟩ := hcut
      obtain ⟨wB, hwB⟩ : ∃ wz, wz = wc := ⟨_, rfl⟩
      subst hwB
      replace HW := Lib.hid (HW.out.trans (HB.out.mono HW.out.size))
      replace BR := Lib.hid (BR.out.keep (Keep.below HB.out))
      clear HB
      clear a0 a1 a2 a3 a4
      obtain ⟨a0, a1, a2, a3, a4⟩ := BR.out
      go_wp2_with fail
      refine (rBothErr_any R l A c _ (HA.out.keep (Keep.below HW.out))).mono ?_
      rintro e' w3 ⟨rfl, hb1⟩
      replace HW := Lib.hid (HW.out.trans (hb1.mono HW.out.size))
      replace BR := Lib.hid (BR.out.keep (Keep.below hb1))
      replace HO := Lib.hid (HO.out.keep hb1)
      clear a0 a1 a2 a3 a4
      clear hb1
      by_cases he : bothErr R l = 0
      · have HE := Lib.hid he
        have HF := Lib.hid (recs_right (both_ok he).2).fit
        rw [he]
        clear he
        obtain ⟨a0, a1, a2, a3, a4⟩ := BR.out
        go_wp2_with fail
        refine (rBroken_any R l A c _ (HA.out.keep (Keep.below HW.out)) HF.out).mono ?_
        rintro e' w4 ⟨rfl, hb1⟩
        replace HW := Lib.hid (HW.out.trans (hb1.mono HW.out.size))
        replace BR := Lib.hid (BR.out.keep (Keep.below hb1))
        replace HO := Lib.hid (HO.out.keep hb1)
        clear a0 a1 a2 a3 a4
        clear hb1
        have HK := Lib.hid (TreeAt.new w4 (.int .i64 (brokenRule R l)) (.int .i64 (brokenRec R l : Nat)) 47)
        have hb8 : Below w4.heap.size w4 (w4.alloc (.cells #[.int .i64 (brokenRule R l), .int .i64 (brokenRec R l : Nat)] 47)) := (Below.refl _ _).alloc (Nat.le_refl _) _
        replace HW := Lib.hid (HW.out.trans (hb8.mono HW.out.size))
        replace BR := Lib.hid (BR.out.keep (Keep.below hb8))
        replace HO := Lib.hid (HO.out.keep hb8)
        clear hb8
        by_cases hr : brokenRule R l = 0
        · have HN := Lib.hid (broken_none HE.out hr)
          rw [HN.out.2] at HO
          rw [HN.out.1]
          have d1 : (brokenRule R l == 0) = true := by simpa using hr
          clear hr
          obtain ⟨o0, o1, -, -⟩ := HO.out
          obtain ⟨p0, p1, -, -⟩ := HK.out
          go_wp2_with fail
          go_ret
          exact ⟨rfl, HW.out⟩
        · have HN := Lib.hid (broken_some HE.out hr)
          have HH := Lib.hid (broken_here HE.out hr)
          have HP := Lib.hid (broken_before HE.out hr)
          have hk1 := HP.out.1
          rw [HN.out.2] at HO
          rw [HN.out.1]
          have d1 : (brokenRule R l == 0) = false := by simpa using hr
          clear hr
          obtain ⟨X, hX⟩ : ∃ X, X = brokenRule R l := ⟨_, rfl⟩
          obtain ⟨n, hn⟩ : ∃ n, n = brokenRec R l := ⟨_, rfl⟩
          rw [← hX, ← hn] at HO HK HH BR HW
          rw [← hX] at d1
          rw [← hn] at hk1 HP
          rw [← hX, ← hn]
          clear hX hn HN
          obtain ⟨a0, a1, a2, a3, a4⟩ := BR.out
          obtain ⟨o0, o1, -, -⟩ := HO.out
          obtain ⟨p0, p1, -, -⟩ := HK.out
          go_wp2_with fail
          generalize hwC : w4.alloc _ = wC at *
          clear hwC
          have hw1 : IntKind.i64.wrap ((n : Int) + 1) = (n : Int) + 1 := by rw [IntKind.wrap_i64]; omega
          have z1 : decide ((n : Int) + 1 ≤ (c : Int)) = true := decide_eq_true (by omega)
          have z2 : decide (0 ≤ (n : Int) + 1) = true := decide_eq_true (by omega)
          have z3 : (n : Int) + 1 ≤ (c : Int) := by omega
          have z4 : (0 : Int) ≤ (n : Int) + 1 := by omega
          have z5 : decide ((n : Int) ≤ (c : Int)) = true := decide_eq_true (by omega)
          have z6 : (n : Int) ≤ (c : Int) := by omega
          obtain ⟨gk, hgk⟩ : ∃ gk, gk = w4.heap.size := ⟨_, rfl⟩
          rw [← hgk] at HK p0 p1
          rw [← hgk]
          clear hgk
          go_cut [9, 10] from 58 to 68 (fun s1 s2 wx => ∃ g : Nat, s1 = .pointer (some ⟨g, 0, none⟩) ∧ s2 = .int .i64 (brokenErr R (l.take (n + 1))) ∧ wC.heap.size ≤ g ∧ Hid (TreeAt wx g (.int .i64 (brokenOut R (l.take (n + 1))).1) (.int .i64 (brokenOut R (l.take (n + 1))).2)) ∧ Hid (Below wC.heap.size wC wx))
          case first =>
            have HBd : Hid (Below wC.heap.size wC wC.drew) := Lib.hid (Below.refl _ _).drew
            have MK : Hid (∀ w', Below wC.heap.size wC w' → w'.cell? ⟨w.heap.size, 0, none⟩ = some (.int .i64 R.brk) ∧ w'.cell? ⟨w.heap.size, 1, none⟩ = some (.int .i64 R.rest) ∧ w'.cell? ⟨w.heap.size, 2, none⟩ = some (.int .i64 R.stint) ∧ w'.cell? ⟨w.heap.size, 3, none⟩ = some (.int .i64 R.shift) ∧ w'.cell? ⟨w.heap.size, 4, none⟩ = some (.int .i64 R.week) ∧ w'.cell? ⟨gk, 0, none⟩ = some (.int .i64 X) ∧ w'.cell? ⟨gk, 1, none⟩ = some (.int .i64 (n : Nat)) ∧ Hid (Below wC.heap.size wC w')) :=
              Lib.hid fun w' hw => ⟨Keep.below hw _ _ a0, Keep.below hw _ _ a1, Keep.below hw _ _ a2, Keep.below hw _ _ a3, Keep.below hw _ _ a4, Keep.below hw _ _ p0, Keep.below hw _ _ p1, Lib.hid hw⟩
            have KA : Hid (∀ w', Below wC.heap.size wC w' → ArrW w' A l c) := Lib.hid fun w' hw => (HA.out.keep (Keep.below (HW.out.trans (hw.mono HW.out.size))))
            go_region_held3 (fun w' => w'.cell? ⟨w.heap.size, 0, none⟩ = some (.int .i64 R.brk) ∧ w'.cell? ⟨w.heap.size, 1, none⟩ = some (.int .i64 R.rest) ∧ w'.cell? ⟨w.heap.size, 2, none⟩ = some (.int .i64 R.stint) ∧ w'.cell? ⟨w.heap.size, 3, none⟩ = some (.int .i64 R.shift) ∧ w'.cell? ⟨w.heap.size, 4, none⟩ = some (.int .i64 R.week) ∧ w'.cell? ⟨gk, 0, none⟩ = some (.int .i64 X) ∧ w'.cell? ⟨gk, 1, none⟩ = some (.int .i64 (n : Nat)) ∧ Hid (Below wC.heap.size wC w'))
              (first
                | exact MK.out _ HBd.out
                | (go_split_ands; exact ⟨by assumption, by assumption, by assumption, by assumption, by assumption, by assumption, by assumption, by assumption⟩)
                | (go_split_ands; exact MK.out _ (Below.trans (Hid.out (by assumption)) (hb1.mono (Hid.out (by assumption) : Below wC.heap.size wC _).size)))
                | (go_split_ands; exact MK.out _ (Below.alloc (Hid.out (by assumption)) (Hid.out (by assumption) : Below wC.heap.size wC _).size _))
                | (go_split_ands; exact MK.out _ (below_realloc (Hid.out (by assumption)) hle _))
                | (go_split_ands; exact MK.out _ (Below.setCell (Below.setCell (Hid.out (by assumption)) (by show wC.heap.size ≤ _; first | exact Nat.le_refl _ | assumption | omega | (simp; done) | (simp; omega)) _) (by show wC.heap.size ≤ _; first | exact Nat.le_refl _ | assumption | omega | (simp; done) | (simp; omega)) _)))
              ((first
                | (go_at_call 20
                   go_split_ands
                   refine (copyTake_any l (n + 1) A c _ (KA.out _ (Hid.out (by assumption))) (by omega) (by omega)).mono ?_
                   rintro e' wz5 ⟨⟨A5, c5, rfl, h5⟩, hb1⟩
                   have hle := Nat.le_trans (Hid.out (by assumption) : Below wC.heap.size wC _).size hb1.size
                   have H5 := Lib.hid h5
                   clear h5
                   try (first
                     | (have HT0 := (HT.out.keep hb1 : TreeAt _ _ (.int .i64 0) (.int .i64 0)); (try simp only [size_drew] at HT0); (try simp only [World.size_alloc] at HT0); (try simp only [size_drew] at HT0); have HT := Lib.hid HT0; clear HT0; obtain ⟨q0, q1, qf0, qf1⟩ := HT.out)
                     | (have HT0 := ((TreeAt.new _ _ _ 47).keep hb1 : TreeAt _ _ (.int .i64 0) (.int .i64 0)); (try simp only [size_drew] at HT0); (try simp only [World.size_alloc] at HT0); (try simp only [size_drew] at HT0); have HT := Lib.hid HT0; clear HT0; obtain ⟨q0, q1, qf0, qf1⟩ := HT.out)
                     | (have HT0 := ((TreeAt.new _ _ _ 47).keepD hb1 : TreeAt _ _ (.int .i64 0) (.int .i64 0)); (try simp only [size_drew] at HT0); (try simp only [World.size_alloc] at HT0); (try simp only [size_drew] at HT0); have HT := Lib.hid HT0; clear HT0; obtain ⟨q0, q1, qf0, qf1⟩ := HT.out)))
                | (go_at_call 29
                   go_split_ands
                   refine (xBrokenTake_any R l (n + 1) _ _ _ (by omega) (by first | exact H5.out | exact H5.out.keep (Keep.alloc _ _))).mono ?_
                   rintro e' wz7 ⟨rfl, hb1⟩
                   have hle := Nat.le_trans (Hid.out (by assumption) : Below wC.heap.size wC _).size hb1.size
                   try (first
                     | (have HT0 := (HT.out.keep hb1 : TreeAt _ _ (.int .i64 0) (.int .i64 0)); (try simp only [size_drew] at HT0); (try simp only [World.size_alloc] at HT0); (try simp only [size_drew] at HT0); have HT := Lib.hid HT0; clear HT0; obtain ⟨q0, q1, qf0, qf1⟩ := HT.out)
                     | (have HT0 := ((TreeAt.new _ _ _ 47).keep hb1 : TreeAt _ _ (.int .i64 0) (.int .i64 0)); (try simp only [size_drew] at HT0); (try simp only [World.size_alloc] at HT0); (try simp only [size_drew] at HT0); have HT := Lib.hid HT0; clear HT0; obtain ⟨q0, q1, qf0, qf1⟩ := HT.out)
                     | (have HT0 := ((TreeAt.new _ _ _ 47).keepD hb1 : TreeAt _ _ (.int .i64 0) (.int .i64 0)); (try simp only [size_drew] at HT0); (try simp only [World.size_alloc] at HT0); (try simp only [size_drew] at HT0); have HT := Lib.hid HT0; clear HT0; obtain ⟨q0, q1, qf0, qf1⟩ := HT.out)))))
            all_goals
              rename_i hS
              obtain ⟨-, -, -, -, -, -, -, hbb⟩ := hS
              go_wp2_with fail
              go_meet
              first
                | exact ⟨_, rfl, rfl, by omega, Lib.hid (TreeAt.new _ _ _ _), hbb⟩
                | exact ⟨_, rfl, rfl, by omega, Lib.hid (HT.out.set _ _), hbb⟩
          case rest =>
            obtain ⟨gHX, rfl, rfl, hgHX, HX, HB⟩ := hcut
            obtain ⟨wD, hwD⟩ : ∃ wz, wz = wc := ⟨_, rfl⟩
            subst hwD
            replace HW := Lib.hid (HW.out.trans (HB.out.mono HW.out.size))
            replace BR := Lib.hid (BR.out.keep (Keep.below HB.out))
            replace HO := Lib.hid (HO.out.keep HB.out)
            replace HK := Lib.hid (HK.out.keep HB.out)
            clear HB
            clear a0 a1 a2 a3 a4 o0 o1 p0 p1
            obtain ⟨a0, a1, a2, a3, a4⟩ := BR.out
            obtain ⟨p0, p1, -, -⟩ := HK.out
            go_wp2_with fail
            go_cut [11, 12] from 69 to 78 (fun s1 s2 wx => ∃ g : Nat, s1 = .pointer (some ⟨g, 0, none⟩) ∧ s2 = .int .i64 (brokenErr R (l.take (n))) ∧ wD.heap.size ≤ g ∧ Hid (TreeAt wx g (.int .i64 (brokenOut R (l.take (n))).1) (.int .i64 (brokenOut R (l.take (n))).2)) ∧ Hid (Below wD.heap.size wD wx))
            case first =>
              have HBd : Hid (Below wD.heap.size wD wD.drew) := Lib.hid (Below.refl _ _).drew
              have MK : Hid (∀ w', Below wD.heap.size wD w' → w'.cell? ⟨w.heap.size, 0, none⟩ = some (.int .i64 R.brk) ∧ w'.cell? ⟨w.heap.size, 1, none⟩ = some (.int .i64 R.rest) ∧ w'.cell? ⟨w.heap.size, 2, none⟩ = some (.int .i64 R.stint) ∧ w'.cell? ⟨w.heap.size, 3, none⟩ = some (.int .i64 R.shift) ∧ w'.cell? ⟨w.heap.size, 4, none⟩ = some (.int .i64 R.week) ∧ w'.cell? ⟨gk, 0, none⟩ = some (.int .i64 X) ∧ w'.cell? ⟨gk, 1, none⟩ = some (.int .i64 (n : Nat)) ∧ Hid (Below wD.heap.size wD w')) :=
                Lib.hid fun w' hw => ⟨Keep.below hw _ _ a0, Keep.below hw _ _ a1, Keep.below hw _ _ a2, Keep.below hw _ _ a3, Keep.below hw _ _ a4, Keep.below hw _ _ p0, Keep.below hw _ _ p1, Lib.hid hw⟩
              have KA : Hid (∀ w', Below wD.heap.size wD w' → ArrW w' A l c) := Lib.hid fun w' hw => (HA.out.keep (Keep.below (HW.out.trans (hw.mono HW.out.size))))
              go_region_held3 (fun w' => w'.cell? ⟨w.heap.size, 0, none⟩ = some (.int .i64 R.brk) ∧ w'.cell? ⟨w.heap.size, 1, none⟩ = some (.int .i64 R.rest) ∧ w'.cell? ⟨w.heap.size, 2, none⟩ = some (.int .i64 R.stint) ∧ w'.cell? ⟨w.heap.size, 3, none⟩ = some (.int .i64 R.shift) ∧ w'.cell? ⟨w.heap.size, 4, none⟩ = some (.int .i64 R.week) ∧ w'.cell? ⟨gk, 0, none⟩ = some (.int .i64 X) ∧ w'.cell? ⟨gk, 1, none⟩ = some (.int .i64 (n : Nat)) ∧ Hid (Below wD.heap.size wD w'))
                (first
                  | exact MK.out _ HBd.out
                  | (go_split_ands; exact ⟨by assumption, by assumption, by assumption, by assumption, by assumption, by assumption, by assumption, by assumption⟩)
                  | (go_split_ands; exact MK.out _ (Below.trans (Hid.out (by assumption)) (hb1.mono (Hid.out (by assumption) : Below wD.heap.size wD _).size)))
                  | (go_split_ands; exact MK.out _ (Below.alloc (Hid.out (by assumption)) (Hid.out (by assumption) : Below wD.heap.size wD _).size _))
                  | (go_split_ands; exact MK.out _ (below_realloc (Hid.out (by assumption)) hle _))
                  | (go_split_ands; exact MK.out _ (Below.setCell (Below.setCell (Hid.out (by assumption)) (by show wD.heap.size ≤ _; first | exact Nat.le_refl _ | assumption | omega | (simp; done) | (simp; omega)) _) (by show wD.heap.size ≤ _; first | exact Nat.le_refl _ | assumption | omega | (simp; done) | (simp; omega)) _)))
                ((first
                  | (go_at_call 20
                     go_split_ands
                     refine (copyTake_any l (n) A c _ (KA.out _ (Hid.out (by assumption))) (by omega) (by omega)).mono ?_
                     rintro e' wz5 ⟨⟨A5, c5, rfl, h5⟩, hb1⟩
                     have hle := Nat.le_trans (Hid.out (by assumption) : Below wD.heap.size wD _).size hb1.size
                     have H5 := Lib.hid h5
                     clear h5
                     try (first
                       | (have HT0 := (HT.out.keep hb1 : TreeAt _ _ (.int .i64 0) (.int .i64 0)); (try simp only [size_drew] at HT0); (try simp only [World.size_alloc] at HT0); (try simp only [size_drew] at HT0); have HT := Lib.hid HT0; clear HT0; obtain ⟨q0, q1, qf0, qf1⟩ := HT.out)
                       | (have HT0 := ((TreeAt.new _ _ _ 47).keep hb1 : TreeAt _ _ (.int .i64 0) (.int .i64 0)); (try simp only [size_drew] at HT0); (try simp only [World.size_alloc] at HT0); (try simp only [size_drew] at HT0); have HT := Lib.hid HT0; clear HT0; obtain ⟨q0, q1, qf0, qf1⟩ := HT.out)
                       | (have HT0 := ((TreeAt.new _ _ _ 47).keepD hb1 : TreeAt _ _ (.int .i64 0) (.int .i64 0)); (try simp only [size_drew] at HT0); (try simp only [World.size_alloc] at HT0); (try simp only [size_drew] at HT0); have HT := Lib.hid HT0; clear HT0; obtain ⟨q0, q1, qf0, qf1⟩ := HT.out)))
                  | (go_at_call 29
                     go_split_ands
                     refine (xBrokenTake_any R l (n) _ _ _ (by omega) (by first | exact H5.out | exact H5.out.keep (Keep.alloc _ _))).mono ?_
                     rintro e' wz7 ⟨rfl, hb1⟩
                     have hle := Nat.le_trans (Hid.out (by assumption) : Below wD.heap.size wD _).size hb1.size
                     try (first
                       | (have HT0 := (HT.out.keep hb1 : TreeAt _ _ (.int .i64 0) (.int .i64 0)); (try simp only [size_drew] at HT0); (try simp only [World.size_alloc] at HT0); (try simp only [size_drew] at HT0); have HT := Lib.hid HT0; clear HT0; obtain ⟨q0, q1, qf0, qf1⟩ := HT.out)
                       | (have HT0 := ((TreeAt.new _ _ _ 47).keep hb1 : TreeAt _ _ (.int .i64 0) (.int .i64 0)); (try simp only [size_drew] at HT0); (try simp only [World.size_alloc] at HT0); (try simp only [size_drew] at HT0); have HT := Lib.hid HT0; clear HT0; obtain ⟨q0, q1, qf0, qf1⟩ := HT.out)
                       | (have HT0 := ((TreeAt.new _ _ _ 47).keepD hb1 : TreeAt _ _ (.int .i64 0) (.int .i64 0)); (try simp only [size_drew] at HT0); (try simp only [World.size_alloc] at HT0); (try simp only [size_drew] at HT0); have HT := Lib.hid HT0; clear HT0; obtain ⟨q0, q1, qf0, qf1⟩ := HT.out)))))
              all_goals
                rename_i hS
                obtain ⟨-, -, -, -, -, -, -, hbb⟩ := hS
                go_wp2_with fail
                go_meet
                first
                  | exact ⟨_, rfl, rfl, by omega, Lib.hid (TreeAt.new _ _ _ _), hbb⟩
                  | exact ⟨_, rfl, rfl, by omega, Lib.hid (HT.out.set _ _), hbb⟩
            case rest =>
              obtain ⟨gHY, rfl, rfl, hgHY, HY, HB⟩ := hcut
              obtain ⟨wE, hwE⟩ : ∃ wz, wz = wc := ⟨_, rfl⟩
              subst hwE
              replace HW := Lib.hid (HW.out.trans (HB.out.mono HW.out.size))
              replace BR := Lib.hid (BR.out.keep (Keep.below HB.out))
              replace HO := Lib.hid (HO.out.keep HB.out)
              replace HK := Lib.hid (HK.out.keep HB.out)
              replace HX := Lib.hid (HX.out.keep HB.out)
              clear HB
              clear a0 a1 a2 a3 a4 p0 p1
              rw [HH.out.2] at HX
              rw [HH.out.1, HP.out.2]
              obtain ⟨o0, o1, -, -⟩ := HO.out
              obtain ⟨x0, x1, -, -⟩ := HX.out
              go_wp2_with fail
              go_ret
              exact ⟨rfl, HW.out⟩
      · have e1 : (bothErr R l == 0) = false := by simpa using he
        have e2 : (bothErr R l != 0) = true := by simpa using he
        have HN := Lib.hid (broken_bad he)
        rw [HN.out.2] at HO
        rw [HN.out.1]
        clear he
        obtain ⟨o0, o1, -, -⟩ := HO.out
        go_wp2_with fail
        go_ret
        exact ⟨rfl, HW.out⟩
end Go.Proofs.Ytolicafhbeiciaa

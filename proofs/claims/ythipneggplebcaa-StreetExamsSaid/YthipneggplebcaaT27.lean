/- The law of examinations: told, never shorter; and who is let more passes. No condition. -/
import Derived.Test.YthipneggplebcaaT26
import Derived.Test.YthipneggplebcaaT10
import Derived.Deep.RegionHeld3
import Derived.Deep.CutRange
import Derived.Deep.CutBlock
namespace Go.Proofs.Ythipneggplebcaa
open Go.RowKit Fs

theorem Fs.examined_err {N : Net} {l : List Int} {m : Int} (h : (examined N l m).2 ≠ 0) : (examined N l m).1 = (0, 0, false) := by
  unfold examined at h ⊢
  by_cases h1 : exErr N l m = 0
  · rw [if_pos h1] at h ⊢
    by_cases h2 : (told N l).2 = 0
    · rw [if_pos h2] at h; exact absurd rfl h
    · rw [if_neg h2]
  · rw [if_neg h1]
theorem Fs.exErr_zero {N : Net} {l : List Int} {m : Int} (h1 : netErr N = 0) (h2 : examErr N l m = 0) : exErr N l m = 0 := by
  unfold exErr
  rw [h1, h2]
  rfl
theorem Fs.examErr_zero {N : Net} {l : List Int} {m : Int} (h1 : 2 ≤ l.length) (h2 : l.length ≤ 200) (h3 : placesErr N l = 0) (h4 : 0 ≤ m) (h5 : m ≤ 1000) : examErr N l m = 0 := by
  unfold examErr
  rw [if_neg (by omega), if_neg (by omega), if_pos h3, if_pos (Fs.within_iff.2 ⟨h4, h5⟩)]
/-- Who is let more thousandths passes whatever passed with fewer. -/
theorem Fs.examined_more {N : Net} {l : List Int} {m x : Int} (h : (examined N l m).2 = 0) (hx : 0 ≤ x) (hmx : m + x ≤ 1000) :
    ∃ a b p q, examined N l m = ((a, b, p), 0) ∧ examined N l (m + x) = ((a, b, q), 0) ∧ b ≤ a ∧ (p = true → q = true) := by
  by_cases h1 : exErr N l m = 0
  · by_cases h2 : (told N l).2 = 0
    · obtain ⟨e1, e2⟩ := exErr_ok h1
      obtain ⟨f1, f2, f3, f4, f5⟩ := examErr_ok e2
      have h3 : exErr N l (m + x) = 0 := exErr_zero e1 (examErr_zero f1 f2 f3 (by omega) hmx)
      obtain ⟨k1, k2, k3⟩ := told_least e1 (place_in f3 (by omega)) f1 h2
      refine ⟨toldM N l, leastM N l, decide (1000 * toldM N l ≤ (1000 + m) * leastM N l), decide (1000 * toldM N l ≤ (1000 + (m + x)) * leastM N l), ?_, ?_, k2, fun hp => ?_⟩
      · unfold examined; rw [if_pos h1, if_pos h2]
      · unfold examined; rw [if_pos h3, if_pos h2]
      · have hp := of_decide_eq_true hp
        refine decide_eq_true (Int.le_trans hp (Int.mul_le_mul_of_nonneg_right (by omega) k1))
    · unfold examined at h; rw [if_pos h1, if_neg h2] at h; exact absurd h h2
  · unfold examined at h; rw [if_neg h1] at h; exact absurd h h1
theorem few_len {N : Net} (h : fewN N = true) : N.places.length ≤ 1000000 ∧ N.roads.length ≤ 1000000 ∧ ∀ i, i < N.roads.length → (listD N.roads i).pts.length ≤ 1000000 := by
  obtain ⟨h1, h2, -, h4⟩ := fewN_is h
  exact ⟨by omega, by omega, fun i hi => by have := (h4 i hi).2; omega⟩

set_option maxHeartbeats 6400000 in
set_option maxRecDepth 100000 in
theorem law3_any (N : Net) (v : Value) (l : List Int) (A : Option Addr) (c : Nat) (m x : Int) (w : World) (hN : RdNet w v N) (hA : ArrI w A l c) :
    Calls Try.prog 17 #[v, examV A l.length c m, .int .i64 x] w fun e w' => e = .returned (.bool true) ∧ Below w.heap.size w w' := by
  have hN0 := Lib.hid hN
  have b1 := hA.le.1
  have b2 := hA.le.2
  have HA := Lib.hid hA
  clear hA
  obtain ⟨P, R, pc, rc, ar, rfl, mm⟩ := hN
  clear mm
  have BN := Lib.hid ((BoxN.new w N P R pc rc 25).keep (Keep.alloc _ (.cells #[.slice A l.length c, .int .i64 m] 111)))
  have BT := Lib.hid (ExamAt.new1 w (.cells #[.slice P N.places.length pc, .slice R N.roads.length rc] 25) A l.length c m 111)
  go_enter Try.func17, Try.ntmps17
  go_upto_region 1 with fail
  generalize hwb : (w.alloc _).alloc _ = wb at *
  have HW : Hid (Below w.heap.size w wb) := by rw [← hwb]; exact Lib.hid (((Below.refl _ _).alloc (Nat.le_refl _) _).alloc (by simp) _)
  clear hwb
  go_wp2_with fail
  refine (streeted_any _).mono ?_
  rintro e' w1 ⟨rfl, hb1⟩
  replace HW := Lib.hid (HW.out.trans (hb1.mono HW.out.size))
  replace BN := Lib.hid (BN.out.keep (Keep.below hb1))
  replace BT := Lib.hid (BT.out.keep (Keep.below hb1))
  clear hb1
  obtain ⟨n0, n1⟩ := BN.out
  go_wp2_with fail
  refine (few_any N _ _ (hN0.out.keep (Keep.below HW.out))).mono ?_
  rintro e' w2 ⟨rfl, hb2⟩
  replace HW := Lib.hid (HW.out.trans (hb2.mono HW.out.size))
  replace BN := Lib.hid (BN.out.keep (Keep.below hb2))
  replace BT := Lib.hid (BT.out.keep (Keep.below hb2))
  clear hb2 n0 n1
  cases hf : fewN N with
  | false =>
    go_wp2_with fail
    go_ret
    exact ⟨rfl, HW.out⟩
  | true =>
    have HL := Lib.hid (few_len hf)
    clear hf
    obtain ⟨n0, n1⟩ := BN.out
    go_wp2_with fail
    refine (rNetErr_any N _ _ (hN0.out.keep (Keep.below HW.out))).mono ?_
    rintro e' w3 ⟨rfl, hb3⟩
    replace HW := Lib.hid (HW.out.trans (hb3.mono HW.out.size))
    replace BN := Lib.hid (BN.out.keep (Keep.below hb3))
    replace BT := Lib.hid (BT.out.keep (Keep.below hb3))
    clear hb3 n0 n1
    by_cases he : netErr N = 0
    · rw [he]
      have HE := Lib.hid he
      clear he
      obtain ⟨c0, c1⟩ := BT.out
      by_cases hl : l.length ≤ 12
      · have d1 : decide ((l.length : Int) > 12) = false := decide_eq_false (by omega)
        have d2 : decide (12 < (l.length : Int)) = false := decide_eq_false (by omega)
        cases hm : within m 0 1000 with
        | false =>
          have X1 := Lib.hid hm
          clear hm
          go_wp2_with (go_at_call 36; refine (bwithin_any _ _ _ _).mono ?_; rintro e' w' ⟨rfl, rfl⟩; rw [X1.out])
          go_ret
          exact ⟨rfl, HW.out⟩
        | true =>
          have X1 := Lib.hid hm
          obtain ⟨m0, m1⟩ := Fs.within_iff.1 hm
          clear hm
          have q1 : IntKind.i64.wrap (1000 - m) = 1000 - m := by rw [IntKind.wrap_i64]; omega
          cases hx : within x 0 (1000 - m) with
          | false =>
            have X2 := Lib.hid hx
            clear hx
            go_wp2_with (go_at_call 36; refine (bwithin_any _ _ _ _).mono ?_; rintro e' w' ⟨rfl, rfl⟩; first | rw [X1.out] | rw [X2.out])
            go_ret
            exact ⟨rfl, HW.out⟩
          | true =>
            have X2 := Lib.hid hx
            obtain ⟨x0, x1⟩ := Fs.within_iff.1 hx
            clear hx
            obtain ⟨wA, hwA⟩ : ∃ wA, wA = w3 := ⟨_, rfl⟩
            subst hwA
            obtain ⟨n0, n1⟩ := BN.out
            go_upto_region 5 with (go_at_call 36; refine (bwithin_any _ _ _ _).mono ?_; rintro e' w' ⟨rfl, rfl⟩; first | rw [X1.out] | rw [X2.out])
            go_cut [7, 8] from 41 to 52 (fun s1 s2 wx => ∃ g : Nat, s1 = .pointer (some ⟨g, 0, none⟩) ∧ s2 = .int .i64 (examined N l m).2 ∧ wA.heap.size ≤ g ∧ Hid (ResAt wx g (.int .i64 (examined N l m).1.1) (.int .i64 (examined N l m).1.2.1) (.bool (examined N l m).1.2.2)) ∧ Hid (Below wA.heap.size wA wx))
            case first =>
              have HBd : Hid (Below wA.heap.size wA wA.drew) := Lib.hid (Below.refl _ _).drew
              have MK : Hid (∀ w', Below wA.heap.size wA w' → w'.cell? ⟨w.heap.size, 0, none⟩ = some (.slice P N.places.length pc) ∧ w'.cell? ⟨w.heap.size, 1, none⟩ = some (.slice R N.roads.length rc) ∧ w'.cell? ⟨w.heap.size + 1, 0, none⟩ = some (.slice A l.length c) ∧ w'.cell? ⟨w.heap.size + 1, 1, none⟩ = some (.int .i64 m) ∧ Hid (Below wA.heap.size wA w')) :=
                Lib.hid fun w' hw => ⟨Keep.below hw _ _ n0, Keep.below hw _ _ n1, Keep.below hw _ _ c0, Keep.below hw _ _ c1, Lib.hid hw⟩
              have KN : Hid (∀ w', Below wA.heap.size wA w' → RdNet w' (netV N P R pc rc) N) := Lib.hid fun w' hw => (hN0.out.keep (Keep.below (HW.out.trans (hw.mono HW.out.size))))
              have KA : Hid (∀ w', Below wA.heap.size wA w' → ArrI w' A l c) := Lib.hid fun w' hw => (HA.out.keep (Keep.below (HW.out.trans (hw.mono HW.out.size))))
              go_region_held3 (fun w' => w'.cell? ⟨w.heap.size, 0, none⟩ = some (.slice P N.places.length pc) ∧ w'.cell? ⟨w.heap.size, 1, none⟩ = some (.slice R N.roads.length rc) ∧ w'.cell? ⟨w.heap.size + 1, 0, none⟩ = some (.slice A l.length c) ∧ w'.cell? ⟨w.heap.size + 1, 1, none⟩ = some (.int .i64 m) ∧ Hid (Below wA.heap.size wA w'))
                (first
                  | exact MK.out _ HBd.out
                  | (go_split_ands; exact ⟨by assumption, by assumption, by assumption, by assumption, by assumption⟩)
                  | (go_split_ands; exact MK.out _ (Below.trans (Hid.out (by assumption)) (hb1.mono (Hid.out (by assumption) : Below wA.heap.size wA _).size)))
                  | (go_split_ands; exact MK.out _ (Below.alloc (Hid.out (by assumption)) (Hid.out (by assumption) : Below wA.heap.size wA _).size _))
                  | (go_split_ands; exact MK.out _ (below_realloc (Hid.out (by assumption)) hle _))
                  | (go_split_ands; exact MK.out _ (Below.setCell (Below.setCell (Below.setCell (Hid.out (by assumption)) (by show wA.heap.size ≤ _; first | exact Nat.le_refl _ | assumption | omega | (simp; done) | (simp; omega)) _) (by show wA.heap.size ≤ _; first | exact Nat.le_refl _ | assumption | omega | (simp; done) | (simp; omega)) _) (by show wA.heap.size ≤ _; first | exact Nat.le_refl _ | assumption | omega | (simp; done) | (simp; omega)) _)))
                ((first
                  | (go_at_call 21
                     go_split_ands
                     refine (copyNet_any N _ _ (KN.out _ (Hid.out (by assumption))) HL.out.1 HL.out.2.1 HL.out.2.2).mono ?_
                     rintro e' w5 ⟨v5, rfl, h5, hb1⟩
                     have hle := Nat.le_trans (Hid.out (by assumption) : Below wA.heap.size wA _).size hb1.size
                     have H5 := Lib.hid h5
                     clear h5
                     try (have H6 := Lib.hid (by first | exact H6.out.keep (Keep.below hb1) | exact (H6.out.keep (Keep.alloc _ _)).keep (Keep.below hb1) : ArrI w5 A6 l k6))
                     try (first
                             | (have HT0 := (HT.out.keep hb1 : ResAt _ _ (.int .i64 0) (.int .i64 0) (.bool false)); (try simp only [size_drew] at HT0); (try simp only [World.size_alloc] at HT0); (try simp only [size_drew] at HT0); have HT := Lib.hid HT0; clear HT0; obtain ⟨q0, q1, q2, qf0, qf1, qf2⟩ := HT.out)
                             | (have HT0 := ((ResAt.new _ _ _ _ 113).keep hb1 : ResAt _ _ (.int .i64 0) (.int .i64 0) (.bool false)); (try simp only [size_drew] at HT0); (try simp only [World.size_alloc] at HT0); (try simp only [size_drew] at HT0); have HT := Lib.hid HT0; clear HT0; obtain ⟨q0, q1, q2, qf0, qf1, qf2⟩ := HT.out)
                             | (have HT0 := ((ResAt.new _ _ _ _ 113).keepD hb1 : ResAt _ _ (.int .i64 0) (.int .i64 0) (.bool false)); (try simp only [size_drew] at HT0); (try simp only [World.size_alloc] at HT0); (try simp only [size_drew] at HT0); have HT := Lib.hid HT0; clear HT0; obtain ⟨q0, q1, q2, qf0, qf1, qf2⟩ := HT.out)))
                  | (go_at_call 29
                     go_split_ands
                     refine (copyInts_any l A c _ (KA.out _ (Hid.out (by assumption))) (by omega)).mono ?_
                     rintro e' w6 ⟨A6, k6, rfl, h6, -, hb1⟩
                     have hle := Nat.le_trans (Hid.out (by assumption) : Below wA.heap.size wA _).size hb1.size
                     have H6 := Lib.hid h6
                     clear h6
                     try (have H5 := Lib.hid (by first | exact H5.out.keep (Keep.below hb1) | exact (H5.out.keep (Keep.alloc _ _)).keep (Keep.below hb1) : RdNet w6 v5 N))
                     try (first
                             | (have HT0 := (HT.out.keep hb1 : ResAt _ _ (.int .i64 0) (.int .i64 0) (.bool false)); (try simp only [size_drew] at HT0); (try simp only [World.size_alloc] at HT0); (try simp only [size_drew] at HT0); have HT := Lib.hid HT0; clear HT0; obtain ⟨q0, q1, q2, qf0, qf1, qf2⟩ := HT.out)
                             | (have HT0 := ((ResAt.new _ _ _ _ 113).keep hb1 : ResAt _ _ (.int .i64 0) (.int .i64 0) (.bool false)); (try simp only [size_drew] at HT0); (try simp only [World.size_alloc] at HT0); (try simp only [size_drew] at HT0); have HT := Lib.hid HT0; clear HT0; obtain ⟨q0, q1, q2, qf0, qf1, qf2⟩ := HT.out)
                             | (have HT0 := ((ResAt.new _ _ _ _ 113).keepD hb1 : ResAt _ _ (.int .i64 0) (.int .i64 0) (.bool false)); (try simp only [size_drew] at HT0); (try simp only [World.size_alloc] at HT0); (try simp only [size_drew] at HT0); have HT := Lib.hid HT0; clear HT0; obtain ⟨q0, q1, q2, qf0, qf1, qf2⟩ := HT.out)))
                  | (go_at_call 69
                     go_split_ands
                     refine (examined_any N _ l A6 k6 m _ (by first | exact H5.out | exact H5.out.keep (Keep.alloc _ _)) (by first | exact H6.out | exact H6.out.keep (Keep.alloc _ _))).mono ?_
                     rintro e' w7 ⟨rfl, hb1⟩
                     have hle := Nat.le_trans (Hid.out (by assumption) : Below wA.heap.size wA _).size hb1.size
                     try (first
                             | (have HT0 := (HT.out.keep hb1 : ResAt _ _ (.int .i64 0) (.int .i64 0) (.bool false)); (try simp only [size_drew] at HT0); (try simp only [World.size_alloc] at HT0); (try simp only [size_drew] at HT0); have HT := Lib.hid HT0; clear HT0; obtain ⟨q0, q1, q2, qf0, qf1, qf2⟩ := HT.out)
                             | (have HT0 := ((ResAt.new _ _ _ _ 113).keep hb1 : ResAt _ _ (.int .i64 0) (.int .i64 0) (.bool false)); (try simp only [size_drew] at HT0); (try simp only [World.size_alloc] at HT0); (try simp only [size_drew] at HT0); have HT := Lib.hid HT0; clear HT0; obtain ⟨q0, q1, q2, qf0, qf1, qf2⟩ := HT.out)
                             | (have HT0 := ((ResAt.new _ _ _ _ 113).keepD hb1 : ResAt _ _ (.int .i64 0) (.int .i64 0) (.bool false)); (try simp only [size_drew] at HT0); (try simp only [World.size_alloc] at HT0); (try simp only [size_drew] at HT0); have HT := Lib.hid HT0; clear HT0; obtain ⟨q0, q1, q2, qf0, qf1, qf2⟩ := HT.out)))))
              all_goals
                rename_i hS
                obtain ⟨-, -, -, -, hbb⟩ := hS
                go_wp2_with fail
                go_meet
                first
                  | exact ⟨_, rfl, rfl, by omega, Lib.hid (ResAt.new _ _ _ _ _), hbb⟩
                  | exact ⟨_, rfl, rfl, by omega, Lib.hid (HT.out.set _ _ _), hbb⟩
            case rest =>
              obtain ⟨g, rfl, rfl, hg, HR, HB⟩ := hcut
              replace BN := Lib.hid (BN.out.keep (Keep.below HB.out))
              replace BT := Lib.hid (BT.out.keep (Keep.below HB.out))
              replace HW := Lib.hid (HW.out.trans (HB.out.mono HW.out.size))
              obtain ⟨wB, hwB⟩ : ∃ wB, wB = wc := ⟨_, rfl⟩
              subst hwB
              clear HB c0 c1
              by_cases he : (examined N l m).2 = 0
              · obtain ⟨a, b, p, q, h1, h2, hba, hpq⟩ := examined_more he x0 (by omega)
                have H1 := Lib.hid h1
                have H2 := Lib.hid h2
                have HPQ := Lib.hid hpq
                rw [h1] at HR
                rw [he]
                clear he h1 h2 hpq
                have q2 : IntKind.i64.wrap (m + x) = m + x := by rw [IntKind.wrap_i64]; omega
                have HGB := Lib.hid HR.out.lt
                obtain ⟨n0, n1⟩ := BN.out
                obtain ⟨c0, c1⟩ := BT.out
                go_upto_region 8 with fail
                go_cut [9, 10] from 58 to 71 (fun s1 s2 wx => ∃ g : Nat, s1 = .pointer (some ⟨g, 0, none⟩) ∧ s2 = .int .i64 (examined N l (m + x)).2 ∧ wB.heap.size ≤ g ∧ Hid (ResAt wx g (.int .i64 (examined N l (m + x)).1.1) (.int .i64 (examined N l (m + x)).1.2.1) (.bool (examined N l (m + x)).1.2.2)) ∧ Hid (Below wB.heap.size wB wx))
                case first =>
                  have HBd : Hid (Below wB.heap.size wB wB.drew) := Lib.hid (Below.refl _ _).drew
                  have MK : Hid (∀ w', Below wB.heap.size wB w' → w'.cell? ⟨w.heap.size, 0, none⟩ = some (.slice P N.places.length pc) ∧ w'.cell? ⟨w.heap.size, 1, none⟩ = some (.slice R N.roads.length rc) ∧ w'.cell? ⟨w.heap.size + 1, 0, none⟩ = some (.slice A l.length c) ∧ w'.cell? ⟨w.heap.size + 1, 1, none⟩ = some (.int .i64 m) ∧ Hid (Below wB.heap.size wB w')) :=
                    Lib.hid fun w' hw => ⟨Keep.below hw _ _ n0, Keep.below hw _ _ n1, Keep.below hw _ _ c0, Keep.below hw _ _ c1, Lib.hid hw⟩
                  have KN : Hid (∀ w', Below wB.heap.size wB w' → RdNet w' (netV N P R pc rc) N) := Lib.hid fun w' hw => (hN0.out.keep (Keep.below (HW.out.trans (hw.mono HW.out.size))))
                  have KA : Hid (∀ w', Below wB.heap.size wB w' → ArrI w' A l c) := Lib.hid fun w' hw => (HA.out.keep (Keep.below (HW.out.trans (hw.mono HW.out.size))))
                  go_region_held3 (fun w' => w'.cell? ⟨w.heap.size, 0, none⟩ = some (.slice P N.places.length pc) ∧ w'.cell? ⟨w.heap.size, 1, none⟩ = some (.slice R N.roads.length rc) ∧ w'.cell? ⟨w.heap.size + 1, 0, none⟩ = some (.slice A l.length c) ∧ w'.cell? ⟨w.heap.size + 1, 1, none⟩ = some (.int .i64 m) ∧ Hid (Below wB.heap.size wB w'))
                    (first
                      | exact MK.out _ HBd.out
                      | (go_split_ands; exact ⟨by assumption, by assumption, by assumption, by assumption, by assumption⟩)
                      | (go_split_ands; exact MK.out _ (Below.trans (Hid.out (by assumption)) (hb1.mono (Hid.out (by assumption) : Below wB.heap.size wB _).size)))
                      | (go_split_ands; exact MK.out _ (Below.alloc (Hid.out (by assumption)) (Hid.out (by assumption) : Below wB.heap.size wB _).size _))
                      | (go_split_ands; exact MK.out _ (below_realloc (Hid.out (by assumption)) hle _))
                      | (go_split_ands; exact MK.out _ (Below.setCell (Below.setCell (Below.setCell (Hid.out (by assumption)) (by show wB.heap.size ≤ _; first | exact Nat.le_refl _ | assumption | omega | (simp; done) | (simp; omega)) _) (by show wB.heap.size ≤ _; first | exact Nat.le_refl _ | assumption | omega | (simp; done) | (simp; omega)) _) (by show wB.heap.size ≤ _; first | exact Nat.le_refl _ | assumption | omega | (simp; done) | (simp; omega)) _)))
                    ((first
                      | (go_at_call 21
                         go_split_ands
                         refine (copyNet_any N _ _ (KN.out _ (Hid.out (by assumption))) HL.out.1 HL.out.2.1 HL.out.2.2).mono ?_
                         rintro e' w5 ⟨v5, rfl, h5, hb1⟩
                         have hle := Nat.le_trans (Hid.out (by assumption) : Below wB.heap.size wB _).size hb1.size
                         have H5 := Lib.hid h5
                         clear h5
                         try (have H6 := Lib.hid (by first | exact H6.out.keep (Keep.below hb1) | exact (H6.out.keep (Keep.alloc _ _)).keep (Keep.below hb1) : ArrI w5 A6 l k6))
                         try (first
                                 | (have HT0 := (HT.out.keep hb1 : ResAt _ _ (.int .i64 0) (.int .i64 0) (.bool false)); (try simp only [size_drew] at HT0); (try simp only [World.size_alloc] at HT0); (try simp only [size_drew] at HT0); have HT := Lib.hid HT0; clear HT0; obtain ⟨q0, q1, q2, qf0, qf1, qf2⟩ := HT.out)
                                 | (have HT0 := ((ResAt.new _ _ _ _ 113).keep hb1 : ResAt _ _ (.int .i64 0) (.int .i64 0) (.bool false)); (try simp only [size_drew] at HT0); (try simp only [World.size_alloc] at HT0); (try simp only [size_drew] at HT0); have HT := Lib.hid HT0; clear HT0; obtain ⟨q0, q1, q2, qf0, qf1, qf2⟩ := HT.out)
                                 | (have HT0 := ((ResAt.new _ _ _ _ 113).keepD hb1 : ResAt _ _ (.int .i64 0) (.int .i64 0) (.bool false)); (try simp only [size_drew] at HT0); (try simp only [World.size_alloc] at HT0); (try simp only [size_drew] at HT0); have HT := Lib.hid HT0; clear HT0; obtain ⟨q0, q1, q2, qf0, qf1, qf2⟩ := HT.out)))
                      | (go_at_call 29
                         go_split_ands
                         refine (copyInts_any l A c _ (KA.out _ (Hid.out (by assumption))) (by omega)).mono ?_
                         rintro e' w6 ⟨A6, k6, rfl, h6, -, hb1⟩
                         have hle := Nat.le_trans (Hid.out (by assumption) : Below wB.heap.size wB _).size hb1.size
                         have H6 := Lib.hid h6
                         clear h6
                         try (have H5 := Lib.hid (by first | exact H5.out.keep (Keep.below hb1) | exact (H5.out.keep (Keep.alloc _ _)).keep (Keep.below hb1) : RdNet w6 v5 N))
                         try (first
                                 | (have HT0 := (HT.out.keep hb1 : ResAt _ _ (.int .i64 0) (.int .i64 0) (.bool false)); (try simp only [size_drew] at HT0); (try simp only [World.size_alloc] at HT0); (try simp only [size_drew] at HT0); have HT := Lib.hid HT0; clear HT0; obtain ⟨q0, q1, q2, qf0, qf1, qf2⟩ := HT.out)
                                 | (have HT0 := ((ResAt.new _ _ _ _ 113).keep hb1 : ResAt _ _ (.int .i64 0) (.int .i64 0) (.bool false)); (try simp only [size_drew] at HT0); (try simp only [World.size_alloc] at HT0); (try simp only [size_drew] at HT0); have HT := Lib.hid HT0; clear HT0; obtain ⟨q0, q1, q2, qf0, qf1, qf2⟩ := HT.out)
                                 | (have HT0 := ((ResAt.new _ _ _ _ 113).keepD hb1 : ResAt _ _ (.int .i64 0) (.int .i64 0) (.bool false)); (try simp only [size_drew] at HT0); (try simp only [World.size_alloc] at HT0); (try simp only [size_drew] at HT0); have HT := Lib.hid HT0; clear HT0; obtain ⟨q0, q1, q2, qf0, qf1, qf2⟩ := HT.out)))
                      | (go_at_call 69
                         go_split_ands
                         refine (examined_any N _ l A6 k6 (m + x) _ (by first | exact H5.out | exact H5.out.keep (Keep.alloc _ _)) (by first | exact H6.out | exact H6.out.keep (Keep.alloc _ _))).mono ?_
                         rintro e' w7 ⟨rfl, hb1⟩
                         have hle := Nat.le_trans (Hid.out (by assumption) : Below wB.heap.size wB _).size hb1.size
                         try (first
                                 | (have HT0 := (HT.out.keep hb1 : ResAt _ _ (.int .i64 0) (.int .i64 0) (.bool false)); (try simp only [size_drew] at HT0); (try simp only [World.size_alloc] at HT0); (try simp only [size_drew] at HT0); have HT := Lib.hid HT0; clear HT0; obtain ⟨q0, q1, q2, qf0, qf1, qf2⟩ := HT.out)
                                 | (have HT0 := ((ResAt.new _ _ _ _ 113).keep hb1 : ResAt _ _ (.int .i64 0) (.int .i64 0) (.bool false)); (try simp only [size_drew] at HT0); (try simp only [World.size_alloc] at HT0); (try simp only [size_drew] at HT0); have HT := Lib.hid HT0; clear HT0; obtain ⟨q0, q1, q2, qf0, qf1, qf2⟩ := HT.out)
                                 | (have HT0 := ((ResAt.new _ _ _ _ 113).keepD hb1 : ResAt _ _ (.int .i64 0) (.int .i64 0) (.bool false)); (try simp only [size_drew] at HT0); (try simp only [World.size_alloc] at HT0); (try simp only [size_drew] at HT0); have HT := Lib.hid HT0; clear HT0; obtain ⟨q0, q1, q2, qf0, qf1, qf2⟩ := HT.out)))))
                  all_goals
                    rename_i hS
                    obtain ⟨-, -, -, -, hbb⟩ := hS
                    go_wp2_with fail
                    go_meet
                    first
                      | exact ⟨_, rfl, rfl, by omega, Lib.hid (ResAt.new _ _ _ _ _), hbb⟩
                      | exact ⟨_, rfl, rfl, by omega, Lib.hid (HT.out.set _ _ _), hbb⟩
                case rest =>
                  obtain ⟨g2, rfl, rfl, hg2, HR2, HB⟩ := hcut
                  rw [H2.out] at HR2
                  rw [H2.out]
                  obtain ⟨r0, r1, r2, -, -, -⟩ := HR.out.below HB.out HGB.out
                  obtain ⟨s0, s1, s2, -, -, -⟩ := HR2.out
                  replace HW := Lib.hid (HW.out.trans (HB.out.mono HW.out.size))
                  have d3 : decide (a ≥ b) = true := decide_eq_true hba
                  have d4 : decide (b ≤ a) = true := decide_eq_true hba
                  have d5 : (a == a) = true := by simp
                  have d6 : (b == b) = true := by simp
                  have hpq := HPQ.out
                  cases p with
                  | false =>
                    clear hpq
                    go_wp2_with fail
                    go_ret
                    exact ⟨rfl, HW.out⟩
                  | true =>
                    have hq := hpq rfl
                    subst hq
                    clear hpq
                    go_wp2_with fail
                    go_ret
                    exact ⟨rfl, HW.out⟩
              · have hz := examined_err he
                rw [hz] at HR
                have e1 : ((examined N l m).2 == 0) = false := by simpa using he
                have e2 : ((examined N l m).2 != 0) = true := by simpa using he
                clear he hz
                obtain ⟨r0, r1, r2, -, -, -⟩ := HR.out
                go_wp2_with fail
                go_ret
                exact ⟨rfl, HW.out⟩
      · have d1 : decide ((l.length : Int) > 12) = true := decide_eq_true (by omega)
        have d2 : decide (12 < (l.length : Int)) = true := decide_eq_true (by omega)
        go_wp2_with fail
        go_ret
        exact ⟨rfl, HW.out⟩
    · have hz : (netErr N == 0) = false := by simpa using he
      have hz' : (netErr N != 0) = true := by simpa using he
      clear he
      go_wp2_with fail
      go_ret
      exact ⟨rfl, HW.out⟩
end Go.Proofs.Ythipneggplebcaa

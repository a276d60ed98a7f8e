/- The law of examinations: what one comes to; who tells a shortest way passes. No condition. -/
import Derived.Test.YthipneggplebcaaT35
import Derived.Test.YthipneggplebcaaT61
import Derived.Test.YthipneggplebcaaT67p
import Derived.Deep.CutBlock
namespace Go.Proofs.Ythipneggplebcaa
open Go.RowKit Fs

set_option linter.unusedSimpArgs false in
set_option maxHeartbeats 12800000 in
set_option maxRecDepth 100000 in
theorem law67_any (N : Net) (v : Value) (l : List Int) (A : Option Addr) (c : Nat) (m : Int) (w : World) (hN : RdNet w v N) (hA : ArrI w A l c) :
    Calls Try.prog 14 #[v, examV A l.length c m] w fun e w' => e = .returned (.bool true) ∧ Below w.heap.size w w' := by
  obtain ⟨i0, hi, hz0, hz1, hz2⟩ := info_parts Try.infoInt
  have HINF := Lib.hid (And.intro hi (And.intro hz0 (And.intro hz1 hz2)))
  clear hi hz0 hz1 hz2
  have hN0 := Lib.hid hN
  obtain ⟨P, R, pc, rc, ar, rfl, mm⟩ := hN
  have M := Lib.hid mm
  have rb1 := mm.roads.le.1
  have rb2 := mm.roads.le.2
  clear mm
  have HA := Lib.hid hA
  have b1 := hA.le
  obtain ⟨ba1, ba2⟩ := b1
  clear hA
  have BN := Lib.hid ((BoxN.new w N P R pc rc 25).keep (Keep.alloc _ (.cells #[.slice A l.length c, .int .i64 m] 111)))
  have BT := Lib.hid (ExamAt.new1 w (.cells #[.slice P N.places.length pc, .slice R N.roads.length rc] 25) A l.length c m 111)
  go_enter Try.func14, Try.ntmps14
  go_upto_region 1 with fail
  generalize hwb : (w.alloc _).alloc _ = wb at *
  have HW : Hid (Below w.heap.size w wb) := by rw [← hwb]; exact Lib.hid (((Below.refl _ _).alloc (Nat.le_refl _) _).alloc (by simp) _)
  clear hwb
  obtain ⟨n0, n1⟩ := BN.out
  obtain ⟨c0, c1⟩ := BT.out
  go_wp2_with fail
  refine (awake_any _).mono ?_
  rintro e' w1 ⟨rfl, hb1⟩
  replace HW := Lib.hid (HW.out.trans (hb1.mono HW.out.size))
  replace BN := Lib.hid (BN.out.keep (Keep.below hb1))
  replace BT := Lib.hid (BT.out.keep (Keep.below hb1))
  clear n0 n1 c0 c1
  clear hb1
  obtain ⟨n0, n1⟩ := BN.out
  obtain ⟨c0, c1⟩ := BT.out
  go_wp2_with fail
  refine (few_any N _ _ (hN0.out.keep (Keep.below HW.out))).mono ?_
  rintro e' w2 ⟨rfl, hb1⟩
  replace HW := Lib.hid (HW.out.trans (hb1.mono HW.out.size))
  replace BN := Lib.hid (BN.out.keep (Keep.below hb1))
  replace BT := Lib.hid (BT.out.keep (Keep.below hb1))
  clear n0 n1 c0 c1
  clear hb1
  cases hf : fewN N with
  | false =>
    go_wp2_with fail
    go_ret
    exact ⟨rfl, HW.out⟩
  | true =>
    have HL := Lib.hid (few_lens hf)
    clear hf
    obtain ⟨c0, c1⟩ := BT.out
    go_wp2_with fail
    refine (short_any l A c _ (HA.out.keep (Keep.below HW.out))).mono ?_
    rintro e' wA ⟨rfl, rfl⟩
    cases hs : shortL l.length with
    | false =>
      go_wp2_with fail
      go_ret
      exact ⟨rfl, HW.out⟩
    | true =>
      have hlen := shortL_le hs
      clear hs
      obtain ⟨wA, hwA⟩ : ∃ wz, wz = w2 := ⟨_, rfl⟩
      subst hwA
      go_wp2_with fail
      go_cut [5] from 31 to 37 (fun s1 wx => ∃ (g : Nat) (A6 : Option Addr) (k6 : Nat), s1 = .pointer (some ⟨g, 0, none⟩) ∧ wA.heap.size ≤ g ∧ Hid (TreeAt wx g (.slice A6 l.length k6) (.int .i64 m)) ∧ Hid (ArrI wx A6 l k6) ∧ Hid (Below wA.heap.size wA wx))
      case first =>
        have HBd : Hid (Below wA.heap.size wA wA.drew) := Lib.hid (Below.refl _ _).drew
        have MK : Hid (∀ w', Below wA.heap.size wA w' → w'.cell? ⟨w.heap.size + 1, 0, none⟩ = some (.slice A l.length c) ∧ w'.cell? ⟨w.heap.size + 1, 1, none⟩ = some (.int .i64 m) ∧ Hid (Below wA.heap.size wA w')) :=
          Lib.hid fun w' hw => ⟨Keep.below hw _ _ c0, Keep.below hw _ _ c1, Lib.hid hw⟩
        have KN : Hid (∀ w', Below wA.heap.size wA w' → RdNet w' (netV N P R pc rc) N) := Lib.hid fun w' hw => (hN0.out.keep (Keep.below (HW.out.trans (hw.mono HW.out.size))))
        have KA : Hid (∀ w', Below wA.heap.size wA w' → ArrI w' A l c) := Lib.hid fun w' hw => (HA.out.keep (Keep.below (HW.out.trans (hw.mono HW.out.size))))
        go_region_held3 (fun w' => w'.cell? ⟨w.heap.size + 1, 0, none⟩ = some (.slice A l.length c) ∧ w'.cell? ⟨w.heap.size + 1, 1, none⟩ = some (.int .i64 m) ∧ Hid (Below wA.heap.size wA w'))
          (first
            | exact MK.out _ HBd.out
            | (go_split_ands; exact ⟨by assumption, by assumption, by assumption⟩)
            | (go_split_ands; exact MK.out _ (Below.trans (Hid.out (by assumption)) (hb1.mono (Hid.out (by assumption) : Below wA.heap.size wA _).size)))
            | (go_split_ands; exact MK.out _ (Below.alloc (Hid.out (by assumption)) (Hid.out (by assumption) : Below wA.heap.size wA _).size _))
            | (go_split_ands; exact MK.out _ (below_realloc (Hid.out (by assumption)) hle _))
            | (go_split_ands; exact MK.out _ (Below.setCell (Below.setCell (Hid.out (by assumption)) (by show wA.heap.size ≤ _; first | exact Nat.le_refl _ | assumption | omega | (simp; done) | (simp; omega)) _) (by show wA.heap.size ≤ _; first | exact Nat.le_refl _ | assumption | omega | (simp; done) | (simp; omega)) _)))
          ((first
            | (go_at_call 29
               go_split_ands
               refine (copyInts_any l A c _ (KA.out _ (Hid.out (by assumption))) (by omega)).mono ?_
               rintro e' wz6 ⟨A6, k6, rfl, h6, ha6, hb1⟩
               have hle := Nat.le_trans (Hid.out (by assumption) : Below wA.heap.size wA _).size hb1.size
               try (first
                 | (have HT0 := (HT.out.keep hb1 : TreeAt _ _ (.slice none 0 0) (.int .i64 0)); (try simp only [size_drew] at HT0); (try simp only [World.size_alloc] at HT0); (try simp only [size_drew] at HT0); have HT := Lib.hid HT0; clear HT0; obtain ⟨q0, q1, qf0, qf1⟩ := HT.out)
                 | (have HT0 := ((TreeAt.new _ _ _ 111).keep hb1 : TreeAt _ _ (.slice none 0 0) (.int .i64 0)); (try simp only [size_drew] at HT0); (try simp only [World.size_alloc] at HT0); (try simp only [size_drew] at HT0); have HT := Lib.hid HT0; clear HT0; obtain ⟨q0, q1, qf0, qf1⟩ := HT.out)
                 | (have HT0 := ((TreeAt.new _ _ _ 111).keepD hb1 : TreeAt _ _ (.slice none 0 0) (.int .i64 0)); (try simp only [size_drew] at HT0); (try simp only [World.size_alloc] at HT0); (try simp only [size_drew] at HT0); have HT := Lib.hid HT0; clear HT0; obtain ⟨q0, q1, qf0, qf1⟩ := HT.out)))))
        all_goals
          rename_i hS
          obtain ⟨-, -, hbb⟩ := hS
          go_wp2_with fail
          go_meet
          first
            | exact ⟨_, A6, k6, rfl, by omega, Lib.hid (TreeAt.new _ _ _ _), Lib.hid (h6.keep (Keep.alloc _ _)), hbb⟩
            | exact ⟨_, A6, k6, rfl, by omega, Lib.hid (HT.out.set _ _), Lib.hid ((h6.farB ha6 (by simp) _).farB ha6 (by simp) _), hbb⟩
      case rest =>
        obtain ⟨u1, A6, k6, rfl, hg, HO, HI, HB⟩ := hcut
        obtain ⟨wB, hwB⟩ : ∃ wz, wz = wc := ⟨_, rfl⟩
        subst hwB
        replace HW := Lib.hid (HW.out.trans (HB.out.mono HW.out.size))
        replace BN := Lib.hid (BN.out.keep (Keep.below HB.out))
        replace BT := Lib.hid (BT.out.keep (Keep.below HB.out))
        clear HB c0 c1
        obtain ⟨n0, n1⟩ := BN.out
        obtain ⟨c0, c1⟩ := BT.out
        obtain ⟨o0, o1, -, -⟩ := HO.out
        go_wp2_with fail
        go_cut [6, 7] from 37 to 44 (fun s1 s2 wx => ∃ g : Nat, s1 = .pointer (some ⟨g, 0, none⟩) ∧ s2 = .int .i64 (examined N l m).2 ∧ wB.heap.size ≤ g ∧ Hid (ResAt wx g (.int .i64 (examined N l m).1.1) (.int .i64 (examined N l m).1.2.1) (.bool (examined N l m).1.2.2)) ∧ Hid (Below wB.heap.size wB wx))
        case first =>
          have HBd : Hid (Below wB.heap.size wB wB.drew) := Lib.hid (Below.refl _ _).drew
          have MK : Hid (∀ w', Below wB.heap.size wB w' → w'.cell? ⟨w.heap.size, 0, none⟩ = some (.slice P N.places.length pc) ∧ w'.cell? ⟨w.heap.size, 1, none⟩ = some (.slice R N.roads.length rc) ∧ w'.cell? ⟨w.heap.size + 1, 0, none⟩ = some (.slice A l.length c) ∧ w'.cell? ⟨w.heap.size + 1, 1, none⟩ = some (.int .i64 m) ∧ w'.cell? ⟨u1, 0, none⟩ = some (.slice A6 l.length k6) ∧ w'.cell? ⟨u1, 1, none⟩ = some (.int .i64 m) ∧ Hid (Below wB.heap.size wB w')) :=
            Lib.hid fun w' hw => ⟨Keep.below hw _ _ n0, Keep.below hw _ _ n1, Keep.below hw _ _ c0, Keep.below hw _ _ c1, Keep.below hw _ _ o0, Keep.below hw _ _ o1, Lib.hid hw⟩
          have KN : Hid (∀ w', Below wB.heap.size wB w' → RdNet w' (netV N P R pc rc) N) := Lib.hid fun w' hw => (hN0.out.keep (Keep.below (HW.out.trans (hw.mono HW.out.size))))
          have KA : Hid (∀ w', Below wB.heap.size wB w' → ArrI w' A l c) := Lib.hid fun w' hw => (HA.out.keep (Keep.below (HW.out.trans (hw.mono HW.out.size))))
          have KI : Hid (∀ w', Below wB.heap.size wB w' → ArrI w' A6 l k6) := Lib.hid fun w' hw => HI.out.keep (Keep.below hw)
          go_region_held3 (fun w' => w'.cell? ⟨w.heap.size, 0, none⟩ = some (.slice P N.places.length pc) ∧ w'.cell? ⟨w.heap.size, 1, none⟩ = some (.slice R N.roads.length rc) ∧ w'.cell? ⟨w.heap.size + 1, 0, none⟩ = some (.slice A l.length c) ∧ w'.cell? ⟨w.heap.size + 1, 1, none⟩ = some (.int .i64 m) ∧ w'.cell? ⟨u1, 0, none⟩ = some (.slice A6 l.length k6) ∧ w'.cell? ⟨u1, 1, none⟩ = some (.int .i64 m) ∧ Hid (Below wB.heap.size wB w'))
            (first
              | exact MK.out _ HBd.out
              | (go_split_ands; exact ⟨by assumption, by assumption, by assumption, by assumption, by assumption, by assumption, by assumption⟩)
              | (go_split_ands; exact MK.out _ (Below.trans (Hid.out (by assumption)) (hb1.mono (Hid.out (by assumption) : Below wB.heap.size wB _).size)))
              | (go_split_ands; exact MK.out _ (Below.alloc (Hid.out (by assumption)) (Hid.out (by assumption) : Below wB.heap.size wB _).size _))
              | (go_split_ands; exact MK.out _ (below_realloc (Hid.out (by assumption)) hle _))
              | (go_split_ands; exact MK.out _ (Below.setCell (Below.setCell (Below.setCell (Hid.out (by assumption)) (by show wB.heap.size ≤ _; first | exact Nat.le_refl _ | assumption | omega | (simp; done) | (simp; omega)) _) (by show wB.heap.size ≤ _; first | exact Nat.le_refl _ | assumption | omega | (simp; done) | (simp; omega)) _) (by show wB.heap.size ≤ _; first | exact Nat.le_refl _ | assumption | omega | (simp; done) | (simp; omega)) _)))
            ((first
              | (go_at_call 21
                 go_split_ands
                 refine (copyNet_any N _ _ (KN.out _ (Hid.out (by assumption))) HL.out.1 HL.out.2.1 HL.out.2.2).mono ?_
                 rintro e' wz5 ⟨v5, rfl, h5, hb1⟩
                 have hle := Nat.le_trans (Hid.out (by assumption) : Below wB.heap.size wB _).size hb1.size
                 have H5 := Lib.hid h5
                 clear h5
                 try (first
                   | (have HT0 := (HT.out.keep hb1 : ResAt _ _ (.int .i64 0) (.int .i64 0) (.bool false)); (try simp only [size_drew] at HT0); (try simp only [World.size_alloc] at HT0); (try simp only [size_drew] at HT0); have HT := Lib.hid HT0; clear HT0; obtain ⟨q0, q1, q2, qf0, qf1, qf2⟩ := HT.out)
                   | (have HT0 := ((ResAt.new _ _ _ _ 113).keep hb1 : ResAt _ _ (.int .i64 0) (.int .i64 0) (.bool false)); (try simp only [size_drew] at HT0); (try simp only [World.size_alloc] at HT0); (try simp only [size_drew] at HT0); have HT := Lib.hid HT0; clear HT0; obtain ⟨q0, q1, q2, qf0, qf1, qf2⟩ := HT.out)
                   | (have HT0 := ((ResAt.new _ _ _ _ 113).keepD hb1 : ResAt _ _ (.int .i64 0) (.int .i64 0) (.bool false)); (try simp only [size_drew] at HT0); (try simp only [World.size_alloc] at HT0); (try simp only [size_drew] at HT0); have HT := Lib.hid HT0; clear HT0; obtain ⟨q0, q1, q2, qf0, qf1, qf2⟩ := HT.out)))
              | (go_at_call 69
                 go_split_ands
                 refine (examined_any N _ l A6 k6 m _ (by first | exact H5.out | exact H5.out.keep (Keep.alloc _ _)) (KI.out _ (Hid.out (by assumption)))).mono ?_
                 rintro e' wz7 ⟨rfl, hb1⟩
                 have hle := Nat.le_trans (Hid.out (by assumption) : Below wB.heap.size wB _).size hb1.size
                 try (first
                   | (have HT0 := (HT.out.keep hb1 : ResAt _ _ (.int .i64 0) (.int .i64 0) (.bool false)); (try simp only [size_drew] at HT0); (try simp only [World.size_alloc] at HT0); (try simp only [size_drew] at HT0); have HT := Lib.hid HT0; clear HT0; obtain ⟨q0, q1, q2, qf0, qf1, qf2⟩ := HT.out)
                   | (have HT0 := ((ResAt.new _ _ _ _ 113).keep hb1 : ResAt _ _ (.int .i64 0) (.int .i64 0) (.bool false)); (try simp only [size_drew] at HT0); (try simp only [World.size_alloc] at HT0); (try simp only [size_drew] at HT0); have HT := Lib.hid HT0; clear HT0; obtain ⟨q0, q1, q2, qf0, qf1, qf2⟩ := HT.out)
                   | (have HT0 := ((ResAt.new _ _ _ _ 113).keepD hb1 : ResAt _ _ (.int .i64 0) (.int .i64 0) (.bool false)); (try simp only [size_drew] at HT0); (try simp only [World.size_alloc] at HT0); (try simp only [size_drew] at HT0); have HT := Lib.hid HT0; clear HT0; obtain ⟨q0, q1, q2, qf0, qf1, qf2⟩ := HT.out)))))
          all_goals
            rename_i hS
            obtain ⟨-, -, -, -, -, -, hbb⟩ := hS
            go_wp2_with fail
            go_meet
            first
              | exact ⟨_, rfl, rfl, by omega, Lib.hid (ResAt.new _ _ _ _ _), hbb⟩
              | exact ⟨_, rfl, rfl, by omega, Lib.hid (HT.out.set _ _ _), hbb⟩
        case rest =>
          obtain ⟨u2, rfl, rfl, hg2, HR, HB⟩ := hcut
          obtain ⟨wC, hwC⟩ : ∃ wz, wz = wc := ⟨_, rfl⟩
          subst hwC
          replace HW := Lib.hid (HW.out.trans (HB.out.mono HW.out.size))
          replace BN := Lib.hid (BN.out.keep (Keep.below HB.out))
          replace BT := Lib.hid (BT.out.keep (Keep.below HB.out))
          replace HO := Lib.hid (HO.out.keep HB.out)
          replace HI := Lib.hid (HI.out.keep (Keep.below HB.out))
          clear HB n0 n1 c0 c1 o0 o1
          obtain ⟨n0, n1⟩ := BN.out
          go_wp2_with fail
          refine (rNetErr_any N _ _ (hN0.out.keep (Keep.below HW.out))).mono ?_
          rintro e' w3 ⟨rfl, hb1⟩
          replace HW := Lib.hid (HW.out.trans (hb1.mono HW.out.size))
          replace BN := Lib.hid (BN.out.keep (Keep.below hb1))
          replace BT := Lib.hid (BT.out.keep (Keep.below hb1))
          replace HR := Lib.hid (HR.out.keep hb1)
          clear n0 n1
          clear hb1
          by_cases he : netErr N = 0
          · have HE := Lib.hid he
            rw [he]
            clear he
            obtain ⟨n0, n1⟩ := BN.out
            obtain ⟨c0, c1⟩ := BT.out
            go_wp2_with fail
            refine (rExamined_any N _ l A c m _ (hN0.out.keep (Keep.below HW.out)) (HA.out.keep (Keep.below HW.out)) HE.out).mono ?_
            rintro e' w4 ⟨rfl, hb1⟩
            replace HW := Lib.hid (HW.out.trans (hb1.mono HW.out.size))
            replace BN := Lib.hid (BN.out.keep (Keep.below hb1))
            replace BT := Lib.hid (BT.out.keep (Keep.below hb1))
            replace HR := Lib.hid (HR.out.keep hb1)
            clear n0 n1 c0 c1
            clear hb1
            have HS := Lib.hid (ResAt.new w4 (.int .i64 (examined N l m).1.1) (.int .i64 (examined N l m).1.2.1) (.bool (examined N l m).1.2.2) 113)
            have hb8 : Below w4.heap.size w4 (w4.alloc (.cells #[.int .i64 (examined N l m).1.1, .int .i64 (examined N l m).1.2.1, .bool (examined N l m).1.2.2] 113)) := (Below.refl _ _).alloc (Nat.le_refl _) _
            replace HW := Lib.hid (HW.out.trans (hb8.mono HW.out.size))
            replace BN := Lib.hid (BN.out.keep (Keep.below hb8))
            replace BT := Lib.hid (BT.out.keep (Keep.below hb8))
            replace HR := Lib.hid (HR.out.keep hb8)
            clear hb8
            obtain ⟨r0, r1, r2, -, -, -⟩ := HR.out
            obtain ⟨s0, s1, s2, -, -, -⟩ := HS.out
            obtain ⟨n0, n1⟩ := BN.out
            obtain ⟨c0, c1⟩ := BT.out
            by_cases hr : (examined N l m).2 = 0
            · obtain ⟨x1, x2, x3, x4, x5⟩ := exam_way hr
              have hp0 := place_in x3 (k := 0) (by omega)
              have hp1 := place_in x3 (k := l.length - 1) (by omega)
              obtain ⟨X, hX⟩ : ∃ X : Nat, listI l 0 = X := ⟨_, (Int.toNat_of_nonneg hp0.1).symm⟩
              obtain ⟨Y, hY⟩ : ∃ Y : Nat, listI l (l.length - 1) = Y := ⟨_, (Int.toNat_of_nonneg hp1.1).symm⟩
              have hXl : X < N.places.length := by omega
              have hYl : Y < N.places.length := by omega
              have hlm : leastM N l = listI (heights N X) Y := by unfold leastM; rw [hX, hY, Int.toNat_natCast]
              rw [hlm] at x4 x5
              have HX4 := Lib.hid x4
              have hne : listI (heights N X) Y ≠ -1 := by omega
              have hsh : shortest N X Y = (listI (heights N X) Y, 0) := by
                have e0 : shErr N X Y = 0 := by rw [shErr_is, if_pos HE.out, if_pos ⟨(Fs.within_iff.2 ⟨by omega, by omega⟩ : isPlace N X = true), (Fs.within_iff.2 ⟨by omega, by omega⟩ : isPlace N Y = true)⟩]
                unfold shortest; rw [if_pos e0, if_neg (by rw [Int.toNat_natCast]; exact hne), Int.toNat_natCast]
              have HSH := Lib.hid hsh
              have HNE := Lib.hid hne
              rw [hr]
              clear hr x1 x3 x4 hlm hsh hne
              obtain ⟨p, o, hAe, q0⟩ := (HA.out.keep (Keep.below HW.out)).at_ (show 0 < l.length by omega)
              subst hAe
              have q1 := (HA.out.keep (Keep.below HW.out)).cells (k := l.length - 1) (by omega)
              rw [hX] at q0
              rw [hY] at q1
              have h0n : 0 < l.length := by omega
              have h0l : (0 : Int) < (l.length : Int) := by omega
              obtain ⟨n', hn'⟩ : ∃ n', l.length - 1 = n' := ⟨_, rfl⟩
              rw [hn'] at q1
              have hm1 : ((l.length : Int) - 1) = (n' : Int) := by omega
              have hm2 : (n' : Int) < (l.length : Int) := by omega
              have wn0 : IntKind.i64.wrap (n' : Int) = (n' : Int) := by rw [IntKind.wrap_i64]; omega
              have wn1 : IntKind.i64.wrap ((l.length : Int) - 1) = (n' : Int) := by rw [hm1]; exact wn0
              have HXY := Lib.hid (show listI l 0 = X ∧ listI l n' = Y from ⟨hX, by rw [← hn']; exact hY⟩)
              clear hn' hX hY hp0 hp1 hm1
              go_wp2_with fail
              generalize hwD : w4.alloc _ = wD at *
              clear hwD s0 s1 s2 HS
              go_cut [11, 12, 13] from 72 to 91 (fun s1 s2 s3 wx => ∃ (W : List Int) (A2 : Option Addr) (k2 : Nat), s1 = .slice A2 W.length k2 ∧ s2 = .int .i64 (shortest N X Y).1 ∧ s3 = .int .i64 (shortest N X Y).2 ∧ Hid (ArrI wx A2 W k2) ∧ Hid ((shortest N X Y).2 = 0 → Chain N (search N X 0 (further N)).last Y W.reverse) ∧ Hid (Below wD.heap.size wD wx))
              case first =>
                have HBd : Hid (Below wD.heap.size wD wD.drew) := Lib.hid (Below.refl _ _).drew
                have MK : Hid (∀ w', Below wD.heap.size wD w' → w'.cell? ⟨w.heap.size, 0, none⟩ = some (.slice P N.places.length pc) ∧ w'.cell? ⟨w.heap.size, 1, none⟩ = some (.slice R N.roads.length rc) ∧ w'.cell? ⟨w.heap.size + 1, 0, none⟩ = some (.slice (some ⟨p, o, none⟩) l.length c) ∧ w'.cell? ⟨w.heap.size + 1, 1, none⟩ = some (.int .i64 m) ∧ w'.cell? ⟨p, o, none⟩ = some (.int .i64 (X : Int)) ∧ w'.cell? ⟨p, o + n', none⟩ = some (.int .i64 (Y : Int)) ∧ Hid (Below wD.heap.size wD w')) :=
                  Lib.hid fun w' hw => ⟨Keep.below hw _ _ n0, Keep.below hw _ _ n1, Keep.below hw _ _ c0, Keep.below hw _ _ c1, Keep.below hw _ _ q0, Keep.below hw _ _ q1, Lib.hid hw⟩
                have KN : Hid (∀ w', Below wD.heap.size wD w' → RdNet w' (netV N P R pc rc) N) := Lib.hid fun w' hw => (hN0.out.keep (Keep.below (HW.out.trans (hw.mono HW.out.size))))
                have KA : Hid (∀ w', Below wD.heap.size wD w' → ArrI w' (some ⟨p, o, none⟩) l c) := Lib.hid fun w' hw => (HA.out.keep (Keep.below (HW.out.trans (hw.mono HW.out.size))))
                refine wp_region_held_drew (S := fun w' => w'.cell? ⟨w.heap.size, 0, none⟩ = some (.slice P N.places.length pc) ∧ w'.cell? ⟨w.heap.size, 1, none⟩ = some (.slice R N.roads.length rc) ∧ w'.cell? ⟨w.heap.size + 1, 0, none⟩ = some (.slice (some ⟨p, o, none⟩) l.length c) ∧ w'.cell? ⟨w.heap.size + 1, 1, none⟩ = some (.int .i64 m) ∧ w'.cell? ⟨p, o, none⟩ = some (.int .i64 (X : Int)) ∧ w'.cell? ⟨p, o + n', none⟩ = some (.int .i64 (Y : Int)) ∧ Hid (Below wD.heap.size wD w')) (by kernel_rfl) (MK.out _ HBd.out) (fun hHeld => ?_)
                refine wpAnyH_take (i := 0) (v := ?val0x1) rfl (by kernel_rfl) (by kernel_rfl) (by kernel_rfl) (fun _ _ _ h => h) (Or.inl ⟨by rfl, fun w9 hS9 => ?yields0x1⟩) (by assumption) ?later0x1
                case yields0x1 =>
                  dsimp only at hS9
                  go_simp
                  try with_reducible rfl
                try simp only [Act.put, List.getElem_toArray, List.getElem_cons_succ, List.getElem_cons_zero, List.setIfInBounds_toArray, List.set_cons_zero, List.set_cons_succ]
                refine wpAnyH_take (i := 2) (v := ?val2x2) rfl (by kernel_rfl) (by kernel_rfl) (by kernel_rfl) (fun _ _ _ h => h) (Or.inl ⟨by rfl, fun w9 hS9 => ?yields2x2⟩) (by assumption) ?later2x2
                case yields2x2 =>
                  dsimp only at hS9
                  go_simp
                  try with_reducible rfl
                try simp only [Act.put, List.getElem_toArray, List.getElem_cons_succ, List.getElem_cons_zero, List.setIfInBounds_toArray, List.set_cons_zero, List.set_cons_succ]
                refine wpAnyH_take (i := 3) (v := ?val3x3) rfl (by kernel_rfl) (by kernel_rfl) (by kernel_rfl) (fun _ _ _ h => h) (Or.inl ⟨by rfl, fun w9 hS9 => ?yields3x3⟩) (by assumption) ?later3x3
                case yields3x3 =>
                  dsimp only at hS9
                  go_simp
                  try with_reducible rfl
                try simp only [Act.put, List.getElem_toArray, List.getElem_cons_succ, List.getElem_cons_zero, List.setIfInBounds_toArray, List.set_cons_zero, List.set_cons_succ]
                refine wpAnyH_take (i := 4) (v := ?val4x4) rfl (by kernel_rfl) (by kernel_rfl) (by kernel_rfl) (fun _ _ _ h => h) (Or.inl ⟨by rfl, fun w9 hS9 => ?yields4x4⟩) (by assumption) ?later4x4
                case yields4x4 =>
                  dsimp only at hS9
                  go_simp
                  try with_reducible rfl
                try simp only [Act.put, List.getElem_toArray, List.getElem_cons_succ, List.getElem_cons_zero, List.setIfInBounds_toArray, List.set_cons_zero, List.set_cons_succ]
                refine wpAnyH_take (i := 5) (v := ?val5x5) rfl (by kernel_rfl) (by kernel_rfl) (by kernel_rfl) (fun _ _ _ h => h) (Or.inl ⟨by rfl, fun w9 hS9 => ?yields5x5⟩) (by assumption) ?later5x5
                case yields5x5 =>
                  dsimp only at hS9
                  go_simp
                  try with_reducible rfl
                try simp only [Act.put, List.getElem_toArray, List.getElem_cons_succ, List.getElem_cons_zero, List.setIfInBounds_toArray, List.set_cons_zero, List.set_cons_succ]
                refine wpAnyH_take (i := 6) (v := ?val6x6) rfl (by kernel_rfl) (by kernel_rfl) (by kernel_rfl) (fun _ _ _ h => h) (Or.inl ⟨by rfl, fun w9 hS9 => ?yields6x6⟩) (by assumption) ?later6x6
                case yields6x6 =>
                  dsimp only at hS9
                  go_simp
                  try with_reducible rfl
                try simp only [Act.put, List.getElem_toArray, List.getElem_cons_succ, List.getElem_cons_zero, List.setIfInBounds_toArray, List.set_cons_zero, List.set_cons_succ]
                refine wpAnyH_take (i := 7) (v := ?val7x7) rfl (by kernel_rfl) (by kernel_rfl) (by kernel_rfl) (fun _ _ _ h => h) (Or.inl ⟨by rfl, fun w9 hS9 => ?yields7x7⟩) (by assumption) ?later7x7
                case yields7x7 =>
                  dsimp only at hS9
                  go_simp
                  try with_reducible rfl
                try simp only [Act.put, List.getElem_toArray, List.getElem_cons_succ, List.getElem_cons_zero, List.setIfInBounds_toArray, List.set_cons_zero, List.set_cons_succ]
                refine wpAnyH_take (i := 8) (v := ?val8x8) rfl (by kernel_rfl) (by kernel_rfl) (by kernel_rfl) (fun _ _ _ h => h) (Or.inl ⟨by rfl, fun w9 hS9 => ?yields8x8⟩) (by assumption) ?later8x8
                case yields8x8 =>
                  dsimp only at hS9
                  go_simp
                  try with_reducible rfl
                try simp only [Act.put, List.getElem_toArray, List.getElem_cons_succ, List.getElem_cons_zero, List.setIfInBounds_toArray, List.set_cons_zero, List.set_cons_succ]
                refine wpAnyH_take (i := 9) (v := ?val9x9) rfl (by kernel_rfl) (by kernel_rfl) (by kernel_rfl) (fun _ _ _ h => h) (Or.inl ⟨by rfl, fun w9 hS9 => ?yields9x9⟩) (by assumption) ?later9x9
                case yields9x9 =>
                  dsimp only at hS9
                  go_simp
                  try with_reducible rfl
                try simp only [Act.put, List.getElem_toArray, List.getElem_cons_succ, List.getElem_cons_zero, List.setIfInBounds_toArray, List.set_cons_zero, List.set_cons_succ]
                refine wpAnyH_take (i := 10) (v := ?val10x10) rfl (by kernel_rfl) (by kernel_rfl) (by kernel_rfl) (fun _ _ _ h => h) (Or.inl ⟨by rfl, fun w9 hS9 => ?yields10x10⟩) (by assumption) ?later10x10
                case yields10x10 =>
                  dsimp only at hS9
                  go_simp
                  try with_reducible rfl
                try simp only [Act.put, List.getElem_toArray, List.getElem_cons_succ, List.getElem_cons_zero, List.setIfInBounds_toArray, List.set_cons_zero, List.set_cons_succ]
                refine wpAnyH_take (i := 11) (v := ?val11x11) rfl (by kernel_rfl) (by kernel_rfl) (by kernel_rfl) (fun _ _ _ h => h) (Or.inl ⟨by rfl, fun w9 hS9 => ?yields11x11⟩) (by assumption) ?later11x11
                case yields11x11 =>
                  dsimp only at hS9
                  go_simp
                  try with_reducible rfl
                try simp only [Act.put, List.getElem_toArray, List.getElem_cons_succ, List.getElem_cons_zero, List.setIfInBounds_toArray, List.set_cons_zero, List.set_cons_succ]
                refine wpAnyH_take (i := 12) (v := ?val12x12) rfl (by kernel_rfl) (by kernel_rfl) (by kernel_rfl) (fun _ _ _ h => h) (Or.inl ⟨by rfl, fun w9 hS9 => ?yields12x12⟩) (by assumption) ?later12x12
                case yields12x12 =>
                  dsimp only at hS9
                  go_simp
                  try with_reducible rfl
                try simp only [Act.put, List.getElem_toArray, List.getElem_cons_succ, List.getElem_cons_zero, List.setIfInBounds_toArray, List.set_cons_zero, List.set_cons_succ]
                refine wpAnyH_take (i := 13) (v := ?val13x13) rfl (by kernel_rfl) (by kernel_rfl) (by kernel_rfl) (fun _ _ _ h => h) (Or.inl ⟨by rfl, fun w9 hS9 => ?yields13x13⟩) (by assumption) ?later13x13
                case yields13x13 =>
                  dsimp only at hS9
                  go_simp
                  try with_reducible rfl
                try simp only [Act.put, List.getElem_toArray, List.getElem_cons_succ, List.getElem_cons_zero, List.setIfInBounds_toArray, List.set_cons_zero, List.set_cons_succ]
                refine wpAnyH_ready (rs := [1]) (by kernel_rfl) (by simp) ?_
                refine AllReadyH.cons rfl (fun K hK => ?_) AllReadyH.nil
                go_simp
                go_at_call 21
                go_split_ands
                refine (copyNet_any N _ _ (KN.out _ (Hid.out (by assumption))) HL.out.1 HL.out.2.1 HL.out.2.2).mono ?_
                rintro e' wz5 ⟨v5, rfl, h5, hb1⟩
                have H5 := Lib.hid h5
                clear h5
                go_wp2_with fail
                refine hK.out _ _ ?_ (fun hHeld => ?_)
                · (try dsimp only)
                  (go_split_ands; exact MK.out _ (Below.trans (Hid.out (by assumption)) (hb1.mono (Hid.out (by assumption) : Below wD.heap.size wD _).size)))
                clear hK K
                try simp only [Act.put, List.getElem_toArray, List.getElem_cons_succ, List.getElem_cons_zero, List.setIfInBounds_toArray, List.set_cons_zero, List.set_cons_succ]
                refine wpAnyH_ready (rs := [14]) (by kernel_rfl) (by simp) ?_
                refine AllReadyH.cons rfl (fun K hK => ?_) AllReadyH.nil
                go_simp
                go_at_call 54
                go_split_ands
                refine (shortest_any N _ X Y _ H5.out).mono ?_
                rintro e' wz7 ⟨lb, A2, k2, rfl, ha2, hch, hnil, hb1⟩
                have HA2 := Lib.hid ha2
                have HCH := Lib.hid hch
                clear ha2 hch hnil
                go_wp2_with fail
                refine hK.out _ _ ?_ (fun hHeld => ?_)
                · (try dsimp only)
                  (go_split_ands; exact MK.out _ (Below.trans (Hid.out (by assumption)) (hb1.mono (Hid.out (by assumption) : Below wD.heap.size wD _).size)))
                clear hK K
                try simp only [Act.put, List.getElem_toArray, List.getElem_cons_succ, List.getElem_cons_zero, List.setIfInBounds_toArray, List.set_cons_zero, List.set_cons_succ]
                refine wpAnyH_take (i := 15) (v := ?val15x14) rfl (by kernel_rfl) (by kernel_rfl) (by kernel_rfl) (fun _ _ _ h => h) (Or.inl ⟨by rfl, fun w9 hS9 => ?yields15x14⟩) (by assumption) ?later15x14
                case yields15x14 =>
                  dsimp only at hS9
                  go_simp
                  try with_reducible rfl
                try simp only [Act.put, List.getElem_toArray, List.getElem_cons_succ, List.getElem_cons_zero, List.setIfInBounds_toArray, List.set_cons_zero, List.set_cons_succ]
                refine wpAnyH_take (i := 16) (v := ?val16x15) rfl (by kernel_rfl) (by kernel_rfl) (by kernel_rfl) (fun _ _ _ h => h) (Or.inl ⟨by rfl, fun w9 hS9 => ?yields16x15⟩) (by assumption) ?later16x15
                case yields16x15 =>
                  dsimp only at hS9
                  go_simp
                  try with_reducible rfl
                try simp only [Act.put, List.getElem_toArray, List.getElem_cons_succ, List.getElem_cons_zero, List.setIfInBounds_toArray, List.set_cons_zero, List.set_cons_succ]
                refine wpAnyH_take (i := 17) (v := ?val17x16) rfl (by kernel_rfl) (by kernel_rfl) (by kernel_rfl) (fun _ _ _ h => h) (Or.inl ⟨by rfl, fun w9 hS9 => ?yields17x16⟩) (by assumption) ?later17x16
                case yields17x16 =>
                  dsimp only at hS9
                  go_simp
                  try with_reducible rfl
                try simp only [Act.put, List.getElem_toArray, List.getElem_cons_succ, List.getElem_cons_zero, List.setIfInBounds_toArray, List.set_cons_zero, List.set_cons_succ]
                refine wpAnyH_take (i := 18) (v := ?val18x17) rfl (by kernel_rfl) (by kernel_rfl) (by kernel_rfl) (fun _ _ _ h => h) (Or.inl ⟨by rfl, fun w9 hS9 => ?yields18x17⟩) (by assumption) ?later18x17
                case yields18x17 =>
                  dsimp only at hS9
                  go_simp
                  try with_reducible rfl
                try simp only [Act.put, List.getElem_toArray, List.getElem_cons_succ, List.getElem_cons_zero, List.setIfInBounds_toArray, List.set_cons_zero, List.set_cons_succ]
                refine wpAnyH_take (i := 19) (v := ?val19x18) rfl (by kernel_rfl) (by kernel_rfl) (by kernel_rfl) (fun _ _ _ h => h) (Or.inl ⟨by rfl, fun w9 hS9 => ?yields19x18⟩) (by assumption) ?later19x18
                case yields19x18 =>
                  dsimp only at hS9
                  go_simp
                  try with_reducible rfl
                try simp only [Act.put, List.getElem_toArray, List.getElem_cons_succ, List.getElem_cons_zero, List.setIfInBounds_toArray, List.set_cons_zero, List.set_cons_succ]
                refine wpAnyH_take (i := 20) (v := ?val20x19) rfl (by kernel_rfl) (by kernel_rfl) (by kernel_rfl) (fun _ _ _ h => h) (Or.inl ⟨by rfl, fun w9 hS9 => ?yields20x19⟩) (by assumption) ?later20x19
                case yields20x19 =>
                  dsimp only at hS9
                  go_simp
                  try with_reducible rfl
                try simp only [Act.put, List.getElem_toArray, List.getElem_cons_succ, List.getElem_cons_zero, List.setIfInBounds_toArray, List.set_cons_zero, List.set_cons_succ]
                refine wpAnyH_take (i := 21) (v := ?val21x20) rfl (by kernel_rfl) (by kernel_rfl) (by kernel_rfl) (fun _ _ _ h => h) (Or.inl ⟨by rfl, fun w9 hS9 => ?yields21x20⟩) (by assumption) ?later21x20
                case yields21x20 =>
                  dsimp only at hS9
                  go_simp
                  try with_reducible rfl
                try simp only [Act.put, List.getElem_toArray, List.getElem_cons_succ, List.getElem_cons_zero, List.setIfInBounds_toArray, List.set_cons_zero, List.set_cons_succ]
                refine wpAnyH_done (by kernel_rfl) ?_ _
                obtain ⟨-, -, -, -, -, -, hbb⟩ := hHeld
                go_wp2_with fail
                go_meet
                exact ⟨lb.reverse, A2, k2, by rw [List.length_reverse], rfl, rfl, HA2, Lib.hid (fun h => by rw [List.reverse_reverse]; have := HCH.out h; rwa [Int.toNat_natCast] at this), hbb⟩
              case rest =>
                obtain ⟨W, A2, k2, rfl, rfl, rfl, HA2, HCH, HB⟩ := hcut
                obtain ⟨wE, hwE⟩ : ∃ wz, wz = wc := ⟨_, rfl⟩
                subst hwE
                replace HW := Lib.hid (HW.out.trans (HB.out.mono HW.out.size))
                replace BN := Lib.hid (BN.out.keep (Keep.below HB.out))
                replace BT := Lib.hid (BT.out.keep (Keep.below HB.out))
                replace HR := Lib.hid (HR.out.keep HB.out)
                clear HB n0 n1 c0 c1 q0 q1 r0 r1 r2
                rw [HSH.out]
                obtain ⟨s1, s2, s3, s4, -⟩ := shortest_way HE.out hXl hYl HNE.out (HCH.out (by rw [HSH.out]))
                have HSHORT := Lib.hid (way_short HE.out hXl hYl HNE.out (HCH.out (by rw [HSH.out])))
                have S1 := Lib.hid s1
                have S2 := Lib.hid s2
                have S3 := Lib.hid s3
                have S4 := Lib.hid s4
                clear s1 s2 s3 s4 HCH
                obtain ⟨n0, n1⟩ := BN.out
                obtain ⟨c0, c1⟩ := BT.out
                go_wp2_with fail
                refine (rWayErr_any N _ W A2 k2 _ (hN0.out.keep (Keep.below HW.out)) HA2.out).mono ?_
                rintro e' w8 ⟨rfl, hb1⟩
                rw [S1.out]
                replace HW := Lib.hid (HW.out.trans (hb1.mono HW.out.size))
                replace BN := Lib.hid (BN.out.keep (Keep.below hb1))
                replace BT := Lib.hid (BT.out.keep (Keep.below hb1))
                replace HR := Lib.hid (HR.out.keep hb1)
                replace HA2 := Lib.hid (HA2.out.keep (Keep.below hb1))
                clear n0 n1 c0 c1
                clear hb1
                rw [HX4.out] at HR
                have hbnd := heights_bound HE.out hXl hYl
                have hpos : 0 ≤ listI (heights N X) Y := x5
                have HBACK := Lib.hid (fun h0 => told_back HE.out hXl S1.out S2.out h0 HSHORT.out S3.out)
                generalize listI (heights N X) Y = z at *
                obtain ⟨n0, n1⟩ := BN.out
                obtain ⟨c0, c1⟩ := BT.out
                obtain ⟨r0, r1, r2, -, -, -⟩ := HR.out
                have q0 := (HA.out.keep (Keep.below HW.out)).cells (k := 0) (by omega)
                rw [Nat.add_zero, HXY.out.1] at q0
                have q1 := (HA.out.keep (Keep.below HW.out)).cells (k := n') (by omega)
                rw [HXY.out.2] at q1
                obtain ⟨wq, hwq⟩ : ∃ wq, wq = w8 := ⟨_, rfl⟩
                subst hwq
                go_wp2_with fail
                obtain ⟨C, Ci, Co⟩ := classOf wq
                refine quietC (C := C) (by kernel_rfl) (by kernel_rfl) (Co.out _ (Below.refl _ _).drew) ?_
                repeat (first
                  | go_big_quiet_skip
                  | (go_big_quiet_want; go_big_quiet_op; go_big_quiet_on)
                  | (refine quiet_yes (by rfl) ?_
                     apply Exists.intro
                     refine ⟨fun w' hC => ?_, ?_⟩
                     · have hbb := Ci.out _ hC
                       have zz0 := Keep.below hbb _ _ n0
                       have zz1 := Keep.below hbb _ _ n1
                       have zz2 := Keep.below hbb _ _ c0
                       have zz3 := Keep.below hbb _ _ c1
                       have zz4 := Keep.below hbb _ _ r0
                       have zz5 := Keep.below hbb _ _ r1
                       have zz6 := Keep.below hbb _ _ r2
                       have zz7 := Keep.below hbb _ _ q0
                       have zz8 := Keep.below hbb _ _ q1
                       go_simp
                       first
                         | done
                         | rfl
                         | (go_at_call 44
                            refine (rJoins_any N _ W A2 k2 X Y _ (hN0.out.keep (Keep.below (HW.out.trans (hbb.mono HW.out.size)))) (HA2.out.keep (Keep.below hbb)) S4.out).mono ?_
                            rintro e' w1 ⟨rfl, hb1⟩
                            rw [show decide (JoinsIs N W X Y) = true from decide_eq_true S2.out]
                            exact ⟨rfl, Co.out _ (hbb.trans (hb1.mono hbb.size))⟩)
                     simp only [Act.put, List.setIfInBounds_toArray, List.set_cons_zero, List.set_cons_succ]))
                refine wpQuiet_nil ?_
                intro wF hC7
                have hb7 := Ci.out _ hC7
                replace HW := Lib.hid (HW.out.trans (hb7.mono HW.out.size))
                replace BN := Lib.hid (BN.out.keep (Keep.below hb7))
                replace BT := Lib.hid (BT.out.keep (Keep.below hb7))
                replace HR := Lib.hid (HR.out.keep hb7)
                replace HA2 := Lib.hid (HA2.out.keep (Keep.below hb7))
                clear hb7 hC7 Ci Co C n0 n1 r0 r1 r2 q1 c0 c1
                by_cases hwz : W.length = 0
                · have e1 : ((W.length : Int) == 0) = true := by rw [hwz]; rfl
                  have e2 : (W.length : Int) = 0 := by omega
                  rw [hwz]
                  clear hwz
                  go_wp2_with fail
                  go_ret
                  exact ⟨rfl, HW.out⟩
                · have e1 : ((W.length : Int) == 0) = false := by simpa using hwz
                  have HWZ := Lib.hid hwz
                  have hw100 := HSHORT.out
                  clear hwz
                  obtain ⟨c0, c1⟩ := BT.out
                  have q0 := (HA.out.keep (Keep.below HW.out)).cells (k := 0) (by omega)
                  rw [Nat.add_zero, HXY.out.1] at q0
                  have HO1 := Lib.hid (ownOne wF (X : Int) wF.heap.size (Nat.le_refl _))
                  have HOB : Hid (Below wF.heap.size wF (wF.alloc (.cells #[.int .i64 (X : Int)] 3))) := Lib.hid ((Below.refl _ _).alloc (Nat.le_refl _) _)
                  go_wp2_with fail
                  clear c0 c1 q0
                  go_loopw [16, 17] (fun s i wr => ∃ k : Nat, k ≤ W.length ∧ i = .int .i64 k ∧ Hid (wr.ownsRow wF.heap.size 3 1 s (tolds N X W k).length (intVals (tolds N X W k))) ∧ Hid (Below wF.heap.size wF wr)) (fun _ i _ => W.length - (intOf i).toNat)
                  case atStart => exact ⟨0, Nat.zero_le _, rfl, Lib.hid HO1.out, HOB⟩
                  case round =>
                    obtain ⟨k, hk, rfl, HOk, HBk⟩ := hrel
                    have HXk := Lib.hid (HW.out.trans (HBk.out.mono HW.out.size))
                    have hbw := HA2.out.le
                    obtain ⟨hbw1, hbw2⟩ := hbw
                    by_cases hlt : k < W.length
                    · have hkn : (k : Int) < (W.length : Int) := by omega
                      obtain ⟨n0, n1⟩ := BN.out.keep (Keep.below HBk.out)
                      have hcw := HA2.out
                      obtain ⟨pb, po, hAe2, -⟩ := hcw.at_ hlt
                      subst hAe2
                      have x0 := (hcw.keep (Keep.below HBk.out)).cells hlt
                      have r0 := S4.out k hlt
                      obtain ⟨p2, hp2⟩ : ∃ p2 : Nat, listI W k = p2 := ⟨_, (Int.toNat_of_nonneg r0.1).symm⟩
                      have hpl : p2 < N.roads.length := by omega
                      have hpn : (p2 : Int) < (N.roads.length : Int) := by omega
                      have hR := M.out.roads.keep (Keep.below HXk.out)
                      obtain ⟨rb, ro, hRa, y⟩ := hR.at_ hpl
                      subst hRa
                      have y2 := y.c2
                      rw [hp2] at x0
                      have HP2 := Lib.hid (show listI W k = p2 from hp2)
                      have hn1B : w.heap.size < wF.heap.size := by have := World.block_lt_of_cell? wF _ BN.out.c0; exact this
                      have hpbB : pb < wF.heap.size := World.block_lt_of_cell? wF _ (hcw.cells hlt)
                      have hrbB : rb < w.heap.size := World.block_lt_of_cell? w _ (M.out.roads.at1 hpl)
                      clear y hR r0 hp2 hcw
                      obtain ⟨wQ, hwQ⟩ : ∃ wQ, wQ = wr := ⟨_, rfl⟩
                      subst hwQ
                      go_wp2_with fail
                      have HBd : Hid (Below wF.heap.size wQ wQ.drew) := Lib.hid (Below.refl _ _).drew
                      have MK : Hid (∀ w', Below wF.heap.size wQ w' → w'.cell? ⟨w.heap.size, 1, none⟩ = some (.slice (some ⟨rb, ro, none⟩) N.roads.length rc) ∧ w'.cell? ⟨pb, po + k, none⟩ = some (.int .i64 (p2 : Int)) ∧ w'.cell? ⟨rb, ro + p2 * 5 + 2, none⟩ = some (.int .i64 (listD N.roads p2).dst) ∧ Hid (Below wF.heap.size wQ w')) :=
                        Lib.hid fun w' hw => ⟨(hw.cell (p := ⟨w.heap.size, 1, none⟩) (by dsimp only; omega)).trans n1, (hw.cell (p := ⟨pb, po + k, none⟩) (by dsimp only; omega)).trans x0, (hw.cell (p := ⟨rb, ro + p2 * 5 + 2, none⟩) (by dsimp only; omega)).trans y2, Lib.hid hw⟩
                      have hsz := HBk.out.size
                      have htl := tolds_len N X W k
                      refine wp_region_held_drew (S := fun w' => w'.cell? ⟨w.heap.size, 1, none⟩ = some (.slice (some ⟨rb, ro, none⟩) N.roads.length rc) ∧ w'.cell? ⟨pb, po + k, none⟩ = some (.int .i64 (p2 : Int)) ∧ w'.cell? ⟨rb, ro + p2 * 5 + 2, none⟩ = some (.int .i64 (listD N.roads p2).dst) ∧ Hid (Below wF.heap.size wQ w')) (by kernel_rfl) (MK.out _ HBd.out) (fun hHeld => ?_)
                      refine wpAnyH_take (i := 0) (v := ?val0x21) rfl (by kernel_rfl) (by kernel_rfl) (by kernel_rfl) (fun _ _ _ h => h) (Or.inl ⟨by rfl, fun w9 hS9 => ?yields0x21⟩) (by assumption) ?later0x21
                      case yields0x21 =>
                        dsimp only at hS9
                        go_simp
                        try with_reducible rfl
                      try simp only [Act.put, List.getElem_toArray, List.getElem_cons_succ, List.getElem_cons_zero, List.setIfInBounds_toArray, List.set_cons_zero, List.set_cons_succ]
                      refine wpAnyH_take (i := 1) (v := ?val1x22) rfl (by kernel_rfl) (by kernel_rfl) (by kernel_rfl) (fun _ _ _ h => h) (Or.inl ⟨by rfl, fun w9 hS9 => ?yields1x22⟩) (by assumption) ?later1x22
                      case yields1x22 =>
                        dsimp only at hS9
                        go_simp
                        try with_reducible rfl
                      try simp only [Act.put, List.getElem_toArray, List.getElem_cons_succ, List.getElem_cons_zero, List.setIfInBounds_toArray, List.set_cons_zero, List.set_cons_succ]
                      refine wpAnyH_take (i := 2) (v := ?val2x23) rfl (by kernel_rfl) (by kernel_rfl) (by kernel_rfl) (fun _ _ _ h => h) (Or.inl ⟨by rfl, fun w9 hS9 => ?yields2x23⟩) (by assumption) ?later2x23
                      case yields2x23 =>
                        dsimp only at hS9
                        go_simp
                        try with_reducible rfl
                      try simp only [Act.put, List.getElem_toArray, List.getElem_cons_succ, List.getElem_cons_zero, List.setIfInBounds_toArray, List.set_cons_zero, List.set_cons_succ]
                      refine wpAnyH_take (i := 3) (v := ?val3x24) rfl (by kernel_rfl) (by kernel_rfl) (by kernel_rfl) (fun _ _ _ h => h) (Or.inl ⟨by rfl, fun w9 hS9 => ?yields3x24⟩) (by assumption) ?later3x24
                      case yields3x24 =>
                        dsimp only at hS9
                        go_simp
                        try with_reducible rfl
                      try simp only [Act.put, List.getElem_toArray, List.getElem_cons_succ, List.getElem_cons_zero, List.setIfInBounds_toArray, List.set_cons_zero, List.set_cons_succ]
                      refine wpAnyH_take (i := 4) (v := ?val4x25) rfl (by kernel_rfl) (by kernel_rfl) (by kernel_rfl) (fun _ _ _ h => h) (Or.inl ⟨by rfl, fun w9 hS9 => ?yields4x25⟩) (by assumption) ?later4x25
                      case yields4x25 =>
                        dsimp only at hS9
                        go_simp
                        try with_reducible rfl
                      try simp only [Act.put, List.getElem_toArray, List.getElem_cons_succ, List.getElem_cons_zero, List.setIfInBounds_toArray, List.set_cons_zero, List.set_cons_succ]
                      refine wpAnyH_take (i := 5) (v := ?val5x26) rfl (by kernel_rfl) (by kernel_rfl) (by kernel_rfl) (fun _ _ _ h => h) (Or.inl ⟨by rfl, fun w9 hS9 => ?yields5x26⟩) (by assumption) ?later5x26
                      case yields5x26 =>
                        dsimp only at hS9
                        go_simp
                        try with_reducible rfl
                      try simp only [Act.put, List.getElem_toArray, List.getElem_cons_succ, List.getElem_cons_zero, List.setIfInBounds_toArray, List.set_cons_zero, List.set_cons_succ]
                      refine wpAnyH_take (i := 6) (v := ?val6x27) rfl (by kernel_rfl) (by kernel_rfl) (by kernel_rfl) (fun _ _ _ h => h) (Or.inl ⟨by rfl, fun w9 hS9 => ?yields6x27⟩) (by assumption) ?later6x27
                      case yields6x27 =>
                        dsimp only at hS9
                        go_simp
                        try with_reducible rfl
                      try simp only [Act.put, List.getElem_toArray, List.getElem_cons_succ, List.getElem_cons_zero, List.setIfInBounds_toArray, List.set_cons_zero, List.set_cons_succ]
                      refine wpAnyH_take (i := 7) (v := ?val7x28) rfl (by kernel_rfl) (by kernel_rfl) (by kernel_rfl) (fun _ _ _ h => h) (Or.inl ⟨by rfl, fun w9 hS9 => ?yields7x28⟩) (by assumption) ?later7x28
                      case yields7x28 =>
                        dsimp only at hS9
                        go_simp
                        try with_reducible rfl
                      try simp only [Act.put, List.getElem_toArray, List.getElem_cons_succ, List.getElem_cons_zero, List.setIfInBounds_toArray, List.set_cons_zero, List.set_cons_succ]
                      refine wpAnyH_take (i := 8) (v := ?val8x29) rfl (by kernel_rfl) (by kernel_rfl) (by kernel_rfl) (fun _ _ _ h => h) (Or.inl ⟨by rfl, fun w9 hS9 => ?yields8x29⟩) (by assumption) ?later8x29
                      case yields8x29 =>
                        dsimp only at hS9
                        go_simp
                        try with_reducible rfl
                      try simp only [Act.put, List.getElem_toArray, List.getElem_cons_succ, List.getElem_cons_zero, List.setIfInBounds_toArray, List.set_cons_zero, List.set_cons_succ]
                      refine wpAnyH_take (i := 9) (v := ?val9x30) rfl (by kernel_rfl) (by kernel_rfl) (by kernel_rfl) (fun _ _ _ h => h) (Or.inl ⟨by rfl, fun w9 hS9 => ?yields9x30⟩) (by assumption) ?later9x30
                      case yields9x30 =>
                        dsimp only at hS9
                        go_simp
                        try with_reducible rfl
                      try simp only [Act.put, List.getElem_toArray, List.getElem_cons_succ, List.getElem_cons_zero, List.setIfInBounds_toArray, List.set_cons_zero, List.set_cons_succ]
                      refine wpAnyH_ready (rs := [10]) (by kernel_rfl) (by simp) ?_
                      refine AllReadyH.cons rfl (fun K hK => ?_) AllReadyH.nil
                      go_simp
                      refine hK.out _ _ ?_ (fun hHeld => ?_)
                      · (try dsimp only)
                        (go_split_ands; exact MK.out _ (Below.alloc (Hid.out (by assumption)) (by have := (Hid.out (by assumption) : Below wF.heap.size wQ _).size; omega) _))
                      clear hK K
                      try simp only [Act.put, List.getElem_toArray, List.getElem_cons_succ, List.getElem_cons_zero, List.setIfInBounds_toArray, List.set_cons_zero, List.set_cons_succ]
                      refine wpAnyH_ready (rs := [11]) (by kernel_rfl) (by simp) ?_
                      refine AllReadyH.cons rfl (fun K hK => ?_) AllReadyH.nil
                      rw [if_pos (by rfl)]
                      obtain ⟨hi, hz0, hz1, hz2⟩ := HINF.out
                      refine wp_append_own _ (.tmp 141) (.tmp 151) 47 rfl wF.heap.size 3 i0 (.int .i64 0) 1 8 Try.underlying47 hi hz0 hz1 hz2 rfl (by decide) _ _ _ rfl ((own_below HOk.out (Below.refl _ _).drew).alloc _) ⟨wQ.heap.size, 0, none⟩ 1 1 [.int .i64 (listD N.roads p2).dst] rfl rfl ?c1 ?c2 ?c3 ?c4 ?c5 ?_
                      case c1 => exact news0 _ _ _
                      case c2 => exact oneInt _
                      case c3 => unfold maxLen; omega
                      case c4 => omega
                      case c5 => simp; omega
                      intro v2 w2 hown2 hg2 _
                      have HB2 : Hid (Below wF.heap.size wQ w2) := Lib.hid ((((Below.refl _ _).drew).alloc (by simp; omega) _).grown hg2 (by simp; omega) (fun j hj => (HOk.out.lt j hj).1))
                      have HO2 : Hid (w2.ownsRow wF.heap.size 3 1 v2 (tolds N X W (k + 1)).length (intVals (tolds N X W (k + 1)))) := by
                        rw [tolds, intVals_snoc, List.length_append, HP2.out, Int.toNat_natCast]
                        exact Lib.hid hown2
                      clear hown2 hg2 hi hz0 hz1 hz2
                      refine hK.out _ _ (MK.out _ HB2.out) (fun hHeld => ?_)
                      clear hK K
                      try simp only [Act.put, List.getElem_toArray, List.getElem_cons_succ, List.getElem_cons_zero, List.setIfInBounds_toArray, List.set_cons_zero, List.set_cons_succ]
                      refine wpAnyH_take (i := 12) (v := ?val12x31) rfl (by kernel_rfl) (by kernel_rfl) (by kernel_rfl) (fun _ _ _ h => h) (Or.inl ⟨by rfl, fun w9 hS9 => ?yields12x31⟩) (by assumption) ?later12x31
                      case yields12x31 =>
                        dsimp only at hS9
                        go_simp
                        try with_reducible rfl
                      try simp only [Act.put, List.getElem_toArray, List.getElem_cons_succ, List.getElem_cons_zero, List.setIfInBounds_toArray, List.set_cons_zero, List.set_cons_succ]
                      refine wpAnyH_done (by kernel_rfl) ?_ _
                      obtain ⟨-, -, -, hbb⟩ := hHeld
                      go_wp2_with fail
                      go_roundw
                      case rel => exact ⟨k + 1, by omega, by go_num, HO2, Lib.hid (HBk.out.trans hbb.out)⟩
                      case measure => simp [intOf]; omega
                    · obtain rfl : k = W.length := by omega
                      have HBK := Lib.hid (HBACK.out HWZ.out)
                      clear hlt hk
                      obtain ⟨B', d', hv, harr⟩ := own_arr HOk.out
                      subst hv
                      have HTT := Lib.hid harr
                      clear harr
                      obtain ⟨n0, n1⟩ := BN.out.keep (Keep.below HBk.out)
                      go_wp2_with fail
                      refine (copyNet_any N _ _ (hN0.out.keep (Keep.below HXk.out)) HL.out.1 HL.out.2.1 HL.out.2.2).mono ?_
                      rintro e' wY ⟨vY, rfl, hY, hb1⟩
                      have HXY2 := Lib.hid (HXk.out.trans (hb1.mono HXk.out.size))
                      have HT2 := Lib.hid (HTT.out.keep (Keep.below hb1))
                      clear hb1 n0 n1
                      go_wp2_with fail
                      refine (examined_any N _ (tolds N X W W.length) B' d' 0 _ hY HT2.out).mono ?_
                      rintro e' wZ ⟨rfl, hb1⟩
                      have HXZ := Lib.hid (HXY2.out.trans (hb1.mono HXY2.out.size))
                      rw [HBK.out]
                      have HZ0 := Lib.hid (ResAt.new wZ (.int .i64 z) (.int .i64 z) (.bool true) 113)
                      have HZB := Lib.hid (HXZ.out.alloc HXZ.out.size (.cells #[.int .i64 z, .int .i64 z, .bool true] 113))
                      obtain ⟨z0, z1, z2, -, -, -⟩ := HZ0.out
                      clear hb1 hY
                      go_wp2_with fail
                      go_ret
                      exact ⟨rfl, HZB.out⟩
            · have e1 : ((examined N l m).2 == 0) = false := by simpa using hr
              have e2 : ((examined N l m).2 != 0) = true := by simpa using hr
              clear hr
              go_wp2_with fail
              go_ret
              exact ⟨rfl, HW.out⟩
          · have e1 : (netErr N == 0) = false := by simpa using he
            have e2 : (netErr N != 0) = true := by simpa using he
            have hx : examined N l m = ((0, 0, false), netErr N) := by
              have hh : exErr N l m = netErr N := by unfold exErr; rw [fst2, if_neg he]
              unfold examined; rw [if_neg (by rw [hh]; exact he), hh]
            rw [hx] at HR
            rw [hx]
            clear he hx
            obtain ⟨r0, r1, r2, -, -, -⟩ := HR.out
            go_wp2_with fail
            go_ret
            exact ⟨rfl, HW.out⟩
end Go.Proofs.Ythipneggplebcaa

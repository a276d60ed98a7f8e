/- The law of proofs by labels: which are accepted; no way arrives earlier. No condition. -/
import Derived.Test.YthipneggplebcaaT35
import Derived.Test.YthipneggplebcaaT58
import Derived.Test.YthipneggplebcaaT64p
import Derived.Deep.CutBlock
namespace Go.Proofs.Ythipneggplebcaa
open Go.RowKit Fs

set_option maxHeartbeats 12800000 in
set_option maxRecDepth 100000 in
theorem law64_any (N : Net) (v : Value) (f t a : Int) (l m q : List Int) (A B D : Option Addr) (c d g : Nat) (w : World) (hN : RdNet w v N) (hA : ArrI w A l c) (hB : ArrI w B m d) (hD : ArrI w D q g) :
    Calls Try.prog 7 #[v, stripV f t a, .agg #[.slice A l.length c, .slice B m.length d, .slice D q.length g]] w fun e w' => e = .returned (.bool true) ∧ Below w.heap.size w w' := by
  have hN0 := Lib.hid hN
  obtain ⟨P, R, pc, rc, ar, rfl, mm⟩ := hN
  clear mm
  have HA := Lib.hid hA
  have HBB := Lib.hid hB
  have HD := Lib.hid hD
  have b1 := hA.le
  have b2 := hB.le
  have b3 := hD.le
  obtain ⟨ba1, ba2⟩ := b1
  obtain ⟨bb1, bb2⟩ := b2
  obtain ⟨bd1, bd2⟩ := b3
  clear hA hB hD
  have BN := Lib.hid ((BoxN.new w N P R pc rc 25).keep ((Keep.alloc _ (.cells #[.int .i64 f, .int .i64 t, .int .i64 a] 63)).trans (Keep.alloc _ (.cells #[.slice A l.length c, .slice B m.length d, .slice D q.length g] 76))))
  have BT := Lib.hid ((TripAt.new1 w (.cells #[.slice P N.places.length pc, .slice R N.roads.length rc] 25) f t a 63).keep (Keep.alloc _ (.cells #[.slice A l.length c, .slice B m.length d, .slice D q.length g] 76)))
  have BC := Lib.hid (TriAt.new2 w (.cells #[.slice P N.places.length pc, .slice R N.roads.length rc] 25) (.cells #[.int .i64 f, .int .i64 t, .int .i64 a] 63) (.slice A l.length c) (.slice B m.length d) (.slice D q.length g) 76)
  go_enter Try.func7, Try.ntmps7
  go_upto_region 1 with fail
  generalize hwb : ((w.alloc _).alloc _).alloc _ = wb at *
  have HW : Hid (Below w.heap.size w wb) := by rw [← hwb]; exact Lib.hid ((((Below.refl _ _).alloc (Nat.le_refl _) _).alloc (by simp) _).alloc (by simp; omega) _)
  clear hwb
  obtain ⟨n0, n1⟩ := BN.out
  obtain ⟨c0, c1, c2⟩ := BT.out
  obtain ⟨x0, x1, x2⟩ := BC.out
  go_wp2_with fail
  refine (awake_any _).mono ?_
  rintro e' w1 ⟨rfl, hb1⟩
  replace HW := Lib.hid (HW.out.trans (hb1.mono HW.out.size))
  replace BN := Lib.hid (BN.out.keep (Keep.below hb1))
  replace BT := Lib.hid (BT.out.keep (Keep.below hb1))
  replace BC := Lib.hid (BC.out.keep (Keep.below hb1))
  clear n0 n1 c0 c1 c2 x0 x1 x2
  clear hb1
  obtain ⟨n0, n1⟩ := BN.out
  obtain ⟨c0, c1, c2⟩ := BT.out
  obtain ⟨x0, x1, x2⟩ := BC.out
  go_wp2_with fail
  refine (few_any N _ _ (hN0.out.keep (Keep.below HW.out))).mono ?_
  rintro e' wA ⟨rfl, hb1⟩
  replace HW := Lib.hid (HW.out.trans (hb1.mono HW.out.size))
  replace BN := Lib.hid (BN.out.keep (Keep.below hb1))
  replace BT := Lib.hid (BT.out.keep (Keep.below hb1))
  replace BC := Lib.hid (BC.out.keep (Keep.below hb1))
  clear n0 n1 c0 c1 c2 x0 x1 x2
  clear hb1
  cases hf : fewN N with
  | false =>
    go_wp2_with fail
    go_ret
    exact ⟨rfl, HW.out⟩
  | true =>
    have HL := Lib.hid (few_lens hf)
    clear hf
    obtain ⟨x0, x1, x2⟩ := BC.out
    by_cases h1 : l.length ≤ 22
    · have d1 : decide ((l.length : Int) > 22) = false := decide_eq_false (by omega)
      have g1 : decide (22 < (l.length : Int)) = false := decide_eq_false (by omega)
      by_cases h2 : m.length ≤ 22
      · have d2 : decide ((m.length : Int) > 22) = false := decide_eq_false (by omega)
        have g2 : decide (22 < (m.length : Int)) = false := decide_eq_false (by omega)
        by_cases h3 : q.length ≤ 12
        · have d3 : decide ((q.length : Int) > 12) = false := decide_eq_false (by omega)
          have g3 : decide (12 < (q.length : Int)) = false := decide_eq_false (by omega)
          obtain ⟨n0, n1⟩ := BN.out
          obtain ⟨c0, c1, c2⟩ := BT.out
          go_wp2_with fail
          go_cut [7, 8] from 40 to 50 (fun s1 s2 wx => ∃ g : Nat, s1 = .pointer (some ⟨g, 0, none⟩) ∧ s2 = .int .i64 (cl N f t a l m).2 ∧ wA.heap.size ≤ g ∧ Hid (TreeAt wx g (.int .i64 (cl N f t a l m).1.1) (.int .i64 (cl N f t a l m).1.2)) ∧ Hid (Below wA.heap.size wA wx))
          case first =>
            have HBd : Hid (Below wA.heap.size wA wA.drew) := Lib.hid (Below.refl _ _).drew
            have MK : Hid (∀ w', Below wA.heap.size wA w' → w'.cell? ⟨w.heap.size, 0, none⟩ = some (.slice P N.places.length pc) ∧ w'.cell? ⟨w.heap.size, 1, none⟩ = some (.slice R N.roads.length rc) ∧ w'.cell? ⟨w.heap.size + 1, 0, none⟩ = some (.int .i64 f) ∧ w'.cell? ⟨w.heap.size + 1, 1, none⟩ = some (.int .i64 t) ∧ w'.cell? ⟨w.heap.size + 1, 2, none⟩ = some (.int .i64 a) ∧ w'.cell? ⟨w.heap.size + 1 + 1, 0, none⟩ = some (.slice A l.length c) ∧ w'.cell? ⟨w.heap.size + 1 + 1, 1, none⟩ = some (.slice B m.length d) ∧ w'.cell? ⟨w.heap.size + 1 + 1, 2, none⟩ = some (.slice D q.length g) ∧ Hid (Below wA.heap.size wA w')) :=
              Lib.hid fun w' hw => ⟨Keep.below hw _ _ n0, Keep.below hw _ _ n1, Keep.below hw _ _ c0, Keep.below hw _ _ c1, Keep.below hw _ _ c2, Keep.below hw _ _ x0, Keep.below hw _ _ x1, Keep.below hw _ _ x2, Lib.hid hw⟩
            have KN : Hid (∀ w', Below wA.heap.size wA w' → RdNet w' (netV N P R pc rc) N) := Lib.hid fun w' hw => (hN0.out.keep (Keep.below (HW.out.trans (hw.mono HW.out.size))))
            have KA : Hid (∀ w', Below wA.heap.size wA w' → ArrI w' A l c) := Lib.hid fun w' hw => (HA.out.keep (Keep.below (HW.out.trans (hw.mono HW.out.size))))
            have KB : Hid (∀ w', Below wA.heap.size wA w' → ArrI w' B m d) := Lib.hid fun w' hw => (HBB.out.keep (Keep.below (HW.out.trans (hw.mono HW.out.size))))
            have KD : Hid (∀ w', Below wA.heap.size wA w' → ArrI w' D q g) := Lib.hid fun w' hw => (HD.out.keep (Keep.below (HW.out.trans (hw.mono HW.out.size))))
            go_region_held3 (fun w' => w'.cell? ⟨w.heap.size, 0, none⟩ = some (.slice P N.places.length pc) ∧ w'.cell? ⟨w.heap.size, 1, none⟩ = some (.slice R N.roads.length rc) ∧ w'.cell? ⟨w.heap.size + 1, 0, none⟩ = some (.int .i64 f) ∧ w'.cell? ⟨w.heap.size + 1, 1, none⟩ = some (.int .i64 t) ∧ w'.cell? ⟨w.heap.size + 1, 2, none⟩ = some (.int .i64 a) ∧ w'.cell? ⟨w.heap.size + 1 + 1, 0, none⟩ = some (.slice A l.length c) ∧ w'.cell? ⟨w.heap.size + 1 + 1, 1, none⟩ = some (.slice B m.length d) ∧ w'.cell? ⟨w.heap.size + 1 + 1, 2, none⟩ = some (.slice D q.length g) ∧ Hid (Below wA.heap.size wA w'))
              (first
                | exact MK.out _ HBd.out
                | (go_split_ands; exact ⟨by assumption, by assumption, by assumption, by assumption, by assumption, by assumption, by assumption, by assumption, by assumption⟩)
                | (go_split_ands; exact MK.out _ (Below.trans (Hid.out (by assumption)) (hb1.mono (Hid.out (by assumption) : Below wA.heap.size wA _).size)))
                | (go_split_ands; exact MK.out _ (Below.alloc (Hid.out (by assumption)) (Hid.out (by assumption) : Below wA.heap.size wA _).size _))
                | (go_split_ands; exact MK.out _ (below_realloc (Hid.out (by assumption)) hle _))
                | (go_split_ands; exact MK.out _ (Below.setCell (Below.setCell (Hid.out (by assumption)) (by show wA.heap.size ≤ _; first | exact Nat.le_refl _ | assumption | omega | (simp; done) | (simp; omega)) _) (by show wA.heap.size ≤ _; first | exact Nat.le_refl _ | assumption | omega | (simp; done) | (simp; omega)) _)))
              ((first
                | (go_at_call 21
                   go_split_ands
                   refine (copyNet_any N _ _ (KN.out _ (Hid.out (by assumption))) HL.out.1 HL.out.2.1 HL.out.2.2).mono ?_
                   rintro e' w5 ⟨v5, rfl, h5, hb1⟩
                   have hle := Nat.le_trans (Hid.out (by assumption) : Below wA.heap.size wA _).size hb1.size
                   have H5 := Lib.hid h5
                   clear h5
                   try (have H6 := Lib.hid (by first | exact H6.out.keep (Keep.below hb1) | exact (H6.out.keep (Keep.alloc _ _)).keep (Keep.below hb1) : TwoI w5 A6 l k6 B6 m j6))
                   try (first
                     | (have HT0 := (HT.out.keep hb1 : TreeAt _ _ (.int .i64 0) (.int .i64 0)); (try simp only [size_drew] at HT0); (try simp only [World.size_alloc] at HT0); (try simp only [size_drew] at HT0); have HT := Lib.hid HT0; clear HT0; obtain ⟨q0, q1, qf0, qf1⟩ := HT.out)
                     | (have HT0 := ((TreeAt.new _ _ _ 35).keep hb1 : TreeAt _ _ (.int .i64 0) (.int .i64 0)); (try simp only [size_drew] at HT0); (try simp only [World.size_alloc] at HT0); (try simp only [size_drew] at HT0); have HT := Lib.hid HT0; clear HT0; obtain ⟨q0, q1, qf0, qf1⟩ := HT.out)
                     | (have HT0 := ((TreeAt.new _ _ _ 35).keepD hb1 : TreeAt _ _ (.int .i64 0) (.int .i64 0)); (try simp only [size_drew] at HT0); (try simp only [World.size_alloc] at HT0); (try simp only [size_drew] at HT0); have HT := Lib.hid HT0; clear HT0; obtain ⟨q0, q1, qf0, qf1⟩ := HT.out)))
                | (go_at_call 42
                   go_split_ands
                   refine (copyLabelsT_any l m A B c d _ (KA.out _ (Hid.out (by assumption))) (KB.out _ (Hid.out (by assumption))) (by omega) (by omega)).mono ?_
                   rintro e' w6 ⟨A6, k6, B6, j6, rfl, h6, hb1⟩
                   have hle := Nat.le_trans (Hid.out (by assumption) : Below wA.heap.size wA _).size hb1.size
                   have H6 := Lib.hid h6
                   clear h6
                   try (have H5 := Lib.hid (by first | exact H5.out.keep (Keep.below hb1) | exact (H5.out.keep (Keep.alloc _ _)).keep (Keep.below hb1) : RdNet w6 v5 N))
                   try (first
                     | (have HT0 := (HT.out.keep hb1 : TreeAt _ _ (.int .i64 0) (.int .i64 0)); (try simp only [size_drew] at HT0); (try simp only [World.size_alloc] at HT0); (try simp only [size_drew] at HT0); have HT := Lib.hid HT0; clear HT0; obtain ⟨q0, q1, qf0, qf1⟩ := HT.out)
                     | (have HT0 := ((TreeAt.new _ _ _ 35).keep hb1 : TreeAt _ _ (.int .i64 0) (.int .i64 0)); (try simp only [size_drew] at HT0); (try simp only [World.size_alloc] at HT0); (try simp only [size_drew] at HT0); have HT := Lib.hid HT0; clear HT0; obtain ⟨q0, q1, qf0, qf1⟩ := HT.out)
                     | (have HT0 := ((TreeAt.new _ _ _ 35).keepD hb1 : TreeAt _ _ (.int .i64 0) (.int .i64 0)); (try simp only [size_drew] at HT0); (try simp only [World.size_alloc] at HT0); (try simp only [size_drew] at HT0); have HT := Lib.hid HT0; clear HT0; obtain ⟨q0, q1, qf0, qf1⟩ := HT.out)))
                | (go_at_call 41
                   go_split_ands
                   refine (checkLabels_any N _ f t a l m A6 B6 k6 j6 _ (by first | exact H5.out | exact H5.out.keep (Keep.alloc _ _)) (by first | exact H6.out.1 | exact H6.out.1.keep (Keep.alloc _ _)) (by first | exact H6.out.2 | exact H6.out.2.keep (Keep.alloc _ _)) (by omega) (by omega)).mono ?_
                   rintro e' w7 ⟨rfl, hb1⟩
                   have hle := Nat.le_trans (Hid.out (by assumption) : Below wA.heap.size wA _).size hb1.size
                   try (first
                     | (have HT0 := (HT.out.keep hb1 : TreeAt _ _ (.int .i64 0) (.int .i64 0)); (try simp only [size_drew] at HT0); (try simp only [World.size_alloc] at HT0); (try simp only [size_drew] at HT0); have HT := Lib.hid HT0; clear HT0; obtain ⟨q0, q1, qf0, qf1⟩ := HT.out)
                     | (have HT0 := ((TreeAt.new _ _ _ 35).keep hb1 : TreeAt _ _ (.int .i64 0) (.int .i64 0)); (try simp only [size_drew] at HT0); (try simp only [World.size_alloc] at HT0); (try simp only [size_drew] at HT0); have HT := Lib.hid HT0; clear HT0; obtain ⟨q0, q1, qf0, qf1⟩ := HT.out)
                     | (have HT0 := ((TreeAt.new _ _ _ 35).keepD hb1 : TreeAt _ _ (.int .i64 0) (.int .i64 0)); (try simp only [size_drew] at HT0); (try simp only [World.size_alloc] at HT0); (try simp only [size_drew] at HT0); have HT := Lib.hid HT0; clear HT0; obtain ⟨q0, q1, qf0, qf1⟩ := HT.out)))))
            all_goals
              rename_i hS
              obtain ⟨-, -, -, -, -, -, -, -, hbb⟩ := hS
              go_wp2_with fail
              go_meet
              first
                | exact ⟨_, rfl, rfl, by omega, Lib.hid (TreeAt.new _ _ _ _), hbb⟩
                | exact ⟨_, rfl, rfl, by omega, Lib.hid (HT.out.set _ _), hbb⟩
          case rest =>
            obtain ⟨u1, rfl, rfl, hg, HT, HB⟩ := hcut
            obtain ⟨wB, hwB⟩ : ∃ wz, wz = wc := ⟨_, rfl⟩
            subst hwB
            replace HW := Lib.hid (HW.out.trans (HB.out.mono HW.out.size))
            replace BN := Lib.hid (BN.out.keep (Keep.below HB.out))
            replace BT := Lib.hid (BT.out.keep (Keep.below HB.out))
            replace BC := Lib.hid (BC.out.keep (Keep.below HB.out))
            clear HB n0 n1 c0 c1 c2 x0 x1 x2
            obtain ⟨n0, n1⟩ := BN.out
            obtain ⟨c0, c1, c2⟩ := BT.out
            obtain ⟨x0, x1, x2⟩ := BC.out
            obtain ⟨t0, t1, -, -⟩ := HT.out
            go_wp2_with fail
            refine (rNetErr_any N _ _ (hN0.out.keep (Keep.below HW.out))).mono ?_
            rintro e' w3 ⟨rfl, hb1⟩
            replace HW := Lib.hid (HW.out.trans (hb1.mono HW.out.size))
            replace BN := Lib.hid (BN.out.keep (Keep.below hb1))
            replace BT := Lib.hid (BT.out.keep (Keep.below hb1))
            replace BC := Lib.hid (BC.out.keep (Keep.below hb1))
            replace HT := Lib.hid (HT.out.keep hb1)
            clear n0 n1 c0 c1 c2 x0 x1 x2 t0 t1
            clear hb1
            by_cases he : netErr N = 0
            · have HE := Lib.hid he
              rw [he]
              clear he
              obtain ⟨n0, n1⟩ := BN.out
              obtain ⟨c0, c1, c2⟩ := BT.out
              obtain ⟨x0, x1, x2⟩ := BC.out
              obtain ⟨t0, t1, -, -⟩ := HT.out
              go_wp2_with fail
              refine (rTripErr_any N _ f t a _ (hN0.out.keep (Keep.below HW.out))).mono ?_
              rintro e' w4 ⟨rfl, hb1⟩
              replace HW := Lib.hid (HW.out.trans (hb1.mono HW.out.size))
              replace BN := Lib.hid (BN.out.keep (Keep.below hb1))
              replace BT := Lib.hid (BT.out.keep (Keep.below hb1))
              replace BC := Lib.hid (BC.out.keep (Keep.below hb1))
              replace HT := Lib.hid (HT.out.keep hb1)
              clear n0 n1 c0 c1 c2 x0 x1 x2 t0 t1
              clear hb1
              by_cases ht : tripErr N f t a = 0
              · have HTE := Lib.hid ht
                rw [ht]
                obtain ⟨hpf, hpt, hta⟩ := tripErr_ok ht
                clear ht
                obtain ⟨f0, f1⟩ := isPlace_in hpf
                obtain ⟨t0, t1⟩ := isPlace_in hpt
                have hta := timeErr_ok hta
                obtain ⟨X, hX⟩ : ∃ X : Nat, f = X := ⟨_, (Int.toNat_of_nonneg f0).symm⟩
                obtain ⟨Y, hY⟩ : ∃ Y : Nat, t = Y := ⟨_, (Int.toNat_of_nonneg t0).symm⟩
                subst hX; subst hY
                clear hpf hpt
                have hXl : X < N.places.length := by omega
                have hYl : Y < N.places.length := by omega
                rw [cl_is HE.out HTE.out] at HT ⊢
                clear f0 f1 t0 t1
                obtain ⟨n0, n1⟩ := BN.out
                obtain ⟨c0, c1, c2⟩ := BT.out
                obtain ⟨x0, x1, x2⟩ := BC.out
                obtain ⟨t0, t1, -, -⟩ := HT.out
                go_wp2_with fail
                refine (rCheckLabels_any N _ X Y a l m A B c d _ (hN0.out.keep (Keep.below HW.out)) (HA.out.keep (Keep.below HW.out)) (HBB.out.keep (Keep.below HW.out)) HE.out hXl hYl).mono ?_
                rintro e' w5 ⟨rfl, hb1⟩
                replace HW := Lib.hid (HW.out.trans (hb1.mono HW.out.size))
                replace BN := Lib.hid (BN.out.keep (Keep.below hb1))
                replace BT := Lib.hid (BT.out.keep (Keep.below hb1))
                replace BC := Lib.hid (BC.out.keep (Keep.below hb1))
                replace HT := Lib.hid (HT.out.keep hb1)
                clear n0 n1 c0 c1 c2 x0 x1 x2 t0 t1
                clear hb1
                have HU := Lib.hid (TreeAt.new w5 (.int .i64 (rcl N X Y a l m).1.1) (.int .i64 (rcl N X Y a l m).1.2) 35)
                have hb8 : Below w5.heap.size w5 (w5.alloc (.cells #[.int .i64 (rcl N X Y a l m).1.1, .int .i64 (rcl N X Y a l m).1.2] 35)) := (Below.refl _ _).alloc (Nat.le_refl _) _
                replace HW := Lib.hid (HW.out.trans (hb8.mono HW.out.size))
                replace BN := Lib.hid (BN.out.keep (Keep.below hb8))
                replace BT := Lib.hid (BT.out.keep (Keep.below hb8))
                replace BC := Lib.hid (BC.out.keep (Keep.below hb8))
                replace HT := Lib.hid (HT.out.keep hb8)
                clear hb8
                obtain ⟨n0, n1⟩ := BN.out
                obtain ⟨c0, c1, c2⟩ := BT.out
                obtain ⟨x0, x1, x2⟩ := BC.out
                obtain ⟨t0, t1, -, -⟩ := HT.out
                obtain ⟨u0, u1, -, -⟩ := HU.out
                go_wp2_with fail
                refine (rWayErr_any N _ q D g _ (hN0.out.keep (Keep.below HW.out)) (HD.out.keep (Keep.below HW.out))).mono ?_
                rintro e' w6 ⟨rfl, hb1⟩
                replace HW := Lib.hid (HW.out.trans (hb1.mono HW.out.size))
                replace BN := Lib.hid (BN.out.keep (Keep.below hb1))
                replace BT := Lib.hid (BT.out.keep (Keep.below hb1))
                replace BC := Lib.hid (BC.out.keep (Keep.below hb1))
                replace HT := Lib.hid (HT.out.keep hb1)
                replace HU := Lib.hid (HU.out.keep hb1)
                clear n0 n1 c0 c1 c2 x0 x1 x2 t0 t1 u0 u1
                clear hb1
                by_cases hr : (rcl N X Y a l m).2 = 0
                · have HR := Lib.hid hr
                  by_cases hw : wayErr N q = 0
                  · have HQ := Lib.hid hw
                    rw [hr, hw]
                    clear hr hw
                    obtain ⟨n0, n1⟩ := BN.out
                    obtain ⟨c0, c1, c2⟩ := BT.out
                    obtain ⟨x0, x1, x2⟩ := BC.out
                    obtain ⟨t0, t1, -, -⟩ := HT.out
                    obtain ⟨u0, u1, -, -⟩ := HU.out
                    go_wp2_with fail
                    refine (rJoins_any N _ q D g X Y _ (hN0.out.keep (Keep.below HW.out)) (HD.out.keep (Keep.below HW.out)) (fun j hj => ((way_ok HQ.out).2 j hj).1)).mono ?_
                    rintro e' wG ⟨rfl, hb1⟩
                    replace HW := Lib.hid (HW.out.trans (hb1.mono HW.out.size))
                    replace BN := Lib.hid (BN.out.keep (Keep.below hb1))
                    replace BT := Lib.hid (BT.out.keep (Keep.below hb1))
                    replace BC := Lib.hid (BC.out.keep (Keep.below hb1))
                    replace HT := Lib.hid (HT.out.keep hb1)
                    replace HU := Lib.hid (HU.out.keep hb1)
                    clear n0 n1 c0 c1 c2 x0 x1 x2 t0 t1 u0 u1
                    clear hb1
                    by_cases hj : JoinsIs N q X Y
                    · have HBD := Lib.hid (rcl_bound HR.out HE.out HQ.out hj)
                      have HAO := Lib.hid (arrOf_ok HE.out HQ.out hta)
                      rw [show decide (JoinsIs N q X Y) = true from decide_eq_true hj]
                      clear hj
                      obtain ⟨n0, n1⟩ := BN.out
                      obtain ⟨c0, c1, c2⟩ := BT.out
                      obtain ⟨x0, x1, x2⟩ := BC.out
                      go_wp2_with fail
                      go_cut [13, 14] from 107 to 118 (fun s1 s2 wx => ∃ g : Nat, s1 = .pointer (some ⟨g, 0, none⟩) ∧ s2 = .int .i64 (arrOf N q a).2 ∧ wG.heap.size ≤ g ∧ Hid (TreeAt wx g (.int .i64 (arrOf N q a).1.1) (.int .i64 (arrOf N q a).1.2)) ∧ Hid (Below wG.heap.size wG wx))
                      case first =>
                        have HBd : Hid (Below wG.heap.size wG wG.drew) := Lib.hid (Below.refl _ _).drew
                        have MK : Hid (∀ w', Below wG.heap.size wG w' → w'.cell? ⟨w.heap.size, 0, none⟩ = some (.slice P N.places.length pc) ∧ w'.cell? ⟨w.heap.size, 1, none⟩ = some (.slice R N.roads.length rc) ∧ w'.cell? ⟨w.heap.size + 1, 0, none⟩ = some (.int .i64 X) ∧ w'.cell? ⟨w.heap.size + 1, 1, none⟩ = some (.int .i64 Y) ∧ w'.cell? ⟨w.heap.size + 1, 2, none⟩ = some (.int .i64 a) ∧ w'.cell? ⟨w.heap.size + 1 + 1, 0, none⟩ = some (.slice A l.length c) ∧ w'.cell? ⟨w.heap.size + 1 + 1, 1, none⟩ = some (.slice B m.length d) ∧ w'.cell? ⟨w.heap.size + 1 + 1, 2, none⟩ = some (.slice D q.length g) ∧ Hid (Below wG.heap.size wG w')) :=
                          Lib.hid fun w' hw => ⟨Keep.below hw _ _ n0, Keep.below hw _ _ n1, Keep.below hw _ _ c0, Keep.below hw _ _ c1, Keep.below hw _ _ c2, Keep.below hw _ _ x0, Keep.below hw _ _ x1, Keep.below hw _ _ x2, Lib.hid hw⟩
                        have KN : Hid (∀ w', Below wG.heap.size wG w' → RdNet w' (netV N P R pc rc) N) := Lib.hid fun w' hw => (hN0.out.keep (Keep.below (HW.out.trans (hw.mono HW.out.size))))
                        have KA : Hid (∀ w', Below wG.heap.size wG w' → ArrI w' A l c) := Lib.hid fun w' hw => (HA.out.keep (Keep.below (HW.out.trans (hw.mono HW.out.size))))
                        have KB : Hid (∀ w', Below wG.heap.size wG w' → ArrI w' B m d) := Lib.hid fun w' hw => (HBB.out.keep (Keep.below (HW.out.trans (hw.mono HW.out.size))))
                        have KD : Hid (∀ w', Below wG.heap.size wG w' → ArrI w' D q g) := Lib.hid fun w' hw => (HD.out.keep (Keep.below (HW.out.trans (hw.mono HW.out.size))))
                        go_region_held3 (fun w' => w'.cell? ⟨w.heap.size, 0, none⟩ = some (.slice P N.places.length pc) ∧ w'.cell? ⟨w.heap.size, 1, none⟩ = some (.slice R N.roads.length rc) ∧ w'.cell? ⟨w.heap.size + 1, 0, none⟩ = some (.int .i64 X) ∧ w'.cell? ⟨w.heap.size + 1, 1, none⟩ = some (.int .i64 Y) ∧ w'.cell? ⟨w.heap.size + 1, 2, none⟩ = some (.int .i64 a) ∧ w'.cell? ⟨w.heap.size + 1 + 1, 0, none⟩ = some (.slice A l.length c) ∧ w'.cell? ⟨w.heap.size + 1 + 1, 1, none⟩ = some (.slice B m.length d) ∧ w'.cell? ⟨w.heap.size + 1 + 1, 2, none⟩ = some (.slice D q.length g) ∧ Hid (Below wG.heap.size wG w'))
                          (first
                            | exact MK.out _ HBd.out
                            | (go_split_ands; exact ⟨by assumption, by assumption, by assumption, by assumption, by assumption, by assumption, by assumption, by assumption, by assumption⟩)
                            | (go_split_ands; exact MK.out _ (Below.trans (Hid.out (by assumption)) (hb1.mono (Hid.out (by assumption) : Below wG.heap.size wG _).size)))
                            | (go_split_ands; exact MK.out _ (Below.alloc (Hid.out (by assumption)) (Hid.out (by assumption) : Below wG.heap.size wG _).size _))
                            | (go_split_ands; exact MK.out _ (below_realloc (Hid.out (by assumption)) hle _))
                            | (go_split_ands; exact MK.out _ (Below.setCell (Below.setCell (Hid.out (by assumption)) (by show wG.heap.size ≤ _; first | exact Nat.le_refl _ | assumption | omega | (simp; done) | (simp; omega)) _) (by show wG.heap.size ≤ _; first | exact Nat.le_refl _ | assumption | omega | (simp; done) | (simp; omega)) _)))
                          ((first
                            | (go_at_call 21
                               go_split_ands
                               refine (copyNet_any N _ _ (KN.out _ (Hid.out (by assumption))) HL.out.1 HL.out.2.1 HL.out.2.2).mono ?_
                               rintro e' w5 ⟨v5, rfl, h5, hb1⟩
                               have hle := Nat.le_trans (Hid.out (by assumption) : Below wG.heap.size wG _).size hb1.size
                               have H5 := Lib.hid h5
                               clear h5
                               try (have H6 := Lib.hid (by first | exact H6.out.keep (Keep.below hb1) | exact (H6.out.keep (Keep.alloc _ _)).keep (Keep.below hb1) : ArrI w5 A6 q k6))
                               try (first
                                 | (have HT0 := (HT.out.keep hb1 : TreeAt _ _ (.int .i64 0) (.int .i64 0)); (try simp only [size_drew] at HT0); (try simp only [World.size_alloc] at HT0); (try simp only [size_drew] at HT0); have HT := Lib.hid HT0; clear HT0; obtain ⟨q0, q1, qf0, qf1⟩ := HT.out)
                                 | (have HT0 := ((TreeAt.new _ _ _ 35).keep hb1 : TreeAt _ _ (.int .i64 0) (.int .i64 0)); (try simp only [size_drew] at HT0); (try simp only [World.size_alloc] at HT0); (try simp only [size_drew] at HT0); have HT := Lib.hid HT0; clear HT0; obtain ⟨q0, q1, qf0, qf1⟩ := HT.out)
                                 | (have HT0 := ((TreeAt.new _ _ _ 35).keepD hb1 : TreeAt _ _ (.int .i64 0) (.int .i64 0)); (try simp only [size_drew] at HT0); (try simp only [World.size_alloc] at HT0); (try simp only [size_drew] at HT0); have HT := Lib.hid HT0; clear HT0; obtain ⟨q0, q1, qf0, qf1⟩ := HT.out)))
                            | (go_at_call 29
                               go_split_ands
                               refine (copyInts_any q D g _ (KD.out _ (Hid.out (by assumption))) (by omega)).mono ?_
                               rintro e' w6 ⟨A6, k6, rfl, h6, -, hb1⟩
                               have hle := Nat.le_trans (Hid.out (by assumption) : Below wG.heap.size wG _).size hb1.size
                               have H6 := Lib.hid h6
                               clear h6
                               try (have H5 := Lib.hid (by first | exact H5.out.keep (Keep.below hb1) | exact (H5.out.keep (Keep.alloc _ _)).keep (Keep.below hb1) : RdNet w6 v5 N))
                               try (first
                                 | (have HT0 := (HT.out.keep hb1 : TreeAt _ _ (.int .i64 0) (.int .i64 0)); (try simp only [size_drew] at HT0); (try simp only [World.size_alloc] at HT0); (try simp only [size_drew] at HT0); have HT := Lib.hid HT0; clear HT0; obtain ⟨q0, q1, qf0, qf1⟩ := HT.out)
                                 | (have HT0 := ((TreeAt.new _ _ _ 35).keep hb1 : TreeAt _ _ (.int .i64 0) (.int .i64 0)); (try simp only [size_drew] at HT0); (try simp only [World.size_alloc] at HT0); (try simp only [size_drew] at HT0); have HT := Lib.hid HT0; clear HT0; obtain ⟨q0, q1, qf0, qf1⟩ := HT.out)
                                 | (have HT0 := ((TreeAt.new _ _ _ 35).keepD hb1 : TreeAt _ _ (.int .i64 0) (.int .i64 0)); (try simp only [size_drew] at HT0); (try simp only [World.size_alloc] at HT0); (try simp only [size_drew] at HT0); have HT := Lib.hid HT0; clear HT0; obtain ⟨q0, q1, qf0, qf1⟩ := HT.out)))
                            | (go_at_call 30
                               go_split_ands
                               refine (arrOf_any N _ q A6 k6 a _ (by first | exact H5.out | exact H5.out.keep (Keep.alloc _ _)) (by first | exact H6.out | exact H6.out.keep (Keep.alloc _ _))).mono ?_
                               rintro e' w7 ⟨rfl, hb1⟩
                               have hle := Nat.le_trans (Hid.out (by assumption) : Below wG.heap.size wG _).size hb1.size
                               try (first
                                 | (have HT0 := (HT.out.keep hb1 : TreeAt _ _ (.int .i64 0) (.int .i64 0)); (try simp only [size_drew] at HT0); (try simp only [World.size_alloc] at HT0); (try simp only [size_drew] at HT0); have HT := Lib.hid HT0; clear HT0; obtain ⟨q0, q1, qf0, qf1⟩ := HT.out)
                                 | (have HT0 := ((TreeAt.new _ _ _ 35).keep hb1 : TreeAt _ _ (.int .i64 0) (.int .i64 0)); (try simp only [size_drew] at HT0); (try simp only [World.size_alloc] at HT0); (try simp only [size_drew] at HT0); have HT := Lib.hid HT0; clear HT0; obtain ⟨q0, q1, qf0, qf1⟩ := HT.out)
                                 | (have HT0 := ((TreeAt.new _ _ _ 35).keepD hb1 : TreeAt _ _ (.int .i64 0) (.int .i64 0)); (try simp only [size_drew] at HT0); (try simp only [World.size_alloc] at HT0); (try simp only [size_drew] at HT0); have HT := Lib.hid HT0; clear HT0; obtain ⟨q0, q1, qf0, qf1⟩ := HT.out)))))
                        all_goals
                          rename_i hS
                          obtain ⟨-, -, -, -, -, -, -, -, hbb⟩ := hS
                          go_wp2_with fail
                          go_meet
                          first
                            | exact ⟨_, rfl, rfl, by omega, Lib.hid (TreeAt.new _ _ _ _), hbb⟩
                            | exact ⟨_, rfl, rfl, by omega, Lib.hid (HT.out.set _ _), hbb⟩
                      case rest =>
                        obtain ⟨u2, rfl, rfl, hg, HV, HB⟩ := hcut
                        obtain ⟨wH, hwH⟩ : ∃ wz, wz = wc := ⟨_, rfl⟩
                        subst hwH
                        replace HW := Lib.hid (HW.out.trans (HB.out.mono HW.out.size))
                        replace HT := Lib.hid (HT.out.keep HB.out)
                        replace HU := Lib.hid (HU.out.keep HB.out)
                        rw [HAO.out] at HV ⊢
                        obtain ⟨t0, t1, -, -⟩ := HT.out
                        obtain ⟨v0, v1, -, -⟩ := HV.out
                        have h1 := HBD.out.1
                        have h2 := HBD.out.2
                        clear HB n0 n1 c0 c1 c2 x0 x1 x2
                        generalize (arrivals N q a).1 = z1 at *
                        generalize (arrivals N q a).2 = z2 at *
                        generalize (rcl N X Y a l m).1.1 = y1 at *
                        generalize (rcl N X Y a l m).1.2 = y2 at *
                        have e1 : decide (z1 ≥ y1) = true := decide_eq_true h1
                        have e2 : decide (y1 ≤ z1) = true := decide_eq_true h1
                        have e3 : decide (z2 ≥ y2) = true := decide_eq_true h2
                        have e4 : decide (y2 ≤ z2) = true := decide_eq_true h2
                        go_wp2_with fail
                        go_ret
                        exact ⟨rfl, HW.out⟩
                    · rw [show decide (JoinsIs N q X Y) = false from decide_eq_false hj]
                      clear hj
                      go_wp2_with fail
                      go_ret
                      exact ⟨rfl, HW.out⟩
                  · have e1 : (wayErr N q == 0) = false := by simpa using hw
                    have e2 : (wayErr N q != 0) = true := by simpa using hw
                    rw [hr]
                    clear hw hr
                    go_wp2_with fail
                    go_ret
                    exact ⟨rfl, HW.out⟩
                · have e1 : ((rcl N X Y a l m).2 == 0) = false := by simpa using hr
                  have e2 : ((rcl N X Y a l m).2 != 0) = true := by simpa using hr
                  clear hr
                  go_wp2_with fail
                  go_ret
                  exact ⟨rfl, HW.out⟩
              · have e1 : (tripErr N f t a == 0) = false := by simpa using ht
                have e2 : (tripErr N f t a != 0) = true := by simpa using ht
                rw [cl_trip HE.out ht] at HT ⊢
                clear ht
                obtain ⟨t0, t1, -, -⟩ := HT.out
                go_wp2_with fail
                go_ret
                exact ⟨rfl, HW.out⟩
            · have e1 : (netErr N == 0) = false := by simpa using he
              have e2 : (netErr N != 0) = true := by simpa using he
              rw [cl_net he] at HT ⊢
              clear he
              obtain ⟨t0, t1, -, -⟩ := HT.out
              go_wp2_with fail
              go_ret
              exact ⟨rfl, HW.out⟩
        · have d3 : decide ((q.length : Int) > 12) = true := decide_eq_true (by omega)
          have g3 : decide (12 < (q.length : Int)) = true := decide_eq_true (by omega)
          clear h3
          go_wp2_with fail
          go_ret
          exact ⟨rfl, HW.out⟩
      · have d2 : decide ((m.length : Int) > 22) = true := decide_eq_true (by omega)
        have g2 : decide (22 < (m.length : Int)) = true := decide_eq_true (by omega)
        clear h2
        go_wp2_with fail
        go_ret
        exact ⟨rfl, HW.out⟩
    · have d1 : decide ((l.length : Int) > 22) = true := decide_eq_true (by omega)
      have g1 : decide (22 < (l.length : Int)) = true := decide_eq_true (by omega)
      clear h1
      go_wp2_with fail
      go_ret
      exact ⟨rfl, HW.out⟩
end Go.Proofs.Ythipneggplebcaa

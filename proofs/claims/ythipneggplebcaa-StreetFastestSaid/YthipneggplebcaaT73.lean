/- The law of the fastest ways: they arrive at the earliest times; how much longer any way takes. No condition. -/
import Derived.Test.YthipneggplebcaaT35
import Derived.Test.YthipneggplebcaaT60
import Derived.Test.YthipneggplebcaaT70
import Derived.Test.YthipneggplebcaaT72
import Derived.Deep.CutBlock
namespace Go.Proofs.Ythipneggplebcaa
open Go.RowKit Fs

set_option linter.unusedSimpArgs false in
set_option maxHeartbeats 12800000 in
set_option maxRecDepth 100000 in
theorem law73_any (N : Net) (v : Value) (f t a : Int) (l : List Int) (A : Option Addr) (c : Nat) (w : World) (hN : RdNet w v N) (hA : ArrI w A l c) :
    Calls Try.prog 8 #[v, stripV f t a, .slice A l.length c] w fun e w' => e = .returned (.bool true) ∧ Below w.heap.size w w' := by
  have hN0 := Lib.hid hN
  obtain ⟨P, R, pc, rc, ar, rfl, mm⟩ := hN
  clear mm
  have HA := Lib.hid hA
  have b1 := hA.le
  obtain ⟨ba1, ba2⟩ := b1
  clear hA
  have BN := Lib.hid ((BoxN.new w N P R pc rc 25).keep (Keep.alloc _ (.cells #[.int .i64 f, .int .i64 t, .int .i64 a] 63)))
  have BT := Lib.hid (TripAt.new1 w (.cells #[.slice P N.places.length pc, .slice R N.roads.length rc] 25) f t a 63)
  go_enter Try.func8, Try.ntmps8
  go_upto_region 1 with fail
  generalize hwb : (w.alloc _).alloc _ = wb at *
  have HW : Hid (Below w.heap.size w wb) := by rw [← hwb]; exact Lib.hid (((Below.refl _ _).alloc (Nat.le_refl _) _).alloc (by simp) _)
  clear hwb
  obtain ⟨n0, n1⟩ := BN.out
  obtain ⟨c0, cc1, c2⟩ := BT.out
  go_wp2_with fail
  refine (awake_any _).mono ?_
  rintro e' w1 ⟨rfl, hb1⟩
  replace HW := Lib.hid (HW.out.trans (hb1.mono HW.out.size))
  replace BN := Lib.hid (BN.out.keep (Keep.below hb1))
  replace BT := Lib.hid (BT.out.keep (Keep.below hb1))
  clear n0 n1 c0 cc1 c2
  clear hb1
  obtain ⟨n0, n1⟩ := BN.out
  obtain ⟨c0, cc1, c2⟩ := BT.out
  go_wp2_with fail
  refine (few_any N _ _ (hN0.out.keep (Keep.below HW.out))).mono ?_
  rintro e' wA ⟨rfl, hb1⟩
  replace HW := Lib.hid (HW.out.trans (hb1.mono HW.out.size))
  replace BN := Lib.hid (BN.out.keep (Keep.below hb1))
  replace BT := Lib.hid (BT.out.keep (Keep.below hb1))
  clear n0 n1 c0 cc1 c2
  clear hb1
  cases hf : fewN N with
  | false =>
    go_wp2_with fail
    go_ret
    exact ⟨rfl, HW.out⟩
  | true =>
    have HL := Lib.hid (few_lens hf)
    clear hf
    obtain ⟨n0, n1⟩ := BN.out
    obtain ⟨c0, cc1, c2⟩ := BT.out
    go_wp2_with fail
    refine (short_any l A c _ (HA.out.keep (Keep.below HW.out))).mono ?_
    rintro e' wS ⟨rfl, rfl⟩
    clear n0 n1 c0 cc1 c2
    cases hs : shortL l.length with
    | false =>
      go_wp2_with fail
      go_ret
      exact ⟨rfl, HW.out⟩
    | true =>
      have hlen := shortL_le hs
      clear hs
      obtain ⟨n0, n1⟩ := BN.out
      obtain ⟨c0, cc1, c2⟩ := BT.out
      go_wp2_with fail
      go_cut [7, 8] from 34 to 41 (fun s1 s2 wx => ∃ (W1 : List Int) (A1 : Option Addr) (c1 : Nat), s1 = .slice A1 W1.length c1 ∧ s2 = .int .i64 (fastErr N (soonest N) f t a) ∧ Hid (ArrI wx A1 W1 c1) ∧ Hid (fastErr N (soonest N) f t a = 0 → Chain N (search N f a (soonest N)).last t.toNat W1.reverse) ∧ Hid (fastErr N (soonest N) f t a ≠ 0 → W1 = []) ∧ Hid (Below wA.heap.size wA wx))
      case first =>
        have HBd : Hid (Below wA.heap.size wA wA.drew) := Lib.hid (Below.refl _ _).drew
        have MK : Hid (∀ w', Below wA.heap.size wA w' → w'.cell? ⟨w.heap.size, 0, none⟩ = some (.slice P N.places.length pc) ∧ w'.cell? ⟨w.heap.size, 1, none⟩ = some (.slice R N.roads.length rc) ∧ w'.cell? ⟨w.heap.size + 1, 0, none⟩ = some (.int .i64 f) ∧ w'.cell? ⟨w.heap.size + 1, 1, none⟩ = some (.int .i64 t) ∧ w'.cell? ⟨w.heap.size + 1, 2, none⟩ = some (.int .i64 a) ∧ Hid (Below wA.heap.size wA w')) :=
          Lib.hid fun w' hw => ⟨Keep.below hw _ _ n0, Keep.below hw _ _ n1, Keep.below hw _ _ c0, Keep.below hw _ _ cc1, Keep.below hw _ _ c2, Lib.hid hw⟩
        have KN : Hid (∀ w', Below wA.heap.size wA w' → RdNet w' (netV N P R pc rc) N) := Lib.hid fun w' hw => (hN0.out.keep (Keep.below (HW.out.trans (hw.mono HW.out.size))))
        have KA : Hid (∀ w', Below wA.heap.size wA w' → ArrI w' A l c) := Lib.hid fun w' hw => (HA.out.keep (Keep.below (HW.out.trans (hw.mono HW.out.size))))
        go_region_held3 (fun w' => w'.cell? ⟨w.heap.size, 0, none⟩ = some (.slice P N.places.length pc) ∧ w'.cell? ⟨w.heap.size, 1, none⟩ = some (.slice R N.roads.length rc) ∧ w'.cell? ⟨w.heap.size + 1, 0, none⟩ = some (.int .i64 f) ∧ w'.cell? ⟨w.heap.size + 1, 1, none⟩ = some (.int .i64 t) ∧ w'.cell? ⟨w.heap.size + 1, 2, none⟩ = some (.int .i64 a) ∧ Hid (Below wA.heap.size wA w'))
          (first
            | exact MK.out _ HBd.out
            | (go_split_ands; exact ⟨by assumption, by assumption, by assumption, by assumption, by assumption, by assumption⟩)
            | (go_split_ands; exact MK.out _ (Below.trans (Hid.out (by assumption)) (hb1.mono (Hid.out (by assumption) : Below wA.heap.size wA _).size)))
            | (go_split_ands; exact MK.out _ (Below.alloc (Hid.out (by assumption)) (Hid.out (by assumption) : Below wA.heap.size wA _).size _)))
          ((first
            | (go_at_call 21
               go_split_ands
               refine (copyNet_any N _ _ (KN.out _ (Hid.out (by assumption))) HL.out.1 HL.out.2.1 HL.out.2.2).mono ?_
               rintro e' wz5 ⟨v5, rfl, h5, hb1⟩
               have H5 := Lib.hid h5
               clear h5)
            | (go_at_call 47
               go_split_ands
               refine (fastS_any N _ f t a _ (by first | exact H5.out | exact H5.out.keep (Keep.alloc _ _))).mono ?_
               rintro e' wz7 ⟨Wn, An, cn, rfl, hn1, hn2, hn3, hb1⟩)))
        all_goals
          rename_i hS
          obtain ⟨-, -, -, -, -, hbb⟩ := hS
          go_wp2_with fail
          go_meet
          first
            | exact ⟨Wn, An, cn, rfl, rfl, Lib.hid hn1, Lib.hid hn2, Lib.hid hn3, hbb⟩
      case rest =>
        obtain ⟨W1, A1, ca1, rfl, rfl, HA1, HC1, HN1, HB⟩ := hcut
        obtain ⟨wB, hwB⟩ : ∃ wz, wz = wc := ⟨_, rfl⟩
        subst hwB
        replace HW := Lib.hid (HW.out.trans (HB.out.mono HW.out.size))
        replace BN := Lib.hid (BN.out.keep (Keep.below HB.out))
        replace BT := Lib.hid (BT.out.keep (Keep.below HB.out))
        clear HB n0 n1 c0 cc1 c2
        obtain ⟨n0, n1⟩ := BN.out
        obtain ⟨c0, cc1, c2⟩ := BT.out
        go_wp2_with fail
        go_cut [9, 10] from 41 to 48 (fun s1 s2 wx => ∃ (W1 : List Int) (A1 : Option Addr) (c1 : Nat), s1 = .slice A1 W1.length c1 ∧ s2 = .int .i64 (fastErr N (latest N) f t a) ∧ Hid (ArrI wx A1 W1 c1) ∧ Hid (fastErr N (latest N) f t a = 0 → Chain N (search N f a (latest N)).last t.toNat W1.reverse) ∧ Hid (fastErr N (latest N) f t a ≠ 0 → W1 = []) ∧ Hid (Below wB.heap.size wB wx))
        case first =>
          have HBd : Hid (Below wB.heap.size wB wB.drew) := Lib.hid (Below.refl _ _).drew
          have MK : Hid (∀ w', Below wB.heap.size wB w' → w'.cell? ⟨w.heap.size, 0, none⟩ = some (.slice P N.places.length pc) ∧ w'.cell? ⟨w.heap.size, 1, none⟩ = some (.slice R N.roads.length rc) ∧ w'.cell? ⟨w.heap.size + 1, 0, none⟩ = some (.int .i64 f) ∧ w'.cell? ⟨w.heap.size + 1, 1, none⟩ = some (.int .i64 t) ∧ w'.cell? ⟨w.heap.size + 1, 2, none⟩ = some (.int .i64 a) ∧ Hid (Below wB.heap.size wB w')) :=
            Lib.hid fun w' hw => ⟨Keep.below hw _ _ n0, Keep.below hw _ _ n1, Keep.below hw _ _ c0, Keep.below hw _ _ cc1, Keep.below hw _ _ c2, Lib.hid hw⟩
          have KN : Hid (∀ w', Below wB.heap.size wB w' → RdNet w' (netV N P R pc rc) N) := Lib.hid fun w' hw => (hN0.out.keep (Keep.below (HW.out.trans (hw.mono HW.out.size))))
          have KA : Hid (∀ w', Below wB.heap.size wB w' → ArrI w' A l c) := Lib.hid fun w' hw => (HA.out.keep (Keep.below (HW.out.trans (hw.mono HW.out.size))))
          go_region_held3 (fun w' => w'.cell? ⟨w.heap.size, 0, none⟩ = some (.slice P N.places.length pc) ∧ w'.cell? ⟨w.heap.size, 1, none⟩ = some (.slice R N.roads.length rc) ∧ w'.cell? ⟨w.heap.size + 1, 0, none⟩ = some (.int .i64 f) ∧ w'.cell? ⟨w.heap.size + 1, 1, none⟩ = some (.int .i64 t) ∧ w'.cell? ⟨w.heap.size + 1, 2, none⟩ = some (.int .i64 a) ∧ Hid (Below wB.heap.size wB w'))
            (first
              | exact MK.out _ HBd.out
              | (go_split_ands; exact ⟨by assumption, by assumption, by assumption, by assumption, by assumption, by assumption⟩)
              | (go_split_ands; exact MK.out _ (Below.trans (Hid.out (by assumption)) (hb1.mono (Hid.out (by assumption) : Below wB.heap.size wB _).size)))
              | (go_split_ands; exact MK.out _ (Below.alloc (Hid.out (by assumption)) (Hid.out (by assumption) : Below wB.heap.size wB _).size _)))
            ((first
              | (go_at_call 21
                 go_split_ands
                 refine (copyNet_any N _ _ (KN.out _ (Hid.out (by assumption))) HL.out.1 HL.out.2.1 HL.out.2.2).mono ?_
                 rintro e' wz5 ⟨v5, rfl, h5, hb1⟩
                 have H5 := Lib.hid h5
                 clear h5)
              | (go_at_call 47
                 go_split_ands
                 refine (fastL_any N _ f t a _ (by first | exact H5.out | exact H5.out.keep (Keep.alloc _ _))).mono ?_
                 rintro e' wz7 ⟨Wn, An, cn, rfl, hn1, hn2, hn3, hb1⟩)))
          all_goals
            rename_i hS
            obtain ⟨-, -, -, -, -, hbb⟩ := hS
            go_wp2_with fail
            go_meet
            first
              | exact ⟨Wn, An, cn, rfl, rfl, Lib.hid hn1, Lib.hid hn2, Lib.hid hn3, hbb⟩
        case rest =>
          obtain ⟨W2, A2, ca2, rfl, rfl, HA2, HC2, HN2, HB⟩ := hcut
          obtain ⟨wC, hwC⟩ : ∃ wz, wz = wc := ⟨_, rfl⟩
          subst hwC
          replace HW := Lib.hid (HW.out.trans (HB.out.mono HW.out.size))
          replace BN := Lib.hid (BN.out.keep (Keep.below HB.out))
          replace BT := Lib.hid (BT.out.keep (Keep.below HB.out))
          replace HA1 := Lib.hid (HA1.out.keep (Keep.below HB.out))
          clear HB n0 n1 c0 cc1 c2
          obtain ⟨n0, n1⟩ := BN.out
          obtain ⟨c0, cc1, c2⟩ := BT.out
          go_wp2_with fail
          go_cut [11, 12] from 48 to 57 (fun s1 s2 wx => ∃ g : Nat, s1 = .pointer (some ⟨g, 0, none⟩) ∧ s2 = .int .i64 (detour N f t a l).2 ∧ wC.heap.size ≤ g ∧ Hid (TreeAt wx g (.int .i64 (detour N f t a l).1.1) (.int .i64 (detour N f t a l).1.2)) ∧ Hid (Below wC.heap.size wC wx))
          case first =>
            have HBd : Hid (Below wC.heap.size wC wC.drew) := Lib.hid (Below.refl _ _).drew
            have MK : Hid (∀ w', Below wC.heap.size wC w' → w'.cell? ⟨w.heap.size, 0, none⟩ = some (.slice P N.places.length pc) ∧ w'.cell? ⟨w.heap.size, 1, none⟩ = some (.slice R N.roads.length rc) ∧ w'.cell? ⟨w.heap.size + 1, 0, none⟩ = some (.int .i64 f) ∧ w'.cell? ⟨w.heap.size + 1, 1, none⟩ = some (.int .i64 t) ∧ w'.cell? ⟨w.heap.size + 1, 2, none⟩ = some (.int .i64 a) ∧ Hid (Below wC.heap.size wC w')) :=
              Lib.hid fun w' hw => ⟨Keep.below hw _ _ n0, Keep.below hw _ _ n1, Keep.below hw _ _ c0, Keep.below hw _ _ cc1, Keep.below hw _ _ c2, Lib.hid hw⟩
            have KN : Hid (∀ w', Below wC.heap.size wC w' → RdNet w' (netV N P R pc rc) N) := Lib.hid fun w' hw => (hN0.out.keep (Keep.below (HW.out.trans (hw.mono HW.out.size))))
            have KA : Hid (∀ w', Below wC.heap.size wC w' → ArrI w' A l c) := Lib.hid fun w' hw => (HA.out.keep (Keep.below (HW.out.trans (hw.mono HW.out.size))))
            go_region_held3 (fun w' => w'.cell? ⟨w.heap.size, 0, none⟩ = some (.slice P N.places.length pc) ∧ w'.cell? ⟨w.heap.size, 1, none⟩ = some (.slice R N.roads.length rc) ∧ w'.cell? ⟨w.heap.size + 1, 0, none⟩ = some (.int .i64 f) ∧ w'.cell? ⟨w.heap.size + 1, 1, none⟩ = some (.int .i64 t) ∧ w'.cell? ⟨w.heap.size + 1, 2, none⟩ = some (.int .i64 a) ∧ Hid (Below wC.heap.size wC w'))
              (first
                | exact MK.out _ HBd.out
                | (go_split_ands; exact ⟨by assumption, by assumption, by assumption, by assumption, by assumption, by assumption⟩)
                | (go_split_ands; exact MK.out _ (Below.trans (Hid.out (by assumption)) (hb1.mono (Hid.out (by assumption) : Below wC.heap.size wC _).size)))
                | (go_split_ands; exact MK.out _ (Below.alloc (Hid.out (by assumption)) (Hid.out (by assumption) : Below wC.heap.size wC _).size _))
                | (go_split_ands; exact MK.out _ (below_realloc (Hid.out (by assumption)) hle _))
                | (go_split_ands; exact MK.out _ (Below.setCell (Below.setCell (Hid.out (by assumption)) (by show wC.heap.size ≤ _; first | exact Nat.le_refl _ | assumption | omega | (simp; done) | (simp; omega)) _) (by show wC.heap.size ≤ _; first | exact Nat.le_refl _ | assumption | omega | (simp; done) | (simp; omega)) _)))
              ((first
                | (go_at_call 21
                   go_split_ands
                   refine (copyNet_any N _ _ (KN.out _ (Hid.out (by assumption))) HL.out.1 HL.out.2.1 HL.out.2.2).mono ?_
                   rintro e' wz5 ⟨v5, rfl, h5, hb1⟩
                   have hle := Nat.le_trans (Hid.out (by assumption) : Below wC.heap.size wC _).size hb1.size
                   have H5 := Lib.hid h5
                   clear h5
                   try (have H6 := Lib.hid (by first | exact H6.out.keep (Keep.below hb1) | exact (H6.out.keep (Keep.alloc _ _)).keep (Keep.below hb1) : ArrI wz5 A6 l k6))
                   try (first
                     | (have HT0 := (HT.out.keep hb1 : TreeAt _ _ (.int .i64 0) (.int .i64 0)); (try simp only [size_drew] at HT0); (try simp only [World.size_alloc] at HT0); (try simp only [size_drew] at HT0); have HT := Lib.hid HT0; clear HT0; obtain ⟨q0, q1, qf0, qf1⟩ := HT.out)
                     | (have HT0 := ((TreeAt.new _ _ _ 35).keep hb1 : TreeAt _ _ (.int .i64 0) (.int .i64 0)); (try simp only [size_drew] at HT0); (try simp only [World.size_alloc] at HT0); (try simp only [size_drew] at HT0); have HT := Lib.hid HT0; clear HT0; obtain ⟨q0, q1, qf0, qf1⟩ := HT.out)
                     | (have HT0 := ((TreeAt.new _ _ _ 35).keepD hb1 : TreeAt _ _ (.int .i64 0) (.int .i64 0)); (try simp only [size_drew] at HT0); (try simp only [World.size_alloc] at HT0); (try simp only [size_drew] at HT0); have HT := Lib.hid HT0; clear HT0; obtain ⟨q0, q1, qf0, qf1⟩ := HT.out)))
                | (go_at_call 29
                   go_split_ands
                   refine (copyInts_any l A c _ (KA.out _ (Hid.out (by assumption))) (by omega)).mono ?_
                   rintro e' wz6 ⟨A6, k6, rfl, h6, -, hb1⟩
                   have hle := Nat.le_trans (Hid.out (by assumption) : Below wC.heap.size wC _).size hb1.size
                   have H6 := Lib.hid h6
                   clear h6
                   try (have H5 := Lib.hid (by first | exact H5.out.keep (Keep.below hb1) | exact (H5.out.keep (Keep.alloc _ _)).keep (Keep.below hb1) : RdNet wz6 v5 N))
                   try (first
                     | (have HT0 := (HT.out.keep hb1 : TreeAt _ _ (.int .i64 0) (.int .i64 0)); (try simp only [size_drew] at HT0); (try simp only [World.size_alloc] at HT0); (try simp only [size_drew] at HT0); have HT := Lib.hid HT0; clear HT0; obtain ⟨q0, q1, qf0, qf1⟩ := HT.out)
                     | (have HT0 := ((TreeAt.new _ _ _ 35).keep hb1 : TreeAt _ _ (.int .i64 0) (.int .i64 0)); (try simp only [size_drew] at HT0); (try simp only [World.size_alloc] at HT0); (try simp only [size_drew] at HT0); have HT := Lib.hid HT0; clear HT0; obtain ⟨q0, q1, qf0, qf1⟩ := HT.out)
                     | (have HT0 := ((TreeAt.new _ _ _ 35).keepD hb1 : TreeAt _ _ (.int .i64 0) (.int .i64 0)); (try simp only [size_drew] at HT0); (try simp only [World.size_alloc] at HT0); (try simp only [size_drew] at HT0); have HT := Lib.hid HT0; clear HT0; obtain ⟨q0, q1, qf0, qf1⟩ := HT.out)))
                | (go_at_call 48
                   go_split_ands
                   refine (detour_any N _ f t a l A6 k6 _ (by first | exact H5.out | exact H5.out.keep (Keep.alloc _ _)) (by first | exact H6.out | exact H6.out.keep (Keep.alloc _ _))).mono ?_
                   rintro e' wz7 ⟨rfl, hb1⟩
                   have hle := Nat.le_trans (Hid.out (by assumption) : Below wC.heap.size wC _).size hb1.size
                   try (first
                     | (have HT0 := (HT.out.keep hb1 : TreeAt _ _ (.int .i64 0) (.int .i64 0)); (try simp only [size_drew] at HT0); (try simp only [World.size_alloc] at HT0); (try simp only [size_drew] at HT0); have HT := Lib.hid HT0; clear HT0; obtain ⟨q0, q1, qf0, qf1⟩ := HT.out)
                     | (have HT0 := ((TreeAt.new _ _ _ 35).keep hb1 : TreeAt _ _ (.int .i64 0) (.int .i64 0)); (try simp only [size_drew] at HT0); (try simp only [World.size_alloc] at HT0); (try simp only [size_drew] at HT0); have HT := Lib.hid HT0; clear HT0; obtain ⟨q0, q1, qf0, qf1⟩ := HT.out)
                     | (have HT0 := ((TreeAt.new _ _ _ 35).keepD hb1 : TreeAt _ _ (.int .i64 0) (.int .i64 0)); (try simp only [size_drew] at HT0); (try simp only [World.size_alloc] at HT0); (try simp only [size_drew] at HT0); have HT := Lib.hid HT0; clear HT0; obtain ⟨q0, q1, qf0, qf1⟩ := HT.out)))))
            all_goals
              rename_i hS
              obtain ⟨-, -, -, -, -, hbb⟩ := hS
              go_wp2_with fail
              go_meet
              first
                | exact ⟨_, rfl, rfl, by omega, Lib.hid (TreeAt.new _ _ _ _), hbb⟩
                | exact ⟨_, rfl, rfl, by omega, Lib.hid (HT.out.set _ _), hbb⟩
          case rest =>
            obtain ⟨gx, rfl, rfl, hg, HT, HB⟩ := hcut
            obtain ⟨wD, hwD⟩ : ∃ wz, wz = wc := ⟨_, rfl⟩
            subst hwD
            replace HW := Lib.hid (HW.out.trans (HB.out.mono HW.out.size))
            replace BN := Lib.hid (BN.out.keep (Keep.below HB.out))
            replace BT := Lib.hid (BT.out.keep (Keep.below HB.out))
            replace HA1 := Lib.hid (HA1.out.keep (Keep.below HB.out))
            replace HA2 := Lib.hid (HA2.out.keep (Keep.below HB.out))
            clear HB n0 n1 c0 cc1 c2
            obtain ⟨n0, n1⟩ := BN.out
            obtain ⟨c0, cc1, c2⟩ := BT.out
            obtain ⟨t0, t1, -, -⟩ := HT.out
            go_wp2_with fail
            refine (rNetErr_any N _ _ (hN0.out.keep (Keep.below HW.out))).mono ?_
            rintro e' wE ⟨rfl, hb1⟩
            replace HW := Lib.hid (HW.out.trans (hb1.mono HW.out.size))
            replace BN := Lib.hid (BN.out.keep (Keep.below hb1))
            replace BT := Lib.hid (BT.out.keep (Keep.below hb1))
            replace HA1 := Lib.hid (HA1.out.keep (Keep.below hb1))
            replace HA2 := Lib.hid (HA2.out.keep (Keep.below hb1))
            replace HT := Lib.hid (HT.out.keep hb1)
            clear n0 n1 c0 cc1 c2 t0 t1
            clear hb1
            by_cases he : netErr N = 0
            · have HE := Lib.hid he
              rw [he]
              clear he
              obtain ⟨n0, n1⟩ := BN.out
              obtain ⟨c0, cc1, c2⟩ := BT.out
              obtain ⟨t0, t1, -, -⟩ := HT.out
              go_wp2_with fail
              refine (rTripErr_any N _ f t a _ (hN0.out.keep (Keep.below HW.out))).mono ?_
              rintro e' wF ⟨rfl, hb1⟩
              replace HW := Lib.hid (HW.out.trans (hb1.mono HW.out.size))
              replace BN := Lib.hid (BN.out.keep (Keep.below hb1))
              replace BT := Lib.hid (BT.out.keep (Keep.below hb1))
              replace HA1 := Lib.hid (HA1.out.keep (Keep.below hb1))
              replace HA2 := Lib.hid (HA2.out.keep (Keep.below hb1))
              replace HT := Lib.hid (HT.out.keep hb1)
              clear n0 n1 c0 cc1 c2 t0 t1
              clear hb1
              by_cases ht : tripErr N f t a = 0
              · have hdw := dtErr_way (l := l) HE.out ht
                have hez := estErr_zero HE.out ht
                rw [ht]
                obtain ⟨hpf, hpt, hta⟩ := tripErr_ok ht
                clear ht
                obtain ⟨f0, f1⟩ := isPlace_in hpf
                obtain ⟨t0, t1⟩ := isPlace_in hpt
                have hta2 := timeErr_ok hta
                clear hta
                obtain ⟨X, hX⟩ : ∃ X : Nat, f = X := ⟨_, (Int.toNat_of_nonneg f0).symm⟩
                obtain ⟨Y, hY⟩ : ∃ Y : Nat, t = Y := ⟨_, (Int.toNat_of_nonneg t0).symm⟩
                subst hX; subst hY
                clear hpf hpt
                have hXl : X < N.places.length := by omega
                have hYl : Y < N.places.length := by omega
                have ha1 : a ≤ 1000000 := by omega
                have ha0 : 0 ≤ a := by omega
                have HFE := Lib.hid (fun nx => show fastErr N nx X Y a = if listI (search N X a nx).labels Y = -1 then 12 else 0 from if_pos hez)
                have HDT := Lib.hid (show detour N X Y a l = if wayErr N l = 0 then dtRes N X Y a l else ((0, 0), wayErr N l) from by unfold detour; rw [hdw]; rfl)
                clear f0 f1 t0 t1 hdw hez
                obtain ⟨n0, n1⟩ := BN.out
                obtain ⟨c0, cc1, c2⟩ := BT.out
                obtain ⟨t0, t1, -, -⟩ := HT.out
                go_wp2_with fail
                refine (rWayErr_any N _ l A c _ (hN0.out.keep (Keep.below HW.out)) (HA.out.keep (Keep.below HW.out))).mono ?_
                rintro e' wG ⟨rfl, hb1⟩
                replace HW := Lib.hid (HW.out.trans (hb1.mono HW.out.size))
                replace BN := Lib.hid (BN.out.keep (Keep.below hb1))
                replace BT := Lib.hid (BT.out.keep (Keep.below hb1))
                replace HA1 := Lib.hid (HA1.out.keep (Keep.below hb1))
                replace HA2 := Lib.hid (HA2.out.keep (Keep.below hb1))
                replace HT := Lib.hid (HT.out.keep hb1)
                clear n0 n1 c0 cc1 c2 t0 t1
                clear hb1
                by_cases hw : wayErr N l = 0
                · have HQ := Lib.hid hw
                  have F := HDT.out
                  rw [if_pos hw] at F
                  rw [F] at HT
                  rw [F, hw]
                  clear F hw
                  obtain ⟨n0, n1⟩ := BN.out
                  obtain ⟨c0, cc1, c2⟩ := BT.out
                  obtain ⟨t0, t1, -, -⟩ := HT.out
                  go_wp2_with fail
                  refine (rDetour_any N _ X Y a l A c _ (hN0.out.keep (Keep.below HW.out)) (HA.out.keep (Keep.below HW.out)) HE.out HQ.out hXl hYl hta2.1 ha1).mono ?_
                  rintro e' wH ⟨rfl, hb1⟩
                  replace HW := Lib.hid (HW.out.trans (hb1.mono HW.out.size))
                  replace BN := Lib.hid (BN.out.keep (Keep.below hb1))
                  replace BT := Lib.hid (BT.out.keep (Keep.below hb1))
                  replace HA1 := Lib.hid (HA1.out.keep (Keep.below hb1))
                  replace HA2 := Lib.hid (HA2.out.keep (Keep.below hb1))
                  replace HT := Lib.hid (HT.out.keep hb1)
                  clear n0 n1 c0 cc1 c2 t0 t1
                  clear hb1
                  have HV := Lib.hid (TreeAt.new wH (.int .i64 (dtRes N X Y a l).1.1) (.int .i64 (dtRes N X Y a l).1.2) 35)
                  have hb8 : Below wH.heap.size wH (wH.alloc (.cells #[.int .i64 (dtRes N X Y a l).1.1, .int .i64 (dtRes N X Y a l).1.2] 35)) := (Below.refl _ _).alloc (Nat.le_refl _) _
                  replace HW := Lib.hid (HW.out.trans (hb8.mono HW.out.size))
                  replace BN := Lib.hid (BN.out.keep (Keep.below hb8))
                  replace BT := Lib.hid (BT.out.keep (Keep.below hb8))
                  replace HA1 := Lib.hid (HA1.out.keep (Keep.below hb8))
                  replace HA2 := Lib.hid (HA2.out.keep (Keep.below hb8))
                  replace HT := Lib.hid (HT.out.keep hb8)
                  clear hb8
                  generalize (dtRes N X Y a l).1.1 = z1 at *
                  generalize (dtRes N X Y a l).1.2 = z2 at *
                  generalize (dtRes N X Y a l).2 = z3 at *
                  clear HDT
                  obtain ⟨n0, n1⟩ := BN.out
                  obtain ⟨c0, cc1, c2⟩ := BT.out
                  obtain ⟨t0, t1, -, -⟩ := HT.out
                  obtain ⟨v0, v1, -, -⟩ := HV.out
                  go_wp2_with fail
                  refine (rEstimate_any N _ X Y a _ (hN0.out.keep (Keep.below HW.out)) HE.out hXl hYl hta2.1 ha1).mono ?_
                  rintro e' wI ⟨rfl, hb1⟩
                  replace HW := Lib.hid (HW.out.trans (hb1.mono HW.out.size))
                  replace BN := Lib.hid (BN.out.keep (Keep.below hb1))
                  replace BT := Lib.hid (BT.out.keep (Keep.below hb1))
                  replace HA1 := Lib.hid (HA1.out.keep (Keep.below hb1))
                  replace HA2 := Lib.hid (HA2.out.keep (Keep.below hb1))
                  replace HT := Lib.hid (HT.out.keep hb1)
                  replace HV := Lib.hid (HV.out.keep hb1)
                  clear n0 n1 c0 cc1 c2 t0 t1 v0 v1
                  clear hb1
                  have HU := Lib.hid (TreeAt.new wI (.int .i64 (listI (search N X a (soonest N)).labels Y)) (.int .i64 (listI (search N X a (latest N)).labels Y)) 35)
                  have hb8 : Below wI.heap.size wI (wI.alloc (.cells #[.int .i64 (listI (search N X a (soonest N)).labels Y), .int .i64 (listI (search N X a (latest N)).labels Y)] 35)) := (Below.refl _ _).alloc (Nat.le_refl _) _
                  replace HW := Lib.hid (HW.out.trans (hb8.mono HW.out.size))
                  replace BN := Lib.hid (BN.out.keep (Keep.below hb8))
                  replace BT := Lib.hid (BT.out.keep (Keep.below hb8))
                  replace HA1 := Lib.hid (HA1.out.keep (Keep.below hb8))
                  replace HA2 := Lib.hid (HA2.out.keep (Keep.below hb8))
                  replace HT := Lib.hid (HT.out.keep hb8)
                  replace HV := Lib.hid (HV.out.keep hb8)
                  clear hb8
                  clear HT HV
                  unfold estBack
                  have hi1 := (search_found (net_joined HE.out) (soonest_good HE.out) hXl hta2.1).least Y hYl
                  have hj1 := (search_found (net_joined HE.out) (latest_good HE.out) hXl hta2.1).least Y hYl
                  have rs := search_reach (net_joined HE.out) (soonest_good HE.out) (latest_good HE.out) hXl hta2.1 hta2.1 Y hYl
                  have rl := search_reach (net_joined HE.out) (latest_good HE.out) (soonest_good HE.out) hXl hta2.1 hta2.1 Y hYl
                  by_cases hp : 0 ≤ (listI (search N X a (soonest N)).labels Y)
                  · have ns : (listI (search N X a (soonest N)).labels Y) ≠ -1 := by omega
                    have nl : (listI (search N X a (latest N)).labels Y) ≠ -1 := rs ns
                    have F1 := HFE.out (soonest N)
                    have F2 := HFE.out (latest N)
                    rw [if_neg ns] at F1
                    rw [if_neg nl] at F2
                    rw [F1, F2, show decide (0 ≤ (listI (search N X a (soonest N)).labels Y)) = true from decide_eq_true hp]
                    have ch1 := HC1.out F1
                    have ch2 := HC2.out F2
                    rw [Int.toNat_natCast] at ch1 ch2
                    have S1 := Lib.hid (fast_way HE.out (soonest_good HE.out) hXl hYl hta2.1 ns ch1)
                    have S2 := Lib.hid (fast_way HE.out (latest_good HE.out) hXl hYl hta2.1 nl ch2)
                    obtain ⟨x2, hx2⟩ : ∃ x2, arrivals N W1 a = ((listI (search N X a (soonest N)).labels Y), x2) := ⟨(arrivals N W1 a).2, Prod.ext S1.out.2.2.1 rfl⟩
                    obtain ⟨x1, hx1⟩ : ∃ x1, arrivals N W2 a = (x1, (listI (search N X a (latest N)).labels Y)) := ⟨(arrivals N W2 a).1, Prod.ext rfl S2.out.2.2.1⟩
                    have hs1 := S1.out.2.2.2.2
                    have hs2 := S2.out.2.2.2.2
                    have HX2 := Lib.hid hx2
                    have HX1 := Lib.hid hx1
                    clear hx1 hx2 ch1 ch2 F1 F2 ns nl hi1 hj1 rs rl HC1 HC2 HN1 HN2 HFE
                    generalize (listI (search N X a (soonest N)).labels Y) = y1 at *
                    generalize (listI (search N X a (latest N)).labels Y) = y2 at *
                    obtain ⟨n0, n1⟩ := BN.out
                    obtain ⟨c0, cc1, c2⟩ := BT.out
                    obtain ⟨u0, u1, -, -⟩ := HU.out
                    go_wp2_with fail
                    refine (rWayErr_any N _ W1 A1 ca1 _ (hN0.out.keep (Keep.below HW.out)) HA1.out).mono ?_
                    rintro e' wJ ⟨rfl, hb1⟩
                    replace HW := Lib.hid (HW.out.trans (hb1.mono HW.out.size))
                    replace BN := Lib.hid (BN.out.keep (Keep.below hb1))
                    replace BT := Lib.hid (BT.out.keep (Keep.below hb1))
                    replace HA1 := Lib.hid (HA1.out.keep (Keep.below hb1))
                    replace HA2 := Lib.hid (HA2.out.keep (Keep.below hb1))
                    replace HU := Lib.hid (HU.out.keep hb1)
                    clear n0 n1 c0 cc1 c2 u0 u1
                    clear hb1
                    rw [S1.out.1]
                    obtain ⟨n0, n1⟩ := BN.out
                    obtain ⟨c0, cc1, c2⟩ := BT.out
                    obtain ⟨u0, u1, -, -⟩ := HU.out
                    go_wp2_with fail
                    refine (rJoins_any N _ W1 A1 ca1 X Y _ (hN0.out.keep (Keep.below HW.out)) HA1.out S1.out.2.2.2.1).mono ?_
                    rintro e' wK ⟨rfl, hb1⟩
                    replace HW := Lib.hid (HW.out.trans (hb1.mono HW.out.size))
                    replace BN := Lib.hid (BN.out.keep (Keep.below hb1))
                    replace BT := Lib.hid (BT.out.keep (Keep.below hb1))
                    replace HA1 := Lib.hid (HA1.out.keep (Keep.below hb1))
                    replace HA2 := Lib.hid (HA2.out.keep (Keep.below hb1))
                    replace HU := Lib.hid (HU.out.keep hb1)
                    clear n0 n1 c0 cc1 c2 u0 u1
                    clear hb1
                    rw [show decide (JoinsIs N W1 X Y) = true from decide_eq_true S1.out.2.1]
                    obtain ⟨n0, n1⟩ := BN.out
                    obtain ⟨c0, cc1, c2⟩ := BT.out
                    obtain ⟨u0, u1, -, -⟩ := HU.out
                    go_wp2_with fail
                    refine (rWayErr_any N _ W2 A2 ca2 _ (hN0.out.keep (Keep.below HW.out)) HA2.out).mono ?_
                    rintro e' wL ⟨rfl, hb1⟩
                    replace HW := Lib.hid (HW.out.trans (hb1.mono HW.out.size))
                    replace BN := Lib.hid (BN.out.keep (Keep.below hb1))
                    replace BT := Lib.hid (BT.out.keep (Keep.below hb1))
                    replace HA1 := Lib.hid (HA1.out.keep (Keep.below hb1))
                    replace HA2 := Lib.hid (HA2.out.keep (Keep.below hb1))
                    replace HU := Lib.hid (HU.out.keep hb1)
                    clear n0 n1 c0 cc1 c2 u0 u1
                    clear hb1
                    rw [S2.out.1]
                    obtain ⟨n0, n1⟩ := BN.out
                    obtain ⟨c0, cc1, c2⟩ := BT.out
                    obtain ⟨u0, u1, -, -⟩ := HU.out
                    go_wp2_with fail
                    refine (rJoins_any N _ W2 A2 ca2 X Y _ (hN0.out.keep (Keep.below HW.out)) HA2.out S2.out.2.2.2.1).mono ?_
                    rintro e' wM ⟨rfl, hb1⟩
                    replace HW := Lib.hid (HW.out.trans (hb1.mono HW.out.size))
                    replace BN := Lib.hid (BN.out.keep (Keep.below hb1))
                    replace BT := Lib.hid (BT.out.keep (Keep.below hb1))
                    replace HA1 := Lib.hid (HA1.out.keep (Keep.below hb1))
                    replace HA2 := Lib.hid (HA2.out.keep (Keep.below hb1))
                    replace HU := Lib.hid (HU.out.keep hb1)
                    clear n0 n1 c0 cc1 c2 u0 u1
                    clear hb1
                    rw [show decide (JoinsIs N W2 X Y) = true from decide_eq_true S2.out.2.1]
                    obtain ⟨n0, n1⟩ := BN.out
                    obtain ⟨c0, cc1, c2⟩ := BT.out
                    obtain ⟨u0, u1, -, -⟩ := HU.out
                    have hf0 : ∀ (x y : Int) (w : World), (Instr.field 35 (.agg #[.int .i64 x, .int .i64 y]) 0).run Try.prog w = .ok (.int .i64 x) w := fun _ _ _ => by kernel_rfl
                    have hf1 : ∀ (x y : Int) (w : World), (Instr.field 35 (.agg #[.int .i64 x, .int .i64 y]) 1).run Try.prog w = .ok (.int .i64 y) w := fun _ _ _ => by kernel_rfl
                    go_wp2_with fail
                    obtain ⟨wq, hwq⟩ : ∃ wq, wq = wM := ⟨_, rfl⟩
                    subst hwq
                    have ee1 : (y1 == y1) = true := by simp
                    have ee2 : (y2 == y2) = true := by simp
                    have ee3 : decide (y1 = y1) = true := by simp
                    have ee4 : decide (y2 = y2) = true := by simp
                    have HBd : Hid (Below wq.heap.size wq wq.drew) := Lib.hid (Below.refl _ _).drew
                    have MK : Hid (∀ w', Below wq.heap.size wq w' → w'.cell? ⟨w.heap.size, 0, none⟩ = some (.slice P N.places.length pc) ∧ w'.cell? ⟨w.heap.size, 1, none⟩ = some (.slice R N.roads.length rc) ∧ w'.cell? ⟨w.heap.size + 1, 0, none⟩ = some (.int .i64 X) ∧ w'.cell? ⟨w.heap.size + 1, 1, none⟩ = some (.int .i64 Y) ∧ w'.cell? ⟨w.heap.size + 1, 2, none⟩ = some (.int .i64 a) ∧ w'.cell? ⟨wI.heap.size, 0, none⟩ = some (.int .i64 y1) ∧ w'.cell? ⟨wI.heap.size, 1, none⟩ = some (.int .i64 y2) ∧ Hid (Below wq.heap.size wq w')) := Lib.hid fun w' hw => ⟨Keep.below hw _ _ n0, Keep.below hw _ _ n1, Keep.below hw _ _ c0, Keep.below hw _ _ cc1, Keep.below hw _ _ c2, Keep.below hw _ _ u0, Keep.below hw _ _ u1, Lib.hid hw⟩
                    clear n0 n1 c0 cc1 c2 u0 u1
                    refine wp_region_held_drew (S := fun w' => w'.cell? ⟨w.heap.size, 0, none⟩ = some (.slice P N.places.length pc) ∧ w'.cell? ⟨w.heap.size, 1, none⟩ = some (.slice R N.roads.length rc) ∧ w'.cell? ⟨w.heap.size + 1, 0, none⟩ = some (.int .i64 X) ∧ w'.cell? ⟨w.heap.size + 1, 1, none⟩ = some (.int .i64 Y) ∧ w'.cell? ⟨w.heap.size + 1, 2, none⟩ = some (.int .i64 a) ∧ w'.cell? ⟨wI.heap.size, 0, none⟩ = some (.int .i64 y1) ∧ w'.cell? ⟨wI.heap.size, 1, none⟩ = some (.int .i64 y2) ∧ Hid (Below wq.heap.size wq w')) (by kernel_rfl) (MK.out _ HBd.out) (fun hHeld => ?_)
                    refine wpAnyH_take (i := 0) (v := ?val0x1) rfl (by kernel_rfl) (by kernel_rfl) (by kernel_rfl) (fun _ _ _ h => h) (Or.inl ⟨by rfl, fun w9 hS9 => ?yields0x1⟩) (by assumption) ?later0x1
                    case yields0x1 =>
                      dsimp only at hS9
                      go_simp
                      try with_reducible rfl
                    try simp only [Act.put, List.getElem_toArray, List.getElem_cons_succ, List.getElem_cons_zero, List.setIfInBounds_toArray, List.set_cons_zero, List.set_cons_succ]
                    refine wpAnyH_take (i := 1) (v := ?val1x2) rfl (by kernel_rfl) (by kernel_rfl) (by kernel_rfl) (fun _ _ _ h => h) (Or.inl ⟨by rfl, fun w9 hS9 => ?yields1x2⟩) (by assumption) ?later1x2
                    case yields1x2 =>
                      dsimp only at hS9
                      go_simp
                      try with_reducible rfl
                    try simp only [Act.put, List.getElem_toArray, List.getElem_cons_succ, List.getElem_cons_zero, List.setIfInBounds_toArray, List.set_cons_zero, List.set_cons_succ]
                    refine wpAnyH_take (i := 2) (v := ?val2x3) rfl (by kernel_rfl) (by kernel_rfl) (by kernel_rfl) (fun _ _ _ h => h) (Or.inl ⟨by rfl, fun w9 hS9 => ?yields2x3⟩) (by assumption) ?later2x3
                    case yields2x3 =>
                      dsimp only at hS9
                      go_simp
                      try with_reducible rfl
                    try simp only [Act.put, List.getElem_toArray, List.getElem_cons_succ, List.getElem_cons_zero, List.setIfInBounds_toArray, List.set_cons_zero, List.set_cons_succ]
                    refine wpAnyH_take (i := 3) (v := ?val3x4) rfl (by kernel_rfl) (by kernel_rfl) (by kernel_rfl) (fun _ _ _ h => h) (Or.inl ⟨by rfl, fun w9 hS9 => ?yields3x4⟩) (by assumption) ?later3x4
                    case yields3x4 =>
                      dsimp only at hS9
                      go_simp
                      try with_reducible rfl
                    try simp only [Act.put, List.getElem_toArray, List.getElem_cons_succ, List.getElem_cons_zero, List.setIfInBounds_toArray, List.set_cons_zero, List.set_cons_succ]
                    refine wpAnyH_take (i := 6) (v := ?val6x5) rfl (by kernel_rfl) (by kernel_rfl) (by kernel_rfl) (fun _ _ _ h => h) (Or.inl ⟨by rfl, fun w9 hS9 => ?yields6x5⟩) (by assumption) ?later6x5
                    case yields6x5 =>
                      dsimp only at hS9
                      go_simp
                      try with_reducible rfl
                    try simp only [Act.put, List.getElem_toArray, List.getElem_cons_succ, List.getElem_cons_zero, List.setIfInBounds_toArray, List.set_cons_zero, List.set_cons_succ]
                    refine wpAnyH_take (i := 7) (v := ?val7x6) rfl (by kernel_rfl) (by kernel_rfl) (by kernel_rfl) (fun _ _ _ h => h) (Or.inl ⟨by rfl, fun w9 hS9 => ?yields7x6⟩) (by assumption) ?later7x6
                    case yields7x6 =>
                      dsimp only at hS9
                      go_simp
                      try with_reducible rfl
                    try simp only [Act.put, List.getElem_toArray, List.getElem_cons_succ, List.getElem_cons_zero, List.setIfInBounds_toArray, List.set_cons_zero, List.set_cons_succ]
                    refine wpAnyH_ready (rs := [4]) (by kernel_rfl) (by simp) ?_
                    refine AllReadyH.cons rfl (fun K hK => ?_) AllReadyH.nil
                    go_simp
                    go_at_call 35
                    go_split_ands
                    have hbb : Below wq.heap.size wq _ := Hid.out (by assumption)
                    refine (rArrivalOf_any N _ W1 A1 ca1 a _ (hN0.out.keep (Keep.below (HW.out.trans (hbb.mono HW.out.size)))) (HA1.out.keep (Keep.below hbb)) HE.out S1.out.2.2.2.1 (by omega) ha0 ha1).mono ?_
                    rintro e' w1 ⟨rfl, hb1⟩
                    rw [HX2.out]
                    go_wp2_with fail
                    refine hK.out _ _ ?_ (fun hHeld => ?_)
                    · (try dsimp only)
                      (go_split_ands; exact MK.out _ (Below.trans (Hid.out (by assumption)) (hb1.mono (Hid.out (by assumption) : Below wq.heap.size wq _).size)))
                    clear hK K
                    try simp only [Act.put, List.getElem_toArray, List.getElem_cons_succ, List.getElem_cons_zero, List.setIfInBounds_toArray, List.set_cons_zero, List.set_cons_succ]
                    refine wpAnyH_take (i := 5) (v := ?val5x7) rfl (by kernel_rfl) (by kernel_rfl) (by kernel_rfl) (fun _ _ _ h => h) (Or.inl ⟨by rfl, fun w9 hS9 => ?yields5x7⟩) (by assumption) ?later5x7
                    case yields5x7 =>
                      dsimp only at hS9
                      go_simp
                      try with_reducible rfl
                    try simp only [Act.put, List.getElem_toArray, List.getElem_cons_succ, List.getElem_cons_zero, List.setIfInBounds_toArray, List.set_cons_zero, List.set_cons_succ]
                    refine wpAnyH_take (i := 8) (v := ?val8x8) rfl (by kernel_rfl) (by kernel_rfl) (by kernel_rfl) (fun _ _ _ h => h) (Or.inl ⟨by rfl, fun w9 hS9 => ?yields8x8⟩) (by assumption) ?later8x8
                    case yields8x8 =>
                      dsimp only at hS9
                      go_simp
                      try with_reducible rfl
                    try simp only [Act.put, List.getElem_toArray, List.getElem_cons_succ, List.getElem_cons_zero, List.setIfInBounds_toArray, List.set_cons_zero, List.set_cons_succ]
                    refine wpAnyH_take (i := 9) (v := ?val9x9) rfl (by kernel_rfl) (by kernel_rfl) (by kernel_rfl) (fun _ _ _ h => h) (Or.inl ⟨by rfl, fun w9 hS9 => ?yields9x9⟩) (by assumption) ?later9x9
                    case yields9x9 =>
                      dsimp only at hS9
                      go_simp
                      try with_reducible rfl
                    try simp only [Act.put, List.getElem_toArray, List.getElem_cons_succ, List.getElem_cons_zero, List.setIfInBounds_toArray, List.set_cons_zero, List.set_cons_succ]
                    refine wpAnyH_take (i := 10) (v := ?val10x10) rfl (by kernel_rfl) (by kernel_rfl) (by kernel_rfl) (fun _ _ _ h => h) (Or.inl ⟨by rfl, fun w9 hS9 => ?yields10x10⟩) (by assumption) ?later10x10
                    case yields10x10 =>
                      dsimp only at hS9
                      go_simp
                      try with_reducible rfl
                    try simp only [Act.put, List.getElem_toArray, List.getElem_cons_succ, List.getElem_cons_zero, List.setIfInBounds_toArray, List.set_cons_zero, List.set_cons_succ]
                    refine wpAnyH_take (i := 11) (v := ?val11x11) rfl (by kernel_rfl) (by kernel_rfl) (by kernel_rfl) (fun _ _ _ h => h) (Or.inl ⟨by rfl, fun w9 hS9 => ?yields11x11⟩) (by assumption) ?later11x11
                    case yields11x11 =>
                      dsimp only at hS9
                      go_simp
                      try with_reducible rfl
                    try simp only [Act.put, List.getElem_toArray, List.getElem_cons_succ, List.getElem_cons_zero, List.setIfInBounds_toArray, List.set_cons_zero, List.set_cons_succ]
                    refine wpAnyH_take (i := 12) (v := ?val12x12) rfl (by kernel_rfl) (by kernel_rfl) (by kernel_rfl) (fun _ _ _ h => h) (Or.inl ⟨by rfl, fun w9 hS9 => ?yields12x12⟩) (by assumption) ?later12x12
                    case yields12x12 =>
                      dsimp only at hS9
                      go_simp
                      try with_reducible rfl
                    try simp only [Act.put, List.getElem_toArray, List.getElem_cons_succ, List.getElem_cons_zero, List.setIfInBounds_toArray, List.set_cons_zero, List.set_cons_succ]
                    refine wpAnyH_take (i := 13) (v := ?val13x13) rfl (by kernel_rfl) (by kernel_rfl) (by kernel_rfl) (fun _ _ _ h => h) (Or.inl ⟨by rfl, fun w9 hS9 => ?yields13x13⟩) (by assumption) ?later13x13
                    case yields13x13 =>
                      dsimp only at hS9
                      go_simp
                      try with_reducible rfl
                    try simp only [Act.put, List.getElem_toArray, List.getElem_cons_succ, List.getElem_cons_zero, List.setIfInBounds_toArray, List.set_cons_zero, List.set_cons_succ]
                    refine wpAnyH_take (i := 16) (v := ?val16x14) rfl (by kernel_rfl) (by kernel_rfl) (by kernel_rfl) (fun _ _ _ h => h) (Or.inl ⟨by rfl, fun w9 hS9 => ?yields16x14⟩) (by assumption) ?later16x14
                    case yields16x14 =>
                      dsimp only at hS9
                      go_simp
                      try with_reducible rfl
                    try simp only [Act.put, List.getElem_toArray, List.getElem_cons_succ, List.getElem_cons_zero, List.setIfInBounds_toArray, List.set_cons_zero, List.set_cons_succ]
                    refine wpAnyH_take (i := 17) (v := ?val17x15) rfl (by kernel_rfl) (by kernel_rfl) (by kernel_rfl) (fun _ _ _ h => h) (Or.inl ⟨by rfl, fun w9 hS9 => ?yields17x15⟩) (by assumption) ?later17x15
                    case yields17x15 =>
                      dsimp only at hS9
                      go_simp
                      try with_reducible rfl
                    try simp only [Act.put, List.getElem_toArray, List.getElem_cons_succ, List.getElem_cons_zero, List.setIfInBounds_toArray, List.set_cons_zero, List.set_cons_succ]
                    refine wpAnyH_ready (rs := [14]) (by kernel_rfl) (by simp) ?_
                    refine AllReadyH.cons rfl (fun K hK => ?_) AllReadyH.nil
                    go_simp
                    go_at_call 35
                    go_split_ands
                    have hbb : Below wq.heap.size wq _ := Hid.out (by assumption)
                    refine (rArrivalOf_any N _ W2 A2 ca2 a _ (hN0.out.keep (Keep.below (HW.out.trans (hbb.mono HW.out.size)))) (HA2.out.keep (Keep.below hbb)) HE.out S2.out.2.2.2.1 (by omega) ha0 ha1).mono ?_
                    rintro e' w1 ⟨rfl, hb1⟩
                    rw [HX1.out]
                    go_wp2_with fail
                    refine hK.out _ _ ?_ (fun hHeld => ?_)
                    · (try dsimp only)
                      (go_split_ands; exact MK.out _ (Below.trans (Hid.out (by assumption)) (hb1.mono (Hid.out (by assumption) : Below wq.heap.size wq _).size)))
                    clear hK K
                    try simp only [Act.put, List.getElem_toArray, List.getElem_cons_succ, List.getElem_cons_zero, List.setIfInBounds_toArray, List.set_cons_zero, List.set_cons_succ]
                    refine wpAnyH_take (i := 15) (v := ?val15x16) rfl (by kernel_rfl) (by kernel_rfl) (by kernel_rfl) (fun _ _ _ h => h) (Or.inl ⟨by rfl, fun w9 hS9 => ?yields15x16⟩) (by assumption) ?later15x16
                    case yields15x16 =>
                      dsimp only at hS9
                      go_simp
                      try with_reducible rfl
                    try simp only [Act.put, List.getElem_toArray, List.getElem_cons_succ, List.getElem_cons_zero, List.setIfInBounds_toArray, List.set_cons_zero, List.set_cons_succ]
                    refine wpAnyH_take (i := 18) (v := ?val18x17) rfl (by kernel_rfl) (by kernel_rfl) (by kernel_rfl) (fun _ _ _ h => h) (Or.inl ⟨by rfl, fun w9 hS9 => ?yields18x17⟩) (by assumption) ?later18x17
                    case yields18x17 =>
                      dsimp only at hS9
                      go_simp
                      try with_reducible rfl
                    try simp only [Act.put, List.getElem_toArray, List.getElem_cons_succ, List.getElem_cons_zero, List.setIfInBounds_toArray, List.set_cons_zero, List.set_cons_succ]
                    refine wpAnyH_take (i := 19) (v := ?val19x18) rfl (by kernel_rfl) (by kernel_rfl) (by kernel_rfl) (fun _ _ _ h => h) (Or.inl ⟨by rfl, fun w9 hS9 => ?yields19x18⟩) (by assumption) ?later19x18
                    case yields19x18 =>
                      dsimp only at hS9
                      go_simp
                      try with_reducible rfl
                    try simp only [Act.put, List.getElem_toArray, List.getElem_cons_succ, List.getElem_cons_zero, List.setIfInBounds_toArray, List.set_cons_zero, List.set_cons_succ]
                    refine wpAnyH_take (i := 20) (v := ?val20x19) rfl (by kernel_rfl) (by kernel_rfl) (by kernel_rfl) (fun _ _ _ h => h) (Or.inl ⟨by rfl, fun w9 hS9 => ?yields20x19⟩) (by assumption) ?later20x19
                    case yields20x19 =>
                      dsimp only at hS9
                      go_simp
                      try with_reducible rfl
                    try simp only [Act.put, List.getElem_toArray, List.getElem_cons_succ, List.getElem_cons_zero, List.setIfInBounds_toArray, List.set_cons_zero, List.set_cons_succ]
                    refine wpAnyH_done (by kernel_rfl) ?_ _
                    obtain ⟨-, -, -, -, -, -, -, hbq⟩ := hHeld
                    go_wp2_with fail
                    go_ret
                    exact ⟨rfl, HW.out.trans (hbq.out.mono HW.out.size)⟩
                  · have es : (listI (search N X a (soonest N)).labels Y) = -1 := by omega
                    have el : (listI (search N X a (latest N)).labels Y) = -1 := by
                      by_cases e : (listI (search N X a (latest N)).labels Y) = -1
                      · exact e
                      · exact absurd es (rl e)
                    have F1 := HFE.out (soonest N)
                    have F2 := HFE.out (latest N)
                    rw [if_pos es] at F1
                    rw [if_pos el] at F2
                    have g3 : W1 = [] := HN1.out (by rw [F1]; decide)
                    have g4 : W2 = [] := HN2.out (by rw [F2]; decide)
                    rw [F1, F2, g3, g4, show decide (0 ≤ (listI (search N X a (soonest N)).labels Y)) = false from decide_eq_false hp]
                    clear F1 F2 HN1 HN2 HC1 HC2 HA1 HA2 HFE hi1 hj1 rs rl
                    subst g3
                    subst g4
                    clear es el
                    generalize (listI (search N X a (soonest N)).labels Y) = y1 at *
                    generalize (listI (search N X a (latest N)).labels Y) = y2 at *
                    obtain ⟨u0, u1, -, -⟩ := HU.out
                    go_wp2_with fail
                    go_ret
                    exact ⟨rfl, HW.out⟩
                · have e1 : (wayErr N l == 0) = false := by simpa using hw
                  have e2 : (wayErr N l != 0) = true := by simpa using hw
                  have F := HDT.out
                  rw [if_neg hw] at F
                  rw [F] at HT
                  rw [F]
                  clear F hw
                  obtain ⟨n0, n1⟩ := BN.out
                  obtain ⟨c0, cc1, c2⟩ := BT.out
                  obtain ⟨t0, t1, -, -⟩ := HT.out
                  go_wp2_with fail
                  refine (rEstimate_any N _ X Y a _ (hN0.out.keep (Keep.below HW.out)) HE.out hXl hYl hta2.1 ha1).mono ?_
                  rintro e' wI ⟨rfl, hb1⟩
                  replace HW := Lib.hid (HW.out.trans (hb1.mono HW.out.size))
                  replace BN := Lib.hid (BN.out.keep (Keep.below hb1))
                  replace BT := Lib.hid (BT.out.keep (Keep.below hb1))
                  replace HA1 := Lib.hid (HA1.out.keep (Keep.below hb1))
                  replace HA2 := Lib.hid (HA2.out.keep (Keep.below hb1))
                  replace HT := Lib.hid (HT.out.keep hb1)
                  clear n0 n1 c0 cc1 c2 t0 t1
                  clear hb1
                  have HU := Lib.hid (TreeAt.new wI (.int .i64 (listI (search N X a (soonest N)).labels Y)) (.int .i64 (listI (search N X a (latest N)).labels Y)) 35)
                  have hb8 : Below wI.heap.size wI (wI.alloc (.cells #[.int .i64 (listI (search N X a (soonest N)).labels Y), .int .i64 (listI (search N X a (latest N)).labels Y)] 35)) := (Below.refl _ _).alloc (Nat.le_refl _) _
                  replace HW := Lib.hid (HW.out.trans (hb8.mono HW.out.size))
                  replace BN := Lib.hid (BN.out.keep (Keep.below hb8))
                  replace BT := Lib.hid (BT.out.keep (Keep.below hb8))
                  replace HA1 := Lib.hid (HA1.out.keep (Keep.below hb8))
                  replace HA2 := Lib.hid (HA2.out.keep (Keep.below hb8))
                  replace HT := Lib.hid (HT.out.keep hb8)
                  clear hb8
                  clear HT
                  unfold estBack
                  have hi1 := (search_found (net_joined HE.out) (soonest_good HE.out) hXl hta2.1).least Y hYl
                  have hj1 := (search_found (net_joined HE.out) (latest_good HE.out) hXl hta2.1).least Y hYl
                  have rs := search_reach (net_joined HE.out) (soonest_good HE.out) (latest_good HE.out) hXl hta2.1 hta2.1 Y hYl
                  have rl := search_reach (net_joined HE.out) (latest_good HE.out) (soonest_good HE.out) hXl hta2.1 hta2.1 Y hYl
                  by_cases hp : 0 ≤ (listI (search N X a (soonest N)).labels Y)
                  · have ns : (listI (search N X a (soonest N)).labels Y) ≠ -1 := by omega
                    have nl : (listI (search N X a (latest N)).labels Y) ≠ -1 := rs ns
                    have F1 := HFE.out (soonest N)
                    have F2 := HFE.out (latest N)
                    rw [if_neg ns] at F1
                    rw [if_neg nl] at F2
                    rw [F1, F2, show decide (0 ≤ (listI (search N X a (soonest N)).labels Y)) = true from decide_eq_true hp]
                    have ch1 := HC1.out F1
                    have ch2 := HC2.out F2
                    rw [Int.toNat_natCast] at ch1 ch2
                    have S1 := Lib.hid (fast_way HE.out (soonest_good HE.out) hXl hYl hta2.1 ns ch1)
                    have S2 := Lib.hid (fast_way HE.out (latest_good HE.out) hXl hYl hta2.1 nl ch2)
                    obtain ⟨x2, hx2⟩ : ∃ x2, arrivals N W1 a = ((listI (search N X a (soonest N)).labels Y), x2) := ⟨(arrivals N W1 a).2, Prod.ext S1.out.2.2.1 rfl⟩
                    obtain ⟨x1, hx1⟩ : ∃ x1, arrivals N W2 a = (x1, (listI (search N X a (latest N)).labels Y)) := ⟨(arrivals N W2 a).1, Prod.ext rfl S2.out.2.2.1⟩
                    have hs1 := S1.out.2.2.2.2
                    have hs2 := S2.out.2.2.2.2
                    have HX2 := Lib.hid hx2
                    have HX1 := Lib.hid hx1
                    clear hx1 hx2 ch1 ch2 F1 F2 ns nl hi1 hj1 rs rl HC1 HC2 HN1 HN2 HFE HDT
                    generalize (listI (search N X a (soonest N)).labels Y) = y1 at *
                    generalize (listI (search N X a (latest N)).labels Y) = y2 at *
                    obtain ⟨n0, n1⟩ := BN.out
                    obtain ⟨c0, cc1, c2⟩ := BT.out
                    obtain ⟨u0, u1, -, -⟩ := HU.out
                    go_wp2_with fail
                    refine (rWayErr_any N _ W1 A1 ca1 _ (hN0.out.keep (Keep.below HW.out)) HA1.out).mono ?_
                    rintro e' wJ ⟨rfl, hb1⟩
                    replace HW := Lib.hid (HW.out.trans (hb1.mono HW.out.size))
                    replace BN := Lib.hid (BN.out.keep (Keep.below hb1))
                    replace BT := Lib.hid (BT.out.keep (Keep.below hb1))
                    replace HA1 := Lib.hid (HA1.out.keep (Keep.below hb1))
                    replace HA2 := Lib.hid (HA2.out.keep (Keep.below hb1))
                    replace HU := Lib.hid (HU.out.keep hb1)
                    clear n0 n1 c0 cc1 c2 u0 u1
                    clear hb1
                    rw [S1.out.1]
                    obtain ⟨n0, n1⟩ := BN.out
                    obtain ⟨c0, cc1, c2⟩ := BT.out
                    obtain ⟨u0, u1, -, -⟩ := HU.out
                    go_wp2_with fail
                    refine (rJoins_any N _ W1 A1 ca1 X Y _ (hN0.out.keep (Keep.below HW.out)) HA1.out S1.out.2.2.2.1).mono ?_
                    rintro e' wK ⟨rfl, hb1⟩
                    replace HW := Lib.hid (HW.out.trans (hb1.mono HW.out.size))
                    replace BN := Lib.hid (BN.out.keep (Keep.below hb1))
                    replace BT := Lib.hid (BT.out.keep (Keep.below hb1))
                    replace HA1 := Lib.hid (HA1.out.keep (Keep.below hb1))
                    replace HA2 := Lib.hid (HA2.out.keep (Keep.below hb1))
                    replace HU := Lib.hid (HU.out.keep hb1)
                    clear n0 n1 c0 cc1 c2 u0 u1
                    clear hb1
                    rw [show decide (JoinsIs N W1 X Y) = true from decide_eq_true S1.out.2.1]
                    obtain ⟨n0, n1⟩ := BN.out
                    obtain ⟨c0, cc1, c2⟩ := BT.out
                    obtain ⟨u0, u1, -, -⟩ := HU.out
                    go_wp2_with fail
                    refine (rWayErr_any N _ W2 A2 ca2 _ (hN0.out.keep (Keep.below HW.out)) HA2.out).mono ?_
                    rintro e' wL ⟨rfl, hb1⟩
                    replace HW := Lib.hid (HW.out.trans (hb1.mono HW.out.size))
                    replace BN := Lib.hid (BN.out.keep (Keep.below hb1))
                    replace BT := Lib.hid (BT.out.keep (Keep.below hb1))
                    replace HA1 := Lib.hid (HA1.out.keep (Keep.below hb1))
                    replace HA2 := Lib.hid (HA2.out.keep (Keep.below hb1))
                    replace HU := Lib.hid (HU.out.keep hb1)
                    clear n0 n1 c0 cc1 c2 u0 u1
                    clear hb1
                    rw [S2.out.1]
                    obtain ⟨n0, n1⟩ := BN.out
                    obtain ⟨c0, cc1, c2⟩ := BT.out
                    obtain ⟨u0, u1, -, -⟩ := HU.out
                    go_wp2_with fail
                    refine (rJoins_any N _ W2 A2 ca2 X Y _ (hN0.out.keep (Keep.below HW.out)) HA2.out S2.out.2.2.2.1).mono ?_
                    rintro e' wM ⟨rfl, hb1⟩
                    replace HW := Lib.hid (HW.out.trans (hb1.mono HW.out.size))
                    replace BN := Lib.hid (BN.out.keep (Keep.below hb1))
                    replace BT := Lib.hid (BT.out.keep (Keep.below hb1))
                    replace HA1 := Lib.hid (HA1.out.keep (Keep.below hb1))
                    replace HA2 := Lib.hid (HA2.out.keep (Keep.below hb1))
                    replace HU := Lib.hid (HU.out.keep hb1)
                    clear n0 n1 c0 cc1 c2 u0 u1
                    clear hb1
                    rw [show decide (JoinsIs N W2 X Y) = true from decide_eq_true S2.out.2.1]
                    obtain ⟨n0, n1⟩ := BN.out
                    obtain ⟨c0, cc1, c2⟩ := BT.out
                    obtain ⟨u0, u1, -, -⟩ := HU.out
                    have hf0 : ∀ (x y : Int) (w : World), (Instr.field 35 (.agg #[.int .i64 x, .int .i64 y]) 0).run Try.prog w = .ok (.int .i64 x) w := fun _ _ _ => by kernel_rfl
                    have hf1 : ∀ (x y : Int) (w : World), (Instr.field 35 (.agg #[.int .i64 x, .int .i64 y]) 1).run Try.prog w = .ok (.int .i64 y) w := fun _ _ _ => by kernel_rfl
                    go_wp2_with fail
                    obtain ⟨wq, hwq⟩ : ∃ wq, wq = wM := ⟨_, rfl⟩
                    subst hwq
                    have ee1 : (y1 == y1) = true := by simp
                    have ee2 : (y2 == y2) = true := by simp
                    have ee3 : decide (y1 = y1) = true := by simp
                    have ee4 : decide (y2 = y2) = true := by simp
                    have HBd : Hid (Below wq.heap.size wq wq.drew) := Lib.hid (Below.refl _ _).drew
                    have MK : Hid (∀ w', Below wq.heap.size wq w' → w'.cell? ⟨w.heap.size, 0, none⟩ = some (.slice P N.places.length pc) ∧ w'.cell? ⟨w.heap.size, 1, none⟩ = some (.slice R N.roads.length rc) ∧ w'.cell? ⟨w.heap.size + 1, 0, none⟩ = some (.int .i64 X) ∧ w'.cell? ⟨w.heap.size + 1, 1, none⟩ = some (.int .i64 Y) ∧ w'.cell? ⟨w.heap.size + 1, 2, none⟩ = some (.int .i64 a) ∧ w'.cell? ⟨wI.heap.size, 0, none⟩ = some (.int .i64 y1) ∧ w'.cell? ⟨wI.heap.size, 1, none⟩ = some (.int .i64 y2) ∧ Hid (Below wq.heap.size wq w')) := Lib.hid fun w' hw => ⟨Keep.below hw _ _ n0, Keep.below hw _ _ n1, Keep.below hw _ _ c0, Keep.below hw _ _ cc1, Keep.below hw _ _ c2, Keep.below hw _ _ u0, Keep.below hw _ _ u1, Lib.hid hw⟩
                    clear n0 n1 c0 cc1 c2 u0 u1
                    refine wp_region_held_drew (S := fun w' => w'.cell? ⟨w.heap.size, 0, none⟩ = some (.slice P N.places.length pc) ∧ w'.cell? ⟨w.heap.size, 1, none⟩ = some (.slice R N.roads.length rc) ∧ w'.cell? ⟨w.heap.size + 1, 0, none⟩ = some (.int .i64 X) ∧ w'.cell? ⟨w.heap.size + 1, 1, none⟩ = some (.int .i64 Y) ∧ w'.cell? ⟨w.heap.size + 1, 2, none⟩ = some (.int .i64 a) ∧ w'.cell? ⟨wI.heap.size, 0, none⟩ = some (.int .i64 y1) ∧ w'.cell? ⟨wI.heap.size, 1, none⟩ = some (.int .i64 y2) ∧ Hid (Below wq.heap.size wq w')) (by kernel_rfl) (MK.out _ HBd.out) (fun hHeld => ?_)
                    refine wpAnyH_take (i := 0) (v := ?val0x20) rfl (by kernel_rfl) (by kernel_rfl) (by kernel_rfl) (fun _ _ _ h => h) (Or.inl ⟨by rfl, fun w9 hS9 => ?yields0x20⟩) (by assumption) ?later0x20
                    case yields0x20 =>
                      dsimp only at hS9
                      go_simp
                      try with_reducible rfl
                    try simp only [Act.put, List.getElem_toArray, List.getElem_cons_succ, List.getElem_cons_zero, List.setIfInBounds_toArray, List.set_cons_zero, List.set_cons_succ]
                    refine wpAnyH_take (i := 1) (v := ?val1x21) rfl (by kernel_rfl) (by kernel_rfl) (by kernel_rfl) (fun _ _ _ h => h) (Or.inl ⟨by rfl, fun w9 hS9 => ?yields1x21⟩) (by assumption) ?later1x21
                    case yields1x21 =>
                      dsimp only at hS9
                      go_simp
                      try with_reducible rfl
                    try simp only [Act.put, List.getElem_toArray, List.getElem_cons_succ, List.getElem_cons_zero, List.setIfInBounds_toArray, List.set_cons_zero, List.set_cons_succ]
                    refine wpAnyH_take (i := 2) (v := ?val2x22) rfl (by kernel_rfl) (by kernel_rfl) (by kernel_rfl) (fun _ _ _ h => h) (Or.inl ⟨by rfl, fun w9 hS9 => ?yields2x22⟩) (by assumption) ?later2x22
                    case yields2x22 =>
                      dsimp only at hS9
                      go_simp
                      try with_reducible rfl
                    try simp only [Act.put, List.getElem_toArray, List.getElem_cons_succ, List.getElem_cons_zero, List.setIfInBounds_toArray, List.set_cons_zero, List.set_cons_succ]
                    refine wpAnyH_take (i := 3) (v := ?val3x23) rfl (by kernel_rfl) (by kernel_rfl) (by kernel_rfl) (fun _ _ _ h => h) (Or.inl ⟨by rfl, fun w9 hS9 => ?yields3x23⟩) (by assumption) ?later3x23
                    case yields3x23 =>
                      dsimp only at hS9
                      go_simp
                      try with_reducible rfl
                    try simp only [Act.put, List.getElem_toArray, List.getElem_cons_succ, List.getElem_cons_zero, List.setIfInBounds_toArray, List.set_cons_zero, List.set_cons_succ]
                    refine wpAnyH_take (i := 6) (v := ?val6x24) rfl (by kernel_rfl) (by kernel_rfl) (by kernel_rfl) (fun _ _ _ h => h) (Or.inl ⟨by rfl, fun w9 hS9 => ?yields6x24⟩) (by assumption) ?later6x24
                    case yields6x24 =>
                      dsimp only at hS9
                      go_simp
                      try with_reducible rfl
                    try simp only [Act.put, List.getElem_toArray, List.getElem_cons_succ, List.getElem_cons_zero, List.setIfInBounds_toArray, List.set_cons_zero, List.set_cons_succ]
                    refine wpAnyH_take (i := 7) (v := ?val7x25) rfl (by kernel_rfl) (by kernel_rfl) (by kernel_rfl) (fun _ _ _ h => h) (Or.inl ⟨by rfl, fun w9 hS9 => ?yields7x25⟩) (by assumption) ?later7x25
                    case yields7x25 =>
                      dsimp only at hS9
                      go_simp
                      try with_reducible rfl
                    try simp only [Act.put, List.getElem_toArray, List.getElem_cons_succ, List.getElem_cons_zero, List.setIfInBounds_toArray, List.set_cons_zero, List.set_cons_succ]
                    refine wpAnyH_ready (rs := [4]) (by kernel_rfl) (by simp) ?_
                    refine AllReadyH.cons rfl (fun K hK => ?_) AllReadyH.nil
                    go_simp
                    go_at_call 35
                    go_split_ands
                    have hbb : Below wq.heap.size wq _ := Hid.out (by assumption)
                    refine (rArrivalOf_any N _ W1 A1 ca1 a _ (hN0.out.keep (Keep.below (HW.out.trans (hbb.mono HW.out.size)))) (HA1.out.keep (Keep.below hbb)) HE.out S1.out.2.2.2.1 (by omega) ha0 ha1).mono ?_
                    rintro e' w1 ⟨rfl, hb1⟩
                    rw [HX2.out]
                    go_wp2_with fail
                    refine hK.out _ _ ?_ (fun hHeld => ?_)
                    · (try dsimp only)
                      (go_split_ands; exact MK.out _ (Below.trans (Hid.out (by assumption)) (hb1.mono (Hid.out (by assumption) : Below wq.heap.size wq _).size)))
                    clear hK K
                    try simp only [Act.put, List.getElem_toArray, List.getElem_cons_succ, List.getElem_cons_zero, List.setIfInBounds_toArray, List.set_cons_zero, List.set_cons_succ]
                    refine wpAnyH_take (i := 5) (v := ?val5x26) rfl (by kernel_rfl) (by kernel_rfl) (by kernel_rfl) (fun _ _ _ h => h) (Or.inl ⟨by rfl, fun w9 hS9 => ?yields5x26⟩) (by assumption) ?later5x26
                    case yields5x26 =>
                      dsimp only at hS9
                      go_simp
                      try with_reducible rfl
                    try simp only [Act.put, List.getElem_toArray, List.getElem_cons_succ, List.getElem_cons_zero, List.setIfInBounds_toArray, List.set_cons_zero, List.set_cons_succ]
                    refine wpAnyH_take (i := 8) (v := ?val8x27) rfl (by kernel_rfl) (by kernel_rfl) (by kernel_rfl) (fun _ _ _ h => h) (Or.inl ⟨by rfl, fun w9 hS9 => ?yields8x27⟩) (by assumption) ?later8x27
                    case yields8x27 =>
                      dsimp only at hS9
                      go_simp
                      try with_reducible rfl
                    try simp only [Act.put, List.getElem_toArray, List.getElem_cons_succ, List.getElem_cons_zero, List.setIfInBounds_toArray, List.set_cons_zero, List.set_cons_succ]
                    refine wpAnyH_take (i := 9) (v := ?val9x28) rfl (by kernel_rfl) (by kernel_rfl) (by kernel_rfl) (fun _ _ _ h => h) (Or.inl ⟨by rfl, fun w9 hS9 => ?yields9x28⟩) (by assumption) ?later9x28
                    case yields9x28 =>
                      dsimp only at hS9
                      go_simp
                      try with_reducible rfl
                    try simp only [Act.put, List.getElem_toArray, List.getElem_cons_succ, List.getElem_cons_zero, List.setIfInBounds_toArray, List.set_cons_zero, List.set_cons_succ]
                    refine wpAnyH_take (i := 10) (v := ?val10x29) rfl (by kernel_rfl) (by kernel_rfl) (by kernel_rfl) (fun _ _ _ h => h) (Or.inl ⟨by rfl, fun w9 hS9 => ?yields10x29⟩) (by assumption) ?later10x29
                    case yields10x29 =>
                      dsimp only at hS9
                      go_simp
                      try with_reducible rfl
                    try simp only [Act.put, List.getElem_toArray, List.getElem_cons_succ, List.getElem_cons_zero, List.setIfInBounds_toArray, List.set_cons_zero, List.set_cons_succ]
                    refine wpAnyH_take (i := 11) (v := ?val11x30) rfl (by kernel_rfl) (by kernel_rfl) (by kernel_rfl) (fun _ _ _ h => h) (Or.inl ⟨by rfl, fun w9 hS9 => ?yields11x30⟩) (by assumption) ?later11x30
                    case yields11x30 =>
                      dsimp only at hS9
                      go_simp
                      try with_reducible rfl
                    try simp only [Act.put, List.getElem_toArray, List.getElem_cons_succ, List.getElem_cons_zero, List.setIfInBounds_toArray, List.set_cons_zero, List.set_cons_succ]
                    refine wpAnyH_take (i := 12) (v := ?val12x31) rfl (by kernel_rfl) (by kernel_rfl) (by kernel_rfl) (fun _ _ _ h => h) (Or.inl ⟨by rfl, fun w9 hS9 => ?yields12x31⟩) (by assumption) ?later12x31
                    case yields12x31 =>
                      dsimp only at hS9
                      go_simp
                      try with_reducible rfl
                    try simp only [Act.put, List.getElem_toArray, List.getElem_cons_succ, List.getElem_cons_zero, List.setIfInBounds_toArray, List.set_cons_zero, List.set_cons_succ]
                    refine wpAnyH_take (i := 13) (v := ?val13x32) rfl (by kernel_rfl) (by kernel_rfl) (by kernel_rfl) (fun _ _ _ h => h) (Or.inl ⟨by rfl, fun w9 hS9 => ?yields13x32⟩) (by assumption) ?later13x32
                    case yields13x32 =>
                      dsimp only at hS9
                      go_simp
                      try with_reducible rfl
                    try simp only [Act.put, List.getElem_toArray, List.getElem_cons_succ, List.getElem_cons_zero, List.setIfInBounds_toArray, List.set_cons_zero, List.set_cons_succ]
                    refine wpAnyH_take (i := 16) (v := ?val16x33) rfl (by kernel_rfl) (by kernel_rfl) (by kernel_rfl) (fun _ _ _ h => h) (Or.inl ⟨by rfl, fun w9 hS9 => ?yields16x33⟩) (by assumption) ?later16x33
                    case yields16x33 =>
                      dsimp only at hS9
                      go_simp
                      try with_reducible rfl
                    try simp only [Act.put, List.getElem_toArray, List.getElem_cons_succ, List.getElem_cons_zero, List.setIfInBounds_toArray, List.set_cons_zero, List.set_cons_succ]
                    refine wpAnyH_take (i := 17) (v := ?val17x34) rfl (by kernel_rfl) (by kernel_rfl) (by kernel_rfl) (fun _ _ _ h => h) (Or.inl ⟨by rfl, fun w9 hS9 => ?yields17x34⟩) (by assumption) ?later17x34
                    case yields17x34 =>
                      dsimp only at hS9
                      go_simp
                      try with_reducible rfl
                    try simp only [Act.put, List.getElem_toArray, List.getElem_cons_succ, List.getElem_cons_zero, List.setIfInBounds_toArray, List.set_cons_zero, List.set_cons_succ]
                    refine wpAnyH_ready (rs := [14]) (by kernel_rfl) (by simp) ?_
                    refine AllReadyH.cons rfl (fun K hK => ?_) AllReadyH.nil
                    go_simp
                    go_at_call 35
                    go_split_ands
                    have hbb : Below wq.heap.size wq _ := Hid.out (by assumption)
                    refine (rArrivalOf_any N _ W2 A2 ca2 a _ (hN0.out.keep (Keep.below (HW.out.trans (hbb.mono HW.out.size)))) (HA2.out.keep (Keep.below hbb)) HE.out S2.out.2.2.2.1 (by omega) ha0 ha1).mono ?_
                    rintro e' w1 ⟨rfl, hb1⟩
                    rw [HX1.out]
                    go_wp2_with fail
                    refine hK.out _ _ ?_ (fun hHeld => ?_)
                    · (try dsimp only)
                      (go_split_ands; exact MK.out _ (Below.trans (Hid.out (by assumption)) (hb1.mono (Hid.out (by assumption) : Below wq.heap.size wq _).size)))
                    clear hK K
                    try simp only [Act.put, List.getElem_toArray, List.getElem_cons_succ, List.getElem_cons_zero, List.setIfInBounds_toArray, List.set_cons_zero, List.set_cons_succ]
                    refine wpAnyH_take (i := 15) (v := ?val15x35) rfl (by kernel_rfl) (by kernel_rfl) (by kernel_rfl) (fun _ _ _ h => h) (Or.inl ⟨by rfl, fun w9 hS9 => ?yields15x35⟩) (by assumption) ?later15x35
                    case yields15x35 =>
                      dsimp only at hS9
                      go_simp
                      try with_reducible rfl
                    try simp only [Act.put, List.getElem_toArray, List.getElem_cons_succ, List.getElem_cons_zero, List.setIfInBounds_toArray, List.set_cons_zero, List.set_cons_succ]
                    refine wpAnyH_take (i := 18) (v := ?val18x36) rfl (by kernel_rfl) (by kernel_rfl) (by kernel_rfl) (fun _ _ _ h => h) (Or.inl ⟨by rfl, fun w9 hS9 => ?yields18x36⟩) (by assumption) ?later18x36
                    case yields18x36 =>
                      dsimp only at hS9
                      go_simp
                      try with_reducible rfl
                    try simp only [Act.put, List.getElem_toArray, List.getElem_cons_succ, List.getElem_cons_zero, List.setIfInBounds_toArray, List.set_cons_zero, List.set_cons_succ]
                    refine wpAnyH_take (i := 19) (v := ?val19x37) rfl (by kernel_rfl) (by kernel_rfl) (by kernel_rfl) (fun _ _ _ h => h) (Or.inl ⟨by rfl, fun w9 hS9 => ?yields19x37⟩) (by assumption) ?later19x37
                    case yields19x37 =>
                      dsimp only at hS9
                      go_simp
                      try with_reducible rfl
                    try simp only [Act.put, List.getElem_toArray, List.getElem_cons_succ, List.getElem_cons_zero, List.setIfInBounds_toArray, List.set_cons_zero, List.set_cons_succ]
                    refine wpAnyH_take (i := 20) (v := ?val20x38) rfl (by kernel_rfl) (by kernel_rfl) (by kernel_rfl) (fun _ _ _ h => h) (Or.inl ⟨by rfl, fun w9 hS9 => ?yields20x38⟩) (by assumption) ?later20x38
                    case yields20x38 =>
                      dsimp only at hS9
                      go_simp
                      try with_reducible rfl
                    try simp only [Act.put, List.getElem_toArray, List.getElem_cons_succ, List.getElem_cons_zero, List.setIfInBounds_toArray, List.set_cons_zero, List.set_cons_succ]
                    refine wpAnyH_done (by kernel_rfl) ?_ _
                    obtain ⟨-, -, -, -, -, -, -, hbq⟩ := hHeld
                    go_wp2_with fail
                    go_ret
                    exact ⟨rfl, HW.out.trans (hbq.out.mono HW.out.size)⟩
                  · have es : (listI (search N X a (soonest N)).labels Y) = -1 := by omega
                    have el : (listI (search N X a (latest N)).labels Y) = -1 := by
                      by_cases e : (listI (search N X a (latest N)).labels Y) = -1
                      · exact e
                      · exact absurd es (rl e)
                    have F1 := HFE.out (soonest N)
                    have F2 := HFE.out (latest N)
                    rw [if_pos es] at F1
                    rw [if_pos el] at F2
                    have g3 : W1 = [] := HN1.out (by rw [F1]; decide)
                    have g4 : W2 = [] := HN2.out (by rw [F2]; decide)
                    rw [F1, F2, g3, g4, show decide (0 ≤ (listI (search N X a (soonest N)).labels Y)) = false from decide_eq_false hp]
                    clear F1 F2 HN1 HN2 HC1 HC2 HA1 HA2 HFE HDT hi1 hj1 rs rl
                    subst g3
                    subst g4
                    clear es el
                    generalize (listI (search N X a (soonest N)).labels Y) = y1 at *
                    generalize (listI (search N X a (latest N)).labels Y) = y2 at *
                    obtain ⟨u0, u1, -, -⟩ := HU.out
                    go_wp2_with fail
                    go_ret
                    exact ⟨rfl, HW.out⟩
              · have e1 : (tripErr N f t a == 0) = false := by simpa using ht
                have e2 : (tripErr N f t a != 0) = true := by simpa using ht
                have g1 : ∀ nx, fastErr N nx f t a = tripErr N f t a := fun nx => by unfold fastErr; rw [estErr_trip HE.out ht, if_neg ht]
                have g2 : detour N f t a l = ((0, 0), tripErr N f t a) := by unfold detour; rw [dtErr_trip HE.out ht, if_neg ht]
                have g3 : W1 = [] := HN1.out (by rw [g1]; exact ht)
                have g4 : W2 = [] := HN2.out (by rw [g1]; exact ht)
                rw [g2] at HT
                rw [g1, g1, g2, g3, g4]
                clear g1 g2 HN1 HN2 HC1 HC2 HA1 HA2
                subst g3
                subst g4
                obtain ⟨t0, t1, -, -⟩ := HT.out
                clear ht
                go_wp2_with fail
                go_ret
                exact ⟨rfl, HW.out⟩
            · have e1 : (netErr N == 0) = false := by simpa using he
              have e2 : (netErr N != 0) = true := by simpa using he
              have g1 : ∀ nx, fastErr N nx f t a = netErr N := fun nx => by unfold fastErr; rw [estErr_net he, if_neg he]
              have g2 : detour N f t a l = ((0, 0), netErr N) := by unfold detour; rw [dtErr_net he, if_neg he]
              have g3 : W1 = [] := HN1.out (by rw [g1]; exact he)
              have g4 : W2 = [] := HN2.out (by rw [g1]; exact he)
              rw [g2] at HT
              rw [g1, g1, g2, g3, g4]
              clear g1 g2 HN1 HN2 HC1 HC2 HA1 HA2
              subst g3
              subst g4
              obtain ⟨t0, t1, -, -⟩ := HT.out
              clear he
              go_wp2_with fail
              go_ret
              exact ⟨rfl, HW.out⟩
end Go.Proofs.Ythipneggplebcaa

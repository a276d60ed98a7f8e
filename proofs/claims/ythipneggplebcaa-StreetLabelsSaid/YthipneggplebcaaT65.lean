/- The law of labels: earliest arrivals are proved by labels that no way beats. No condition. -/
import Derived.Test.YthipneggplebcaaT35
import Derived.Test.YthipneggplebcaaT65p
import Derived.Deep.CutBlock
namespace Go.Proofs.Ythipneggplebcaa
open Go.RowKit Fs

set_option maxHeartbeats 12800000 in
set_option maxRecDepth 100000 in
theorem law65_any (N : Net) (v : Value) (f t a : Int) (l : List Int) (A : Option Addr) (c : Nat) (w : World) (hN : RdNet w v N) (hA : ArrI w A l c) :
    Calls Try.prog 6 #[v, stripV f t a, .slice A l.length c] w fun e w' => e = .returned (.bool true) ∧ Below w.heap.size w w' := by
  have hN0 := Lib.hid hN
  obtain ⟨P, R, pc, rc, ar, rfl, mm⟩ := hN
  clear mm
  have HA := Lib.hid hA
  have b1 := hA.le
  obtain ⟨ba1, ba2⟩ := b1
  clear hA
  have BN := Lib.hid ((BoxN.new w N P R pc rc 25).keep (Keep.alloc _ (.cells #[.int .i64 f, .int .i64 t, .int .i64 a] 63)))
  have BT := Lib.hid (TripAt.new1 w (.cells #[.slice P N.places.length pc, .slice R N.roads.length rc] 25) f t a 63)
  go_enter Try.func6, Try.ntmps6
  go_upto_region 1 with fail
  generalize hwb : (w.alloc _).alloc _ = wb at *
  have HW : Hid (Below w.heap.size w wb) := by rw [← hwb]; exact Lib.hid (((Below.refl _ _).alloc (Nat.le_refl _) _).alloc (by simp) _)
  clear hwb
  obtain ⟨n0, n1⟩ := BN.out
  obtain ⟨c0, c1, c2⟩ := BT.out
  go_wp2_with fail
  refine (awake_any _).mono ?_
  rintro e' w1 ⟨rfl, hb1⟩
  replace HW := Lib.hid (HW.out.trans (hb1.mono HW.out.size))
  replace BN := Lib.hid (BN.out.keep (Keep.below hb1))
  replace BT := Lib.hid (BT.out.keep (Keep.below hb1))
  clear n0 n1 c0 c1 c2
  clear hb1
  obtain ⟨n0, n1⟩ := BN.out
  obtain ⟨c0, c1, c2⟩ := BT.out
  go_wp2_with fail
  refine (few_any N _ _ (hN0.out.keep (Keep.below HW.out))).mono ?_
  rintro e' wA ⟨rfl, hb1⟩
  replace HW := Lib.hid (HW.out.trans (hb1.mono HW.out.size))
  replace BN := Lib.hid (BN.out.keep (Keep.below hb1))
  replace BT := Lib.hid (BT.out.keep (Keep.below hb1))
  clear n0 n1 c0 c1 c2
  clear hb1
  cases hf : fewN N with
  | false =>
    go_wp2_with fail
    go_ret
    exact ⟨rfl, HW.out⟩
  | true =>
    have HL := Lib.hid (few_lens hf)
    clear hf
    by_cases h1 : l.length ≤ 12
    · have d1 : decide ((l.length : Int) > 12) = false := decide_eq_false (by omega)
      have g1 : decide (12 < (l.length : Int)) = false := decide_eq_false (by omega)
      obtain ⟨n0, n1⟩ := BN.out
      obtain ⟨c0, c1, c2⟩ := BT.out
      go_wp2_with fail
      go_cut [7, 8] from 29 to 39 (fun s1 s2 wx => ∃ (g : Nat) (A1 A2 : Option Addr) (ka kb : Nat), s1 = .pointer (some ⟨g, 0, none⟩) ∧ s2 = .int .i64 (elErr N f a) ∧ wA.heap.size ≤ g ∧ Hid (TreeAt wx g (.slice A1 (elS N f a).length ka) (.slice A2 (elL N f a).length kb)) ∧ Hid (TwoI wx A1 (elS N f a) ka A2 (elL N f a) kb) ∧ Hid (Below wA.heap.size wA wx))
      case first =>
        have HBd : Hid (Below wA.heap.size wA wA.drew) := Lib.hid (Below.refl _ _).drew
        have MK : Hid (∀ w', Below wA.heap.size wA w' → w'.cell? ⟨w.heap.size, 0, none⟩ = some (.slice P N.places.length pc) ∧ w'.cell? ⟨w.heap.size, 1, none⟩ = some (.slice R N.roads.length rc) ∧ w'.cell? ⟨w.heap.size + 1, 0, none⟩ = some (.int .i64 f) ∧ w'.cell? ⟨w.heap.size + 1, 1, none⟩ = some (.int .i64 t) ∧ w'.cell? ⟨w.heap.size + 1, 2, none⟩ = some (.int .i64 a) ∧ Hid (Below wA.heap.size wA w')) :=
          Lib.hid fun w' hw => ⟨Keep.below hw _ _ n0, Keep.below hw _ _ n1, Keep.below hw _ _ c0, Keep.below hw _ _ c1, Keep.below hw _ _ c2, Lib.hid hw⟩
        have KN : Hid (∀ w', Below wA.heap.size wA w' → RdNet w' (netV N P R pc rc) N) := Lib.hid fun w' hw => (hN0.out.keep (Keep.below (HW.out.trans (hw.mono HW.out.size))))
        have KA : Hid (∀ w', Below wA.heap.size wA w' → ArrI w' A l c) := Lib.hid fun w' hw => (HA.out.keep (Keep.below (HW.out.trans (hw.mono HW.out.size))))
        go_region_held3 (fun w' => w'.cell? ⟨w.heap.size, 0, none⟩ = some (.slice P N.places.length pc) ∧ w'.cell? ⟨w.heap.size, 1, none⟩ = some (.slice R N.roads.length rc) ∧ w'.cell? ⟨w.heap.size + 1, 0, none⟩ = some (.int .i64 f) ∧ w'.cell? ⟨w.heap.size + 1, 1, none⟩ = some (.int .i64 t) ∧ w'.cell? ⟨w.heap.size + 1, 2, none⟩ = some (.int .i64 a) ∧ Hid (Below wA.heap.size wA w'))
          (first
            | exact MK.out _ HBd.out
            | (go_split_ands; exact ⟨by assumption, by assumption, by assumption, by assumption, by assumption, by assumption⟩)
            | (go_split_ands; exact MK.out _ (Below.trans (Hid.out (by assumption)) (hb1.mono (Hid.out (by assumption) : Below wA.heap.size wA _).size)))
            | (go_split_ands; exact MK.out _ (Below.alloc (Hid.out (by assumption)) (Hid.out (by assumption) : Below wA.heap.size wA _).size _))
            | (go_split_ands; exact MK.out _ (below_realloc (Hid.out (by assumption)) hle _))
            | (go_split_ands; exact MK.out _ (Below.setCell (Below.setCell (Hid.out (by assumption)) (by show wA.heap.size ≤ _; first | exact Nat.le_refl _ | assumption | omega | (simp; done) | (simp; omega)) _) (by show wA.heap.size ≤ _; first | exact Nat.le_refl _ | assumption | omega | (simp; done) | (simp; omega)) _)))
          ((first
            | (go_at_call 21
               go_split_ands
               refine (copyNet_any N _ _ (KN.out _ (Hid.out (by assumption))) HL.out.1 HL.out.2.1 HL.out.2.2).mono ?_
               rintro e' wz5 ⟨v5, rfl, h5, hb1⟩
               have hle := Nat.le_trans (Hid.out (by assumption) : Below wA.heap.size wA _).size hb1.size
               have H5 := Lib.hid h5
               clear h5
               try (first
                 | (have HT0 := (HT.out.keep hb1 : TreeAt _ _ (.slice none 0 0) (.slice none 0 0)); (try simp only [size_drew] at HT0); (try simp only [World.size_alloc] at HT0); (try simp only [size_drew] at HT0); have HT := Lib.hid HT0; clear HT0; obtain ⟨q0, q1, qf0, qf1⟩ := HT.out)
                 | (have HT0 := ((TreeAt.new _ _ _ 65).keep hb1 : TreeAt _ _ (.slice none 0 0) (.slice none 0 0)); (try simp only [size_drew] at HT0); (try simp only [World.size_alloc] at HT0); (try simp only [size_drew] at HT0); have HT := Lib.hid HT0; clear HT0; obtain ⟨q0, q1, qf0, qf1⟩ := HT.out)
                 | (have HT0 := ((TreeAt.new _ _ _ 65).keepD hb1 : TreeAt _ _ (.slice none 0 0) (.slice none 0 0)); (try simp only [size_drew] at HT0); (try simp only [World.size_alloc] at HT0); (try simp only [size_drew] at HT0); have HT := Lib.hid HT0; clear HT0; obtain ⟨q0, q1, qf0, qf1⟩ := HT.out)))
            | (go_at_call 37
               go_split_ands
               refine (el_any N _ f a _ (by first | exact H5.out | exact H5.out.keep (Keep.alloc _ _))).mono ?_
               rintro e' w7 ⟨A1, ka, A2, kb, rfl, ha1, ha2, hb1⟩
               have hle := Nat.le_trans (Hid.out (by assumption) : Below wA.heap.size wA _).size hb1.size
               try (first
                 | (have HT0 := (HT.out.keep hb1 : TreeAt _ _ (.slice none 0 0) (.slice none 0 0)); (try simp only [size_drew] at HT0); (try simp only [World.size_alloc] at HT0); (try simp only [size_drew] at HT0); have HT := Lib.hid HT0; clear HT0; obtain ⟨q0, q1, qf0, qf1⟩ := HT.out)
                 | (have HT0 := ((TreeAt.new _ _ _ 65).keep hb1 : TreeAt _ _ (.slice none 0 0) (.slice none 0 0)); (try simp only [size_drew] at HT0); (try simp only [World.size_alloc] at HT0); (try simp only [size_drew] at HT0); have HT := Lib.hid HT0; clear HT0; obtain ⟨q0, q1, qf0, qf1⟩ := HT.out)
                 | (have HT0 := ((TreeAt.new _ _ _ 65).keepD hb1 : TreeAt _ _ (.slice none 0 0) (.slice none 0 0)); (try simp only [size_drew] at HT0); (try simp only [World.size_alloc] at HT0); (try simp only [size_drew] at HT0); have HT := Lib.hid HT0; clear HT0; obtain ⟨q0, q1, qf0, qf1⟩ := HT.out)))))
        all_goals
          rename_i hS
          obtain ⟨-, -, -, -, -, hbb⟩ := hS
          go_wp2_with fail
          go_meet
          first
            | exact ⟨_, A1, A2, ka, kb, rfl, rfl, by omega, Lib.hid (TreeAt.new _ _ _ _), Lib.hid ⟨ha1.keep (Keep.alloc _ _), ha2.keep (Keep.alloc _ _)⟩, hbb⟩
            | exact ⟨_, A1, A2, ka, kb, rfl, rfl, by omega, Lib.hid (HT.out.set _ _), Lib.hid ⟨ha1.off2 HT.out _ _, ha2.off2 HT.out _ _⟩, hbb⟩
      case rest =>
        obtain ⟨u1, A1, A2, ka, kb, rfl, rfl, hg, HT, HI, HB⟩ := hcut
        obtain ⟨wB, hwB⟩ : ∃ wz, wz = wc := ⟨_, rfl⟩
        subst hwB
        replace HW := Lib.hid (HW.out.trans (HB.out.mono HW.out.size))
        replace BN := Lib.hid (BN.out.keep (Keep.below HB.out))
        replace BT := Lib.hid (BT.out.keep (Keep.below HB.out))
        clear HB n0 n1 c0 c1 c2
        obtain ⟨n0, n1⟩ := BN.out
        obtain ⟨c0, c1, c2⟩ := BT.out
        obtain ⟨t0, t1, -, -⟩ := HT.out
        go_wp2_with fail
        refine (rNetErr_any N _ _ (hN0.out.keep (Keep.below HW.out))).mono ?_
        rintro e' w3 ⟨rfl, hb1⟩
        replace HW := Lib.hid (HW.out.trans (hb1.mono HW.out.size))
        replace BN := Lib.hid (BN.out.keep (Keep.below hb1))
        replace BT := Lib.hid (BT.out.keep (Keep.below hb1))
        replace HT := Lib.hid (HT.out.keep hb1)
        replace HI := Lib.hid (HI.out.keep (Keep.below hb1))
        clear n0 n1 c0 c1 c2 t0 t1
        clear hb1
        by_cases he : netErr N = 0
        · have HE := Lib.hid he
          rw [he]
          clear he
          obtain ⟨n0, n1⟩ := BN.out
          obtain ⟨c0, c1, c2⟩ := BT.out
          obtain ⟨t0, t1, -, -⟩ := HT.out
          go_wp2_with fail
          refine (rPlaceErr_any N _ f _ (hN0.out.keep (Keep.below HW.out))).mono ?_
          rintro e' w4 ⟨rfl, hb1⟩
          replace HW := Lib.hid (HW.out.trans (hb1.mono HW.out.size))
          replace BN := Lib.hid (BN.out.keep (Keep.below hb1))
          replace BT := Lib.hid (BT.out.keep (Keep.below hb1))
          replace HT := Lib.hid (HT.out.keep hb1)
          replace HI := Lib.hid (HI.out.keep (Keep.below hb1))
          clear n0 n1 c0 c1 c2 t0 t1
          clear hb1
          by_cases hp : noPlace N f = 0
          · have HP := Lib.hid hp
            rw [hp]
            clear hp
            obtain ⟨c0, c1, c2⟩ := BT.out
            go_wp2_with fail
            refine (rTimeErr_any a _).mono ?_
            rintro e' w5 ⟨rfl, rfl⟩
            clear c0 c1 c2
            by_cases ht : timeErr a = 0
            · have HTE := Lib.hid ht
              obtain ⟨a0, a1⟩ := timeErr_ok ht
              have e3 : elErr N f a = 0 := by rw [elErr_is, if_pos HE.out, if_pos HP.out]; exact ht
              have e4 : elS N f a = (search N f a (soonest N)).labels := if_pos e3
              have e5 : elL N f a = (search N f a (latest N)).labels := if_pos e3
              obtain ⟨-, ⟨f0, f1⟩, -⟩ := elErr_ok e3
              rw [e4, e5] at HT HI
              rw [e3, ht]
              obtain ⟨X, hX⟩ : ∃ X : Nat, f = X := ⟨_, (Int.toNat_of_nonneg f0).symm⟩
              subst hX
              have hXl : X < N.places.length := by omega
              have HLF := Lib.hid (lab_facts HE.out hXl a0 a1)
              clear ht e3 e4 e5 f0 f1
              obtain ⟨n0, n1⟩ := BN.out
              obtain ⟨c0, c1, c2⟩ := BT.out
              obtain ⟨t0, t1, -, -⟩ := HT.out
              go_wp2_with fail
              refine (rEarliest_any N _ X a _ (hN0.out.keep (Keep.below HW.out)) HE.out hXl a0 (by omega)).mono ?_
              rintro e' w6 ⟨g1, k1, g2, k2, rfl, -, -, hr1, hr2, hb1⟩
              replace HW := Lib.hid (HW.out.trans (hb1.mono HW.out.size))
              replace BN := Lib.hid (BN.out.keep (Keep.below hb1))
              replace BT := Lib.hid (BT.out.keep (Keep.below hb1))
              replace HT := Lib.hid (HT.out.keep hb1)
              replace HI := Lib.hid (HI.out.keep (Keep.below hb1))
              have HJ : Hid (TwoI w6 (some ⟨g1, 0, none⟩) _ k1 (some ⟨g2, 0, none⟩) _ k2) := Lib.hid ⟨hr1, hr2⟩
              clear hr1 hr2
              clear n0 n1 c0 c1 c2 t0 t1
              clear hb1
              generalize (search N X a (soonest N)).labels = S at *
              generalize (search N X a (latest N)).labels = L at *
              have hs1 := HLF.out.s1
              have hl1 := HLF.out.l1
              rw [hs1, hl1] at HT
              have HS1 := Lib.hid hs1
              have HL1 := Lib.hid hl1
              have h20 := (net_sound HE.out).2.1
              clear hs1 hl1
              have HU := Lib.hid (TreeAt.new w6 (.slice (some ⟨g1, 0, none⟩) N.places.length k1) (.slice (some ⟨g2, 0, none⟩) N.places.length k2) 65)
              have hb8 : Below w6.heap.size w6 (w6.alloc (.cells #[.slice (some ⟨g1, 0, none⟩) N.places.length k1, .slice (some ⟨g2, 0, none⟩) N.places.length k2] 65)) := (Below.refl _ _).alloc (Nat.le_refl _) _
              replace HW := Lib.hid (HW.out.trans (hb8.mono HW.out.size))
              replace BN := Lib.hid (BN.out.keep (Keep.below hb8))
              replace BT := Lib.hid (BT.out.keep (Keep.below hb8))
              replace HT := Lib.hid (HT.out.keep hb8)
              replace HI := Lib.hid (HI.out.keep (Keep.below hb8))
              replace HJ := Lib.hid (HJ.out.keep (Keep.below hb8))
              clear hb8
              obtain ⟨t0, t1, -, -⟩ := HT.out
              obtain ⟨u0, u1, -, -⟩ := HU.out
              go_wp2_with fail
              refine (ints_sameN N.places.length S A1 (some ⟨g1, 0, none⟩) ka k1 _ HS1.out HI.out.1 HJ.out.1).mono ?_
              rintro e' w7 ⟨rfl, hb1⟩
              replace HW := Lib.hid (HW.out.trans (hb1.mono HW.out.size))
              replace BN := Lib.hid (BN.out.keep (Keep.below hb1))
              replace BT := Lib.hid (BT.out.keep (Keep.below hb1))
              replace HT := Lib.hid (HT.out.keep hb1)
              replace HI := Lib.hid (HI.out.keep (Keep.below hb1))
              replace HJ := Lib.hid (HJ.out.keep (Keep.below hb1))
              replace HU := Lib.hid (HU.out.keep hb1)
              clear t0 t1 u0 u1
              clear hb1
              obtain ⟨t0, t1, -, -⟩ := HT.out
              obtain ⟨u0, u1, -, -⟩ := HU.out
              go_wp2_with fail
              refine (ints_sameN N.places.length L A2 (some ⟨g2, 0, none⟩) kb k2 _ HL1.out HI.out.2 HJ.out.2).mono ?_
              rintro e' w8 ⟨rfl, hb1⟩
              replace HW := Lib.hid (HW.out.trans (hb1.mono HW.out.size))
              replace BN := Lib.hid (BN.out.keep (Keep.below hb1))
              replace BT := Lib.hid (BT.out.keep (Keep.below hb1))
              replace HT := Lib.hid (HT.out.keep hb1)
              replace HI := Lib.hid (HI.out.keep (Keep.below hb1))
              replace HJ := Lib.hid (HJ.out.keep (Keep.below hb1))
              replace HU := Lib.hid (HU.out.keep hb1)
              clear t0 t1 u0 u1
              clear hb1
              obtain ⟨n0, n1⟩ := BN.out
              obtain ⟨c0, c1, c2⟩ := BT.out
              go_wp2_with fail
              refine (rPlaceErr_any N _ t _ (hN0.out.keep (Keep.below HW.out))).mono ?_
              rintro e' wD ⟨rfl, hb1⟩
              replace HW := Lib.hid (HW.out.trans (hb1.mono HW.out.size))
              replace BN := Lib.hid (BN.out.keep (Keep.below hb1))
              replace BT := Lib.hid (BT.out.keep (Keep.below hb1))
              replace HT := Lib.hid (HT.out.keep hb1)
              replace HI := Lib.hid (HI.out.keep (Keep.below hb1))
              replace HJ := Lib.hid (HJ.out.keep (Keep.below hb1))
              replace HU := Lib.hid (HU.out.keep hb1)
              clear n0 n1 c0 c1 c2
              clear hb1
              by_cases hy : noPlace N t = 0
              · have HY := Lib.hid hy
                rw [hy]
                have hpt := hy
                unfold noPlace at hpt
                have hyp : isPlace N t = true := by
                  cases hq : isPlace N t with
                  | true => rfl
                  | false => rw [hq] at hpt; exact absurd hpt (by decide)
                obtain ⟨y0, y1⟩ := isPlace_in hyp
                obtain ⟨Y, hY⟩ : ∃ Y : Nat, t = Y := ⟨_, (Int.toNat_of_nonneg y0).symm⟩
                subst hY
                have hYl : Y < N.places.length := by omega
                clear hy hpt hyp y0 y1
                have HCL := Lib.hid (HLF.out.claim Y hYl)
                have HES := Lib.hid (HLF.out.est Y hYl)
                obtain ⟨n0, n1⟩ := BN.out
                obtain ⟨c0, c1, c2⟩ := BT.out
                obtain ⟨u0, u1, -, -⟩ := HU.out
                go_wp2_with fail
                go_cut [11, 12] from 96 to 105 (fun s1 s2 wx => ∃ g : Nat, s1 = .pointer (some ⟨g, 0, none⟩) ∧ s2 = .int .i64 (cl N X Y a S L).2 ∧ wD.heap.size ≤ g ∧ Hid (TreeAt wx g (.int .i64 (cl N X Y a S L).1.1) (.int .i64 (cl N X Y a S L).1.2)) ∧ Hid (Below wD.heap.size wD wx))
                case first =>
                  have HBd : Hid (Below wD.heap.size wD wD.drew) := Lib.hid (Below.refl _ _).drew
                  have MK : Hid (∀ w', Below wD.heap.size wD w' → w'.cell? ⟨w.heap.size, 0, none⟩ = some (.slice P N.places.length pc) ∧ w'.cell? ⟨w.heap.size, 1, none⟩ = some (.slice R N.roads.length rc) ∧ w'.cell? ⟨w.heap.size + 1, 0, none⟩ = some (.int .i64 X) ∧ w'.cell? ⟨w.heap.size + 1, 1, none⟩ = some (.int .i64 Y) ∧ w'.cell? ⟨w.heap.size + 1, 2, none⟩ = some (.int .i64 a) ∧ w'.cell? ⟨w6.heap.size, 0, none⟩ = some (.slice (some ⟨g1, 0, none⟩) N.places.length k1) ∧ w'.cell? ⟨w6.heap.size, 1, none⟩ = some (.slice (some ⟨g2, 0, none⟩) N.places.length k2) ∧ Hid (Below wD.heap.size wD w')) :=
                    Lib.hid fun w' hw => ⟨Keep.below hw _ _ n0, Keep.below hw _ _ n1, Keep.below hw _ _ c0, Keep.below hw _ _ c1, Keep.below hw _ _ c2, Keep.below hw _ _ u0, Keep.below hw _ _ u1, Lib.hid hw⟩
                  have KN : Hid (∀ w', Below wD.heap.size wD w' → RdNet w' (netV N P R pc rc) N) := Lib.hid fun w' hw => (hN0.out.keep (Keep.below (HW.out.trans (hw.mono HW.out.size))))
                  have KA : Hid (∀ w', Below wD.heap.size wD w' → ArrI w' A l c) := Lib.hid fun w' hw => (HA.out.keep (Keep.below (HW.out.trans (hw.mono HW.out.size))))
                  have KJ : Hid (∀ w', Below wD.heap.size wD w' → TwoI w' (some ⟨g1, 0, none⟩) S k1 (some ⟨g2, 0, none⟩) L k2) := Lib.hid fun w' hw => HJ.out.keep (Keep.below hw)
                  go_region_held3 (fun w' => w'.cell? ⟨w.heap.size, 0, none⟩ = some (.slice P N.places.length pc) ∧ w'.cell? ⟨w.heap.size, 1, none⟩ = some (.slice R N.roads.length rc) ∧ w'.cell? ⟨w.heap.size + 1, 0, none⟩ = some (.int .i64 X) ∧ w'.cell? ⟨w.heap.size + 1, 1, none⟩ = some (.int .i64 Y) ∧ w'.cell? ⟨w.heap.size + 1, 2, none⟩ = some (.int .i64 a) ∧ w'.cell? ⟨w6.heap.size, 0, none⟩ = some (.slice (some ⟨g1, 0, none⟩) N.places.length k1) ∧ w'.cell? ⟨w6.heap.size, 1, none⟩ = some (.slice (some ⟨g2, 0, none⟩) N.places.length k2) ∧ Hid (Below wD.heap.size wD w'))
                    (first
                      | exact MK.out _ HBd.out
                      | (go_split_ands; exact ⟨by assumption, by assumption, by assumption, by assumption, by assumption, by assumption, by assumption, by assumption⟩)
                      | (go_split_ands; exact MK.out _ (Below.trans (Hid.out (by assumption)) (hb1.mono (Hid.out (by assumption) : Below wD.heap.size wD _).size)))
                      | (go_split_ands; exact MK.out _ (Below.alloc (Hid.out (by assumption)) (Hid.out (by assumption) : Below wD.heap.size wD _).size _))
                      | (go_split_ands; exact MK.out _ (below_realloc (Hid.out (by assumption)) hle _))
                      | (go_split_ands; exact MK.out _ (Below.setCell (Below.setCell (Hid.out (by assumption)) (by show wD.heap.size ≤ _; first | exact Nat.le_refl _ | assumption | omega | (simp; done) | (simp; omega)) _) (by show wD.heap.size ≤ _; first | exact Nat.le_refl _ | assumption | omega | (simp; done) | (simp; omega)) _)))
                    ((first
                      | (go_at_call 21
                         go_split_ands
                         refine (copyNet_any N _ _ (KN.out _ (Hid.out (by assumption))) HL.out.1 HL.out.2.1 HL.out.2.2).mono ?_
                         rintro e' wz5 ⟨v5, rfl, h5, hb1⟩
                         have hle := Nat.le_trans (Hid.out (by assumption) : Below wD.heap.size wD _).size hb1.size
                         have H5 := Lib.hid h5
                         clear h5
                         try (have H6 := Lib.hid (by first | exact H6.out.keep (Keep.below hb1) | exact (H6.out.keep (Keep.alloc _ _)).keep (Keep.below hb1) : TwoI wz5 A6 S k6 B6 L j6))
                         try (first
                           | (have HT0 := (HT.out.keep hb1 : TreeAt _ _ (.int .i64 0) (.int .i64 0)); (try simp only [size_drew] at HT0); (try simp only [World.size_alloc] at HT0); (try simp only [size_drew] at HT0); have HT := Lib.hid HT0; clear HT0; obtain ⟨q0, q1, qf0, qf1⟩ := HT.out)
                           | (have HT0 := ((TreeAt.new _ _ _ 35).keep hb1 : TreeAt _ _ (.int .i64 0) (.int .i64 0)); (try simp only [size_drew] at HT0); (try simp only [World.size_alloc] at HT0); (try simp only [size_drew] at HT0); have HT := Lib.hid HT0; clear HT0; obtain ⟨q0, q1, qf0, qf1⟩ := HT.out)
                           | (have HT0 := ((TreeAt.new _ _ _ 35).keepD hb1 : TreeAt _ _ (.int .i64 0) (.int .i64 0)); (try simp only [size_drew] at HT0); (try simp only [World.size_alloc] at HT0); (try simp only [size_drew] at HT0); have HT := Lib.hid HT0; clear HT0; obtain ⟨q0, q1, qf0, qf1⟩ := HT.out)))
                      | (go_at_call 42
                         go_split_ands
                         refine (copyLabelsN_any N.places.length S L _ _ k1 k2 _ HS1.out HL1.out (by omega) (KJ.out _ (Hid.out (by assumption))).1 (KJ.out _ (Hid.out (by assumption))).2).mono ?_
                         rintro e' wz6 ⟨A6, k6, B6, j6, rfl, h6, hb1⟩
                         have hle := Nat.le_trans (Hid.out (by assumption) : Below wD.heap.size wD _).size hb1.size
                         have H6 := Lib.hid h6
                         clear h6
                         try (have H5 := Lib.hid (by first | exact H5.out.keep (Keep.below hb1) | exact (H5.out.keep (Keep.alloc _ _)).keep (Keep.below hb1) : RdNet wz6 v5 N))
                         try (first
                           | (have HT0 := (HT.out.keep hb1 : TreeAt _ _ (.int .i64 0) (.int .i64 0)); (try simp only [size_drew] at HT0); (try simp only [World.size_alloc] at HT0); (try simp only [size_drew] at HT0); have HT := Lib.hid HT0; clear HT0; obtain ⟨q0, q1, qf0, qf1⟩ := HT.out)
                           | (have HT0 := ((TreeAt.new _ _ _ 35).keep hb1 : TreeAt _ _ (.int .i64 0) (.int .i64 0)); (try simp only [size_drew] at HT0); (try simp only [World.size_alloc] at HT0); (try simp only [size_drew] at HT0); have HT := Lib.hid HT0; clear HT0; obtain ⟨q0, q1, qf0, qf1⟩ := HT.out)
                           | (have HT0 := ((TreeAt.new _ _ _ 35).keepD hb1 : TreeAt _ _ (.int .i64 0) (.int .i64 0)); (try simp only [size_drew] at HT0); (try simp only [World.size_alloc] at HT0); (try simp only [size_drew] at HT0); have HT := Lib.hid HT0; clear HT0; obtain ⟨q0, q1, qf0, qf1⟩ := HT.out)))
                      | (go_at_call 41
                         go_split_ands
                         refine (checkLabelsN_any N.places.length N _ X Y a S L A6 B6 k6 j6 _ HS1.out HL1.out (by omega) (by first | exact H5.out | exact H5.out.keep (Keep.alloc _ _)) (by first | exact H6.out.1 | exact H6.out.1.keep (Keep.alloc _ _)) (by first | exact H6.out.2 | exact H6.out.2.keep (Keep.alloc _ _))).mono ?_
                         rintro e' w7 ⟨rfl, hb1⟩
                         have hle := Nat.le_trans (Hid.out (by assumption) : Below wD.heap.size wD _).size hb1.size
                         try (first
                           | (have HT0 := (HT.out.keep hb1 : TreeAt _ _ (.int .i64 0) (.int .i64 0)); (try simp only [size_drew] at HT0); (try simp only [World.size_alloc] at HT0); (try simp only [size_drew] at HT0); have HT := Lib.hid HT0; clear HT0; obtain ⟨q0, q1, qf0, qf1⟩ := HT.out)
                           | (have HT0 := ((TreeAt.new _ _ _ 35).keep hb1 : TreeAt _ _ (.int .i64 0) (.int .i64 0)); (try simp only [size_drew] at HT0); (try simp only [World.size_alloc] at HT0); (try simp only [size_drew] at HT0); have HT := Lib.hid HT0; clear HT0; obtain ⟨q0, q1, qf0, qf1⟩ := HT.out)
                           | (have HT0 := ((TreeAt.new _ _ _ 35).keepD hb1 : TreeAt _ _ (.int .i64 0) (.int .i64 0)); (try simp only [size_drew] at HT0); (try simp only [World.size_alloc] at HT0); (try simp only [size_drew] at HT0); have HT := Lib.hid HT0; clear HT0; obtain ⟨q0, q1, qf0, qf1⟩ := HT.out)))))
                  all_goals
                    rename_i hS
                    obtain ⟨-, -, -, -, -, -, -, hbb⟩ := hS
                    go_wp2_with fail
                    go_meet
                    first
                      | exact ⟨_, rfl, rfl, by omega, Lib.hid (TreeAt.new _ _ _ _), hbb⟩
                      | exact ⟨_, rfl, rfl, by omega, Lib.hid (HT.out.set _ _), hbb⟩
                case rest =>
                  obtain ⟨u2, rfl, rfl, hg, HV, HB⟩ := hcut
                  obtain ⟨wE, hwE⟩ : ∃ wz, wz = wc := ⟨_, rfl⟩
                  subst hwE
                  replace HW := Lib.hid (HW.out.trans (HB.out.mono HW.out.size))
                  replace BN := Lib.hid (BN.out.keep (Keep.below HB.out))
                  replace BT := Lib.hid (BT.out.keep (Keep.below HB.out))
                  replace HT := Lib.hid (HT.out.keep HB.out)
                  replace HI := Lib.hid (HI.out.keep (Keep.below HB.out))
                  replace HJ := Lib.hid (HJ.out.keep (Keep.below HB.out))
                  replace HU := Lib.hid (HU.out.keep HB.out)
                  clear HB n0 n1 c0 c1 c2 u0 u1
                  rw [HCL.out] at HV ⊢
                  obtain ⟨n0, n1⟩ := BN.out
                  obtain ⟨c0, c1, c2⟩ := BT.out
                  go_wp2_with fail
                  go_cut [13, 14] from 105 to 112 (fun s1 s2 wx => ∃ g : Nat, s1 = .pointer (some ⟨g, 0, none⟩) ∧ s2 = .int .i64 (estimate N X Y a).2 ∧ wE.heap.size ≤ g ∧ Hid (TreeAt wx g (.int .i64 (estimate N X Y a).1.1) (.int .i64 (estimate N X Y a).1.2)) ∧ Hid (Below wE.heap.size wE wx))
                  case first =>
                    have HBd : Hid (Below wE.heap.size wE wE.drew) := Lib.hid (Below.refl _ _).drew
                    have MK : Hid (∀ w', Below wE.heap.size wE w' → w'.cell? ⟨w.heap.size, 0, none⟩ = some (.slice P N.places.length pc) ∧ w'.cell? ⟨w.heap.size, 1, none⟩ = some (.slice R N.roads.length rc) ∧ w'.cell? ⟨w.heap.size + 1, 0, none⟩ = some (.int .i64 X) ∧ w'.cell? ⟨w.heap.size + 1, 1, none⟩ = some (.int .i64 Y) ∧ w'.cell? ⟨w.heap.size + 1, 2, none⟩ = some (.int .i64 a) ∧ Hid (Below wE.heap.size wE w')) :=
                      Lib.hid fun w' hw => ⟨Keep.below hw _ _ n0, Keep.below hw _ _ n1, Keep.below hw _ _ c0, Keep.below hw _ _ c1, Keep.below hw _ _ c2, Lib.hid hw⟩
                    have KN : Hid (∀ w', Below wE.heap.size wE w' → RdNet w' (netV N P R pc rc) N) := Lib.hid fun w' hw => (hN0.out.keep (Keep.below (HW.out.trans (hw.mono HW.out.size))))
                    have KA : Hid (∀ w', Below wE.heap.size wE w' → ArrI w' A l c) := Lib.hid fun w' hw => (HA.out.keep (Keep.below (HW.out.trans (hw.mono HW.out.size))))
                    go_region_held3 (fun w' => w'.cell? ⟨w.heap.size, 0, none⟩ = some (.slice P N.places.length pc) ∧ w'.cell? ⟨w.heap.size, 1, none⟩ = some (.slice R N.roads.length rc) ∧ w'.cell? ⟨w.heap.size + 1, 0, none⟩ = some (.int .i64 X) ∧ w'.cell? ⟨w.heap.size + 1, 1, none⟩ = some (.int .i64 Y) ∧ w'.cell? ⟨w.heap.size + 1, 2, none⟩ = some (.int .i64 a) ∧ Hid (Below wE.heap.size wE w'))
                      (first
                        | exact MK.out _ HBd.out
                        | (go_split_ands; exact ⟨by assumption, by assumption, by assumption, by assumption, by assumption, by assumption⟩)
                        | (go_split_ands; exact MK.out _ (Below.trans (Hid.out (by assumption)) (hb1.mono (Hid.out (by assumption) : Below wE.heap.size wE _).size)))
                        | (go_split_ands; exact MK.out _ (Below.alloc (Hid.out (by assumption)) (Hid.out (by assumption) : Below wE.heap.size wE _).size _))
                        | (go_split_ands; exact MK.out _ (below_realloc (Hid.out (by assumption)) hle _))
                        | (go_split_ands; exact MK.out _ (Below.setCell (Below.setCell (Hid.out (by assumption)) (by show wE.heap.size ≤ _; first | exact Nat.le_refl _ | assumption | omega | (simp; done) | (simp; omega)) _) (by show wE.heap.size ≤ _; first | exact Nat.le_refl _ | assumption | omega | (simp; done) | (simp; omega)) _)))
                      ((first
                        | (go_at_call 21
                           go_split_ands
                           refine (copyNet_any N _ _ (KN.out _ (Hid.out (by assumption))) HL.out.1 HL.out.2.1 HL.out.2.2).mono ?_
                           rintro e' wz5 ⟨v5, rfl, h5, hb1⟩
                           have hle := Nat.le_trans (Hid.out (by assumption) : Below wE.heap.size wE _).size hb1.size
                           have H5 := Lib.hid h5
                           clear h5
                           try (first
                             | (have HT0 := (HT.out.keep hb1 : TreeAt _ _ (.int .i64 0) (.int .i64 0)); (try simp only [size_drew] at HT0); (try simp only [World.size_alloc] at HT0); (try simp only [size_drew] at HT0); have HT := Lib.hid HT0; clear HT0; obtain ⟨q0, q1, qf0, qf1⟩ := HT.out)
                             | (have HT0 := ((TreeAt.new _ _ _ 35).keep hb1 : TreeAt _ _ (.int .i64 0) (.int .i64 0)); (try simp only [size_drew] at HT0); (try simp only [World.size_alloc] at HT0); (try simp only [size_drew] at HT0); have HT := Lib.hid HT0; clear HT0; obtain ⟨q0, q1, qf0, qf1⟩ := HT.out)
                             | (have HT0 := ((TreeAt.new _ _ _ 35).keepD hb1 : TreeAt _ _ (.int .i64 0) (.int .i64 0)); (try simp only [size_drew] at HT0); (try simp only [World.size_alloc] at HT0); (try simp only [size_drew] at HT0); have HT := Lib.hid HT0; clear HT0; obtain ⟨q0, q1, qf0, qf1⟩ := HT.out)))
                        | (go_at_call 43
                           go_split_ands
                           refine (estimate_any N _ X Y a _ (by first | exact H5.out | exact H5.out.keep (Keep.alloc _ _))).mono ?_
                           rintro e' w7 ⟨rfl, hb1⟩
                           have hle := Nat.le_trans (Hid.out (by assumption) : Below wE.heap.size wE _).size hb1.size
                           try (first
                             | (have HT0 := (HT.out.keep hb1 : TreeAt _ _ (.int .i64 0) (.int .i64 0)); (try simp only [size_drew] at HT0); (try simp only [World.size_alloc] at HT0); (try simp only [size_drew] at HT0); have HT := Lib.hid HT0; clear HT0; obtain ⟨q0, q1, qf0, qf1⟩ := HT.out)
                             | (have HT0 := ((TreeAt.new _ _ _ 35).keep hb1 : TreeAt _ _ (.int .i64 0) (.int .i64 0)); (try simp only [size_drew] at HT0); (try simp only [World.size_alloc] at HT0); (try simp only [size_drew] at HT0); have HT := Lib.hid HT0; clear HT0; obtain ⟨q0, q1, qf0, qf1⟩ := HT.out)
                             | (have HT0 := ((TreeAt.new _ _ _ 35).keepD hb1 : TreeAt _ _ (.int .i64 0) (.int .i64 0)); (try simp only [size_drew] at HT0); (try simp only [World.size_alloc] at HT0); (try simp only [size_drew] at HT0); have HT := Lib.hid HT0; clear HT0; obtain ⟨q0, q1, qf0, qf1⟩ := HT.out)))))
                    all_goals
                      rename_i hS
                      obtain ⟨-, -, -, -, -, hbb⟩ := hS
                      go_wp2_with fail
                      go_meet
                      first
                        | exact ⟨_, rfl, rfl, by omega, Lib.hid (TreeAt.new _ _ _ _), hbb⟩
                        | exact ⟨_, rfl, rfl, by omega, Lib.hid (HT.out.set _ _), hbb⟩
                  case rest =>
                    obtain ⟨u3, rfl, rfl, hg, HX, HB⟩ := hcut
                    obtain ⟨wF, hwF⟩ : ∃ wz, wz = wc := ⟨_, rfl⟩
                    subst hwF
                    replace HW := Lib.hid (HW.out.trans (HB.out.mono HW.out.size))
                    replace BN := Lib.hid (BN.out.keep (Keep.below HB.out))
                    replace BT := Lib.hid (BT.out.keep (Keep.below HB.out))
                    replace HT := Lib.hid (HT.out.keep HB.out)
                    replace HI := Lib.hid (HI.out.keep (Keep.below HB.out))
                    replace HJ := Lib.hid (HJ.out.keep (Keep.below HB.out))
                    replace HU := Lib.hid (HU.out.keep HB.out)
                    replace HV := Lib.hid (HV.out.keep HB.out)
                    clear HB n0 n1 c0 c1 c2
                    rw [HES.out] at HX ⊢
                    have q3 := HJ.out.1.cells (k := Y) (by rw [HS1.out]; exact hYl)
                    have q4 := HJ.out.2.cells (k := Y) (by rw [HL1.out]; exact hYl)
                    have hYn : (Y : Int) < (N.places.length : Int) := by omega
                    have hk1 := HJ.out.1.le
                    have hk2 := HJ.out.2.le
                    rw [HS1.out] at hk1
                    rw [HL1.out] at hk2
                    obtain ⟨hk1, hk1'⟩ := hk1
                    obtain ⟨hk2, hk2'⟩ := hk2
                    have hm1 := HLF.out.none Y hYl
                    rw [Nat.zero_add] at q3 q4
                    by_cases hz : listI S Y = -1
                    · have hz2 := HLF.out.both Y hYl hz
                      have hbd : bound S L Y = ((0, 0), 12) := if_pos (.inl hz)
                      rw [hbd] at HV HX ⊢
                      have d1 : decide (listI S Y < 0) = true := decide_eq_true (by omega)
                      clear hz hz2 hbd q4
                      obtain ⟨c0, c1, c2⟩ := BT.out
                      obtain ⟨u0, u1, -, -⟩ := HU.out
                      obtain ⟨v0, v1, -, -⟩ := HV.out
                      obtain ⟨z0, z1, -, -⟩ := HX.out
                      go_wp2_with fail
                      go_ret
                      exact ⟨rfl, HW.out⟩
                    · have hz2 := HLF.out.both2 Y hYl hz
                      have hbd : bound S L Y = ((listI S Y, listI L Y), 0) := if_neg (fun h => h.elim hz hz2)
                      rw [hbd] at HV HX ⊢
                      have d1 : decide (listI S Y < 0) = false := decide_eq_false (by omega)
                      have HOV := Lib.hid (HLF.out.over Y l)
                      clear hz hz2 hbd
                      obtain ⟨c0, c1, c2⟩ := BT.out
                      obtain ⟨u0, u1, -, -⟩ := HU.out
                      obtain ⟨v0, v1, -, -⟩ := HV.out
                      obtain ⟨z0, z1, -, -⟩ := HX.out
                      obtain ⟨wQ, hwQ⟩ : ∃ wQ, wQ = wF := ⟨_, rfl⟩
                      subst hwQ
                      go_wp2_with fail
                      obtain ⟨C, Ci, Co⟩ := classOf wQ
                      refine quietC (C := C) (by kernel_rfl) (by kernel_rfl) (Co.out _ (Below.refl _ _).drew) ?_
                      repeat (first
                        | go_big_quiet_skip
                        | (go_big_quiet_want; go_big_quiet_op; go_big_quiet_on)
                        | (refine quiet_yes (by rfl) ?_
                           apply Exists.intro
                           refine ⟨fun w' hC => ?_, ?_⟩
                           · have hbb := Ci.out _ hC
                             have zz0 := Keep.below hbb _ _ c0
                             have zz1 := Keep.below hbb _ _ c1
                             have zz2 := Keep.below hbb _ _ c2
                             have zz3 := Keep.below hbb _ _ u0
                             have zz4 := Keep.below hbb _ _ u1
                             have zz5 := Keep.below hbb _ _ v0
                             have zz6 := Keep.below hbb _ _ v1
                             have zz7 := Keep.below hbb _ _ z0
                             have zz8 := Keep.below hbb _ _ z1
                             have zz9 := Keep.below hbb _ _ q3
                             have zz10 := Keep.below hbb _ _ q4
                             go_simp
                             first
                               | done
                               | rfl
                               | (fail)
                           simp only [Act.put, List.setIfInBounds_toArray, List.set_cons_zero, List.set_cons_succ]))
                      refine wpQuiet_nil ?_
                      intro wR hC7
                      have hb7 := Ci.out _ hC7
                      replace HW := Lib.hid (HW.out.trans (hb7.mono HW.out.size))
                      replace BN := Lib.hid (BN.out.keep (Keep.below hb7))
                      replace BT := Lib.hid (BT.out.keep (Keep.below hb7))
                      replace HT := Lib.hid (HT.out.keep hb7)
                      replace HI := Lib.hid (HI.out.keep (Keep.below hb7))
                      replace HJ := Lib.hid (HJ.out.keep (Keep.below hb7))
                      replace HU := Lib.hid (HU.out.keep hb7)
                      replace HV := Lib.hid (HV.out.keep hb7)
                      replace HX := Lib.hid (HX.out.keep hb7)
                      clear hb7 hC7 Ci Co C c0 c1 c2 u0 u1 v0 v1 z0 z1 q3 q4
                      obtain ⟨n0, n1⟩ := BN.out
                      obtain ⟨c0, c1, c2⟩ := BT.out
                      go_wp2_with fail
                      refine (rWayErr_any N _ l A c _ (hN0.out.keep (Keep.below HW.out)) (HA.out.keep (Keep.below HW.out))).mono ?_
                      rintro e' wS ⟨rfl, hb1⟩
                      replace HW := Lib.hid (HW.out.trans (hb1.mono HW.out.size))
                      replace BN := Lib.hid (BN.out.keep (Keep.below hb1))
                      replace BT := Lib.hid (BT.out.keep (Keep.below hb1))
                      replace HT := Lib.hid (HT.out.keep hb1)
                      replace HI := Lib.hid (HI.out.keep (Keep.below hb1))
                      replace HJ := Lib.hid (HJ.out.keep (Keep.below hb1))
                      replace HU := Lib.hid (HU.out.keep hb1)
                      replace HV := Lib.hid (HV.out.keep hb1)
                      replace HX := Lib.hid (HX.out.keep hb1)
                      clear n0 n1 c0 c1 c2
                      clear hb1
                      by_cases hw : wayErr N l = 0
                      · have HQ := Lib.hid hw
                        rw [hw]
                        clear hw
                        obtain ⟨n0, n1⟩ := BN.out
                        obtain ⟨c0, c1, c2⟩ := BT.out
                        go_wp2_with fail
                        refine (rJoins_any N _ l A c X Y _ (hN0.out.keep (Keep.below HW.out)) (HA.out.keep (Keep.below HW.out)) (fun j hj => ((way_ok HQ.out).2 j hj).1)).mono ?_
                        rintro e' wG ⟨rfl, hb1⟩
                        replace HW := Lib.hid (HW.out.trans (hb1.mono HW.out.size))
                        replace BN := Lib.hid (BN.out.keep (Keep.below hb1))
                        replace BT := Lib.hid (BT.out.keep (Keep.below hb1))
                        replace HT := Lib.hid (HT.out.keep hb1)
                        replace HI := Lib.hid (HI.out.keep (Keep.below hb1))
                        replace HJ := Lib.hid (HJ.out.keep (Keep.below hb1))
                        replace HU := Lib.hid (HU.out.keep hb1)
                        replace HV := Lib.hid (HV.out.keep hb1)
                        replace HX := Lib.hid (HX.out.keep hb1)
                        clear n0 n1 c0 c1 c2
                        clear hb1
                        by_cases hj : JoinsIs N l X Y
                        · have HBD := Lib.hid (HOV.out HQ.out hj)
                          have HAO := Lib.hid (arrOf_ok HE.out HQ.out (And.intro a0 a1))
                          rw [show decide (JoinsIs N l X Y) = true from decide_eq_true hj]
                          clear hj
                          obtain ⟨n0, n1⟩ := BN.out
                          obtain ⟨c0, c1, c2⟩ := BT.out
                          go_wp2_with fail
                          go_cut [17, 18] from 181 to 191 (fun s1 s2 wx => ∃ g : Nat, s1 = .pointer (some ⟨g, 0, none⟩) ∧ s2 = .int .i64 (arrOf N l a).2 ∧ wG.heap.size ≤ g ∧ Hid (TreeAt wx g (.int .i64 (arrOf N l a).1.1) (.int .i64 (arrOf N l a).1.2)) ∧ Hid (Below wG.heap.size wG wx))
                          case first =>
                            have HBd : Hid (Below wG.heap.size wG wG.drew) := Lib.hid (Below.refl _ _).drew
                            have MK : Hid (∀ w', Below wG.heap.size wG w' → w'.cell? ⟨w.heap.size, 0, none⟩ = some (.slice P N.places.length pc) ∧ w'.cell? ⟨w.heap.size, 1, none⟩ = some (.slice R N.roads.length rc) ∧ w'.cell? ⟨w.heap.size + 1, 0, none⟩ = some (.int .i64 X) ∧ w'.cell? ⟨w.heap.size + 1, 1, none⟩ = some (.int .i64 Y) ∧ w'.cell? ⟨w.heap.size + 1, 2, none⟩ = some (.int .i64 a) ∧ Hid (Below wG.heap.size wG w')) :=
                              Lib.hid fun w' hw => ⟨Keep.below hw _ _ n0, Keep.below hw _ _ n1, Keep.below hw _ _ c0, Keep.below hw _ _ c1, Keep.below hw _ _ c2, Lib.hid hw⟩
                            have KN : Hid (∀ w', Below wG.heap.size wG w' → RdNet w' (netV N P R pc rc) N) := Lib.hid fun w' hw => (hN0.out.keep (Keep.below (HW.out.trans (hw.mono HW.out.size))))
                            have KA : Hid (∀ w', Below wG.heap.size wG w' → ArrI w' A l c) := Lib.hid fun w' hw => (HA.out.keep (Keep.below (HW.out.trans (hw.mono HW.out.size))))
                            go_region_held3 (fun w' => w'.cell? ⟨w.heap.size, 0, none⟩ = some (.slice P N.places.length pc) ∧ w'.cell? ⟨w.heap.size, 1, none⟩ = some (.slice R N.roads.length rc) ∧ w'.cell? ⟨w.heap.size + 1, 0, none⟩ = some (.int .i64 X) ∧ w'.cell? ⟨w.heap.size + 1, 1, none⟩ = some (.int .i64 Y) ∧ w'.cell? ⟨w.heap.size + 1, 2, none⟩ = some (.int .i64 a) ∧ Hid (Below wG.heap.size wG w'))
                              (first
                                | exact MK.out _ HBd.out
                                | (go_split_ands; exact ⟨by assumption, by assumption, by assumption, by assumption, by assumption, by assumption⟩)
                                | (go_split_ands; exact MK.out _ (Below.trans (Hid.out (by assumption)) (hb1.mono (Hid.out (by assumption) : Below wG.heap.size wG _).size)))
                                | (go_split_ands; exact MK.out _ (Below.alloc (Hid.out (by assumption)) (Hid.out (by assumption) : Below wG.heap.size wG _).size _))
                                | (go_split_ands; exact MK.out _ (below_realloc (Hid.out (by assumption)) hle _))
                                | (go_split_ands; exact MK.out _ (Below.setCell (Below.setCell (Hid.out (by assumption)) (by show wG.heap.size ≤ _; first | exact Nat.le_refl _ | assumption | omega | (simp; done) | (simp; omega)) _) (by show wG.heap.size ≤ _; first | exact Nat.le_refl _ | assumption | omega | (simp; done) | (simp; omega)) _)))
                              ((first
                                | (go_at_call 21
                                   go_split_ands
                                   refine (copyNet_any N _ _ (KN.out _ (Hid.out (by assumption))) HL.out.1 HL.out.2.1 HL.out.2.2).mono ?_
                                   rintro e' wz5 ⟨v5, rfl, h5, hb1⟩
                                   have hle := Nat.le_trans (Hid.out (by assumption) : Below wG.heap.size wG _).size hb1.size
                                   have H5 := Lib.hid h5
                                   clear h5
                                   try (have H6 := Lib.hid (by first | exact H6.out.keep (Keep.below hb1) | exact (H6.out.keep (Keep.alloc _ _)).keep (Keep.below hb1) : ArrI wz5 A6 l k6))
                                   try (first
                                     | (have HT0 := (HT.out.keep hb1 : TreeAt _ _ (.int .i64 0) (.int .i64 0)); (try simp only [size_drew] at HT0); (try simp only [World.size_alloc] at HT0); (try simp only [size_drew] at HT0); have HT := Lib.hid HT0; clear HT0; obtain ⟨q0, q1, qf0, qf1⟩ := HT.out)
                                     | (have HT0 := ((TreeAt.new _ _ _ 35).keep hb1 : TreeAt _ _ (.int .i64 0) (.int .i64 0)); (try simp only [size_drew] at HT0); (try simp only [World.size_alloc] at HT0); (try simp only [size_drew] at HT0); have HT := Lib.hid HT0; clear HT0; obtain ⟨q0, q1, qf0, qf1⟩ := HT.out)
                                     | (have HT0 := ((TreeAt.new _ _ _ 35).keepD hb1 : TreeAt _ _ (.int .i64 0) (.int .i64 0)); (try simp only [size_drew] at HT0); (try simp only [World.size_alloc] at HT0); (try simp only [size_drew] at HT0); have HT := Lib.hid HT0; clear HT0; obtain ⟨q0, q1, qf0, qf1⟩ := HT.out)))
                                | (go_at_call 29
                                   go_split_ands
                                   refine (copyInts_any l A c _ (KA.out _ (Hid.out (by assumption))) (by omega)).mono ?_
                                   rintro e' wz6 ⟨A6, k6, rfl, h6, -, hb1⟩
                                   have hle := Nat.le_trans (Hid.out (by assumption) : Below wG.heap.size wG _).size hb1.size
                                   have H6 := Lib.hid h6
                                   clear h6
                                   try (have H5 := Lib.hid (by first | exact H5.out.keep (Keep.below hb1) | exact (H5.out.keep (Keep.alloc _ _)).keep (Keep.below hb1) : RdNet wz6 v5 N))
                                   try (first
                                     | (have HT0 := (HT.out.keep hb1 : TreeAt _ _ (.int .i64 0) (.int .i64 0)); (try simp only [size_drew] at HT0); (try simp only [World.size_alloc] at HT0); (try simp only [size_drew] at HT0); have HT := Lib.hid HT0; clear HT0; obtain ⟨q0, q1, qf0, qf1⟩ := HT.out)
                                     | (have HT0 := ((TreeAt.new _ _ _ 35).keep hb1 : TreeAt _ _ (.int .i64 0) (.int .i64 0)); (try simp only [size_drew] at HT0); (try simp only [World.size_alloc] at HT0); (try simp only [size_drew] at HT0); have HT := Lib.hid HT0; clear HT0; obtain ⟨q0, q1, qf0, qf1⟩ := HT.out)
                                     | (have HT0 := ((TreeAt.new _ _ _ 35).keepD hb1 : TreeAt _ _ (.int .i64 0) (.int .i64 0)); (try simp only [size_drew] at HT0); (try simp only [World.size_alloc] at HT0); (try simp only [size_drew] at HT0); have HT := Lib.hid HT0; clear HT0; obtain ⟨q0, q1, qf0, qf1⟩ := HT.out)))
                                | (go_at_call 30
                                   go_split_ands
                                   refine (arrOf_any N _ l A6 k6 a _ (by first | exact H5.out | exact H5.out.keep (Keep.alloc _ _)) (by first | exact H6.out | exact H6.out.keep (Keep.alloc _ _))).mono ?_
                                   rintro e' w7 ⟨rfl, hb1⟩
                                   have hle := Nat.le_trans (Hid.out (by assumption) : Below wG.heap.size wG _).size hb1.size
                                   try (first
                                     | (have HT0 := (HT.out.keep hb1 : TreeAt _ _ (.int .i64 0) (.int .i64 0)); (try simp only [size_drew] at HT0); (try simp only [World.size_alloc] at HT0); (try simp only [size_drew] at HT0); have HT := Lib.hid HT0; clear HT0; obtain ⟨q0, q1, qf0, qf1⟩ := HT.out)
                                     | (have HT0 := ((TreeAt.new _ _ _ 35).keep hb1 : TreeAt _ _ (.int .i64 0) (.int .i64 0)); (try simp only [size_drew] at HT0); (try simp only [World.size_alloc] at HT0); (try simp only [size_drew] at HT0); have HT := Lib.hid HT0; clear HT0; obtain ⟨q0, q1, qf0, qf1⟩ := HT.out)
                                     | (have HT0 := ((TreeAt.new _ _ _ 35).keepD hb1 : TreeAt _ _ (.int .i64 0) (.int .i64 0)); (try simp only [size_drew] at HT0); (try simp only [World.size_alloc] at HT0); (try simp only [size_drew] at HT0); have HT := Lib.hid HT0; clear HT0; obtain ⟨q0, q1, qf0, qf1⟩ := HT.out)))))
                            all_goals
                              rename_i hS
                              obtain ⟨-, -, -, -, -, hbb⟩ := hS
                              go_wp2_with fail
                              go_meet
                              first
                                | exact ⟨_, rfl, rfl, by omega, Lib.hid (TreeAt.new _ _ _ _), hbb⟩
                                | exact ⟨_, rfl, rfl, by omega, Lib.hid (HT.out.set _ _), hbb⟩
                          case rest =>
                            obtain ⟨u5, rfl, rfl, hg, HY2, HB⟩ := hcut
                            obtain ⟨wH, hwH⟩ : ∃ wz, wz = wc := ⟨_, rfl⟩
                            subst hwH
                            replace HW := Lib.hid (HW.out.trans (HB.out.mono HW.out.size))
                            replace HX := Lib.hid (HX.out.keep HB.out)
                            rw [HAO.out] at HY2 ⊢
                            obtain ⟨z0, z1, -, -⟩ := HX.out
                            obtain ⟨y0, y1, -, -⟩ := HY2.out
                            have h1 := HBD.out.1
                            have h2 := HBD.out.2
                            clear HB n0 n1 c0 c1 c2
                            generalize (arrivals N l a).1 = x1 at *
                            generalize (arrivals N l a).2 = x2 at *
                            generalize listI S Y = p1 at *
                            generalize listI L Y = p2 at *
                            have e1 : decide (x1 ≥ p1) = true := decide_eq_true h1
                            have e2 : decide (p1 ≤ x1) = true := decide_eq_true h1
                            have e3 : decide (x2 ≥ p2) = true := decide_eq_true h2
                            have e4 : decide (p2 ≤ x2) = true := decide_eq_true h2
                            go_wp2_with fail
                            go_ret
                            exact ⟨rfl, HW.out⟩
                        · rw [show decide (JoinsIs N l X Y) = false from decide_eq_false hj]
                          clear hj
                          go_wp2_with fail
                          go_ret
                          exact ⟨rfl, HW.out⟩
                      · have e1 : (wayErr N l == 0) = false := by simpa using hw
                        have e2 : (wayErr N l != 0) = true := by simpa using hw
                        clear hw
                        go_wp2_with fail
                        go_ret
                        exact ⟨rfl, HW.out⟩
              · have e1 : (noPlace N t == 0) = false := by simpa using hy
                have e2 : (noPlace N t != 0) = true := by simpa using hy
                clear hy
                go_wp2_with fail
                go_ret
                exact ⟨rfl, HW.out⟩
            · have e1 : (timeErr a == 0) = false := by simpa using ht
              have e2 : (timeErr a != 0) = true := by simpa using ht
              have e3 : elErr N f a = timeErr a := by rw [elErr_is]; exact (if_pos HE.out).trans (if_pos HP.out)
              have e4 : (elS N f a).length = 0 := by unfold elS; rw [if_neg (by rw [e3]; exact ht)]; rfl
              have e5 : (elL N f a).length = 0 := by unfold elL; rw [if_neg (by rw [e3]; exact ht)]; rfl
              rw [e4, e5] at HT
              rw [e3]
              clear ht e3 e4 e5
              obtain ⟨t0, t1, -, -⟩ := HT.out
              go_wp2_with fail
              go_ret
              exact ⟨rfl, HW.out⟩
          · have e1 : (noPlace N f == 0) = false := by simpa using hp
            have e2 : (noPlace N f != 0) = true := by simpa using hp
            have e3 : elErr N f a = noPlace N f := by rw [elErr_is]; exact (if_pos HE.out).trans (if_neg hp)
            have e4 : (elS N f a).length = 0 := by unfold elS; rw [if_neg (by rw [e3]; exact hp)]; rfl
            have e5 : (elL N f a).length = 0 := by unfold elL; rw [if_neg (by rw [e3]; exact hp)]; rfl
            rw [e4, e5] at HT
            rw [e3]
            clear hp e3 e4 e5
            obtain ⟨t0, t1, -, -⟩ := HT.out
            go_wp2_with fail
            go_ret
            exact ⟨rfl, HW.out⟩
        · have e1 : (netErr N == 0) = false := by simpa using he
          have e2 : (netErr N != 0) = true := by simpa using he
          have e3 : elErr N f a = netErr N := by rw [elErr_is]; exact if_neg he
          have e4 : (elS N f a).length = 0 := by unfold elS; rw [if_neg (by rw [e3]; exact he)]; rfl
          have e5 : (elL N f a).length = 0 := by unfold elL; rw [if_neg (by rw [e3]; exact he)]; rfl
          rw [e4, e5] at HT
          rw [e3]
          clear he e3 e4 e5
          obtain ⟨t0, t1, -, -⟩ := HT.out
          go_wp2_with fail
          go_ret
          exact ⟨rfl, HW.out⟩
    · have d1 : decide ((l.length : Int) > 12) = true := decide_eq_true (by omega)
      have g1 : decide (12 < (l.length : Int)) = true := decide_eq_true (by omega)
      clear h1
      go_wp2_with fail
      go_ret
      exact ⟨rfl, HW.out⟩
end Go.Proofs.Ythipneggplebcaa

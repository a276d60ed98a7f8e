/- The law of the latest time to set out. No condition. -/
import Derived.Test.YthipneggplebcaaT35
import Derived.Test.YthipneggplebcaaT38
import Derived.Test.YthipneggplebcaaT44
import Derived.Test.YthipneggplebcaaT10
import Derived.Deep.RegionHeld3
import Derived.Deep.CutRange
import Derived.Deep.CutBlock
namespace Go.Proofs.Ythipneggplebcaa
open Go.RowKit Fs

theorem Fs.isPlace_is {N : Net} {z : Int} (h : isPlace N z = true) : 0 ≤ z ∧ z < N.places.length := by
  have h := Fs.within_iff.1 h; exact ⟨h.1, by omega⟩
theorem Fs.isPlace_yes {N : Net} {z : Nat} (h : z < N.places.length) : isPlace N z = true := Fs.within_iff.2 ⟨by omega, by omega⟩
theorem Fs.trip_zero {N : Net} {f t : Nat} {m : Int} (hf : f < N.places.length) (ht : t < N.places.length) (h : 0 ≤ m ∧ m ≤ 604800) : tripErr N f t m = 0 := by
  rw [trip_is, if_pos ⟨isPlace_yes hf, isPlace_yes ht⟩]
  exact if_pos (Fs.within_iff.2 h)
theorem Fs.est_is (N : Net) (f t m : Int) : estErr N f t m = if netErr N = 0 then tripErr N f t m else netErr N := fst2 _ _
theorem Fs.way_there {N : Net} (hE : netErr N = 0) {f t : Nat} (hf : f < N.places.length) (ht : t < N.places.length) (h : ¬ listI (search N f 0 (soonest N)).labels t < 0) {m : Int} (hm : 0 ≤ m) :
    listI (search N f m (soonest N)).labels t ≠ -1 ∧ listI (search N f m (latest N)).labels t ≠ -1 :=
  ⟨search_reach (net_joined hE) (soonest_good hE) (soonest_good hE) hf (Int.le_refl 0) hm t ht (by omega), search_reach (net_joined hE) (soonest_good hE) (latest_good hE) hf (Int.le_refl 0) hm t ht (by omega)⟩
theorem Fs.est_ok {N : Net} (hE : netErr N = 0) {f t : Nat} (hf : f < N.places.length) (ht : t < N.places.length) (h : ¬ listI (search N f 0 (soonest N)).labels t < 0) {m : Int} (hm : 0 ≤ m ∧ m ≤ 604800) :
    estimate N f t m = ((listI (search N f m (soonest N)).labels t, lateAt N f t m), 0) := by
  have e : estErr N f t m = 0 := by rw [est_is, if_pos hE]; exact trip_zero hf ht hm
  obtain ⟨w1, w2⟩ := way_there hE hf ht h hm.1
  unfold estimate
  rw [if_neg (fun h => h e), Int.toNat_natCast]
  exact if_neg (fun hh => hh.elim w1 w2)
theorem Fs.latest_same {N : Net} (hE : netErr N = 0) {f t : Nat} (hf : f < N.places.length) (ht : t < N.places.length) {a x y r : Int} (ha : 0 ≤ a ∧ a ≤ 604800) (hl : LatestIs N f t a x y) (hr : LatestRef N f t a r) :
    (NoWay N f t a ∧ r = -1 ∧ x = 0 ∧ y = 12) ∨ (¬ NoWay N f t a ∧ 0 ≤ r ∧ r ≤ 604800 ∧ x = r ∧ y = 0 ∧ lateAt N f t r ≤ a ∧ (r + 1 ≤ 604800 → a < lateAt N f t (r + 1))) := by
  have e0 : estErr N f t a = 0 := by rw [est_is, if_pos hE]; exact trip_zero hf ht ha
  rcases hl with ⟨h, -⟩ | ⟨-, k, k1, k2, k3, k4⟩
  · exact absurd e0 h
  · simp only [Int.toNat_natCast] at k2 k3
    rcases hr with ⟨n, rfl⟩ | ⟨n, r0, r1, r2, r3⟩
    · left
      refine ⟨n, rfl, ?_⟩
      have t0 : tooLate N f t a 0 = true := by
        unfold tooLate
        rcases n with n | n
        · have : listI (search N f ((0 : Nat) : Int) (latest N)).labels t = -1 := by
            by_cases e : listI (search N f ((0 : Nat) : Int) (latest N)).labels t = -1
            · exact e
            · have := search_reach (net_joined hE) (latest_good hE) (soonest_good hE) hf (show (0 : Int) ≤ ((0 : Nat) : Int) by decide) (Int.le_refl 0) t ht e
              have l := (search_found (net_joined hE) (soonest_good hE) hf (Int.le_refl 0)).least t ht
              omega
          rw [this]; rfl
        · have : decide (a < listI (search N f ((0 : Nat) : Int) (latest N)).labels t) = true := decide_eq_true n
          rw [this, Bool.or_true]
      have k0 : k = 0 := by
        rcases Nat.eq_zero_or_pos k with h | h
        · exact h
        · have := k2 0 h; rw [t0] at this; cases this
      rcases k4 with ⟨-, h1, h2⟩ | ⟨h, -⟩
      · exact ⟨h1, h2⟩
      · exact absurd k0 h
    · right
      have hw : ¬ listI (search N f 0 (soonest N)).labels t < 0 := fun h => n (.inl h)
      have u1 := (late_up hE hf ht hw r0 (Int.le_refl r)).1
      have tl : ∀ i : Nat, tooLate N f t a i = decide (a < lateAt N f t i) := fun i => by
        unfold tooLate
        rw [decide_eq_false (way_there hE hf ht hw (show (0 : Int) ≤ (i : Int) by omega)).2, Bool.false_or]
        rfl
      obtain ⟨q, hq⟩ : ∃ q : Nat, r = q := ⟨_, (Int.toNat_of_nonneg r0).symm⟩
      subst hq
      have g1 : q < k := by
        rcases Nat.lt_or_ge q k with h | h
        · exact h
        · have := k3 q h (by omega)
          rw [tl] at this
          have := of_decide_eq_true this
          omega
      have g2 : k = q + 1 := by
        rcases Nat.lt_or_ge (q + 1) k with h | h
        · have h1 := k2 (k - 1) (by omega)
          rw [tl] at h1
          have h1 := of_decide_eq_false h1
          have := r3 ((k - 1 : Nat) : Int) (by omega) (by omega)
          omega
        · omega
      rcases k4 with ⟨h, -⟩ | ⟨-, h1, h2⟩
      · omega
      · exact ⟨n, r0, r1, by omega, h2, r2, fun h => r3 _ (by omega) h⟩

set_option maxHeartbeats 6400000 in
set_option maxRecDepth 100000 in
theorem law8_any (N : Net) (v : Value) (f t a : Int) (w : World) (hN : RdNet w v N) :
    Calls Try.prog 9 #[v, .agg #[.int .i64 f, .int .i64 t, .int .i64 a]] w fun e w' => e = .returned (.bool true) ∧ Below w.heap.size w w' := by
  have hN0 := Lib.hid hN
  obtain ⟨P, R, pc, rc, ar, rfl, mm⟩ := hN
  clear mm
  have BN := Lib.hid ((BoxN.new w N P R pc rc 25).keep (Keep.alloc _ (.cells #[.int .i64 f, .int .i64 t, .int .i64 a] 63)))
  have BT := Lib.hid (TripAt.new1 w (.cells #[.slice P N.places.length pc, .slice R N.roads.length rc] 25) f t a 63)
  go_enter Try.func9, Try.ntmps9
  go_upto_region 1 with fail
  generalize hwb : (w.alloc _).alloc _ = wb at *
  have HW : Hid (Below w.heap.size w wb) := by rw [← hwb]; exact Lib.hid (((Below.refl _ _).alloc (Nat.le_refl _) _).alloc (by simp) _)
  clear hwb
  go_wp2_with fail
  refine (awake_any _).mono ?_
  rintro e' w1 ⟨rfl, hb1⟩
  replace HW := Lib.hid (HW.out.trans (hb1.mono HW.out.size))
  replace BN := Lib.hid (BN.out.keep (Keep.below hb1))
  replace BT := Lib.hid (BT.out.keep (Keep.below hb1))
  clear hb1
  obtain ⟨n0, n1⟩ := BN.out
  go_wp2_with fail
  refine (few_any N _ _ (hN0.out.keep (Keep.below HW.out))).mono ?_
  rintro e' wA ⟨rfl, hb2⟩
  replace HW := Lib.hid (HW.out.trans (hb2.mono HW.out.size))
  replace BN := Lib.hid (BN.out.keep (Keep.below hb2))
  replace BT := Lib.hid (BT.out.keep (Keep.below hb2))
  clear hb2 n0 n1
  cases hf : fewN N with
  | false =>
    go_wp2_with fail
    go_ret
    exact ⟨rfl, HW.out⟩
  | true =>
    have HL := Lib.hid (few_lens hf)
    clear hf
    obtain ⟨n0, n1⟩ := BN.out
    obtain ⟨c0, c1, c2⟩ := BT.out
    go_wp2_with fail
    go_cut [5, 6] from 18 to 24 (fun s1 s2 wx => ∃ x y : Int, s1 = .int .i64 x ∧ s2 = .int .i64 y ∧ Hid (LatestIs N f t a x y) ∧ Hid (Below wA.heap.size wA wx))
    case first =>
      have HBd : Hid (Below wA.heap.size wA wA.drew) := Lib.hid (Below.refl _ _).drew
      have MK : Hid (∀ w', Below wA.heap.size wA w' → w'.cell? ⟨w.heap.size, 0, none⟩ = some (.slice P N.places.length pc) ∧ w'.cell? ⟨w.heap.size, 1, none⟩ = some (.slice R N.roads.length rc) ∧ w'.cell? ⟨w.heap.size + 1, 0, none⟩ = some (.int .i64 f) ∧ w'.cell? ⟨w.heap.size + 1, 1, none⟩ = some (.int .i64 t) ∧ w'.cell? ⟨w.heap.size + 1, 2, none⟩ = some (.int .i64 a) ∧ Hid (Below wA.heap.size wA w')) :=
        Lib.hid fun w' hw => ⟨Keep.below hw _ _ n0, Keep.below hw _ _ n1, Keep.below hw _ _ c0, Keep.below hw _ _ c1, Keep.below hw _ _ c2, Lib.hid hw⟩
      have KN : Hid (∀ w', Below wA.heap.size wA w' → RdNet w' (netV N P R pc rc) N) := Lib.hid fun w' hw => (hN0.out.keep (Keep.below (HW.out.trans (hw.mono HW.out.size))))
      go_region_held3 (fun w' => w'.cell? ⟨w.heap.size, 0, none⟩ = some (.slice P N.places.length pc) ∧ w'.cell? ⟨w.heap.size, 1, none⟩ = some (.slice R N.roads.length rc) ∧ w'.cell? ⟨w.heap.size + 1, 0, none⟩ = some (.int .i64 f) ∧ w'.cell? ⟨w.heap.size + 1, 1, none⟩ = some (.int .i64 t) ∧ w'.cell? ⟨w.heap.size + 1, 2, none⟩ = some (.int .i64 a) ∧ Hid (Below wA.heap.size wA w'))
        (first
          | exact MK.out _ HBd.out
          | (go_split_ands; exact ⟨by assumption, by assumption, by assumption, by assumption, by assumption, by assumption⟩)
          | (go_split_ands; exact MK.out _ (Below.trans (Hid.out (by assumption)) (hb1.mono (Hid.out (by assumption) : Below wA.heap.size wA _).size)))
          | (go_split_ands; exact MK.out _ (Below.alloc (Hid.out (by assumption)) (Hid.out (by assumption) : Below wA.heap.size wA _).size _)))
        ((first
          | (go_at_call 21
             go_split_ands
             refine (copyNet_any N _ _ (KN.out _ (Hid.out (by assumption))) HL.out.1 HL.out.2.1 HL.out.2.2).mono ?_
             rintro e' w5 ⟨v5, rfl, h5, hb1⟩
             have H5 := Lib.hid h5
             clear h5)
          | (go_at_call 51
             go_split_ands
             refine (latestFor_any N _ f t a _ (by first | exact H5.out | exact H5.out.keep (Keep.alloc _ _))).mono ?_
             rintro e' w7 ⟨x, y, rfl, hli, hb1⟩)))
      all_goals
        rename_i hS
        obtain ⟨-, -, -, -, -, hbb⟩ := hS
        go_wp2_with fail
        go_meet
        first
          | exact ⟨x, y, rfl, rfl, Lib.hid hli, hbb⟩
    case rest =>
      obtain ⟨x, y, rfl, rfl, HLI, HB⟩ := hcut
      replace BN := Lib.hid (BN.out.keep (Keep.below HB.out))
      replace BT := Lib.hid (BT.out.keep (Keep.below HB.out))
      replace HW := Lib.hid (HW.out.trans (HB.out.mono HW.out.size))
      obtain ⟨wB, hwB⟩ : ∃ wB, wB = wc := ⟨_, rfl⟩
      subst hwB
      clear HB n0 n1 c0 c1 c2
      obtain ⟨n0, n1⟩ := BN.out
      go_wp2_with fail
      refine (rNetErr_any N _ _ (hN0.out.keep (Keep.below HW.out))).mono ?_
      rintro e' w3 ⟨rfl, hb3⟩
      replace HW := Lib.hid (HW.out.trans (hb3.mono HW.out.size))
      replace BN := Lib.hid (BN.out.keep (Keep.below hb3))
      replace BT := Lib.hid (BT.out.keep (Keep.below hb3))
      clear hb3 n0 n1
      have HES := Lib.hid (est_is N f t a)
      by_cases he : netErr N = 0
      · have HE := Lib.hid he
        rw [he]
        have HES2 := HES.out
        rw [if_pos he] at HES2
        replace HES := Lib.hid HES2
        clear he HES2
        obtain ⟨n0, n1⟩ := BN.out
        obtain ⟨c0, c1, c2⟩ := BT.out
        go_wp2_with fail
        refine (rTripErr_any N _ f t a _ (hN0.out.keep (Keep.below HW.out))).mono ?_
        rintro e' w4 ⟨rfl, hb4⟩
        replace HW := Lib.hid (HW.out.trans (hb4.mono HW.out.size))
        replace BN := Lib.hid (BN.out.keep (Keep.below hb4))
        replace BT := Lib.hid (BT.out.keep (Keep.below hb4))
        clear hb4 n0 n1 c0 c1 c2
        by_cases ht : tripErr N f t a = 0
        · obtain ⟨p1, p2, p3⟩ := tripErr_ok ht
          obtain ⟨f0, f1⟩ := isPlace_is p1
          obtain ⟨t0, t1⟩ := isPlace_is p2
          have ha := timeErr_ok p3
          rw [ht]
          clear ht p1 p2 p3
          obtain ⟨F, hF⟩ : ∃ F : Nat, f = F := ⟨_, (Int.toNat_of_nonneg f0).symm⟩
          obtain ⟨T, hT⟩ : ∃ T : Nat, t = T := ⟨_, (Int.toNat_of_nonneg t0).symm⟩
          subst hF; subst hT
          have hFl : F < N.places.length := by omega
          have hTl : T < N.places.length := by omega
          clear f0 f1 t0 t1 HES
          obtain ⟨n0, n1⟩ := BN.out
          obtain ⟨c0, c1, c2⟩ := BT.out
          go_wp2_with fail
          refine (rLatestFor_any N _ F T a _ (hN0.out.keep (Keep.below HW.out)) HE.out hFl hTl).mono ?_
          rintro e' wC ⟨r, rfl, hr, hb5⟩
          replace HW := Lib.hid (HW.out.trans (hb5.mono HW.out.size))
          replace BN := Lib.hid (BN.out.keep (Keep.below hb5))
          replace BT := Lib.hid (BT.out.keep (Keep.below hb5))
          clear hb5 n0 n1 c0 c1 c2
          rcases latest_same HE.out hFl hTl ha HLI.out hr with ⟨hn, rfl, rfl, rfl⟩ | ⟨hn, r0, r1, hxr, rfl, r2, r3⟩
          · clear hr HLI hn
            go_wp2_with fail
            go_ret
            exact ⟨rfl, HW.out⟩
          · subst hxr
            have HWY := Lib.hid (show ¬ listI (search N F 0 (soonest N)).labels T < 0 from fun h => hn (.inl h))
            have E1 := Lib.hid (est_ok HE.out hFl hTl HWY.out (m := x) ⟨r0, r1⟩)
            have HR3 := Lib.hid r3
            have dr : decide (x < 0) = false := decide_eq_false (by omega)
            clear hr HLI hn r3
            obtain ⟨n0, n1⟩ := BN.out
            obtain ⟨c0, c1, c2⟩ := BT.out
            go_wp2_with fail
            go_cut [9, 10] from 59 to 70 (fun s1 s2 wx => ∃ g : Nat, s1 = .pointer (some ⟨g, 0, none⟩) ∧ s2 = .int .i64 (estimate N F T x).2 ∧ wC.heap.size ≤ g ∧ Hid (TreeAt wx g (.int .i64 (estimate N F T x).1.1) (.int .i64 (estimate N F T x).1.2)) ∧ Hid (Below wC.heap.size wC wx))
            case first =>
              have HBd : Hid (Below wC.heap.size wC wC.drew) := Lib.hid (Below.refl _ _).drew
              have MK : Hid (∀ w', Below wC.heap.size wC w' → w'.cell? ⟨w.heap.size, 0, none⟩ = some (.slice P N.places.length pc) ∧ w'.cell? ⟨w.heap.size, 1, none⟩ = some (.slice R N.roads.length rc) ∧ w'.cell? ⟨w.heap.size + 1, 0, none⟩ = some (.int .i64 F) ∧ w'.cell? ⟨w.heap.size + 1, 1, none⟩ = some (.int .i64 T) ∧ w'.cell? ⟨w.heap.size + 1, 2, none⟩ = some (.int .i64 a) ∧ Hid (Below wC.heap.size wC w')) :=
                Lib.hid fun w' hw => ⟨Keep.below hw _ _ n0, Keep.below hw _ _ n1, Keep.below hw _ _ c0, Keep.below hw _ _ c1, Keep.below hw _ _ c2, Lib.hid hw⟩
              have KN : Hid (∀ w', Below wC.heap.size wC w' → RdNet w' (netV N P R pc rc) N) := Lib.hid fun w' hw => (hN0.out.keep (Keep.below (HW.out.trans (hw.mono HW.out.size))))
              go_region_held3 (fun w' => w'.cell? ⟨w.heap.size, 0, none⟩ = some (.slice P N.places.length pc) ∧ w'.cell? ⟨w.heap.size, 1, none⟩ = some (.slice R N.roads.length rc) ∧ w'.cell? ⟨w.heap.size + 1, 0, none⟩ = some (.int .i64 F) ∧ w'.cell? ⟨w.heap.size + 1, 1, none⟩ = some (.int .i64 T) ∧ w'.cell? ⟨w.heap.size + 1, 2, none⟩ = some (.int .i64 a) ∧ Hid (Below wC.heap.size wC w'))
                (first
                  | exact MK.out _ HBd.out
                  | (go_split_ands; exact ⟨by assumption, by assumption, by assumption, by assumption, by assumption, by assumption⟩)
                  | (go_split_ands; exact MK.out _ (Below.trans (Hid.out (by assumption)) (hb1.mono (Hid.out (by assumption) : Below wC.heap.size wC _).size)))
                  | (go_split_ands; exact MK.out _ (Below.alloc (Hid.out (by assumption)) (Hid.out (by assumption) : Below wC.heap.size wC _).size _))
                  | (go_split_ands; exact MK.out _ (below_realloc (Hid.out (by assumption)) hle _))
                  | (go_split_ands; exact MK.out _ (Below.setCell (Below.setCell (Hid.out (by assumption)) (by show wC.heap.size ≤ _; first | exact Nat.le_refl _ | assumption | omega | (simp; done) | (simp; omega)) _) (by show wC.heap.size ≤ _; first | exact Nat.le_refl _ | assumption | omega | (simp; done) | (simp; omega)) _)))
                ((first
                  | (go_at_call 21
                     go_split_ands
                     refine (copyNet_any N _ _ (KN.out _ (Hid.out (by assumption))) HL.out.1 HL.out.2.1 HL.out.2.2).mono ?_
                     rintro e' w5 ⟨v5, rfl, h5, hb1⟩
                     have hle := Nat.le_trans (Hid.out (by assumption) : Below wC.heap.size wC _).size hb1.size
                     have H5 := Lib.hid h5
                     clear h5
                     try (first
                       | (have HT0 := (HT.out.keep hb1 : TreeAt _ _ (.int .i64 0) (.int .i64 0)); (try simp only [size_drew] at HT0); (try simp only [World.size_alloc] at HT0); (try simp only [size_drew] at HT0); have HT := Lib.hid HT0; clear HT0; obtain ⟨q0, q1, qf0, qf1⟩ := HT.out)
                       | (have HT0 := ((TreeAt.new _ _ _ 35).keep hb1 : TreeAt _ _ (.int .i64 0) (.int .i64 0)); (try simp only [size_drew] at HT0); (try simp only [World.size_alloc] at HT0); (try simp only [size_drew] at HT0); have HT := Lib.hid HT0; clear HT0; obtain ⟨q0, q1, qf0, qf1⟩ := HT.out)
                       | (have HT0 := ((TreeAt.new _ _ _ 35).keepD hb1 : TreeAt _ _ (.int .i64 0) (.int .i64 0)); (try simp only [size_drew] at HT0); (try simp only [World.size_alloc] at HT0); (try simp only [size_drew] at HT0); have HT := Lib.hid HT0; clear HT0; obtain ⟨q0, q1, qf0, qf1⟩ := HT.out)))
                  | (go_at_call 43
                     go_split_ands
                     refine (estimate_any N _ F T x _ (by first | exact H5.out | exact H5.out.keep (Keep.alloc _ _))).mono ?_
                     rintro e' w7 ⟨rfl, hb1⟩
                     have hle := Nat.le_trans (Hid.out (by assumption) : Below wC.heap.size wC _).size hb1.size
                     try (first
                       | (have HT0 := (HT.out.keep hb1 : TreeAt _ _ (.int .i64 0) (.int .i64 0)); (try simp only [size_drew] at HT0); (try simp only [World.size_alloc] at HT0); (try simp only [size_drew] at HT0); have HT := Lib.hid HT0; clear HT0; obtain ⟨q0, q1, qf0, qf1⟩ := HT.out)
                       | (have HT0 := ((TreeAt.new _ _ _ 35).keep hb1 : TreeAt _ _ (.int .i64 0) (.int .i64 0)); (try simp only [size_drew] at HT0); (try simp only [World.size_alloc] at HT0); (try simp only [size_drew] at HT0); have HT := Lib.hid HT0; clear HT0; obtain ⟨q0, q1, qf0, qf1⟩ := HT.out)
                       | (have HT0 := ((TreeAt.new _ _ _ 35).keepD hb1 : TreeAt _ _ (.int .i64 0) (.int .i64 0)); (try simp only [size_drew] at HT0); (try simp only [World.size_alloc] at HT0); (try simp only [size_drew] at HT0); have HT := Lib.hid HT0; clear HT0; obtain ⟨q0, q1, qf0, qf1⟩ := HT.out)))))
              all_goals
                rename_i hS
                obtain ⟨-, -, -, -, -, hbb⟩ := hS
                go_wp2_with fail
                go_meet
                first
                  | exact ⟨_, rfl, rfl, by omega, Lib.hid (TreeAt.new _ _ _ _), hbb⟩
                  | exact ⟨_, rfl, rfl, by omega, Lib.hid (HT.out.set _ _), hbb⟩
            case rest =>
              obtain ⟨g, rfl, rfl, hg, HR, HB⟩ := hcut
              replace BN := Lib.hid (BN.out.keep (Keep.below HB.out))
              replace BT := Lib.hid (BT.out.keep (Keep.below HB.out))
              replace HW := Lib.hid (HW.out.trans (HB.out.mono HW.out.size))
              obtain ⟨wD, hwD⟩ : ∃ wD, wD = wc := ⟨_, rfl⟩
              subst hwD
              clear HB c0 c1 c2 n0 n1
              rw [E1.out] at HR
              rw [E1.out]
              obtain ⟨r4, r5, -, -⟩ := HR.out
              obtain ⟨n0, n1⟩ := BN.out
              obtain ⟨c0, c1, c2⟩ := BT.out
              have e1 : decide (lateAt N F T x > a) = false := decide_eq_false (by omega)
              have e2 : decide (a < lateAt N F T x) = false := decide_eq_false (by omega)
              by_cases hx : x = 604800
              · have e3 : (x == 604800) = true := by simpa using hx
                clear hx
                go_wp2_with fail
                go_ret
                exact ⟨rfl, HW.out⟩
              · have e3 : (x == 604800) = false := by simpa using hx
                have r6 := HR3.out (by omega)
                have E2 := Lib.hid (est_ok HE.out hFl hTl (by have := HWY.out; omega) (m := x + 1) ⟨by omega, by omega⟩)
                have q1 : IntKind.i64.wrap (x + 1) = x + 1 := by rw [IntKind.wrap_i64]; omega
                clear hx
                go_wp2_with fail
                go_cut [11, 12] from 82 to 94 (fun s1 s2 wx => ∃ g : Nat, s1 = .pointer (some ⟨g, 0, none⟩) ∧ s2 = .int .i64 (estimate N F T (x + 1)).2 ∧ wD.heap.size ≤ g ∧ Hid (TreeAt wx g (.int .i64 (estimate N F T (x + 1)).1.1) (.int .i64 (estimate N F T (x + 1)).1.2)) ∧ Hid (Below wD.heap.size wD wx))
                case first =>
                  have HBd : Hid (Below wD.heap.size wD wD.drew) := Lib.hid (Below.refl _ _).drew
                  have MK : Hid (∀ w', Below wD.heap.size wD w' → w'.cell? ⟨w.heap.size, 0, none⟩ = some (.slice P N.places.length pc) ∧ w'.cell? ⟨w.heap.size, 1, none⟩ = some (.slice R N.roads.length rc) ∧ w'.cell? ⟨w.heap.size + 1, 0, none⟩ = some (.int .i64 F) ∧ w'.cell? ⟨w.heap.size + 1, 1, none⟩ = some (.int .i64 T) ∧ w'.cell? ⟨w.heap.size + 1, 2, none⟩ = some (.int .i64 a) ∧ Hid (Below wD.heap.size wD w')) :=
                    Lib.hid fun w' hw => ⟨Keep.below hw _ _ n0, Keep.below hw _ _ n1, Keep.below hw _ _ c0, Keep.below hw _ _ c1, Keep.below hw _ _ c2, Lib.hid hw⟩
                  have KN : Hid (∀ w', Below wD.heap.size wD w' → RdNet w' (netV N P R pc rc) N) := Lib.hid fun w' hw => (hN0.out.keep (Keep.below (HW.out.trans (hw.mono HW.out.size))))
                  go_region_held3 (fun w' => w'.cell? ⟨w.heap.size, 0, none⟩ = some (.slice P N.places.length pc) ∧ w'.cell? ⟨w.heap.size, 1, none⟩ = some (.slice R N.roads.length rc) ∧ w'.cell? ⟨w.heap.size + 1, 0, none⟩ = some (.int .i64 F) ∧ w'.cell? ⟨w.heap.size + 1, 1, none⟩ = some (.int .i64 T) ∧ w'.cell? ⟨w.heap.size + 1, 2, none⟩ = some (.int .i64 a) ∧ Hid (Below wD.heap.size wD w'))
                    (first
                      | exact MK.out _ HBd.out
                      | (go_split_ands; exact ⟨by assumption, by assumption, by assumption, by assumption, by assumption, by assumption⟩)
                      | (go_split_ands; exact MK.out _ (Below.trans (Hid.out (by assumption)) (hb1.mono (Hid.out (by assumption) : Below wD.heap.size wD _).size)))
                      | (go_split_ands; exact MK.out _ (Below.alloc (Hid.out (by assumption)) (Hid.out (by assumption) : Below wD.heap.size wD _).size _))
                      | (go_split_ands; exact MK.out _ (below_realloc (Hid.out (by assumption)) hle _))
                      | (go_split_ands; exact MK.out _ (Below.setCell (Below.setCell (Hid.out (by assumption)) (by show wD.heap.size ≤ _; first | exact Nat.le_refl _ | assumption | omega | (simp; done) | (simp; omega)) _) (by show wD.heap.size ≤ _; first | exact Nat.le_refl _ | assumption | omega | (simp; done) | (simp; omega)) _)))
                    ((first
                      | (go_at_call 21
                         go_split_ands
                         refine (copyNet_any N _ _ (KN.out _ (Hid.out (by assumption))) HL.out.1 HL.out.2.1 HL.out.2.2).mono ?_
                         rintro e' w5 ⟨v5, rfl, h5, hb1⟩
                         have hle := Nat.le_trans (Hid.out (by assumption) : Below wD.heap.size wD _).size hb1.size
                         have H5 := Lib.hid h5
                         clear h5
                         try (first
                           | (have HT0 := (HT.out.keep hb1 : TreeAt _ _ (.int .i64 0) (.int .i64 0)); (try simp only [size_drew] at HT0); (try simp only [World.size_alloc] at HT0); (try simp only [size_drew] at HT0); have HT := Lib.hid HT0; clear HT0; obtain ⟨q0, q1, qf0, qf1⟩ := HT.out)
                           | (have HT0 := ((TreeAt.new _ _ _ 35).keep hb1 : TreeAt _ _ (.int .i64 0) (.int .i64 0)); (try simp only [size_drew] at HT0); (try simp only [World.size_alloc] at HT0); (try simp only [size_drew] at HT0); have HT := Lib.hid HT0; clear HT0; obtain ⟨q0, q1, qf0, qf1⟩ := HT.out)
                           | (have HT0 := ((TreeAt.new _ _ _ 35).keepD hb1 : TreeAt _ _ (.int .i64 0) (.int .i64 0)); (try simp only [size_drew] at HT0); (try simp only [World.size_alloc] at HT0); (try simp only [size_drew] at HT0); have HT := Lib.hid HT0; clear HT0; obtain ⟨q0, q1, qf0, qf1⟩ := HT.out)))
                      | (go_at_call 43
                         go_split_ands
                         refine (estimate_any N _ F T (x + 1) _ (by first | exact H5.out | exact H5.out.keep (Keep.alloc _ _))).mono ?_
                         rintro e' w7 ⟨rfl, hb1⟩
                         have hle := Nat.le_trans (Hid.out (by assumption) : Below wD.heap.size wD _).size hb1.size
                         try (first
                           | (have HT0 := (HT.out.keep hb1 : TreeAt _ _ (.int .i64 0) (.int .i64 0)); (try simp only [size_drew] at HT0); (try simp only [World.size_alloc] at HT0); (try simp only [size_drew] at HT0); have HT := Lib.hid HT0; clear HT0; obtain ⟨q0, q1, qf0, qf1⟩ := HT.out)
                           | (have HT0 := ((TreeAt.new _ _ _ 35).keep hb1 : TreeAt _ _ (.int .i64 0) (.int .i64 0)); (try simp only [size_drew] at HT0); (try simp only [World.size_alloc] at HT0); (try simp only [size_drew] at HT0); have HT := Lib.hid HT0; clear HT0; obtain ⟨q0, q1, qf0, qf1⟩ := HT.out)
                           | (have HT0 := ((TreeAt.new _ _ _ 35).keepD hb1 : TreeAt _ _ (.int .i64 0) (.int .i64 0)); (try simp only [size_drew] at HT0); (try simp only [World.size_alloc] at HT0); (try simp only [size_drew] at HT0); have HT := Lib.hid HT0; clear HT0; obtain ⟨q0, q1, qf0, qf1⟩ := HT.out)))))
                  all_goals
                    rename_i hS
                    obtain ⟨-, -, -, -, -, hbb⟩ := hS
                    go_wp2_with fail
                    go_meet
                    first
                      | exact ⟨_, rfl, rfl, by omega, Lib.hid (TreeAt.new _ _ _ _), hbb⟩
                      | exact ⟨_, rfl, rfl, by omega, Lib.hid (HT.out.set _ _), hbb⟩
                case rest =>
                  obtain ⟨g2, rfl, rfl, hg2, HR2, HB⟩ := hcut
                  rw [E2.out] at HR2
                  rw [E2.out]
                  obtain ⟨s0, s1, -, -⟩ := HR2.out
                  obtain ⟨c0, c1, c2⟩ := BT.out.keep (Keep.below HB.out)
                  replace HW := Lib.hid (HW.out.trans (HB.out.mono HW.out.size))
                  have e4 : decide (lateAt N F T (x + 1) > a) = true := decide_eq_true r6
                  have e5 : decide (a < lateAt N F T (x + 1)) = true := decide_eq_true r6
                  go_wp2_with fail
                  go_ret
                  exact ⟨rfl, HW.out⟩
        · have e1 : (tripErr N f t a == 0) = false := by simpa using ht
          have e2 : (tripErr N f t a != 0) = true := by simpa using ht
          have hxy : x = 0 ∧ y = tripErr N f t a := by
            rcases HLI.out with ⟨-, h1, h2⟩ | ⟨h, -⟩
            · exact ⟨h1, by rw [h2, HES.out]⟩
            · exact absurd (HES.out.symm.trans h) ht
          obtain ⟨rfl, rfl⟩ := hxy
          clear ht
          go_wp2_with fail
          go_ret
          exact ⟨rfl, HW.out⟩
      · have e1 : (netErr N == 0) = false := by simpa using he
        have e2 : (netErr N != 0) = true := by simpa using he
        have hxy : x = 0 ∧ y = netErr N := by
          have h3 := HES.out
          rw [if_neg he] at h3
          rcases HLI.out with ⟨-, h1, h2⟩ | ⟨h, -⟩
          · exact ⟨h1, by rw [h2, h3]⟩
          · exact absurd (h3.symm.trans h) he
        obtain ⟨rfl, rfl⟩ := hxy
        clear he
        go_wp2_with fail
        go_ret
        exact ⟨rfl, HW.out⟩
end Go.Proofs.Ythipneggplebcaa

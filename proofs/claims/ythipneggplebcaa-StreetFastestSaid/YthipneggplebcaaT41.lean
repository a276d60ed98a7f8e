/- The law of overtaking: who sets out later arrives no earlier. No condition. -/
import Derived.Test.YthipneggplebcaaT35
import Derived.Test.YthipneggplebcaaT38
import Derived.Test.YthipneggplebcaaT31
import Derived.Test.YthipneggplebcaaT10
import Derived.Deep.RegionHeld3
import Derived.Deep.CutRange
import Derived.Deep.CutBlock
namespace Go.Proofs.Ythipneggplebcaa
open Go.RowKit Fs

theorem Fs.along_mono {N : Net} {nx : Nat → Int → Int} (hg : Good N nx) {l : List Int} (hl : ∀ j, j < l.length → 0 ≤ listI l j ∧ listI l j < N.roads.length) {x y : Int} (h0 : 0 ≤ x) (hxy : x ≤ y) : ∀ k, k ≤ l.length → x ≤ alongTo nx k l x ∧ alongTo nx k l x ≤ alongTo nx k l y
  | 0, _ => ⟨Int.le_refl _, hxy⟩
  | k + 1, hk => by
    have ih := along_mono hg hl h0 hxy k (by omega)
    have hr := hl k (by omega)
    have h1 := hg.up (listI l k).toNat (alongTo nx k l x) (by omega) (by omega)
    have h2 := hg.mono (listI l k).toNat (alongTo nx k l x) (alongTo nx k l y) (by omega) (by omega) ih.2
    unfold alongTo
    omega
theorem Fs.line_le {x y x' y' left all : Int} (hl : 0 ≤ left ∧ left ≤ all) (ha : 1 ≤ all) (hx : x ≤ x') (hy : y ≤ y') : onLine x y left all ≤ onLine x' y' left all := by
  have h1 : x * left ≤ x' * left := Int.mul_le_mul_of_nonneg_right hx hl.1
  have h2 : y * (all - left) ≤ y' * (all - left) := Int.mul_le_mul_of_nonneg_right hy (by omega)
  unfold onLine
  exact Int.ediv_le_ediv (by omega) (by omega)
theorem Fs.takes_ends {l : List Pt} (h : PtsOk l) (a : Int) : (takesAt l a).1 ≤ (takesAt l a).2 := by
  have hn : 0 < l.length := Nat.pos_of_ne_zero h.1
  have ho : ∀ j, j < l.length → (listP l j).lo ≤ (listP l j).hi := fun j hj => by
    have h1 := h.2.2 j hj
    by_cases e : (listP l j).hi < (listP l j).lo
    · rw [errPoint_order (errPoint_right h1) (.inl e)] at h1; exact absurd h1 (by decide)
    · omega
  obtain ⟨np, pl⟩ := next_prev l (a % 86400) h.1
  have ql : nextOf l (a % 86400) < l.length := by rw [np]; exact Nat.mod_lt _ hn
  have s := secondsTo_is (a % 86400) (listP l (nextOf l (a % 86400))).hour
  have s2 := secondsTo_is (listP l (prevOf l (a % 86400))).hour (listP l (nextOf l (a % 86400))).hour
  obtain ⟨b0, b1, b2⟩ := behind_is l (a % 86400)
  have hle := left_le h (t := a % 86400) (by omega) b0 b1 b2
  rw [takesAt_eq]
  exact line_le ⟨by omega, hle⟩ s2.1 (ho _ pl) (ho _ ql)
theorem Fs.along_ends {N : Net} (hE : netErr N = 0) {l : List Int} (hl : ∀ j, j < l.length → 0 ≤ listI l j ∧ listI l j < N.roads.length) {x : Int} (h0 : 0 ≤ x) : ∀ k, k ≤ l.length → 0 ≤ alongTo (soonest N) k l x ∧ alongTo (soonest N) k l x ≤ alongTo (latest N) k l x
  | 0, _ => ⟨h0, Int.le_refl _⟩
  | k + 1, hk => by
    have ih := along_ends hE hl h0 k (by omega)
    have hr := hl k (by omega)
    have h1 := (soonest_good hE).up (listI l k).toNat (alongTo (soonest N) k l x) (by omega) (by omega)
    have h2 := (latest_good hE).mono (listI l k).toNat (alongTo (soonest N) k l x) (alongTo (latest N) k l x) (by omega) (by omega) ih.2
    have h3 : soonest N (listI l k).toNat (alongTo (soonest N) k l x) ≤ latest N (listI l k).toNat (alongTo (soonest N) k l x) := by
      have h4 := takes_ends (net_roads_ok hE (listI l k).toNat (by omega)).pts (alongTo (soonest N) k l x)
      generalize alongTo (soonest N) k l x = z at *
      show z + _ ≤ z + _
      omega
    refine ⟨?_, ?_⟩
    · show 0 ≤ soonest N (listI l k).toNat (alongTo (soonest N) k l x); omega
    · show soonest N (listI l k).toNat (alongTo (soonest N) k l x) ≤ latest N (listI l k).toNat (alongTo (latest N) k l x); omega
theorem Fs.arrOf_ok {N : Net} {l : List Int} {a : Int} (h1 : netErr N = 0) (h2 : wayErr N l = 0) (h3 : 0 ≤ a ∧ a ≤ 604800) : arrOf N l a = (arrivals N l a, 0) := by
  have e1 : cwErr N l = 0 := by unfold cwErr; rw [if_pos h1, h2]
  have e2 : timeErr a = 0 := if_pos (Fs.within_iff.2 h3)
  refine if_pos ?_
  unfold avErr
  rw [e1, e2]
  rfl
theorem Fs.arrivals_order {N : Net} {l : List Int} {x y : Int} (h1 : netErr N = 0) (h2 : wayErr N l = 0) (h0 : 0 ≤ x) (hxy : x ≤ y) :
    (arrivals N l x).1 ≤ (arrivals N l y).1 ∧ (arrivals N l x).2 ≤ (arrivals N l y).2 ∧ (arrivals N l x).1 ≤ (arrivals N l x).2 ∧ (arrivals N l y).1 ≤ (arrivals N l y).2 ∧ x ≤ (arrivals N l x).1 := by
  have hl : ∀ j, j < l.length → 0 ≤ listI l j ∧ listI l j < N.roads.length := fun j hj => ((way_ok h2).2 j hj).1
  have a1 := along_mono (soonest_good h1) hl h0 hxy l.length (Nat.le_refl _)
  have a2 := along_mono (latest_good h1) hl h0 hxy l.length (Nat.le_refl _)
  have a3 := along_ends h1 hl h0 l.length (Nat.le_refl _)
  have a4 := along_ends h1 hl (show 0 ≤ y by omega) l.length (Nat.le_refl _)
  exact ⟨a1.2, a2.2, a3.2, a4.2, a1.1⟩
/-- Two numbers in a block. -/
structure TwoAt (w : World) (g : Nat) (x y : Int) : Prop where
  c0 : w.cell? ⟨g, 0, none⟩ = some (.int .i64 x)
  c1 : w.cell? ⟨g, 1, none⟩ = some (.int .i64 y)
theorem TwoAt.keep {w w' : World} (k : Keep w w') {g : Nat} {x y : Int} (h : TwoAt w g x y) : TwoAt w' g x y := ⟨k _ _ h.c0, k _ _ h.c1⟩
theorem TwoAt.new1 (w : World) (B : Obj) (x y : Int) (ty : TypeId) : TwoAt ((w.alloc B).alloc (.cells #[.int .i64 x, .int .i64 y] ty)) (w.heap.size + 1) x y := ⟨cellNew1 _ _ _ _ 0, cellNew1 _ _ _ _ 1⟩

set_option maxHeartbeats 6400000 in
set_option maxRecDepth 100000 in
theorem law5_any (N : Net) (v : Value) (l : List Int) (A : Option Addr) (c : Nat) (x y : Int) (w : World) (hN : RdNet w v N) (hA : ArrI w A l c) :
    Calls Try.prog 5 #[v, .slice A l.length c, .agg #[.int .i64 x, .int .i64 y]] w fun e w' => e = .returned (.bool true) ∧ Below w.heap.size w w' := by
  have hN0 := Lib.hid hN
  have b1 := hA.le.1
  have b2 := hA.le.2
  have HA := Lib.hid hA
  clear hA
  obtain ⟨P, R, pc, rc, ar, rfl, mm⟩ := hN
  clear mm
  have BN := Lib.hid ((BoxN.new w N P R pc rc 25).keep (Keep.alloc _ (.cells #[.int .i64 x, .int .i64 y] 59)))
  have BT := Lib.hid (TwoAt.new1 w (.cells #[.slice P N.places.length pc, .slice R N.roads.length rc] 25) x y 59)
  go_enter Try.func5, Try.ntmps5
  go_upto_region 1 with fail
  generalize hwb : (w.alloc _).alloc _ = wb at *
  have HW : Hid (Below w.heap.size w wb) := by rw [← hwb]; exact Lib.hid (((Below.refl _ _).alloc (Nat.le_refl _) _).alloc (by simp) _)
  clear hwb
  go_wp2_with fail
  refine (awake_any _).mono ?_
  rintro e' w1 ⟨rfl, hb1⟩
  replace HW := Lib.hid (HW.out.trans (hb1.mono HW.out.size))
  replace BN := Lib.hid (BN.out.keep (Keep.below hb1))
  replace BT := Lib.hid (BT.out.keep (Keep.below hb1))
  clear hb1
  obtain ⟨n0, n1⟩ := BN.out
  go_wp2_with fail
  refine (few_any N _ _ (hN0.out.keep (Keep.below HW.out))).mono ?_
  rintro e' w2 ⟨rfl, hb2⟩
  replace HW := Lib.hid (HW.out.trans (hb2.mono HW.out.size))
  replace BN := Lib.hid (BN.out.keep (Keep.below hb2))
  replace BT := Lib.hid (BT.out.keep (Keep.below hb2))
  clear hb2 n0 n1
  cases hf : fewN N with
  | false =>
    go_wp2_with fail
    go_ret
    exact ⟨rfl, HW.out⟩
  | true =>
    have HL := Lib.hid (few_lens hf)
    clear hf
    by_cases hl : l.length ≤ 12
    · have d1 : decide ((l.length : Int) > 12) = false := decide_eq_false (by omega)
      have d2 : decide (12 < (l.length : Int)) = false := decide_eq_false (by omega)
      obtain ⟨n0, n1⟩ := BN.out
      go_wp2_with fail
      refine (rNetErr_any N _ _ (hN0.out.keep (Keep.below HW.out))).mono ?_
      rintro e' w3 ⟨rfl, hb3⟩
      replace HW := Lib.hid (HW.out.trans (hb3.mono HW.out.size))
      replace BN := Lib.hid (BN.out.keep (Keep.below hb3))
      replace BT := Lib.hid (BT.out.keep (Keep.below hb3))
      clear hb3 n0 n1
      by_cases he : netErr N = 0
      · rw [he]
        have HE := Lib.hid he
        clear he
        obtain ⟨c0, c1⟩ := BT.out
        cases hx : within x 0 y with
        | false =>
          have X1 := Lib.hid hx
          clear hx
          go_wp2_with (go_at_call 36; refine (bwithin_any _ _ _ _).mono ?_; rintro e' w' ⟨rfl, rfl⟩; rw [X1.out])
          go_ret
          exact ⟨rfl, HW.out⟩
        | true =>
          have X1 := Lib.hid hx
          obtain ⟨x0, x1⟩ := Fs.within_iff.1 hx
          clear hx
          by_cases ht : timeErr y = 0
          · have X2 := Lib.hid ht
            obtain ⟨-, y1⟩ := timeErr_ok ht
            clear ht
            obtain ⟨n0, n1⟩ := BN.out
            go_wp2_with (first | (go_at_call 36; refine (bwithin_any _ _ _ _).mono ?_; rintro e' w' ⟨rfl, rfl⟩; rw [X1.out]) | (go_at_call 25; refine (rTimeErr_any _ _).mono ?_; rintro e' w' ⟨rfl, rfl⟩; rw [X2.out]))
            refine (rWayErr_any N _ l A c _ (hN0.out.keep (Keep.below HW.out)) (HA.out.keep (Keep.below HW.out))).mono ?_
            rintro e' wA ⟨rfl, hb4⟩
            replace HW := Lib.hid (HW.out.trans (hb4.mono HW.out.size))
            replace BN := Lib.hid (BN.out.keep (Keep.below hb4))
            replace BT := Lib.hid (BT.out.keep (Keep.below hb4))
            clear hb4 n0 n1 c0 c1
            by_cases hw : wayErr N l = 0
            · have A1 := Lib.hid (arrOf_ok HE.out hw (show 0 ≤ x ∧ x ≤ 604800 by omega))
              have A2 := Lib.hid (arrOf_ok HE.out hw (show 0 ≤ y ∧ y ≤ 604800 by omega))
              obtain ⟨o1, o2, o3, o4, o5⟩ := arrivals_order HE.out hw x0 x1
              rw [hw]
              clear hw
              obtain ⟨n0, n1⟩ := BN.out
              obtain ⟨c0, c1⟩ := BT.out
              go_wp2_with fail
              go_cut [9, 10] from 50 to 59 (fun s1 s2 wx => ∃ g : Nat, s1 = .pointer (some ⟨g, 0, none⟩) ∧ s2 = .int .i64 (arrOf N l x).2 ∧ wA.heap.size ≤ g ∧ Hid (TreeAt wx g (.int .i64 (arrOf N l x).1.1) (.int .i64 (arrOf N l x).1.2)) ∧ Hid (Below wA.heap.size wA wx))
              case first =>
                have HBd : Hid (Below wA.heap.size wA wA.drew) := Lib.hid (Below.refl _ _).drew
                have MK : Hid (∀ w', Below wA.heap.size wA w' → w'.cell? ⟨w.heap.size, 0, none⟩ = some (.slice P N.places.length pc) ∧ w'.cell? ⟨w.heap.size, 1, none⟩ = some (.slice R N.roads.length rc) ∧ w'.cell? ⟨w.heap.size + 1, 0, none⟩ = some (.int .i64 x) ∧ w'.cell? ⟨w.heap.size + 1, 1, none⟩ = some (.int .i64 y) ∧ Hid (Below wA.heap.size wA w')) :=
                  Lib.hid fun w' hw => ⟨Keep.below hw _ _ n0, Keep.below hw _ _ n1, Keep.below hw _ _ c0, Keep.below hw _ _ c1, Lib.hid hw⟩
                have KN : Hid (∀ w', Below wA.heap.size wA w' → RdNet w' (netV N P R pc rc) N) := Lib.hid fun w' hw => (hN0.out.keep (Keep.below (HW.out.trans (hw.mono HW.out.size))))
                have KA : Hid (∀ w', Below wA.heap.size wA w' → ArrI w' A l c) := Lib.hid fun w' hw => (HA.out.keep (Keep.below (HW.out.trans (hw.mono HW.out.size))))
                go_region_held3 (fun w' => w'.cell? ⟨w.heap.size, 0, none⟩ = some (.slice P N.places.length pc) ∧ w'.cell? ⟨w.heap.size, 1, none⟩ = some (.slice R N.roads.length rc) ∧ w'.cell? ⟨w.heap.size + 1, 0, none⟩ = some (.int .i64 x) ∧ w'.cell? ⟨w.heap.size + 1, 1, none⟩ = some (.int .i64 y) ∧ Hid (Below wA.heap.size wA w'))
                  (first
                    | exact MK.out _ HBd.out
                    | (go_split_ands; exact ⟨by assumption, by assumption, by assumption, by assumption, by assumption⟩)
                    | (go_split_ands; exact MK.out _ (Below.trans (Hid.out (by assumption)) (hb1.mono (Hid.out (by assumption) : Below wA.heap.size wA _).size)))
                    | (go_split_ands; exact MK.out _ (Below.alloc (Hid.out (by assumption)) (Hid.out (by assumption) : Below wA.heap.size wA _).size _))
                    | (go_split_ands; exact MK.out _ (below_realloc (Hid.out (by assumption)) hle _))
                    | (go_split_ands; exact MK.out _ (Below.setCell (Below.setCell (Hid.out (by assumption)) (by show wA.heap.size ≤ _; first | exact Nat.le_refl _ | assumption | omega | (simp; done) | (simp; omega)) _) (by show wA.heap.size ≤ _; first | exact Nat.le_refl _ | assumption | omega | (simp; done) | (simp; omega)) _)))
                  ((first
                    | (go_at_call 21
                       go_split_ands
                       refine (copyNet_any N _ _ (KN.out _ (Hid.out (by assumption))) HL.out.1 HL.out.2.1 HL.out.2.2).mono ?_
                       rintro e' w5 ⟨v5, rfl, h5, hb1⟩
                       have hle := Nat.le_trans (Hid.out (by assumption) : Below wA.heap.size wA _).size hb1.size
                       have H5 := Lib.hid h5
                       clear h5
                       try (have H6 := Lib.hid (by first | exact H6.out.keep (Keep.below hb1) | exact (H6.out.keep (Keep.alloc _ _)).keep (Keep.below hb1) : ArrI w5 A6 l k6))
                       try (first
                         | (have HT0 := (HT.out.keep hb1 : TreeAt _ _ (.int .i64 0) (.int .i64 0)); (try simp only [size_drew] at HT0); (try simp only [World.size_alloc] at HT0); (try simp only [size_drew] at HT0); have HT := Lib.hid HT0; clear HT0; obtain ⟨q0, q1, qf0, qf1⟩ := HT.out)
                         | (have HT0 := ((TreeAt.new _ _ _ 35).keep hb1 : TreeAt _ _ (.int .i64 0) (.int .i64 0)); (try simp only [size_drew] at HT0); (try simp only [World.size_alloc] at HT0); (try simp only [size_drew] at HT0); have HT := Lib.hid HT0; clear HT0; obtain ⟨q0, q1, qf0, qf1⟩ := HT.out)
                         | (have HT0 := ((TreeAt.new _ _ _ 35).keepD hb1 : TreeAt _ _ (.int .i64 0) (.int .i64 0)); (try simp only [size_drew] at HT0); (try simp only [World.size_alloc] at HT0); (try simp only [size_drew] at HT0); have HT := Lib.hid HT0; clear HT0; obtain ⟨q0, q1, qf0, qf1⟩ := HT.out)))
                    | (go_at_call 29
                       go_split_ands
                       refine (copyInts_any l A c _ (KA.out _ (Hid.out (by assumption))) (by omega)).mono ?_
                       rintro e' w6 ⟨A6, k6, rfl, h6, -, hb1⟩
                       have hle := Nat.le_trans (Hid.out (by assumption) : Below wA.heap.size wA _).size hb1.size
                       have H6 := Lib.hid h6
                       clear h6
                       try (have H5 := Lib.hid (by first | exact H5.out.keep (Keep.below hb1) | exact (H5.out.keep (Keep.alloc _ _)).keep (Keep.below hb1) : RdNet w6 v5 N))
                       try (first
                         | (have HT0 := (HT.out.keep hb1 : TreeAt _ _ (.int .i64 0) (.int .i64 0)); (try simp only [size_drew] at HT0); (try simp only [World.size_alloc] at HT0); (try simp only [size_drew] at HT0); have HT := Lib.hid HT0; clear HT0; obtain ⟨q0, q1, qf0, qf1⟩ := HT.out)
                         | (have HT0 := ((TreeAt.new _ _ _ 35).keep hb1 : TreeAt _ _ (.int .i64 0) (.int .i64 0)); (try simp only [size_drew] at HT0); (try simp only [World.size_alloc] at HT0); (try simp only [size_drew] at HT0); have HT := Lib.hid HT0; clear HT0; obtain ⟨q0, q1, qf0, qf1⟩ := HT.out)
                         | (have HT0 := ((TreeAt.new _ _ _ 35).keepD hb1 : TreeAt _ _ (.int .i64 0) (.int .i64 0)); (try simp only [size_drew] at HT0); (try simp only [World.size_alloc] at HT0); (try simp only [size_drew] at HT0); have HT := Lib.hid HT0; clear HT0; obtain ⟨q0, q1, qf0, qf1⟩ := HT.out)))
                    | (go_at_call 30
                       go_split_ands
                       refine (arrOf_any N _ l A6 k6 x _ (by first | exact H5.out | exact H5.out.keep (Keep.alloc _ _)) (by first | exact H6.out | exact H6.out.keep (Keep.alloc _ _))).mono ?_
                       rintro e' w7 ⟨rfl, hb1⟩
                       have hle := Nat.le_trans (Hid.out (by assumption) : Below wA.heap.size wA _).size hb1.size
                       try (first
                         | (have HT0 := (HT.out.keep hb1 : TreeAt _ _ (.int .i64 0) (.int .i64 0)); (try simp only [size_drew] at HT0); (try simp only [World.size_alloc] at HT0); (try simp only [size_drew] at HT0); have HT := Lib.hid HT0; clear HT0; obtain ⟨q0, q1, qf0, qf1⟩ := HT.out)
                         | (have HT0 := ((TreeAt.new _ _ _ 35).keep hb1 : TreeAt _ _ (.int .i64 0) (.int .i64 0)); (try simp only [size_drew] at HT0); (try simp only [World.size_alloc] at HT0); (try simp only [size_drew] at HT0); have HT := Lib.hid HT0; clear HT0; obtain ⟨q0, q1, qf0, qf1⟩ := HT.out)
                         | (have HT0 := ((TreeAt.new _ _ _ 35).keepD hb1 : TreeAt _ _ (.int .i64 0) (.int .i64 0)); (try simp only [size_drew] at HT0); (try simp only [World.size_alloc] at HT0); (try simp only [size_drew] at HT0); have HT := Lib.hid HT0; clear HT0; obtain ⟨q0, q1, qf0, qf1⟩ := HT.out)))))
                all_goals
                  rename_i hS
                  obtain ⟨-, -, -, -, hbb⟩ := hS
                  go_wp2_with fail
                  go_meet
                  first
                    | exact ⟨_, rfl, rfl, by omega, Lib.hid (TreeAt.new _ _ _ _), hbb⟩
                    | exact ⟨_, rfl, rfl, by omega, Lib.hid (HT.out.set _ _), hbb⟩
              case rest =>
                obtain ⟨g, rfl, rfl, hg, HR, HB⟩ := hcut
                replace BN := Lib.hid (BN.out.keep (Keep.below HB.out))
                replace BT := Lib.hid (BT.out.keep (Keep.below HB.out))
                replace HW := Lib.hid (HW.out.trans (HB.out.mono HW.out.size))
                obtain ⟨wB, hwB⟩ : ∃ wB, wB = wc := ⟨_, rfl⟩
                subst hwB
                clear HB c0 c1 n0 n1
                rw [A1.out] at HR
                rw [A1.out]
                have HGB := Lib.hid HR.out.lt
                obtain ⟨n0, n1⟩ := BN.out
                obtain ⟨c0, c1⟩ := BT.out
                go_wp2_with fail
                go_cut [11, 12] from 60 to 69 (fun s1 s2 wx => ∃ g : Nat, s1 = .pointer (some ⟨g, 0, none⟩) ∧ s2 = .int .i64 (arrOf N l y).2 ∧ wB.heap.size ≤ g ∧ Hid (TreeAt wx g (.int .i64 (arrOf N l y).1.1) (.int .i64 (arrOf N l y).1.2)) ∧ Hid (Below wB.heap.size wB wx))
                case first =>
                  have HBd : Hid (Below wB.heap.size wB wB.drew) := Lib.hid (Below.refl _ _).drew
                  have MK : Hid (∀ w', Below wB.heap.size wB w' → w'.cell? ⟨w.heap.size, 0, none⟩ = some (.slice P N.places.length pc) ∧ w'.cell? ⟨w.heap.size, 1, none⟩ = some (.slice R N.roads.length rc) ∧ w'.cell? ⟨w.heap.size + 1, 0, none⟩ = some (.int .i64 x) ∧ w'.cell? ⟨w.heap.size + 1, 1, none⟩ = some (.int .i64 y) ∧ Hid (Below wB.heap.size wB w')) :=
                    Lib.hid fun w' hw => ⟨Keep.below hw _ _ n0, Keep.below hw _ _ n1, Keep.below hw _ _ c0, Keep.below hw _ _ c1, Lib.hid hw⟩
                  have KN : Hid (∀ w', Below wB.heap.size wB w' → RdNet w' (netV N P R pc rc) N) := Lib.hid fun w' hw => (hN0.out.keep (Keep.below (HW.out.trans (hw.mono HW.out.size))))
                  have KA : Hid (∀ w', Below wB.heap.size wB w' → ArrI w' A l c) := Lib.hid fun w' hw => (HA.out.keep (Keep.below (HW.out.trans (hw.mono HW.out.size))))
                  go_region_held3 (fun w' => w'.cell? ⟨w.heap.size, 0, none⟩ = some (.slice P N.places.length pc) ∧ w'.cell? ⟨w.heap.size, 1, none⟩ = some (.slice R N.roads.length rc) ∧ w'.cell? ⟨w.heap.size + 1, 0, none⟩ = some (.int .i64 x) ∧ w'.cell? ⟨w.heap.size + 1, 1, none⟩ = some (.int .i64 y) ∧ Hid (Below wB.heap.size wB w'))
                    (first
                      | exact MK.out _ HBd.out
                      | (go_split_ands; exact ⟨by assumption, by assumption, by assumption, by assumption, by assumption⟩)
                      | (go_split_ands; exact MK.out _ (Below.trans (Hid.out (by assumption)) (hb1.mono (Hid.out (by assumption) : Below wB.heap.size wB _).size)))
                      | (go_split_ands; exact MK.out _ (Below.alloc (Hid.out (by assumption)) (Hid.out (by assumption) : Below wB.heap.size wB _).size _))
                      | (go_split_ands; exact MK.out _ (below_realloc (Hid.out (by assumption)) hle _))
                      | (go_split_ands; exact MK.out _ (Below.setCell (Below.setCell (Hid.out (by assumption)) (by show wB.heap.size ≤ _; first | exact Nat.le_refl _ | assumption | omega | (simp; done) | (simp; omega)) _) (by show wB.heap.size ≤ _; first | exact Nat.le_refl _ | assumption | omega | (simp; done) | (simp; omega)) _)))
                    ((first
                      | (go_at_call 21
                         go_split_ands
                         refine (copyNet_any N _ _ (KN.out _ (Hid.out (by assumption))) HL.out.1 HL.out.2.1 HL.out.2.2).mono ?_
                         rintro e' w5 ⟨v5, rfl, h5, hb1⟩
                         have hle := Nat.le_trans (Hid.out (by assumption) : Below wB.heap.size wB _).size hb1.size
                         have H5 := Lib.hid h5
                         clear h5
                         try (have H6 := Lib.hid (by first | exact H6.out.keep (Keep.below hb1) | exact (H6.out.keep (Keep.alloc _ _)).keep (Keep.below hb1) : ArrI w5 A6 l k6))
                         try (first
                           | (have HT0 := (HT.out.keep hb1 : TreeAt _ _ (.int .i64 0) (.int .i64 0)); (try simp only [size_drew] at HT0); (try simp only [World.size_alloc] at HT0); (try simp only [size_drew] at HT0); have HT := Lib.hid HT0; clear HT0; obtain ⟨q0, q1, qf0, qf1⟩ := HT.out)
                           | (have HT0 := ((TreeAt.new _ _ _ 35).keep hb1 : TreeAt _ _ (.int .i64 0) (.int .i64 0)); (try simp only [size_drew] at HT0); (try simp only [World.size_alloc] at HT0); (try simp only [size_drew] at HT0); have HT := Lib.hid HT0; clear HT0; obtain ⟨q0, q1, qf0, qf1⟩ := HT.out)
                           | (have HT0 := ((TreeAt.new _ _ _ 35).keepD hb1 : TreeAt _ _ (.int .i64 0) (.int .i64 0)); (try simp only [size_drew] at HT0); (try simp only [World.size_alloc] at HT0); (try simp only [size_drew] at HT0); have HT := Lib.hid HT0; clear HT0; obtain ⟨q0, q1, qf0, qf1⟩ := HT.out)))
                      | (go_at_call 29
                         go_split_ands
                         refine (copyInts_any l A c _ (KA.out _ (Hid.out (by assumption))) (by omega)).mono ?_
                         rintro e' w6 ⟨A6, k6, rfl, h6, -, hb1⟩
                         have hle := Nat.le_trans (Hid.out (by assumption) : Below wB.heap.size wB _).size hb1.size
                         have H6 := Lib.hid h6
                         clear h6
                         try (have H5 := Lib.hid (by first | exact H5.out.keep (Keep.below hb1) | exact (H5.out.keep (Keep.alloc _ _)).keep (Keep.below hb1) : RdNet w6 v5 N))
                         try (first
                           | (have HT0 := (HT.out.keep hb1 : TreeAt _ _ (.int .i64 0) (.int .i64 0)); (try simp only [size_drew] at HT0); (try simp only [World.size_alloc] at HT0); (try simp only [size_drew] at HT0); have HT := Lib.hid HT0; clear HT0; obtain ⟨q0, q1, qf0, qf1⟩ := HT.out)
                           | (have HT0 := ((TreeAt.new _ _ _ 35).keep hb1 : TreeAt _ _ (.int .i64 0) (.int .i64 0)); (try simp only [size_drew] at HT0); (try simp only [World.size_alloc] at HT0); (try simp only [size_drew] at HT0); have HT := Lib.hid HT0; clear HT0; obtain ⟨q0, q1, qf0, qf1⟩ := HT.out)
                           | (have HT0 := ((TreeAt.new _ _ _ 35).keepD hb1 : TreeAt _ _ (.int .i64 0) (.int .i64 0)); (try simp only [size_drew] at HT0); (try simp only [World.size_alloc] at HT0); (try simp only [size_drew] at HT0); have HT := Lib.hid HT0; clear HT0; obtain ⟨q0, q1, qf0, qf1⟩ := HT.out)))
                      | (go_at_call 30
                         go_split_ands
                         refine (arrOf_any N _ l A6 k6 y _ (by first | exact H5.out | exact H5.out.keep (Keep.alloc _ _)) (by first | exact H6.out | exact H6.out.keep (Keep.alloc _ _))).mono ?_
                         rintro e' w7 ⟨rfl, hb1⟩
                         have hle := Nat.le_trans (Hid.out (by assumption) : Below wB.heap.size wB _).size hb1.size
                         try (first
                           | (have HT0 := (HT.out.keep hb1 : TreeAt _ _ (.int .i64 0) (.int .i64 0)); (try simp only [size_drew] at HT0); (try simp only [World.size_alloc] at HT0); (try simp only [size_drew] at HT0); have HT := Lib.hid HT0; clear HT0; obtain ⟨q0, q1, qf0, qf1⟩ := HT.out)
                           | (have HT0 := ((TreeAt.new _ _ _ 35).keep hb1 : TreeAt _ _ (.int .i64 0) (.int .i64 0)); (try simp only [size_drew] at HT0); (try simp only [World.size_alloc] at HT0); (try simp only [size_drew] at HT0); have HT := Lib.hid HT0; clear HT0; obtain ⟨q0, q1, qf0, qf1⟩ := HT.out)
                           | (have HT0 := ((TreeAt.new _ _ _ 35).keepD hb1 : TreeAt _ _ (.int .i64 0) (.int .i64 0)); (try simp only [size_drew] at HT0); (try simp only [World.size_alloc] at HT0); (try simp only [size_drew] at HT0); have HT := Lib.hid HT0; clear HT0; obtain ⟨q0, q1, qf0, qf1⟩ := HT.out)))))
                  all_goals
                    rename_i hS
                    obtain ⟨-, -, -, -, hbb⟩ := hS
                    go_wp2_with fail
                    go_meet
                    first
                      | exact ⟨_, rfl, rfl, by omega, Lib.hid (TreeAt.new _ _ _ _), hbb⟩
                      | exact ⟨_, rfl, rfl, by omega, Lib.hid (HT.out.set _ _), hbb⟩
                case rest =>
                  obtain ⟨g2, rfl, rfl, hg2, HR2, HB⟩ := hcut
                  rw [A2.out] at HR2
                  rw [A2.out]
                  obtain ⟨r0, r1, -, -⟩ := HR.out.below HB.out HGB.out
                  obtain ⟨s0, s1, -, -⟩ := HR2.out
                  obtain ⟨c0, c1⟩ := BT.out.keep (Keep.below HB.out)
                  replace HW := Lib.hid (HW.out.trans (HB.out.mono HW.out.size))
                  have e1 : decide ((arrivals N l x).1 > (arrivals N l y).1) = false := decide_eq_false (by omega)
                  have e1' : decide ((arrivals N l y).1 < (arrivals N l x).1) = false := decide_eq_false (by omega)
                  have e2 : decide ((arrivals N l x).2 > (arrivals N l y).2) = false := decide_eq_false (by omega)
                  have e2' : decide ((arrivals N l y).2 < (arrivals N l x).2) = false := decide_eq_false (by omega)
                  have e3 : decide ((arrivals N l x).1 > (arrivals N l x).2) = false := decide_eq_false (by omega)
                  have e3' : decide ((arrivals N l x).2 < (arrivals N l x).1) = false := decide_eq_false (by omega)
                  have e4 : decide ((arrivals N l y).1 > (arrivals N l y).2) = false := decide_eq_false (by omega)
                  have e4' : decide ((arrivals N l y).2 < (arrivals N l y).1) = false := decide_eq_false (by omega)
                  have e5 : decide ((arrivals N l x).1 < x) = false := decide_eq_false (by omega)
                  clear o1 o2 o3 o4 o5
                  go_wp2_with fail
                  go_ret
                  exact ⟨rfl, HW.out⟩
            · have e1 : (wayErr N l == 0) = false := by simpa using hw
              have e2 : (wayErr N l != 0) = true := by simpa using hw
              clear hw
              go_wp2_with fail
              go_ret
              exact ⟨rfl, HW.out⟩
          · have X2 := Lib.hid ht
            have e1 : (timeErr y == 0) = false := by simpa using ht
            have e2 : (timeErr y != 0) = true := by simpa using ht
            clear ht
            go_wp2_with (first | (go_at_call 36; refine (bwithin_any _ _ _ _).mono ?_; rintro e' w' ⟨rfl, rfl⟩; rw [X1.out]) | (go_at_call 25; refine (rTimeErr_any _ _).mono ?_; rintro e' w' ⟨rfl, rfl⟩))
            go_ret
            exact ⟨rfl, HW.out⟩
      · have hz : (netErr N == 0) = false := by simpa using he
        have hz' : (netErr N != 0) = true := by simpa using he
        clear he
        go_wp2_with fail
        go_ret
        exact ⟨rfl, HW.out⟩
    · have d1 : decide ((l.length : Int) > 12) = true := decide_eq_true (by omega)
      have d2 : decide (12 < (l.length : Int)) = true := decide_eq_true (by omega)
      go_wp2_with fail
      go_ret
      exact ⟨rfl, HW.out⟩
end Go.Proofs.Ythipneggplebcaa

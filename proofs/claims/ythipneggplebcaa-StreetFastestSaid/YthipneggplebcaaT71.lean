/- Detour: how much longer a way is than the earliest arrivals. Condition: the net can be read. -/
import Derived.Test.YthipneggplebcaaT70
import Derived.Test.YthipneggplebcaaT29
import Derived.Test.YthipneggplebcaaT60
namespace Go.Proofs.Ythipneggplebcaa
open Go.RowKit Fs

set_option maxHeartbeats 1600000 in
set_option maxRecDepth 100000 in
theorem joins_any (N : Net) (v : Value) (l : List Int) (A : Option Addr) (c : Nat) (f t : Int) (w : World) (hN : RdNet w v N) (hA : ArrI w A l c) (hl : ∀ j, j < l.length → 0 ≤ listI l j ∧ listI l j < N.roads.length) :
    Calls Try.prog 109 #[v, .slice A l.length c, .int .i64 f, .int .i64 t] w fun e w' => e = .returned (.bool (decide (JoinsIs N l f t))) ∧ Below w.heap.size w w' := by
  obtain ⟨P, R, pc, rc, ar, rfl, m⟩ := hN
  have M := Lib.hid m
  have rb1 := m.roads.le.1
  have rb2 := m.roads.le.2
  clear m
  have b1 := hA.le.1
  have b2 := hA.le.2
  have HA := Lib.hid hA
  clear hA
  have BN := Lib.hid (BoxN.new w N P R pc rc 25)
  go_enter Try.func109, Try.ntmps109
  go_upto_region 1 with fail
  generalize hwb : w.alloc _ = wb at *
  have HW : Hid (Below w.heap.size w wb) := by rw [← hwb]; exact Lib.hid ((Below.refl _ _).alloc (Nat.le_refl _) _)
  clear hwb
  obtain ⟨n0, n1⟩ := BN.out
  by_cases h0 : l.length = 0
  · have F := Lib.hid (show (JoinsIs N l f t) = (f = t) from if_pos h0)
    have e0 : ((l.length : Int) == 0) = true := by rw [h0]; rfl
    have e0' : ((0 : Int) == 0) = true := rfl
    rw [h0] at b1 ⊢
    clear h0 hl
    by_cases hft : f = t
    · have e1 : (f == t) = true := by simpa using hft
      have G := Lib.hid (show decide (JoinsIs N l f t) = true from decide_eq_true (by rw [F.out]; exact hft))
      clear hft
      go_wp2_with fail
      go_ret
      exact ⟨ret_bool G.out.symm, HW.out⟩
    · have e1 : (f == t) = false := by simpa using hft
      have G := Lib.hid (show decide (JoinsIs N l f t) = false from decide_eq_false (by rw [F.out]; exact hft))
      clear hft
      go_wp2_with fail
      go_ret
      exact ⟨ret_bool G.out.symm, HW.out⟩
  · have F := Lib.hid (show (JoinsIs N l f t) = ((listD N.roads (listI l 0).toNat).src = f ∧ (listD N.roads (listI l (l.length - 1)).toNat).dst = t) from if_neg h0)
    have hn0 : ¬ (l.length : Int) = 0 := by omega
    have e0 : ((l.length : Int) == 0) = false := by simpa using hn0
    have r0 := hl 0 (by omega)
    have r1 := hl (l.length - 1) (by omega)
    obtain ⟨p, hp⟩ : ∃ p : Nat, listI l 0 = p := ⟨_, (Int.toNat_of_nonneg r0.1).symm⟩
    obtain ⟨q, hq⟩ : ∃ q : Nat, listI l (l.length - 1) = q := ⟨_, (Int.toNat_of_nonneg r1.1).symm⟩
    have hpl : p < N.roads.length := by omega
    have hql : q < N.roads.length := by omega
    have hpn : (p : Int) < (N.roads.length : Int) := by omega
    have hqn : (q : Int) < (N.roads.length : Int) := by omega
    obtain ⟨b, o, hAe, x0⟩ := (HA.out.keep (Keep.below HW.out)).at_ (k := 0) (by omega)
    have x1 := HA.out.keep (Keep.below HW.out)
    rw [hAe] at x1
    have x1 := x1.cells (k := l.length - 1) (by omega)
    subst hAe
    have hR := M.out.roads.keep (Keep.below HW.out)
    obtain ⟨rb, ro, hRa, y⟩ := hR.at_ hpl
    subst hRa
    have y1 := y.c1
    have z2 := (hR.cells (k := q) hql).c2
    have F2 := F.out
    rw [hp, hq, Int.toNat_natCast, Int.toNat_natCast] at F2
    rw [hp] at x0
    rw [hq] at x1
    rw [Nat.add_zero] at x0
    have F3 := Lib.hid F2
    have hk1 : (l.length : Int) - 1 = ((l.length - 1 : Nat) : Int) := by omega
    have hk2 : ((l.length - 1 : Nat) : Int) < (l.length : Int) := by omega
    have hk3 : (0 : Int) < (l.length : Int) := by omega
    clear y hR F2 hp hq r0 r1 hn0 hl F
    by_cases hs : (listD N.roads p).src = f
    · have e1 : ((listD N.roads p).src == f) = true := by simpa using hs
      by_cases hd : (listD N.roads q).dst = t
      · have e2 : ((listD N.roads q).dst == t) = true := by simpa using hd
        have G := Lib.hid (show decide (JoinsIs N l f t) = true from decide_eq_true (by rw [F3.out]; exact ⟨hs, hd⟩))
        clear hs hd
        go_wp2_with fail
        go_quiet (fail)
        go_wp2_with fail
        go_ret
        exact ⟨ret_bool G.out.symm, bdrewN HW.out _⟩
      · have e2 : ((listD N.roads q).dst == t) = false := by simpa using hd
        have G := Lib.hid (show decide (JoinsIs N l f t) = false from decide_eq_false (by rw [F3.out]; exact fun h => hd h.2))
        clear hs hd
        go_wp2_with fail
        go_quiet (fail)
        go_wp2_with fail
        go_ret
        exact ⟨ret_bool G.out.symm, bdrewN HW.out _⟩
    · have e1 : ((listD N.roads p).src == f) = false := by simpa using hs
      have G := Lib.hid (show decide (JoinsIs N l f t) = false from decide_eq_false (by rw [F3.out]; exact fun h => hs h.1))
      clear hs
      go_wp2_with fail
      go_quiet (fail)
      go_wp2_with fail
      go_ret
      exact ⟨ret_bool G.out.symm, bdrewN HW.out _⟩


theorem RowV.new (w : World) (l : List Value) (t : TypeId) : RowV (w.alloc (.cells l.toArray t)) w.heap.size t l := heap_alloc_new w _
theorem RowV.ne {w : World} {g g' : Nat} {t t' : TypeId} {l l' : List Value} (h : RowV w g t l) (h' : RowV w g' t' l') (ht : t ≠ t') : g ≠ g' := by
  rintro rfl
  unfold RowV at h h'
  rw [h] at h'
  injection h' with h'
  injection h' with h1 h2
  exact ht h2
theorem TreeAt.far {w : World} {g : Nat} {u v : Value} (m : TreeAt w g u v) {p : Addr} (hp : p.block ≠ g) (x : Value) : TreeAt (w.setCell p x) g u v :=
  ⟨(World.cell?_setCell_other _ _ _ _ (fun e => hp (by rw [e]))).trans m.c0, (World.cell?_setCell_other _ _ _ _ (fun e => hp (by rw [e]))).trans m.c1, (World.frozen?_setCell _ _ _ _).trans m.f0, (World.frozen?_setCell _ _ _ _).trans m.f1⟩
def Fs.dtErr (N : Net) (f t a : Int) (l : List Int) : Int := fst (listI [netErr N, tripErr N f t a, cwErr N l]) 3
def Fs.over (x y : Int) : Int := max 0 (x - y)
def Fs.dtRes (N : Net) (X Y : Nat) (a : Int) (l : List Int) : (Int × Int) × Int :=
  if JoinsIs N l X Y then ((over (arrivals N l a).1 (listI (search N X a (latest N)).labels Y), over (arrivals N l a).2 (listI (search N X a (soonest N)).labels Y)), 0) else ((0, 0), 13)
def Fs.detour (N : Net) (f t a : Int) (l : List Int) : (Int × Int) × Int := if dtErr N f t a l = 0 then dtRes N f.toNat t.toNat a l else ((0, 0), dtErr N f t a l)
theorem Fs.dtErr_ok {N : Net} {f t a : Int} {l : List Int} (h : dtErr N f t a l = 0) : netErr N = 0 ∧ tripErr N f t a = 0 ∧ wayErr N l = 0 :=
  ⟨fst_zero h 0 (by decide), fst_zero h 1 (by decide), (cwErr_ok (fst_zero h 2 (by decide))).2⟩

set_option linter.unusedSimpArgs false in
set_option maxHeartbeats 25600000 in
set_option maxRecDepth 100000 in
theorem detour_any (N : Net) (v : Value) (f t a : Int) (l : List Int) (A : Option Addr) (c : Nat) (w : World) (hN : RdNet w v N) (hA : ArrI w A l c) :
    Calls Try.prog 48 #[v, stripV f t a, .slice A l.length c] w fun e w' => e = .returned (.tuple #[.agg #[.int .i64 (detour N f t a l).1.1, .int .i64 (detour N f t a l).1.2], .int .i64 (detour N f t a l).2]) ∧ Below w.heap.size w w' := by
  have hN0 := Lib.hid hN
  obtain ⟨P, R, pc, rc, ar, rfl, m⟩ := hN
  clear m
  have HA := Lib.hid hA
  clear hA
  have BN := Lib.hid ((BoxN.new w N P R pc rc 25).keep ((Keep.alloc _ (.cells #[.int .i64 f, .int .i64 t, .int .i64 a] 63)).trans (Keep.alloc _ (.cells #[.int .i64 0, .int .i64 0] 35))))
  have BT := Lib.hid ((TripAt.new1 w (.cells #[.slice P N.places.length pc, .slice R N.roads.length rc] 25) f t a 63).keep (Keep.alloc _ (.cells #[.int .i64 0, .int .i64 0] 35)))
  have BR := Lib.hid (show TreeAt (((w.alloc (.cells #[.slice P N.places.length pc, .slice R N.roads.length rc] 25)).alloc (.cells #[.int .i64 f, .int .i64 t, .int .i64 a] 63)).alloc (.cells #[.int .i64 0, .int .i64 0] 35)) (w.heap.size + 1 + 1) (.int .i64 0) (.int .i64 0) from by
    have := TreeAt.new ((w.alloc (.cells #[.slice P N.places.length pc, .slice R N.roads.length rc] 25)).alloc (.cells #[.int .i64 f, .int .i64 t, .int .i64 a] 63)) (.int .i64 0) (.int .i64 0) 35
    simpa using this)
  have BV := Lib.hid (show RowV (((w.alloc (.cells #[.slice P N.places.length pc, .slice R N.roads.length rc] 25)).alloc (.cells #[.int .i64 f, .int .i64 t, .int .i64 a] 63)).alloc (.cells #[.int .i64 0, .int .i64 0] 35)) (w.heap.size + 1 + 1) 35 [.int .i64 0, .int .i64 0] from by
    have := RowV.new ((w.alloc (.cells #[.slice P N.places.length pc, .slice R N.roads.length rc] 25)).alloc (.cells #[.int .i64 f, .int .i64 t, .int .i64 a] 63)) [.int .i64 0, .int .i64 0] 35
    simpa using this)
  go_enter Try.func48, Try.ntmps48
  go_upto_region 1 with fail
  generalize hwb : ((w.alloc _).alloc _).alloc _ = wb at *
  have HW : Hid (Below w.heap.size w wb) := by rw [← hwb]; exact Lib.hid ((((Below.refl _ _).alloc (Nat.le_refl _) _).alloc (by simp) _).alloc (by simp; omega) _)
  clear hwb
  obtain ⟨n0, n1⟩ := BN.out
  obtain ⟨c0, c1, c2⟩ := BT.out
  go_cut [8] from 11 to 21 (fun s wx => s = .int .i64 (dtErr N f t a l) ∧ Hid (Below wb.heap.size wb wx))
  case first =>
    have HBd : Hid (Below wb.heap.size wb wb.drew) := Lib.hid (Below.refl _ _).drew
    have MK : Hid (∀ w', Below wb.heap.size wb w' → w'.cell? ⟨w.heap.size, 0, none⟩ = some (.slice P N.places.length pc) ∧ w'.cell? ⟨w.heap.size, 1, none⟩ = some (.slice R N.roads.length rc) ∧ w'.cell? ⟨w.heap.size + 1, 0, none⟩ = some (.int .i64 f) ∧ w'.cell? ⟨w.heap.size + 1, 1, none⟩ = some (.int .i64 t) ∧ w'.cell? ⟨w.heap.size + 1, 2, none⟩ = some (.int .i64 a) ∧ Hid (Below wb.heap.size wb w')) :=
      Lib.hid fun w' hw => ⟨Keep.below hw _ _ n0, Keep.below hw _ _ n1, Keep.below hw _ _ c0, Keep.below hw _ _ c1, Keep.below hw _ _ c2, Lib.hid hw⟩
    have KN : Hid (∀ w', Below wb.heap.size wb w' → RdNet w' (netV N P R pc rc) N) := Lib.hid fun w' hw => (hN0.out.keep (Keep.below (HW.out.trans (hw.mono HW.out.size))))
    have KA : Hid (∀ w', Below wb.heap.size wb w' → ArrI w' A l c) := Lib.hid fun w' hw => (HA.out.keep (Keep.below (HW.out.trans (hw.mono HW.out.size))))
    go_region_held3 (fun w' => w'.cell? ⟨w.heap.size, 0, none⟩ = some (.slice P N.places.length pc) ∧ w'.cell? ⟨w.heap.size, 1, none⟩ = some (.slice R N.roads.length rc) ∧ w'.cell? ⟨w.heap.size + 1, 0, none⟩ = some (.int .i64 f) ∧ w'.cell? ⟨w.heap.size + 1, 1, none⟩ = some (.int .i64 t) ∧ w'.cell? ⟨w.heap.size + 1, 2, none⟩ = some (.int .i64 a) ∧ Hid (Below wb.heap.size wb w'))
      (first
        | exact MK.out _ HBd.out
        | (go_split_ands; exact ⟨by assumption, by assumption, by assumption, by assumption, by assumption, by assumption⟩)
        | (go_split_ands; exact MK.out _ (Below.trans (Hid.out (by assumption)) (hb1.mono (Hid.out (by assumption) : Below wb.heap.size wb _).size)))
        | (go_split_ands; exact MK.out _ (Below.alloc (Hid.out (by assumption)) (Hid.out (by assumption) : Below wb.heap.size wb _).size _)))
      ((first
        | (go_at_call 80
           go_split_ands
           refine (errNet_any N _ _ (KN.out _ (Hid.out (by assumption)))).mono ?_
           rintro e' w1 ⟨rfl, hb1⟩)
        | (go_at_call 98
           go_split_ands
           refine (tripErr_any N _ f t a _ (KN.out _ (Hid.out (by assumption)))).mono ?_
           rintro e' w1 ⟨rfl, hb1⟩)
        | (go_at_call 90
           go_split_ands
           refine (errWay_any N _ l A c _ (KN.out _ (Hid.out (by assumption))) (KA.out _ (Hid.out (by assumption)))).mono ?_
           rintro e' w1 ⟨rfl, hb1⟩)
        | (go_at_call 79
           go_split_ands
           refine (firstError_any [netErr N, tripErr N f t a, cwErr N l] _ _ _ (by first | exact arr3New _ _ _ _ _ | exact ArrI.keep (Keep.drew _) (arr3New _ _ _ _ _))).mono ?_
           rintro e' w1 ⟨rfl, rfl⟩)))
    all_goals
      rename_i hS
      obtain ⟨-, -, -, -, -, hbb⟩ := hS
      go_wp2_with fail
      go_meet
      first
        | exact ⟨rfl, hbb⟩
  case rest =>
    obtain ⟨rfl, HB⟩ := hcut
    obtain ⟨wp, hwp⟩ : ∃ wp, wp = wc := ⟨_, rfl⟩
    subst hwp
    replace HW := Lib.hid (HW.out.trans (HB.out.mono HW.out.size))
    replace BN := Lib.hid (BN.out.keep (Keep.below HB.out))
    replace BT := Lib.hid (BT.out.keep (Keep.below HB.out))
    replace BR := Lib.hid (BR.out.keep HB.out)
    replace BV := Lib.hid (BV.out.keep HB.out)
    clear HB n0 n1 c0 c1 c2
    by_cases he : dtErr N f t a l = 0
    · obtain ⟨hE, hT, hQ⟩ := dtErr_ok he
      have HE := Lib.hid hE
      have HQ := Lib.hid hQ
      obtain ⟨hpf, hpt, hta⟩ := tripErr_ok hT
      have hta := timeErr_ok hta
      obtain ⟨f0, f1⟩ := isPlace_in hpf
      obtain ⟨t0, t1⟩ := isPlace_in hpt
      have HF0 := Lib.hid (show detour N f t a l = dtRes N f.toNat t.toNat a l from if_pos he)
      rw [he]
      clear he hE hT hpf hpt hQ
      obtain ⟨X, hX⟩ : ∃ X : Nat, f = X := ⟨_, (Int.toNat_of_nonneg f0).symm⟩
      obtain ⟨Y, hY⟩ : ∃ Y : Nat, t = Y := ⟨_, (Int.toNat_of_nonneg t0).symm⟩
      subst hX; subst hY
      have hXl : X < N.places.length := by omega
      have hYl : Y < N.places.length := by omega
      clear f0 f1 t0 t1
      rw [Int.toNat_natCast, Int.toNat_natCast] at HF0
      obtain ⟨n0, n1⟩ := BN.out
      obtain ⟨c0, c1, c2⟩ := BT.out
      go_wp2_with fail
      refine (joins_any N _ l A c X Y _ (hN0.out.keep (Keep.below HW.out)) (HA.out.keep (Keep.below HW.out)) (fun j hj => ((way_ok HQ.out).2 j hj).1)).mono ?_
      rintro e' w2 ⟨rfl, hb1⟩
      replace HW := Lib.hid (HW.out.trans (hb1.mono HW.out.size))
      replace BN := Lib.hid (BN.out.keep (Keep.below hb1))
      replace BT := Lib.hid (BT.out.keep (Keep.below hb1))
      replace BR := Lib.hid (BR.out.keep hb1)
      replace BV := Lib.hid (BV.out.keep hb1)
      clear n0 n1 c0 c1 c2
      clear hb1
      by_cases hj : JoinsIs N l X Y
      · have HF := Lib.hid (HF0.out.trans (if_pos hj))
        rw [show decide (JoinsIs N l X Y) = true from decide_eq_true hj]
        have HJ := Lib.hid hj
        clear hj
        obtain ⟨n0, n1⟩ := BN.out
        obtain ⟨c0, c1, c2⟩ := BT.out
        obtain ⟨wq, hwq⟩ : ∃ wq, wq = w2 := ⟨_, rfl⟩
        subst hwq
        have HIN := Lib.hid (fun j hj => ((way_ok HQ.out).2 j hj).1)
        have hll := (way_ok HQ.out).1
        go_wp2_with fail
        go_cut [9, 10] from 34 to 45 (fun s9 s10 wx => ∃ p9 p10 g1 g2 : Nat, s9 = .pointer (some ⟨p9, 0, none⟩) ∧ s10 = .pointer (some ⟨p10, 0, none⟩) ∧ wq.heap.size ≤ p10 ∧ Hid (RowV wx p9 65 [(.slice (some ⟨g1, 0, none⟩) N.places.length N.places.length), (.slice (some ⟨g2, 0, none⟩) N.places.length N.places.length)]) ∧ Hid (RowV wx p10 35 [.int .i64 (arrivals N l a).1, .int .i64 (arrivals N l a).2]) ∧ Hid (RowV wx g1 3 ((search N X a (soonest N)).labels.map (Value.int .i64))) ∧ Hid (RowV wx g2 3 ((search N X a (latest N)).labels.map (Value.int .i64))) ∧ Hid (Below wq.heap.size wq wx))
        case first =>
          have HBd : Hid (Below wq.heap.size wq wq.drew) := Lib.hid (Below.refl _ _).drew
          have MK : Hid (∀ w', Below wq.heap.size wq w' → w'.cell? ⟨w.heap.size, 0, none⟩ = some (.slice P N.places.length pc) ∧ w'.cell? ⟨w.heap.size, 1, none⟩ = some (.slice R N.roads.length rc) ∧ w'.cell? ⟨w.heap.size + 1, 0, none⟩ = some (.int .i64 X) ∧ w'.cell? ⟨w.heap.size + 1, 1, none⟩ = some (.int .i64 Y) ∧ w'.cell? ⟨w.heap.size + 1, 2, none⟩ = some (.int .i64 a) ∧ Hid (Below wq.heap.size wq w')) :=
            Lib.hid fun w' hw => ⟨Keep.below hw _ _ n0, Keep.below hw _ _ n1, Keep.below hw _ _ c0, Keep.below hw _ _ c1, Keep.below hw _ _ c2, Lib.hid hw⟩
          have KN : Hid (∀ w', Below wq.heap.size wq w' → RdNet w' (netV N P R pc rc) N) := Lib.hid fun w' hw => (hN0.out.keep (Keep.below (HW.out.trans (hw.mono HW.out.size))))
          have KA : Hid (∀ w', Below wq.heap.size wq w' → ArrI w' A l c) := Lib.hid fun w' hw => (HA.out.keep (Keep.below (HW.out.trans (hw.mono HW.out.size))))
          refine wp_region_held_drew (S := fun w' => w'.cell? ⟨w.heap.size, 0, none⟩ = some (.slice P N.places.length pc) ∧ w'.cell? ⟨w.heap.size, 1, none⟩ = some (.slice R N.roads.length rc) ∧ w'.cell? ⟨w.heap.size + 1, 0, none⟩ = some (.int .i64 X) ∧ w'.cell? ⟨w.heap.size + 1, 1, none⟩ = some (.int .i64 Y) ∧ w'.cell? ⟨w.heap.size + 1, 2, none⟩ = some (.int .i64 a) ∧ Hid (Below wq.heap.size wq w')) (by kernel_rfl) (MK.out _ HBd.out) (fun hHeld => ?_)
          refine wpAnyH_take (i := 0) (v := ?val0x1) rfl (by kernel_rfl) (by kernel_rfl) (by kernel_rfl) (fun _ _ _ h => h) (Or.inl ⟨by rfl, fun w9 hS9 => ?yields0x1⟩) (by assumption) ?later0x1
          case yields0x1 =>
            dsimp only at hS9
            go_simp
            try with_reducible rfl
          try simp only [Act.put, List.getElem_toArray, List.getElem_cons_succ, List.getElem_cons_zero, List.setIfInBounds_toArray, List.set_cons_zero, List.set_cons_succ]
          refine wpAnyH_take (i := 1) (v := ?val1x2) rfl (by kernel_rfl) (by kernel_rfl) (by kernel_rfl) (fun _ _ _ h => h) (Or.inl ⟨by rfl, fun w9 hS9 => ?yields1x2⟩) (by assumption) ?later1x2
          case yields1x2 =>
            dsimp only at hS9
            go_simp
            try with_reducible rfl
          try simp only [Act.put, List.getElem_toArray, List.getElem_cons_succ, List.getElem_cons_zero, List.setIfInBounds_toArray, List.set_cons_zero, List.set_cons_succ]
          refine wpAnyH_take (i := 2) (v := ?val2x3) rfl (by kernel_rfl) (by kernel_rfl) (by kernel_rfl) (fun _ _ _ h => h) (Or.inl ⟨by rfl, fun w9 hS9 => ?yields2x3⟩) (by assumption) ?later2x3
          case yields2x3 =>
            dsimp only at hS9
            go_simp
            try with_reducible rfl
          try simp only [Act.put, List.getElem_toArray, List.getElem_cons_succ, List.getElem_cons_zero, List.setIfInBounds_toArray, List.set_cons_zero, List.set_cons_succ]
          refine wpAnyH_take (i := 3) (v := ?val3x4) rfl (by kernel_rfl) (by kernel_rfl) (by kernel_rfl) (fun _ _ _ h => h) (Or.inl ⟨by rfl, fun w9 hS9 => ?yields3x4⟩) (by assumption) ?later3x4
          case yields3x4 =>
            dsimp only at hS9
            go_simp
            try with_reducible rfl
          try simp only [Act.put, List.getElem_toArray, List.getElem_cons_succ, List.getElem_cons_zero, List.setIfInBounds_toArray, List.set_cons_zero, List.set_cons_succ]
          refine wpAnyH_take (i := 4) (v := ?val4x5) rfl (by kernel_rfl) (by kernel_rfl) (by kernel_rfl) (fun _ _ _ h => h) (Or.inl ⟨by rfl, fun w9 hS9 => ?yields4x5⟩) (by assumption) ?later4x5
          case yields4x5 =>
            dsimp only at hS9
            go_simp
            try with_reducible rfl
          try simp only [Act.put, List.getElem_toArray, List.getElem_cons_succ, List.getElem_cons_zero, List.setIfInBounds_toArray, List.set_cons_zero, List.set_cons_succ]
          refine wpAnyH_take (i := 6) (v := ?val6x6) rfl (by kernel_rfl) (by kernel_rfl) (by kernel_rfl) (fun _ _ _ h => h) (Or.inl ⟨by rfl, fun w9 hS9 => ?yields6x6⟩) (by assumption) ?later6x6
          case yields6x6 =>
            dsimp only at hS9
            go_simp
            try with_reducible rfl
          try simp only [Act.put, List.getElem_toArray, List.getElem_cons_succ, List.getElem_cons_zero, List.setIfInBounds_toArray, List.set_cons_zero, List.set_cons_succ]
          refine wpAnyH_take (i := 7) (v := ?val7x7) rfl (by kernel_rfl) (by kernel_rfl) (by kernel_rfl) (fun _ _ _ h => h) (Or.inl ⟨by rfl, fun w9 hS9 => ?yields7x7⟩) (by assumption) ?later7x7
          case yields7x7 =>
            dsimp only at hS9
            go_simp
            try with_reducible rfl
          try simp only [Act.put, List.getElem_toArray, List.getElem_cons_succ, List.getElem_cons_zero, List.setIfInBounds_toArray, List.set_cons_zero, List.set_cons_succ]
          refine wpAnyH_take (i := 8) (v := ?val8x8) rfl (by kernel_rfl) (by kernel_rfl) (by kernel_rfl) (fun _ _ _ h => h) (Or.inl ⟨by rfl, fun w9 hS9 => ?yields8x8⟩) (by assumption) ?later8x8
          case yields8x8 =>
            dsimp only at hS9
            go_simp
            try with_reducible rfl
          try simp only [Act.put, List.getElem_toArray, List.getElem_cons_succ, List.getElem_cons_zero, List.setIfInBounds_toArray, List.set_cons_zero, List.set_cons_succ]
          refine wpAnyH_take (i := 9) (v := ?val9x9) rfl (by kernel_rfl) (by kernel_rfl) (by kernel_rfl) (fun _ _ _ h => h) (Or.inl ⟨by rfl, fun w9 hS9 => ?yields9x9⟩) (by assumption) ?later9x9
          case yields9x9 =>
            dsimp only at hS9
            go_simp
            try with_reducible rfl
          try simp only [Act.put, List.getElem_toArray, List.getElem_cons_succ, List.getElem_cons_zero, List.setIfInBounds_toArray, List.set_cons_zero, List.set_cons_succ]
          generalize hyy : World.drew wq = y0 at *
          clear hyy
          refine wpAnyH_ready (rs := [5, 11, 12]) (by kernel_rfl) (by simp) ?_
          refine AllReadyH.cons rfl (fun K hK => ?_) (AllReadyH.cons rfl (fun K hK => ?_) (AllReadyH.cons rfl (fun K hK => ?_) (AllReadyH.nil)))
          · go_simp
            obtain ⟨-, -, -, -, -, HBX⟩ := hHeld
            go_at_call 95
            refine (earliest_any N _ X a _ (KN.out _ HBX.out) HE.out hXl hta.1 (by omega)).mono ?_
            rintro e' y1 ⟨g1, g2, rfl, h1, h2, hb1⟩
            have RS := Lib.hid h1
            have RL := Lib.hid h2
            go_wp2_with fail
            refine hK.out _ _ (MK.out _ (HBX.out.trans (hb1.mono HBX.out.size))) (fun hHeld => ?_)
            try simp only [Act.put, List.getElem_toArray, List.getElem_cons_succ, List.getElem_cons_zero, List.setIfInBounds_toArray, List.set_cons_zero, List.set_cons_succ]
            clear h1 h2 hb1 HBX hK K
            refine wpAnyH_ready (rs := [10, 11, 12]) (by kernel_rfl) (by simp) ?_
            refine AllReadyH.cons rfl (fun K hK => ?_) (AllReadyH.cons rfl (fun K hK => ?_) (AllReadyH.cons rfl (fun K hK => ?_) (AllReadyH.nil)))
            · go_simp
              obtain ⟨-, -, -, -, -, HBX⟩ := hHeld
              go_at_call 91
              refine (arrivalOf_any N _ l A c a _ (KN.out _ HBX.out) (KA.out _ HBX.out) HE.out HIN.out (by omega) hta.1 (by omega)).mono ?_
              rintro e' y2 ⟨rfl, hb1⟩
              have RS := Lib.hid (RS.out.keep hb1)
              have RL := Lib.hid (RL.out.keep hb1)
              go_wp2_with fail
              refine hK.out _ _ (MK.out _ (HBX.out.trans (hb1.mono HBX.out.size))) (fun hHeld => ?_)
              try simp only [Act.put, List.getElem_toArray, List.getElem_cons_succ, List.getElem_cons_zero, List.setIfInBounds_toArray, List.set_cons_zero, List.set_cons_succ]
              clear hb1 HBX hK K
              refine wpAnyH_ready (rs := [11, 12]) (by kernel_rfl) (by simp) ?_
              refine AllReadyH.cons rfl (fun K hK => ?_) (AllReadyH.cons rfl (fun K hK => ?_) (AllReadyH.nil))
              · go_simp
                obtain ⟨-, -, -, -, -, HBX⟩ := hHeld
                have RS := Lib.hid (RS.out.alloc (.cells #[.slice none 0 0, .slice none 0 0] 65))
                have RL := Lib.hid (RL.out.alloc (.cells #[.slice none 0 0, .slice none 0 0] 65))
                have HP11 := HBX.out.size
                have T9 := Lib.hid (RowV.new y2 [.slice none 0 0, .slice none 0 0] 65)
                refine hK.out _ _ (MK.out _ (HBX.out.alloc HBX.out.size _)) (fun hHeld => ?_)
                try simp only [Act.put, List.getElem_toArray, List.getElem_cons_succ, List.getElem_cons_zero, List.setIfInBounds_toArray, List.set_cons_zero, List.set_cons_succ]
                clear HBX hK K
                generalize hyy : World.alloc y2 _ = y3 at *
                clear hyy
                refine wpAnyH_ready (rs := [12]) (by kernel_rfl) (by simp) ?_
                refine AllReadyH.cons rfl (fun K hK => ?_) (AllReadyH.nil)
                · go_simp
                  obtain ⟨-, -, -, -, -, HBX⟩ := hHeld
                  have RS := Lib.hid (RS.out.alloc (.cells #[.int .i64 0, .int .i64 0] 35))
                  have RL := Lib.hid (RL.out.alloc (.cells #[.int .i64 0, .int .i64 0] 35))
                  have T9 := Lib.hid (T9.out.alloc (.cells #[.int .i64 0, .int .i64 0] 35))
                  have HP12 := HBX.out.size
                  have T10 := Lib.hid (RowV.new y3 [.int .i64 0, .int .i64 0] 35)
                  refine hK.out _ _ (MK.out _ (HBX.out.alloc HBX.out.size _)) (fun hHeld => ?_)
                  try simp only [Act.put, List.getElem_toArray, List.getElem_cons_succ, List.getElem_cons_zero, List.setIfInBounds_toArray, List.set_cons_zero, List.set_cons_succ]
                  clear HBX hK K
                  generalize hyy : World.alloc y3 _ = y4 at *
                  clear hyy
                  have ne1 := RowV.ne T9.out T10.out (by decide)
                  have ne2 := RowV.ne T9.out RS.out (by decide)
                  have ne3 := RowV.ne T9.out RL.out (by decide)
                  have ne4 := RowV.ne T10.out RS.out (by decide)
                  have ne5 := RowV.ne T10.out RL.out (by decide)
                  have NE := Lib.hid (And.intro ne1 (And.intro ne2 (And.intro ne3 (And.intro ne4 ne5))))
                  clear ne1 ne2 ne3 ne4 ne5
                  have q0 := T9.out.cell 0
                  have q1 := T9.out.cell 1
                  have qf0 := T9.out.frozen 0
                  have qf1 := T9.out.frozen 1
                  refine wpAnyH_ready (rs := [13]) (by kernel_rfl) (by simp) ?_
                  refine AllReadyH.cons rfl (fun K hK => ?_) AllReadyH.nil
                  go_simp
                  obtain ⟨-, -, -, -, -, HBX⟩ := hHeld
                  have T92 := Lib.hid ((T9.out.set 0 (.slice (some ⟨g1, 0, none⟩) N.places.length N.places.length)).set 1 (.slice (some ⟨g2, 0, none⟩) N.places.length N.places.length))
                  have T10 := Lib.hid ((T10.out.far (p := ⟨_, 0, none⟩) (by exact NE.out.1) (.slice (some ⟨g1, 0, none⟩) N.places.length N.places.length)).far (p := ⟨_, 1, none⟩) (by exact NE.out.1) (.slice (some ⟨g2, 0, none⟩) N.places.length N.places.length))
                  have RS := Lib.hid ((RS.out.far (p := ⟨_, 0, none⟩) (by exact NE.out.2.1) (.slice (some ⟨g1, 0, none⟩) N.places.length N.places.length)).far (p := ⟨_, 1, none⟩) (by exact NE.out.2.1) (.slice (some ⟨g2, 0, none⟩) N.places.length N.places.length))
                  have RL := Lib.hid ((RL.out.far (p := ⟨_, 0, none⟩) (by exact NE.out.2.2.1) (.slice (some ⟨g1, 0, none⟩) N.places.length N.places.length)).far (p := ⟨_, 1, none⟩) (by exact NE.out.2.2.1) (.slice (some ⟨g2, 0, none⟩) N.places.length N.places.length))
                  have T9 := T92
                  refine hK.out _ _ (MK.out _ ((HBX.out.setCell (p := ⟨_, 0, none⟩) (by first | exact Nat.le_refl _ | exact HP11) _).setCell (p := ⟨_, 1, none⟩) (by first | exact Nat.le_refl _ | exact HP11) _)) (fun hHeld => ?_)
                  try simp only [Act.put, List.getElem_toArray, List.getElem_cons_succ, List.getElem_cons_zero, List.setIfInBounds_toArray, List.set_cons_zero, List.set_cons_succ]
                  clear q0 q1 qf0 qf1 HBX hK K
                  generalize hyy : World.setCell _ _ _ = y5 at *
                  clear hyy
                  have q0 := T10.out.cell 0
                  have q1 := T10.out.cell 1
                  have qf0 := T10.out.frozen 0
                  have qf1 := T10.out.frozen 1
                  refine wpAnyH_ready (rs := [14]) (by kernel_rfl) (by simp) ?_
                  refine AllReadyH.cons rfl (fun K hK => ?_) AllReadyH.nil
                  go_simp
                  obtain ⟨-, -, -, -, -, HBX⟩ := hHeld
                  have T102 := Lib.hid ((T10.out.set 0 (.int .i64 (arrivals N l a).1)).set 1 (.int .i64 (arrivals N l a).2))
                  have T9 := Lib.hid ((T9.out.far (p := ⟨_, 0, none⟩) (by exact (Ne.symm NE.out.1)) (.int .i64 (arrivals N l a).1)).far (p := ⟨_, 1, none⟩) (by exact (Ne.symm NE.out.1)) (.int .i64 (arrivals N l a).2))
                  have RS := Lib.hid ((RS.out.far (p := ⟨_, 0, none⟩) (by exact NE.out.2.2.2.1) (.int .i64 (arrivals N l a).1)).far (p := ⟨_, 1, none⟩) (by exact NE.out.2.2.2.1) (.int .i64 (arrivals N l a).2))
                  have RL := Lib.hid ((RL.out.far (p := ⟨_, 0, none⟩) (by exact NE.out.2.2.2.2) (.int .i64 (arrivals N l a).1)).far (p := ⟨_, 1, none⟩) (by exact NE.out.2.2.2.2) (.int .i64 (arrivals N l a).2))
                  have T10 := T102
                  refine hK.out _ _ (MK.out _ ((HBX.out.setCell (p := ⟨_, 0, none⟩) (by first | exact Nat.le_refl _ | exact HP12) _).setCell (p := ⟨_, 1, none⟩) (by first | exact Nat.le_refl _ | exact HP12) _)) (fun hHeld => ?_)
                  try simp only [Act.put, List.getElem_toArray, List.getElem_cons_succ, List.getElem_cons_zero, List.setIfInBounds_toArray, List.set_cons_zero, List.set_cons_succ]
                  clear q0 q1 qf0 qf1 HBX hK K
                  generalize hyy : World.setCell _ _ _ = y6 at *
                  clear hyy
                  refine wpAnyH_done (by kernel_rfl) ?_ _
                  obtain ⟨-, -, -, -, -, hbb⟩ := hHeld
                  go_wp2_with fail
                  go_meet
                  exact ⟨_, _, g1, g2, rfl, rfl, HP12, T9, T10, RS, RL, hbb⟩
              · go_simp
                obtain ⟨-, -, -, -, -, HBX⟩ := hHeld
                have RS := Lib.hid (RS.out.alloc (.cells #[.int .i64 0, .int .i64 0] 35))
                have RL := Lib.hid (RL.out.alloc (.cells #[.int .i64 0, .int .i64 0] 35))
                have HP12 := HBX.out.size
                have T10 := Lib.hid (RowV.new y2 [.int .i64 0, .int .i64 0] 35)
                refine hK.out _ _ (MK.out _ (HBX.out.alloc HBX.out.size _)) (fun hHeld => ?_)
                try simp only [Act.put, List.getElem_toArray, List.getElem_cons_succ, List.getElem_cons_zero, List.setIfInBounds_toArray, List.set_cons_zero, List.set_cons_succ]
                clear HBX hK K
                generalize hyy : World.alloc y2 _ = y7 at *
                clear hyy
                refine wpAnyH_ready (rs := [11]) (by kernel_rfl) (by simp) ?_
                refine AllReadyH.cons rfl (fun K hK => ?_) (AllReadyH.nil)
                · go_simp
                  obtain ⟨-, -, -, -, -, HBX⟩ := hHeld
                  have RS := Lib.hid (RS.out.alloc (.cells #[.slice none 0 0, .slice none 0 0] 65))
                  have RL := Lib.hid (RL.out.alloc (.cells #[.slice none 0 0, .slice none 0 0] 65))
                  have T10 := Lib.hid (T10.out.alloc (.cells #[.slice none 0 0, .slice none 0 0] 65))
                  have HP11 := HBX.out.size
                  have T9 := Lib.hid (RowV.new y7 [.slice none 0 0, .slice none 0 0] 65)
                  refine hK.out _ _ (MK.out _ (HBX.out.alloc HBX.out.size _)) (fun hHeld => ?_)
                  try simp only [Act.put, List.getElem_toArray, List.getElem_cons_succ, List.getElem_cons_zero, List.setIfInBounds_toArray, List.set_cons_zero, List.set_cons_succ]
                  clear HBX hK K
                  generalize hyy : World.alloc y7 _ = y8 at *
                  clear hyy
                  have ne1 := RowV.ne T9.out T10.out (by decide)
                  have ne2 := RowV.ne T9.out RS.out (by decide)
                  have ne3 := RowV.ne T9.out RL.out (by decide)
                  have ne4 := RowV.ne T10.out RS.out (by decide)
                  have ne5 := RowV.ne T10.out RL.out (by decide)
                  have NE := Lib.hid (And.intro ne1 (And.intro ne2 (And.intro ne3 (And.intro ne4 ne5))))
                  clear ne1 ne2 ne3 ne4 ne5
                  have q0 := T9.out.cell 0
                  have q1 := T9.out.cell 1
                  have qf0 := T9.out.frozen 0
                  have qf1 := T9.out.frozen 1
                  refine wpAnyH_ready (rs := [13]) (by kernel_rfl) (by simp) ?_
                  refine AllReadyH.cons rfl (fun K hK => ?_) AllReadyH.nil
                  go_simp
                  obtain ⟨-, -, -, -, -, HBX⟩ := hHeld
                  have T92 := Lib.hid ((T9.out.set 0 (.slice (some ⟨g1, 0, none⟩) N.places.length N.places.length)).set 1 (.slice (some ⟨g2, 0, none⟩) N.places.length N.places.length))
                  have T10 := Lib.hid ((T10.out.far (p := ⟨_, 0, none⟩) (by exact NE.out.1) (.slice (some ⟨g1, 0, none⟩) N.places.length N.places.length)).far (p := ⟨_, 1, none⟩) (by exact NE.out.1) (.slice (some ⟨g2, 0, none⟩) N.places.length N.places.length))
                  have RS := Lib.hid ((RS.out.far (p := ⟨_, 0, none⟩) (by exact NE.out.2.1) (.slice (some ⟨g1, 0, none⟩) N.places.length N.places.length)).far (p := ⟨_, 1, none⟩) (by exact NE.out.2.1) (.slice (some ⟨g2, 0, none⟩) N.places.length N.places.length))
                  have RL := Lib.hid ((RL.out.far (p := ⟨_, 0, none⟩) (by exact NE.out.2.2.1) (.slice (some ⟨g1, 0, none⟩) N.places.length N.places.length)).far (p := ⟨_, 1, none⟩) (by exact NE.out.2.2.1) (.slice (some ⟨g2, 0, none⟩) N.places.length N.places.length))
                  have T9 := T92
                  refine hK.out _ _ (MK.out _ ((HBX.out.setCell (p := ⟨_, 0, none⟩) (by first | exact Nat.le_refl _ | exact HP11) _).setCell (p := ⟨_, 1, none⟩) (by first | exact Nat.le_refl _ | exact HP11) _)) (fun hHeld => ?_)
                  try simp only [Act.put, List.getElem_toArray, List.getElem_cons_succ, List.getElem_cons_zero, List.setIfInBounds_toArray, List.set_cons_zero, List.set_cons_succ]
                  clear q0 q1 qf0 qf1 HBX hK K
                  generalize hyy : World.setCell _ _ _ = y9 at *
                  clear hyy
                  have q0 := T10.out.cell 0
                  have q1 := T10.out.cell 1
                  have qf0 := T10.out.frozen 0
                  have qf1 := T10.out.frozen 1
                  refine wpAnyH_ready (rs := [14]) (by kernel_rfl) (by simp) ?_
                  refine AllReadyH.cons rfl (fun K hK => ?_) AllReadyH.nil
                  go_simp
                  obtain ⟨-, -, -, -, -, HBX⟩ := hHeld
                  have T102 := Lib.hid ((T10.out.set 0 (.int .i64 (arrivals N l a).1)).set 1 (.int .i64 (arrivals N l a).2))
                  have T9 := Lib.hid ((T9.out.far (p := ⟨_, 0, none⟩) (by exact (Ne.symm NE.out.1)) (.int .i64 (arrivals N l a).1)).far (p := ⟨_, 1, none⟩) (by exact (Ne.symm NE.out.1)) (.int .i64 (arrivals N l a).2))
                  have RS := Lib.hid ((RS.out.far (p := ⟨_, 0, none⟩) (by exact NE.out.2.2.2.1) (.int .i64 (arrivals N l a).1)).far (p := ⟨_, 1, none⟩) (by exact NE.out.2.2.2.1) (.int .i64 (arrivals N l a).2))
                  have RL := Lib.hid ((RL.out.far (p := ⟨_, 0, none⟩) (by exact NE.out.2.2.2.2) (.int .i64 (arrivals N l a).1)).far (p := ⟨_, 1, none⟩) (by exact NE.out.2.2.2.2) (.int .i64 (arrivals N l a).2))
                  have T10 := T102
                  refine hK.out _ _ (MK.out _ ((HBX.out.setCell (p := ⟨_, 0, none⟩) (by first | exact Nat.le_refl _ | exact HP12) _).setCell (p := ⟨_, 1, none⟩) (by first | exact Nat.le_refl _ | exact HP12) _)) (fun hHeld => ?_)
                  try simp only [Act.put, List.getElem_toArray, List.getElem_cons_succ, List.getElem_cons_zero, List.setIfInBounds_toArray, List.set_cons_zero, List.set_cons_succ]
                  clear q0 q1 qf0 qf1 HBX hK K
                  generalize hyy : World.setCell _ _ _ = y10 at *
                  clear hyy
                  refine wpAnyH_done (by kernel_rfl) ?_ _
                  obtain ⟨-, -, -, -, -, hbb⟩ := hHeld
                  go_wp2_with fail
                  go_meet
                  exact ⟨_, _, g1, g2, rfl, rfl, HP12, T9, T10, RS, RL, hbb⟩
            · go_simp
              obtain ⟨-, -, -, -, -, HBX⟩ := hHeld
              have RS := Lib.hid (RS.out.alloc (.cells #[.slice none 0 0, .slice none 0 0] 65))
              have RL := Lib.hid (RL.out.alloc (.cells #[.slice none 0 0, .slice none 0 0] 65))
              have HP11 := HBX.out.size
              have T9 := Lib.hid (RowV.new y1 [.slice none 0 0, .slice none 0 0] 65)
              refine hK.out _ _ (MK.out _ (HBX.out.alloc HBX.out.size _)) (fun hHeld => ?_)
              try simp only [Act.put, List.getElem_toArray, List.getElem_cons_succ, List.getElem_cons_zero, List.setIfInBounds_toArray, List.set_cons_zero, List.set_cons_succ]
              clear HBX hK K
              generalize hyy : World.alloc y1 _ = y11 at *
              clear hyy
              refine wpAnyH_ready (rs := [10, 12]) (by kernel_rfl) (by simp) ?_
              refine AllReadyH.cons rfl (fun K hK => ?_) (AllReadyH.cons rfl (fun K hK => ?_) (AllReadyH.nil))
              · go_simp
                obtain ⟨-, -, -, -, -, HBX⟩ := hHeld
                go_at_call 91
                refine (arrivalOf_any N _ l A c a _ (KN.out _ HBX.out) (KA.out _ HBX.out) HE.out HIN.out (by omega) hta.1 (by omega)).mono ?_
                rintro e' y12 ⟨rfl, hb1⟩
                have RS := Lib.hid (RS.out.keep hb1)
                have RL := Lib.hid (RL.out.keep hb1)
                have T9 := Lib.hid (T9.out.keep hb1)
                go_wp2_with fail
                refine hK.out _ _ (MK.out _ (HBX.out.trans (hb1.mono HBX.out.size))) (fun hHeld => ?_)
                try simp only [Act.put, List.getElem_toArray, List.getElem_cons_succ, List.getElem_cons_zero, List.setIfInBounds_toArray, List.set_cons_zero, List.set_cons_succ]
                clear hb1 HBX hK K
                refine wpAnyH_ready (rs := [12]) (by kernel_rfl) (by simp) ?_
                refine AllReadyH.cons rfl (fun K hK => ?_) (AllReadyH.nil)
                · go_simp
                  obtain ⟨-, -, -, -, -, HBX⟩ := hHeld
                  have RS := Lib.hid (RS.out.alloc (.cells #[.int .i64 0, .int .i64 0] 35))
                  have RL := Lib.hid (RL.out.alloc (.cells #[.int .i64 0, .int .i64 0] 35))
                  have T9 := Lib.hid (T9.out.alloc (.cells #[.int .i64 0, .int .i64 0] 35))
                  have HP12 := HBX.out.size
                  have T10 := Lib.hid (RowV.new y12 [.int .i64 0, .int .i64 0] 35)
                  refine hK.out _ _ (MK.out _ (HBX.out.alloc HBX.out.size _)) (fun hHeld => ?_)
                  try simp only [Act.put, List.getElem_toArray, List.getElem_cons_succ, List.getElem_cons_zero, List.setIfInBounds_toArray, List.set_cons_zero, List.set_cons_succ]
                  clear HBX hK K
                  generalize hyy : World.alloc y12 _ = y13 at *
                  clear hyy
                  have ne1 := RowV.ne T9.out T10.out (by decide)
                  have ne2 := RowV.ne T9.out RS.out (by decide)
                  have ne3 := RowV.ne T9.out RL.out (by decide)
                  have ne4 := RowV.ne T10.out RS.out (by decide)
                  have ne5 := RowV.ne T10.out RL.out (by decide)
                  have NE := Lib.hid (And.intro ne1 (And.intro ne2 (And.intro ne3 (And.intro ne4 ne5))))
                  clear ne1 ne2 ne3 ne4 ne5
                  have q0 := T9.out.cell 0
                  have q1 := T9.out.cell 1
                  have qf0 := T9.out.frozen 0
                  have qf1 := T9.out.frozen 1
                  refine wpAnyH_ready (rs := [13]) (by kernel_rfl) (by simp) ?_
                  refine AllReadyH.cons rfl (fun K hK => ?_) AllReadyH.nil
                  go_simp
                  obtain ⟨-, -, -, -, -, HBX⟩ := hHeld
                  have T92 := Lib.hid ((T9.out.set 0 (.slice (some ⟨g1, 0, none⟩) N.places.length N.places.length)).set 1 (.slice (some ⟨g2, 0, none⟩) N.places.length N.places.length))
                  have T10 := Lib.hid ((T10.out.far (p := ⟨_, 0, none⟩) (by exact NE.out.1) (.slice (some ⟨g1, 0, none⟩) N.places.length N.places.length)).far (p := ⟨_, 1, none⟩) (by exact NE.out.1) (.slice (some ⟨g2, 0, none⟩) N.places.length N.places.length))
                  have RS := Lib.hid ((RS.out.far (p := ⟨_, 0, none⟩) (by exact NE.out.2.1) (.slice (some ⟨g1, 0, none⟩) N.places.length N.places.length)).far (p := ⟨_, 1, none⟩) (by exact NE.out.2.1) (.slice (some ⟨g2, 0, none⟩) N.places.length N.places.length))
                  have RL := Lib.hid ((RL.out.far (p := ⟨_, 0, none⟩) (by exact NE.out.2.2.1) (.slice (some ⟨g1, 0, none⟩) N.places.length N.places.length)).far (p := ⟨_, 1, none⟩) (by exact NE.out.2.2.1) (.slice (some ⟨g2, 0, none⟩) N.places.length N.places.length))
                  have T9 := T92
                  refine hK.out _ _ (MK.out _ ((HBX.out.setCell (p := ⟨_, 0, none⟩) (by first | exact Nat.le_refl _ | exact HP11) _).setCell (p := ⟨_, 1, none⟩) (by first | exact Nat.le_refl _ | exact HP11) _)) (fun hHeld => ?_)
                  try simp only [Act.put, List.getElem_toArray, List.getElem_cons_succ, List.getElem_cons_zero, List.setIfInBounds_toArray, List.set_cons_zero, List.set_cons_succ]
                  clear q0 q1 qf0 qf1 HBX hK K
                  generalize hyy : World.setCell _ _ _ = y14 at *
                  clear hyy
                  have q0 := T10.out.cell 0
                  have q1 := T10.out.cell 1
                  have qf0 := T10.out.frozen 0
                  have qf1 := T10.out.frozen 1
                  refine wpAnyH_ready (rs := [14]) (by kernel_rfl) (by simp) ?_
                  refine AllReadyH.cons rfl (fun K hK => ?_) AllReadyH.nil
                  go_simp
                  obtain ⟨-, -, -, -, -, HBX⟩ := hHeld
                  have T102 := Lib.hid ((T10.out.set 0 (.int .i64 (arrivals N l a).1)).set 1 (.int .i64 (arrivals N l a).2))
                  have T9 := Lib.hid ((T9.out.far (p := ⟨_, 0, none⟩) (by exact (Ne.symm NE.out.1)) (.int .i64 (arrivals N l a).1)).far (p := ⟨_, 1, none⟩) (by exact (Ne.symm NE.out.1)) (.int .i64 (arrivals N l a).2))
                  have RS := Lib.hid ((RS.out.far (p := ⟨_, 0, none⟩) (by exact NE.out.2.2.2.1) (.int .i64 (arrivals N l a).1)).far (p := ⟨_, 1, none⟩) (by exact NE.out.2.2.2.1) (.int .i64 (arrivals N l a).2))
                  have RL := Lib.hid ((RL.out.far (p := ⟨_, 0, none⟩) (by exact NE.out.2.2.2.2) (.int .i64 (arrivals N l a).1)).far (p := ⟨_, 1, none⟩) (by exact NE.out.2.2.2.2) (.int .i64 (arrivals N l a).2))
                  have T10 := T102
                  refine hK.out _ _ (MK.out _ ((HBX.out.setCell (p := ⟨_, 0, none⟩) (by first | exact Nat.le_refl _ | exact HP12) _).setCell (p := ⟨_, 1, none⟩) (by first | exact Nat.le_refl _ | exact HP12) _)) (fun hHeld => ?_)
                  try simp only [Act.put, List.getElem_toArray, List.getElem_cons_succ, List.getElem_cons_zero, List.setIfInBounds_toArray, List.set_cons_zero, List.set_cons_succ]
                  clear q0 q1 qf0 qf1 HBX hK K
                  generalize hyy : World.setCell _ _ _ = y15 at *
                  clear hyy
                  refine wpAnyH_done (by kernel_rfl) ?_ _
                  obtain ⟨-, -, -, -, -, hbb⟩ := hHeld
                  go_wp2_with fail
                  go_meet
                  exact ⟨_, _, g1, g2, rfl, rfl, HP12, T9, T10, RS, RL, hbb⟩
              · go_simp
                obtain ⟨-, -, -, -, -, HBX⟩ := hHeld
                have RS := Lib.hid (RS.out.alloc (.cells #[.int .i64 0, .int .i64 0] 35))
                have RL := Lib.hid (RL.out.alloc (.cells #[.int .i64 0, .int .i64 0] 35))
                have T9 := Lib.hid (T9.out.alloc (.cells #[.int .i64 0, .int .i64 0] 35))
                have HP12 := HBX.out.size
                have T10 := Lib.hid (RowV.new y11 [.int .i64 0, .int .i64 0] 35)
                refine hK.out _ _ (MK.out _ (HBX.out.alloc HBX.out.size _)) (fun hHeld => ?_)
                try simp only [Act.put, List.getElem_toArray, List.getElem_cons_succ, List.getElem_cons_zero, List.setIfInBounds_toArray, List.set_cons_zero, List.set_cons_succ]
                clear HBX hK K
                generalize hyy : World.alloc y11 _ = y16 at *
                clear hyy
                refine wpAnyH_ready (rs := [10]) (by kernel_rfl) (by simp) ?_
                refine AllReadyH.cons rfl (fun K hK => ?_) (AllReadyH.nil)
                · go_simp
                  obtain ⟨-, -, -, -, -, HBX⟩ := hHeld
                  go_at_call 91
                  refine (arrivalOf_any N _ l A c a _ (KN.out _ HBX.out) (KA.out _ HBX.out) HE.out HIN.out (by omega) hta.1 (by omega)).mono ?_
                  rintro e' y17 ⟨rfl, hb1⟩
                  have RS := Lib.hid (RS.out.keep hb1)
                  have RL := Lib.hid (RL.out.keep hb1)
                  have T9 := Lib.hid (T9.out.keep hb1)
                  have T10 := Lib.hid (T10.out.keep hb1)
                  go_wp2_with fail
                  refine hK.out _ _ (MK.out _ (HBX.out.trans (hb1.mono HBX.out.size))) (fun hHeld => ?_)
                  try simp only [Act.put, List.getElem_toArray, List.getElem_cons_succ, List.getElem_cons_zero, List.setIfInBounds_toArray, List.set_cons_zero, List.set_cons_succ]
                  clear hb1 HBX hK K
                  have ne1 := RowV.ne T9.out T10.out (by decide)
                  have ne2 := RowV.ne T9.out RS.out (by decide)
                  have ne3 := RowV.ne T9.out RL.out (by decide)
                  have ne4 := RowV.ne T10.out RS.out (by decide)
                  have ne5 := RowV.ne T10.out RL.out (by decide)
                  have NE := Lib.hid (And.intro ne1 (And.intro ne2 (And.intro ne3 (And.intro ne4 ne5))))
                  clear ne1 ne2 ne3 ne4 ne5
                  have q0 := T9.out.cell 0
                  have q1 := T9.out.cell 1
                  have qf0 := T9.out.frozen 0
                  have qf1 := T9.out.frozen 1
                  refine wpAnyH_ready (rs := [13]) (by kernel_rfl) (by simp) ?_
                  refine AllReadyH.cons rfl (fun K hK => ?_) AllReadyH.nil
                  go_simp
                  obtain ⟨-, -, -, -, -, HBX⟩ := hHeld
                  have T92 := Lib.hid ((T9.out.set 0 (.slice (some ⟨g1, 0, none⟩) N.places.length N.places.length)).set 1 (.slice (some ⟨g2, 0, none⟩) N.places.length N.places.length))
                  have T10 := Lib.hid ((T10.out.far (p := ⟨_, 0, none⟩) (by exact NE.out.1) (.slice (some ⟨g1, 0, none⟩) N.places.length N.places.length)).far (p := ⟨_, 1, none⟩) (by exact NE.out.1) (.slice (some ⟨g2, 0, none⟩) N.places.length N.places.length))
                  have RS := Lib.hid ((RS.out.far (p := ⟨_, 0, none⟩) (by exact NE.out.2.1) (.slice (some ⟨g1, 0, none⟩) N.places.length N.places.length)).far (p := ⟨_, 1, none⟩) (by exact NE.out.2.1) (.slice (some ⟨g2, 0, none⟩) N.places.length N.places.length))
                  have RL := Lib.hid ((RL.out.far (p := ⟨_, 0, none⟩) (by exact NE.out.2.2.1) (.slice (some ⟨g1, 0, none⟩) N.places.length N.places.length)).far (p := ⟨_, 1, none⟩) (by exact NE.out.2.2.1) (.slice (some ⟨g2, 0, none⟩) N.places.length N.places.length))
                  have T9 := T92
                  refine hK.out _ _ (MK.out _ ((HBX.out.setCell (p := ⟨_, 0, none⟩) (by first | exact Nat.le_refl _ | exact HP11) _).setCell (p := ⟨_, 1, none⟩) (by first | exact Nat.le_refl _ | exact HP11) _)) (fun hHeld => ?_)
                  try simp only [Act.put, List.getElem_toArray, List.getElem_cons_succ, List.getElem_cons_zero, List.setIfInBounds_toArray, List.set_cons_zero, List.set_cons_succ]
                  clear q0 q1 qf0 qf1 HBX hK K
                  generalize hyy : World.setCell _ _ _ = y18 at *
                  clear hyy
                  have q0 := T10.out.cell 0
                  have q1 := T10.out.cell 1
                  have qf0 := T10.out.frozen 0
                  have qf1 := T10.out.frozen 1
                  refine wpAnyH_ready (rs := [14]) (by kernel_rfl) (by simp) ?_
                  refine AllReadyH.cons rfl (fun K hK => ?_) AllReadyH.nil
                  go_simp
                  obtain ⟨-, -, -, -, -, HBX⟩ := hHeld
                  have T102 := Lib.hid ((T10.out.set 0 (.int .i64 (arrivals N l a).1)).set 1 (.int .i64 (arrivals N l a).2))
                  have T9 := Lib.hid ((T9.out.far (p := ⟨_, 0, none⟩) (by exact (Ne.symm NE.out.1)) (.int .i64 (arrivals N l a).1)).far (p := ⟨_, 1, none⟩) (by exact (Ne.symm NE.out.1)) (.int .i64 (arrivals N l a).2))
                  have RS := Lib.hid ((RS.out.far (p := ⟨_, 0, none⟩) (by exact NE.out.2.2.2.1) (.int .i64 (arrivals N l a).1)).far (p := ⟨_, 1, none⟩) (by exact NE.out.2.2.2.1) (.int .i64 (arrivals N l a).2))
                  have RL := Lib.hid ((RL.out.far (p := ⟨_, 0, none⟩) (by exact NE.out.2.2.2.2) (.int .i64 (arrivals N l a).1)).far (p := ⟨_, 1, none⟩) (by exact NE.out.2.2.2.2) (.int .i64 (arrivals N l a).2))
                  have T10 := T102
                  refine hK.out _ _ (MK.out _ ((HBX.out.setCell (p := ⟨_, 0, none⟩) (by first | exact Nat.le_refl _ | exact HP12) _).setCell (p := ⟨_, 1, none⟩) (by first | exact Nat.le_refl _ | exact HP12) _)) (fun hHeld => ?_)
                  try simp only [Act.put, List.getElem_toArray, List.getElem_cons_succ, List.getElem_cons_zero, List.setIfInBounds_toArray, List.set_cons_zero, List.set_cons_succ]
                  clear q0 q1 qf0 qf1 HBX hK K
                  generalize hyy : World.setCell _ _ _ = y19 at *
                  clear hyy
                  refine wpAnyH_done (by kernel_rfl) ?_ _
                  obtain ⟨-, -, -, -, -, hbb⟩ := hHeld
                  go_wp2_with fail
                  go_meet
                  exact ⟨_, _, g1, g2, rfl, rfl, HP12, T9, T10, RS, RL, hbb⟩
            · go_simp
              obtain ⟨-, -, -, -, -, HBX⟩ := hHeld
              have RS := Lib.hid (RS.out.alloc (.cells #[.int .i64 0, .int .i64 0] 35))
              have RL := Lib.hid (RL.out.alloc (.cells #[.int .i64 0, .int .i64 0] 35))
              have HP12 := HBX.out.size
              have T10 := Lib.hid (RowV.new y1 [.int .i64 0, .int .i64 0] 35)
              refine hK.out _ _ (MK.out _ (HBX.out.alloc HBX.out.size _)) (fun hHeld => ?_)
              try simp only [Act.put, List.getElem_toArray, List.getElem_cons_succ, List.getElem_cons_zero, List.setIfInBounds_toArray, List.set_cons_zero, List.set_cons_succ]
              clear HBX hK K
              generalize hyy : World.alloc y1 _ = y20 at *
              clear hyy
              refine wpAnyH_ready (rs := [10, 11]) (by kernel_rfl) (by simp) ?_
              refine AllReadyH.cons rfl (fun K hK => ?_) (AllReadyH.cons rfl (fun K hK => ?_) (AllReadyH.nil))
              · go_simp
                obtain ⟨-, -, -, -, -, HBX⟩ := hHeld
                go_at_call 91
                refine (arrivalOf_any N _ l A c a _ (KN.out _ HBX.out) (KA.out _ HBX.out) HE.out HIN.out (by omega) hta.1 (by omega)).mono ?_
                rintro e' y21 ⟨rfl, hb1⟩
                have RS := Lib.hid (RS.out.keep hb1)
                have RL := Lib.hid (RL.out.keep hb1)
                have T10 := Lib.hid (T10.out.keep hb1)
                go_wp2_with fail
                refine hK.out _ _ (MK.out _ (HBX.out.trans (hb1.mono HBX.out.size))) (fun hHeld => ?_)
                try simp only [Act.put, List.getElem_toArray, List.getElem_cons_succ, List.getElem_cons_zero, List.setIfInBounds_toArray, List.set_cons_zero, List.set_cons_succ]
                clear hb1 HBX hK K
                refine wpAnyH_ready (rs := [11]) (by kernel_rfl) (by simp) ?_
                refine AllReadyH.cons rfl (fun K hK => ?_) (AllReadyH.nil)
                · go_simp
                  obtain ⟨-, -, -, -, -, HBX⟩ := hHeld
                  have RS := Lib.hid (RS.out.alloc (.cells #[.slice none 0 0, .slice none 0 0] 65))
                  have RL := Lib.hid (RL.out.alloc (.cells #[.slice none 0 0, .slice none 0 0] 65))
                  have T10 := Lib.hid (T10.out.alloc (.cells #[.slice none 0 0, .slice none 0 0] 65))
                  have HP11 := HBX.out.size
                  have T9 := Lib.hid (RowV.new y21 [.slice none 0 0, .slice none 0 0] 65)
                  refine hK.out _ _ (MK.out _ (HBX.out.alloc HBX.out.size _)) (fun hHeld => ?_)
                  try simp only [Act.put, List.getElem_toArray, List.getElem_cons_succ, List.getElem_cons_zero, List.setIfInBounds_toArray, List.set_cons_zero, List.set_cons_succ]
                  clear HBX hK K
                  generalize hyy : World.alloc y21 _ = y22 at *
                  clear hyy
                  have ne1 := RowV.ne T9.out T10.out (by decide)
                  have ne2 := RowV.ne T9.out RS.out (by decide)
                  have ne3 := RowV.ne T9.out RL.out (by decide)
                  have ne4 := RowV.ne T10.out RS.out (by decide)
                  have ne5 := RowV.ne T10.out RL.out (by decide)
                  have NE := Lib.hid (And.intro ne1 (And.intro ne2 (And.intro ne3 (And.intro ne4 ne5))))
                  clear ne1 ne2 ne3 ne4 ne5
                  have q0 := T9.out.cell 0
                  have q1 := T9.out.cell 1
                  have qf0 := T9.out.frozen 0
                  have qf1 := T9.out.frozen 1
                  refine wpAnyH_ready (rs := [13]) (by kernel_rfl) (by simp) ?_
                  refine AllReadyH.cons rfl (fun K hK => ?_) AllReadyH.nil
                  go_simp
                  obtain ⟨-, -, -, -, -, HBX⟩ := hHeld
                  have T92 := Lib.hid ((T9.out.set 0 (.slice (some ⟨g1, 0, none⟩) N.places.length N.places.length)).set 1 (.slice (some ⟨g2, 0, none⟩) N.places.length N.places.length))
                  have T10 := Lib.hid ((T10.out.far (p := ⟨_, 0, none⟩) (by exact NE.out.1) (.slice (some ⟨g1, 0, none⟩) N.places.length N.places.length)).far (p := ⟨_, 1, none⟩) (by exact NE.out.1) (.slice (some ⟨g2, 0, none⟩) N.places.length N.places.length))
                  have RS := Lib.hid ((RS.out.far (p := ⟨_, 0, none⟩) (by exact NE.out.2.1) (.slice (some ⟨g1, 0, none⟩) N.places.length N.places.length)).far (p := ⟨_, 1, none⟩) (by exact NE.out.2.1) (.slice (some ⟨g2, 0, none⟩) N.places.length N.places.length))
                  have RL := Lib.hid ((RL.out.far (p := ⟨_, 0, none⟩) (by exact NE.out.2.2.1) (.slice (some ⟨g1, 0, none⟩) N.places.length N.places.length)).far (p := ⟨_, 1, none⟩) (by exact NE.out.2.2.1) (.slice (some ⟨g2, 0, none⟩) N.places.length N.places.length))
                  have T9 := T92
                  refine hK.out _ _ (MK.out _ ((HBX.out.setCell (p := ⟨_, 0, none⟩) (by first | exact Nat.le_refl _ | exact HP11) _).setCell (p := ⟨_, 1, none⟩) (by first | exact Nat.le_refl _ | exact HP11) _)) (fun hHeld => ?_)
                  try simp only [Act.put, List.getElem_toArray, List.getElem_cons_succ, List.getElem_cons_zero, List.setIfInBounds_toArray, List.set_cons_zero, List.set_cons_succ]
                  clear q0 q1 qf0 qf1 HBX hK K
                  generalize hyy : World.setCell _ _ _ = y23 at *
                  clear hyy
                  have q0 := T10.out.cell 0
                  have q1 := T10.out.cell 1
                  have qf0 := T10.out.frozen 0
                  have qf1 := T10.out.frozen 1
                  refine wpAnyH_ready (rs := [14]) (by kernel_rfl) (by simp) ?_
                  refine AllReadyH.cons rfl (fun K hK => ?_) AllReadyH.nil
                  go_simp
                  obtain ⟨-, -, -, -, -, HBX⟩ := hHeld
                  have T102 := Lib.hid ((T10.out.set 0 (.int .i64 (arrivals N l a).1)).set 1 (.int .i64 (arrivals N l a).2))
                  have T9 := Lib.hid ((T9.out.far (p := ⟨_, 0, none⟩) (by exact (Ne.symm NE.out.1)) (.int .i64 (arrivals N l a).1)).far (p := ⟨_, 1, none⟩) (by exact (Ne.symm NE.out.1)) (.int .i64 (arrivals N l a).2))
                  have RS := Lib.hid ((RS.out.far (p := ⟨_, 0, none⟩) (by exact NE.out.2.2.2.1) (.int .i64 (arrivals N l a).1)).far (p := ⟨_, 1, none⟩) (by exact NE.out.2.2.2.1) (.int .i64 (arrivals N l a).2))
                  have RL := Lib.hid ((RL.out.far (p := ⟨_, 0, none⟩) (by exact NE.out.2.2.2.2) (.int .i64 (arrivals N l a).1)).far (p := ⟨_, 1, none⟩) (by exact NE.out.2.2.2.2) (.int .i64 (arrivals N l a).2))
                  have T10 := T102
                  refine hK.out _ _ (MK.out _ ((HBX.out.setCell (p := ⟨_, 0, none⟩) (by first | exact Nat.le_refl _ | exact HP12) _).setCell (p := ⟨_, 1, none⟩) (by first | exact Nat.le_refl _ | exact HP12) _)) (fun hHeld => ?_)
                  try simp only [Act.put, List.getElem_toArray, List.getElem_cons_succ, List.getElem_cons_zero, List.setIfInBounds_toArray, List.set_cons_zero, List.set_cons_succ]
                  clear q0 q1 qf0 qf1 HBX hK K
                  generalize hyy : World.setCell _ _ _ = y24 at *
                  clear hyy
                  refine wpAnyH_done (by kernel_rfl) ?_ _
                  obtain ⟨-, -, -, -, -, hbb⟩ := hHeld
                  go_wp2_with fail
                  go_meet
                  exact ⟨_, _, g1, g2, rfl, rfl, HP12, T9, T10, RS, RL, hbb⟩
              · go_simp
                obtain ⟨-, -, -, -, -, HBX⟩ := hHeld
                have RS := Lib.hid (RS.out.alloc (.cells #[.slice none 0 0, .slice none 0 0] 65))
                have RL := Lib.hid (RL.out.alloc (.cells #[.slice none 0 0, .slice none 0 0] 65))
                have T10 := Lib.hid (T10.out.alloc (.cells #[.slice none 0 0, .slice none 0 0] 65))
                have HP11 := HBX.out.size
                have T9 := Lib.hid (RowV.new y20 [.slice none 0 0, .slice none 0 0] 65)
                refine hK.out _ _ (MK.out _ (HBX.out.alloc HBX.out.size _)) (fun hHeld => ?_)
                try simp only [Act.put, List.getElem_toArray, List.getElem_cons_succ, List.getElem_cons_zero, List.setIfInBounds_toArray, List.set_cons_zero, List.set_cons_succ]
                clear HBX hK K
                generalize hyy : World.alloc y20 _ = y25 at *
                clear hyy
                refine wpAnyH_ready (rs := [10]) (by kernel_rfl) (by simp) ?_
                refine AllReadyH.cons rfl (fun K hK => ?_) (AllReadyH.nil)
                · go_simp
                  obtain ⟨-, -, -, -, -, HBX⟩ := hHeld
                  go_at_call 91
                  refine (arrivalOf_any N _ l A c a _ (KN.out _ HBX.out) (KA.out _ HBX.out) HE.out HIN.out (by omega) hta.1 (by omega)).mono ?_
                  rintro e' y26 ⟨rfl, hb1⟩
                  have RS := Lib.hid (RS.out.keep hb1)
                  have RL := Lib.hid (RL.out.keep hb1)
                  have T9 := Lib.hid (T9.out.keep hb1)
                  have T10 := Lib.hid (T10.out.keep hb1)
                  go_wp2_with fail
                  refine hK.out _ _ (MK.out _ (HBX.out.trans (hb1.mono HBX.out.size))) (fun hHeld => ?_)
                  try simp only [Act.put, List.getElem_toArray, List.getElem_cons_succ, List.getElem_cons_zero, List.setIfInBounds_toArray, List.set_cons_zero, List.set_cons_succ]
                  clear hb1 HBX hK K
                  have ne1 := RowV.ne T9.out T10.out (by decide)
                  have ne2 := RowV.ne T9.out RS.out (by decide)
                  have ne3 := RowV.ne T9.out RL.out (by decide)
                  have ne4 := RowV.ne T10.out RS.out (by decide)
                  have ne5 := RowV.ne T10.out RL.out (by decide)
                  have NE := Lib.hid (And.intro ne1 (And.intro ne2 (And.intro ne3 (And.intro ne4 ne5))))
                  clear ne1 ne2 ne3 ne4 ne5
                  have q0 := T9.out.cell 0
                  have q1 := T9.out.cell 1
                  have qf0 := T9.out.frozen 0
                  have qf1 := T9.out.frozen 1
                  refine wpAnyH_ready (rs := [13]) (by kernel_rfl) (by simp) ?_
                  refine AllReadyH.cons rfl (fun K hK => ?_) AllReadyH.nil
                  go_simp
                  obtain ⟨-, -, -, -, -, HBX⟩ := hHeld
                  have T92 := Lib.hid ((T9.out.set 0 (.slice (some ⟨g1, 0, none⟩) N.places.length N.places.length)).set 1 (.slice (some ⟨g2, 0, none⟩) N.places.length N.places.length))
                  have T10 := Lib.hid ((T10.out.far (p := ⟨_, 0, none⟩) (by exact NE.out.1) (.slice (some ⟨g1, 0, none⟩) N.places.length N.places.length)).far (p := ⟨_, 1, none⟩) (by exact NE.out.1) (.slice (some ⟨g2, 0, none⟩) N.places.length N.places.length))
                  have RS := Lib.hid ((RS.out.far (p := ⟨_, 0, none⟩) (by exact NE.out.2.1) (.slice (some ⟨g1, 0, none⟩) N.places.length N.places.length)).far (p := ⟨_, 1, none⟩) (by exact NE.out.2.1) (.slice (some ⟨g2, 0, none⟩) N.places.length N.places.length))
                  have RL := Lib.hid ((RL.out.far (p := ⟨_, 0, none⟩) (by exact NE.out.2.2.1) (.slice (some ⟨g1, 0, none⟩) N.places.length N.places.length)).far (p := ⟨_, 1, none⟩) (by exact NE.out.2.2.1) (.slice (some ⟨g2, 0, none⟩) N.places.length N.places.length))
                  have T9 := T92
                  refine hK.out _ _ (MK.out _ ((HBX.out.setCell (p := ⟨_, 0, none⟩) (by first | exact Nat.le_refl _ | exact HP11) _).setCell (p := ⟨_, 1, none⟩) (by first | exact Nat.le_refl _ | exact HP11) _)) (fun hHeld => ?_)
                  try simp only [Act.put, List.getElem_toArray, List.getElem_cons_succ, List.getElem_cons_zero, List.setIfInBounds_toArray, List.set_cons_zero, List.set_cons_succ]
                  clear q0 q1 qf0 qf1 HBX hK K
                  generalize hyy : World.setCell _ _ _ = y27 at *
                  clear hyy
                  have q0 := T10.out.cell 0
                  have q1 := T10.out.cell 1
                  have qf0 := T10.out.frozen 0
                  have qf1 := T10.out.frozen 1
                  refine wpAnyH_ready (rs := [14]) (by kernel_rfl) (by simp) ?_
                  refine AllReadyH.cons rfl (fun K hK => ?_) AllReadyH.nil
                  go_simp
                  obtain ⟨-, -, -, -, -, HBX⟩ := hHeld
                  have T102 := Lib.hid ((T10.out.set 0 (.int .i64 (arrivals N l a).1)).set 1 (.int .i64 (arrivals N l a).2))
                  have T9 := Lib.hid ((T9.out.far (p := ⟨_, 0, none⟩) (by exact (Ne.symm NE.out.1)) (.int .i64 (arrivals N l a).1)).far (p := ⟨_, 1, none⟩) (by exact (Ne.symm NE.out.1)) (.int .i64 (arrivals N l a).2))
                  have RS := Lib.hid ((RS.out.far (p := ⟨_, 0, none⟩) (by exact NE.out.2.2.2.1) (.int .i64 (arrivals N l a).1)).far (p := ⟨_, 1, none⟩) (by exact NE.out.2.2.2.1) (.int .i64 (arrivals N l a).2))
                  have RL := Lib.hid ((RL.out.far (p := ⟨_, 0, none⟩) (by exact NE.out.2.2.2.2) (.int .i64 (arrivals N l a).1)).far (p := ⟨_, 1, none⟩) (by exact NE.out.2.2.2.2) (.int .i64 (arrivals N l a).2))
                  have T10 := T102
                  refine hK.out _ _ (MK.out _ ((HBX.out.setCell (p := ⟨_, 0, none⟩) (by first | exact Nat.le_refl _ | exact HP12) _).setCell (p := ⟨_, 1, none⟩) (by first | exact Nat.le_refl _ | exact HP12) _)) (fun hHeld => ?_)
                  try simp only [Act.put, List.getElem_toArray, List.getElem_cons_succ, List.getElem_cons_zero, List.setIfInBounds_toArray, List.set_cons_zero, List.set_cons_succ]
                  clear q0 q1 qf0 qf1 HBX hK K
                  generalize hyy : World.setCell _ _ _ = y28 at *
                  clear hyy
                  refine wpAnyH_done (by kernel_rfl) ?_ _
                  obtain ⟨-, -, -, -, -, hbb⟩ := hHeld
                  go_wp2_with fail
                  go_meet
                  exact ⟨_, _, g1, g2, rfl, rfl, HP12, T9, T10, RS, RL, hbb⟩
          · go_simp
            obtain ⟨-, -, -, -, -, HBX⟩ := hHeld
            have HP11 := HBX.out.size
            have T9 := Lib.hid (RowV.new y0 [.slice none 0 0, .slice none 0 0] 65)
            refine hK.out _ _ (MK.out _ (HBX.out.alloc HBX.out.size _)) (fun hHeld => ?_)
            try simp only [Act.put, List.getElem_toArray, List.getElem_cons_succ, List.getElem_cons_zero, List.setIfInBounds_toArray, List.set_cons_zero, List.set_cons_succ]
            clear HBX hK K
            generalize hyy : World.alloc y0 _ = y29 at *
            clear hyy
            refine wpAnyH_ready (rs := [5, 12]) (by kernel_rfl) (by simp) ?_
            refine AllReadyH.cons rfl (fun K hK => ?_) (AllReadyH.cons rfl (fun K hK => ?_) (AllReadyH.nil))
            · go_simp
              obtain ⟨-, -, -, -, -, HBX⟩ := hHeld
              go_at_call 95
              refine (earliest_any N _ X a _ (KN.out _ HBX.out) HE.out hXl hta.1 (by omega)).mono ?_
              rintro e' y30 ⟨g1, g2, rfl, h1, h2, hb1⟩
              have T9 := Lib.hid (T9.out.keep hb1)
              have RS := Lib.hid h1
              have RL := Lib.hid h2
              go_wp2_with fail
              refine hK.out _ _ (MK.out _ (HBX.out.trans (hb1.mono HBX.out.size))) (fun hHeld => ?_)
              try simp only [Act.put, List.getElem_toArray, List.getElem_cons_succ, List.getElem_cons_zero, List.setIfInBounds_toArray, List.set_cons_zero, List.set_cons_succ]
              clear h1 h2 hb1 HBX hK K
              refine wpAnyH_ready (rs := [10, 12]) (by kernel_rfl) (by simp) ?_
              refine AllReadyH.cons rfl (fun K hK => ?_) (AllReadyH.cons rfl (fun K hK => ?_) (AllReadyH.nil))
              · go_simp
                obtain ⟨-, -, -, -, -, HBX⟩ := hHeld
                go_at_call 91
                refine (arrivalOf_any N _ l A c a _ (KN.out _ HBX.out) (KA.out _ HBX.out) HE.out HIN.out (by omega) hta.1 (by omega)).mono ?_
                rintro e' y31 ⟨rfl, hb1⟩
                have RS := Lib.hid (RS.out.keep hb1)
                have RL := Lib.hid (RL.out.keep hb1)
                have T9 := Lib.hid (T9.out.keep hb1)
                go_wp2_with fail
                refine hK.out _ _ (MK.out _ (HBX.out.trans (hb1.mono HBX.out.size))) (fun hHeld => ?_)
                try simp only [Act.put, List.getElem_toArray, List.getElem_cons_succ, List.getElem_cons_zero, List.setIfInBounds_toArray, List.set_cons_zero, List.set_cons_succ]
                clear hb1 HBX hK K
                refine wpAnyH_ready (rs := [12]) (by kernel_rfl) (by simp) ?_
                refine AllReadyH.cons rfl (fun K hK => ?_) (AllReadyH.nil)
                · go_simp
                  obtain ⟨-, -, -, -, -, HBX⟩ := hHeld
                  have RS := Lib.hid (RS.out.alloc (.cells #[.int .i64 0, .int .i64 0] 35))
                  have RL := Lib.hid (RL.out.alloc (.cells #[.int .i64 0, .int .i64 0] 35))
                  have T9 := Lib.hid (T9.out.alloc (.cells #[.int .i64 0, .int .i64 0] 35))
                  have HP12 := HBX.out.size
                  have T10 := Lib.hid (RowV.new y31 [.int .i64 0, .int .i64 0] 35)
                  refine hK.out _ _ (MK.out _ (HBX.out.alloc HBX.out.size _)) (fun hHeld => ?_)
                  try simp only [Act.put, List.getElem_toArray, List.getElem_cons_succ, List.getElem_cons_zero, List.setIfInBounds_toArray, List.set_cons_zero, List.set_cons_succ]
                  clear HBX hK K
                  generalize hyy : World.alloc y31 _ = y32 at *
                  clear hyy
                  have ne1 := RowV.ne T9.out T10.out (by decide)
                  have ne2 := RowV.ne T9.out RS.out (by decide)
                  have ne3 := RowV.ne T9.out RL.out (by decide)
                  have ne4 := RowV.ne T10.out RS.out (by decide)
                  have ne5 := RowV.ne T10.out RL.out (by decide)
                  have NE := Lib.hid (And.intro ne1 (And.intro ne2 (And.intro ne3 (And.intro ne4 ne5))))
                  clear ne1 ne2 ne3 ne4 ne5
                  have q0 := T9.out.cell 0
                  have q1 := T9.out.cell 1
                  have qf0 := T9.out.frozen 0
                  have qf1 := T9.out.frozen 1
                  refine wpAnyH_ready (rs := [13]) (by kernel_rfl) (by simp) ?_
                  refine AllReadyH.cons rfl (fun K hK => ?_) AllReadyH.nil
                  go_simp
                  obtain ⟨-, -, -, -, -, HBX⟩ := hHeld
                  have T92 := Lib.hid ((T9.out.set 0 (.slice (some ⟨g1, 0, none⟩) N.places.length N.places.length)).set 1 (.slice (some ⟨g2, 0, none⟩) N.places.length N.places.length))
                  have T10 := Lib.hid ((T10.out.far (p := ⟨_, 0, none⟩) (by exact NE.out.1) (.slice (some ⟨g1, 0, none⟩) N.places.length N.places.length)).far (p := ⟨_, 1, none⟩) (by exact NE.out.1) (.slice (some ⟨g2, 0, none⟩) N.places.length N.places.length))
                  have RS := Lib.hid ((RS.out.far (p := ⟨_, 0, none⟩) (by exact NE.out.2.1) (.slice (some ⟨g1, 0, none⟩) N.places.length N.places.length)).far (p := ⟨_, 1, none⟩) (by exact NE.out.2.1) (.slice (some ⟨g2, 0, none⟩) N.places.length N.places.length))
                  have RL := Lib.hid ((RL.out.far (p := ⟨_, 0, none⟩) (by exact NE.out.2.2.1) (.slice (some ⟨g1, 0, none⟩) N.places.length N.places.length)).far (p := ⟨_, 1, none⟩) (by exact NE.out.2.2.1) (.slice (some ⟨g2, 0, none⟩) N.places.length N.places.length))
                  have T9 := T92
                  refine hK.out _ _ (MK.out _ ((HBX.out.setCell (p := ⟨_, 0, none⟩) (by first | exact Nat.le_refl _ | exact HP11) _).setCell (p := ⟨_, 1, none⟩) (by first | exact Nat.le_refl _ | exact HP11) _)) (fun hHeld => ?_)
                  try simp only [Act.put, List.getElem_toArray, List.getElem_cons_succ, List.getElem_cons_zero, List.setIfInBounds_toArray, List.set_cons_zero, List.set_cons_succ]
                  clear q0 q1 qf0 qf1 HBX hK K
                  generalize hyy : World.setCell _ _ _ = y33 at *
                  clear hyy
                  have q0 := T10.out.cell 0
                  have q1 := T10.out.cell 1
                  have qf0 := T10.out.frozen 0
                  have qf1 := T10.out.frozen 1
                  refine wpAnyH_ready (rs := [14]) (by kernel_rfl) (by simp) ?_
                  refine AllReadyH.cons rfl (fun K hK => ?_) AllReadyH.nil
                  go_simp
                  obtain ⟨-, -, -, -, -, HBX⟩ := hHeld
                  have T102 := Lib.hid ((T10.out.set 0 (.int .i64 (arrivals N l a).1)).set 1 (.int .i64 (arrivals N l a).2))
                  have T9 := Lib.hid ((T9.out.far (p := ⟨_, 0, none⟩) (by exact (Ne.symm NE.out.1)) (.int .i64 (arrivals N l a).1)).far (p := ⟨_, 1, none⟩) (by exact (Ne.symm NE.out.1)) (.int .i64 (arrivals N l a).2))
                  have RS := Lib.hid ((RS.out.far (p := ⟨_, 0, none⟩) (by exact NE.out.2.2.2.1) (.int .i64 (arrivals N l a).1)).far (p := ⟨_, 1, none⟩) (by exact NE.out.2.2.2.1) (.int .i64 (arrivals N l a).2))
                  have RL := Lib.hid ((RL.out.far (p := ⟨_, 0, none⟩) (by exact NE.out.2.2.2.2) (.int .i64 (arrivals N l a).1)).far (p := ⟨_, 1, none⟩) (by exact NE.out.2.2.2.2) (.int .i64 (arrivals N l a).2))
                  have T10 := T102
                  refine hK.out _ _ (MK.out _ ((HBX.out.setCell (p := ⟨_, 0, none⟩) (by first | exact Nat.le_refl _ | exact HP12) _).setCell (p := ⟨_, 1, none⟩) (by first | exact Nat.le_refl _ | exact HP12) _)) (fun hHeld => ?_)
                  try simp only [Act.put, List.getElem_toArray, List.getElem_cons_succ, List.getElem_cons_zero, List.setIfInBounds_toArray, List.set_cons_zero, List.set_cons_succ]
                  clear q0 q1 qf0 qf1 HBX hK K
                  generalize hyy : World.setCell _ _ _ = y34 at *
                  clear hyy
                  refine wpAnyH_done (by kernel_rfl) ?_ _
                  obtain ⟨-, -, -, -, -, hbb⟩ := hHeld
                  go_wp2_with fail
                  go_meet
                  exact ⟨_, _, g1, g2, rfl, rfl, HP12, T9, T10, RS, RL, hbb⟩
              · go_simp
                obtain ⟨-, -, -, -, -, HBX⟩ := hHeld
                have RS := Lib.hid (RS.out.alloc (.cells #[.int .i64 0, .int .i64 0] 35))
                have RL := Lib.hid (RL.out.alloc (.cells #[.int .i64 0, .int .i64 0] 35))
                have T9 := Lib.hid (T9.out.alloc (.cells #[.int .i64 0, .int .i64 0] 35))
                have HP12 := HBX.out.size
                have T10 := Lib.hid (RowV.new y30 [.int .i64 0, .int .i64 0] 35)
                refine hK.out _ _ (MK.out _ (HBX.out.alloc HBX.out.size _)) (fun hHeld => ?_)
                try simp only [Act.put, List.getElem_toArray, List.getElem_cons_succ, List.getElem_cons_zero, List.setIfInBounds_toArray, List.set_cons_zero, List.set_cons_succ]
                clear HBX hK K
                generalize hyy : World.alloc y30 _ = y35 at *
                clear hyy
                refine wpAnyH_ready (rs := [10]) (by kernel_rfl) (by simp) ?_
                refine AllReadyH.cons rfl (fun K hK => ?_) (AllReadyH.nil)
                · go_simp
                  obtain ⟨-, -, -, -, -, HBX⟩ := hHeld
                  go_at_call 91
                  refine (arrivalOf_any N _ l A c a _ (KN.out _ HBX.out) (KA.out _ HBX.out) HE.out HIN.out (by omega) hta.1 (by omega)).mono ?_
                  rintro e' y36 ⟨rfl, hb1⟩
                  have RS := Lib.hid (RS.out.keep hb1)
                  have RL := Lib.hid (RL.out.keep hb1)
                  have T9 := Lib.hid (T9.out.keep hb1)
                  have T10 := Lib.hid (T10.out.keep hb1)
                  go_wp2_with fail
                  refine hK.out _ _ (MK.out _ (HBX.out.trans (hb1.mono HBX.out.size))) (fun hHeld => ?_)
                  try simp only [Act.put, List.getElem_toArray, List.getElem_cons_succ, List.getElem_cons_zero, List.setIfInBounds_toArray, List.set_cons_zero, List.set_cons_succ]
                  clear hb1 HBX hK K
                  have ne1 := RowV.ne T9.out T10.out (by decide)
                  have ne2 := RowV.ne T9.out RS.out (by decide)
                  have ne3 := RowV.ne T9.out RL.out (by decide)
                  have ne4 := RowV.ne T10.out RS.out (by decide)
                  have ne5 := RowV.ne T10.out RL.out (by decide)
                  have NE := Lib.hid (And.intro ne1 (And.intro ne2 (And.intro ne3 (And.intro ne4 ne5))))
                  clear ne1 ne2 ne3 ne4 ne5
                  have q0 := T9.out.cell 0
                  have q1 := T9.out.cell 1
                  have qf0 := T9.out.frozen 0
                  have qf1 := T9.out.frozen 1
                  refine wpAnyH_ready (rs := [13]) (by kernel_rfl) (by simp) ?_
                  refine AllReadyH.cons rfl (fun K hK => ?_) AllReadyH.nil
                  go_simp
                  obtain ⟨-, -, -, -, -, HBX⟩ := hHeld
                  have T92 := Lib.hid ((T9.out.set 0 (.slice (some ⟨g1, 0, none⟩) N.places.length N.places.length)).set 1 (.slice (some ⟨g2, 0, none⟩) N.places.length N.places.length))
                  have T10 := Lib.hid ((T10.out.far (p := ⟨_, 0, none⟩) (by exact NE.out.1) (.slice (some ⟨g1, 0, none⟩) N.places.length N.places.length)).far (p := ⟨_, 1, none⟩) (by exact NE.out.1) (.slice (some ⟨g2, 0, none⟩) N.places.length N.places.length))
                  have RS := Lib.hid ((RS.out.far (p := ⟨_, 0, none⟩) (by exact NE.out.2.1) (.slice (some ⟨g1, 0, none⟩) N.places.length N.places.length)).far (p := ⟨_, 1, none⟩) (by exact NE.out.2.1) (.slice (some ⟨g2, 0, none⟩) N.places.length N.places.length))
                  have RL := Lib.hid ((RL.out.far (p := ⟨_, 0, none⟩) (by exact NE.out.2.2.1) (.slice (some ⟨g1, 0, none⟩) N.places.length N.places.length)).far (p := ⟨_, 1, none⟩) (by exact NE.out.2.2.1) (.slice (some ⟨g2, 0, none⟩) N.places.length N.places.length))
                  have T9 := T92
                  refine hK.out _ _ (MK.out _ ((HBX.out.setCell (p := ⟨_, 0, none⟩) (by first | exact Nat.le_refl _ | exact HP11) _).setCell (p := ⟨_, 1, none⟩) (by first | exact Nat.le_refl _ | exact HP11) _)) (fun hHeld => ?_)
                  try simp only [Act.put, List.getElem_toArray, List.getElem_cons_succ, List.getElem_cons_zero, List.setIfInBounds_toArray, List.set_cons_zero, List.set_cons_succ]
                  clear q0 q1 qf0 qf1 HBX hK K
                  generalize hyy : World.setCell _ _ _ = y37 at *
                  clear hyy
                  have q0 := T10.out.cell 0
                  have q1 := T10.out.cell 1
                  have qf0 := T10.out.frozen 0
                  have qf1 := T10.out.frozen 1
                  refine wpAnyH_ready (rs := [14]) (by kernel_rfl) (by simp) ?_
                  refine AllReadyH.cons rfl (fun K hK => ?_) AllReadyH.nil
                  go_simp
                  obtain ⟨-, -, -, -, -, HBX⟩ := hHeld
                  have T102 := Lib.hid ((T10.out.set 0 (.int .i64 (arrivals N l a).1)).set 1 (.int .i64 (arrivals N l a).2))
                  have T9 := Lib.hid ((T9.out.far (p := ⟨_, 0, none⟩) (by exact (Ne.symm NE.out.1)) (.int .i64 (arrivals N l a).1)).far (p := ⟨_, 1, none⟩) (by exact (Ne.symm NE.out.1)) (.int .i64 (arrivals N l a).2))
                  have RS := Lib.hid ((RS.out.far (p := ⟨_, 0, none⟩) (by exact NE.out.2.2.2.1) (.int .i64 (arrivals N l a).1)).far (p := ⟨_, 1, none⟩) (by exact NE.out.2.2.2.1) (.int .i64 (arrivals N l a).2))
                  have RL := Lib.hid ((RL.out.far (p := ⟨_, 0, none⟩) (by exact NE.out.2.2.2.2) (.int .i64 (arrivals N l a).1)).far (p := ⟨_, 1, none⟩) (by exact NE.out.2.2.2.2) (.int .i64 (arrivals N l a).2))
                  have T10 := T102
                  refine hK.out _ _ (MK.out _ ((HBX.out.setCell (p := ⟨_, 0, none⟩) (by first | exact Nat.le_refl _ | exact HP12) _).setCell (p := ⟨_, 1, none⟩) (by first | exact Nat.le_refl _ | exact HP12) _)) (fun hHeld => ?_)
                  try simp only [Act.put, List.getElem_toArray, List.getElem_cons_succ, List.getElem_cons_zero, List.setIfInBounds_toArray, List.set_cons_zero, List.set_cons_succ]
                  clear q0 q1 qf0 qf1 HBX hK K
                  generalize hyy : World.setCell _ _ _ = y38 at *
                  clear hyy
                  refine wpAnyH_done (by kernel_rfl) ?_ _
                  obtain ⟨-, -, -, -, -, hbb⟩ := hHeld
                  go_wp2_with fail
                  go_meet
                  exact ⟨_, _, g1, g2, rfl, rfl, HP12, T9, T10, RS, RL, hbb⟩
            · go_simp
              obtain ⟨-, -, -, -, -, HBX⟩ := hHeld
              have T9 := Lib.hid (T9.out.alloc (.cells #[.int .i64 0, .int .i64 0] 35))
              have HP12 := HBX.out.size
              have T10 := Lib.hid (RowV.new y29 [.int .i64 0, .int .i64 0] 35)
              refine hK.out _ _ (MK.out _ (HBX.out.alloc HBX.out.size _)) (fun hHeld => ?_)
              try simp only [Act.put, List.getElem_toArray, List.getElem_cons_succ, List.getElem_cons_zero, List.setIfInBounds_toArray, List.set_cons_zero, List.set_cons_succ]
              clear HBX hK K
              generalize hyy : World.alloc y29 _ = y39 at *
              clear hyy
              refine wpAnyH_ready (rs := [5]) (by kernel_rfl) (by simp) ?_
              refine AllReadyH.cons rfl (fun K hK => ?_) (AllReadyH.nil)
              · go_simp
                obtain ⟨-, -, -, -, -, HBX⟩ := hHeld
                go_at_call 95
                refine (earliest_any N _ X a _ (KN.out _ HBX.out) HE.out hXl hta.1 (by omega)).mono ?_
                rintro e' y40 ⟨g1, g2, rfl, h1, h2, hb1⟩
                have T9 := Lib.hid (T9.out.keep hb1)
                have T10 := Lib.hid (T10.out.keep hb1)
                have RS := Lib.hid h1
                have RL := Lib.hid h2
                go_wp2_with fail
                refine hK.out _ _ (MK.out _ (HBX.out.trans (hb1.mono HBX.out.size))) (fun hHeld => ?_)
                try simp only [Act.put, List.getElem_toArray, List.getElem_cons_succ, List.getElem_cons_zero, List.setIfInBounds_toArray, List.set_cons_zero, List.set_cons_succ]
                clear h1 h2 hb1 HBX hK K
                refine wpAnyH_ready (rs := [10]) (by kernel_rfl) (by simp) ?_
                refine AllReadyH.cons rfl (fun K hK => ?_) (AllReadyH.nil)
                · go_simp
                  obtain ⟨-, -, -, -, -, HBX⟩ := hHeld
                  go_at_call 91
                  refine (arrivalOf_any N _ l A c a _ (KN.out _ HBX.out) (KA.out _ HBX.out) HE.out HIN.out (by omega) hta.1 (by omega)).mono ?_
                  rintro e' y41 ⟨rfl, hb1⟩
                  have RS := Lib.hid (RS.out.keep hb1)
                  have RL := Lib.hid (RL.out.keep hb1)
                  have T9 := Lib.hid (T9.out.keep hb1)
                  have T10 := Lib.hid (T10.out.keep hb1)
                  go_wp2_with fail
                  refine hK.out _ _ (MK.out _ (HBX.out.trans (hb1.mono HBX.out.size))) (fun hHeld => ?_)
                  try simp only [Act.put, List.getElem_toArray, List.getElem_cons_succ, List.getElem_cons_zero, List.setIfInBounds_toArray, List.set_cons_zero, List.set_cons_succ]
                  clear hb1 HBX hK K
                  have ne1 := RowV.ne T9.out T10.out (by decide)
                  have ne2 := RowV.ne T9.out RS.out (by decide)
                  have ne3 := RowV.ne T9.out RL.out (by decide)
                  have ne4 := RowV.ne T10.out RS.out (by decide)
                  have ne5 := RowV.ne T10.out RL.out (by decide)
                  have NE := Lib.hid (And.intro ne1 (And.intro ne2 (And.intro ne3 (And.intro ne4 ne5))))
                  clear ne1 ne2 ne3 ne4 ne5
                  have q0 := T9.out.cell 0
                  have q1 := T9.out.cell 1
                  have qf0 := T9.out.frozen 0
                  have qf1 := T9.out.frozen 1
                  refine wpAnyH_ready (rs := [13]) (by kernel_rfl) (by simp) ?_
                  refine AllReadyH.cons rfl (fun K hK => ?_) AllReadyH.nil
                  go_simp
                  obtain ⟨-, -, -, -, -, HBX⟩ := hHeld
                  have T92 := Lib.hid ((T9.out.set 0 (.slice (some ⟨g1, 0, none⟩) N.places.length N.places.length)).set 1 (.slice (some ⟨g2, 0, none⟩) N.places.length N.places.length))
                  have T10 := Lib.hid ((T10.out.far (p := ⟨_, 0, none⟩) (by exact NE.out.1) (.slice (some ⟨g1, 0, none⟩) N.places.length N.places.length)).far (p := ⟨_, 1, none⟩) (by exact NE.out.1) (.slice (some ⟨g2, 0, none⟩) N.places.length N.places.length))
                  have RS := Lib.hid ((RS.out.far (p := ⟨_, 0, none⟩) (by exact NE.out.2.1) (.slice (some ⟨g1, 0, none⟩) N.places.length N.places.length)).far (p := ⟨_, 1, none⟩) (by exact NE.out.2.1) (.slice (some ⟨g2, 0, none⟩) N.places.length N.places.length))
                  have RL := Lib.hid ((RL.out.far (p := ⟨_, 0, none⟩) (by exact NE.out.2.2.1) (.slice (some ⟨g1, 0, none⟩) N.places.length N.places.length)).far (p := ⟨_, 1, none⟩) (by exact NE.out.2.2.1) (.slice (some ⟨g2, 0, none⟩) N.places.length N.places.length))
                  have T9 := T92
                  refine hK.out _ _ (MK.out _ ((HBX.out.setCell (p := ⟨_, 0, none⟩) (by first | exact Nat.le_refl _ | exact HP11) _).setCell (p := ⟨_, 1, none⟩) (by first | exact Nat.le_refl _ | exact HP11) _)) (fun hHeld => ?_)
                  try simp only [Act.put, List.getElem_toArray, List.getElem_cons_succ, List.getElem_cons_zero, List.setIfInBounds_toArray, List.set_cons_zero, List.set_cons_succ]
                  clear q0 q1 qf0 qf1 HBX hK K
                  generalize hyy : World.setCell _ _ _ = y42 at *
                  clear hyy
                  have q0 := T10.out.cell 0
                  have q1 := T10.out.cell 1
                  have qf0 := T10.out.frozen 0
                  have qf1 := T10.out.frozen 1
                  refine wpAnyH_ready (rs := [14]) (by kernel_rfl) (by simp) ?_
                  refine AllReadyH.cons rfl (fun K hK => ?_) AllReadyH.nil
                  go_simp
                  obtain ⟨-, -, -, -, -, HBX⟩ := hHeld
                  have T102 := Lib.hid ((T10.out.set 0 (.int .i64 (arrivals N l a).1)).set 1 (.int .i64 (arrivals N l a).2))
                  have T9 := Lib.hid ((T9.out.far (p := ⟨_, 0, none⟩) (by exact (Ne.symm NE.out.1)) (.int .i64 (arrivals N l a).1)).far (p := ⟨_, 1, none⟩) (by exact (Ne.symm NE.out.1)) (.int .i64 (arrivals N l a).2))
                  have RS := Lib.hid ((RS.out.far (p := ⟨_, 0, none⟩) (by exact NE.out.2.2.2.1) (.int .i64 (arrivals N l a).1)).far (p := ⟨_, 1, none⟩) (by exact NE.out.2.2.2.1) (.int .i64 (arrivals N l a).2))
                  have RL := Lib.hid ((RL.out.far (p := ⟨_, 0, none⟩) (by exact NE.out.2.2.2.2) (.int .i64 (arrivals N l a).1)).far (p := ⟨_, 1, none⟩) (by exact NE.out.2.2.2.2) (.int .i64 (arrivals N l a).2))
                  have T10 := T102
                  refine hK.out _ _ (MK.out _ ((HBX.out.setCell (p := ⟨_, 0, none⟩) (by first | exact Nat.le_refl _ | exact HP12) _).setCell (p := ⟨_, 1, none⟩) (by first | exact Nat.le_refl _ | exact HP12) _)) (fun hHeld => ?_)
                  try simp only [Act.put, List.getElem_toArray, List.getElem_cons_succ, List.getElem_cons_zero, List.setIfInBounds_toArray, List.set_cons_zero, List.set_cons_succ]
                  clear q0 q1 qf0 qf1 HBX hK K
                  generalize hyy : World.setCell _ _ _ = y43 at *
                  clear hyy
                  refine wpAnyH_done (by kernel_rfl) ?_ _
                  obtain ⟨-, -, -, -, -, hbb⟩ := hHeld
                  go_wp2_with fail
                  go_meet
                  exact ⟨_, _, g1, g2, rfl, rfl, HP12, T9, T10, RS, RL, hbb⟩
          · go_simp
            obtain ⟨-, -, -, -, -, HBX⟩ := hHeld
            have HP12 := HBX.out.size
            have T10 := Lib.hid (RowV.new y0 [.int .i64 0, .int .i64 0] 35)
            refine hK.out _ _ (MK.out _ (HBX.out.alloc HBX.out.size _)) (fun hHeld => ?_)
            try simp only [Act.put, List.getElem_toArray, List.getElem_cons_succ, List.getElem_cons_zero, List.setIfInBounds_toArray, List.set_cons_zero, List.set_cons_succ]
            clear HBX hK K
            generalize hyy : World.alloc y0 _ = y44 at *
            clear hyy
            refine wpAnyH_ready (rs := [5, 11]) (by kernel_rfl) (by simp) ?_
            refine AllReadyH.cons rfl (fun K hK => ?_) (AllReadyH.cons rfl (fun K hK => ?_) (AllReadyH.nil))
            · go_simp
              obtain ⟨-, -, -, -, -, HBX⟩ := hHeld
              go_at_call 95
              refine (earliest_any N _ X a _ (KN.out _ HBX.out) HE.out hXl hta.1 (by omega)).mono ?_
              rintro e' y45 ⟨g1, g2, rfl, h1, h2, hb1⟩
              have T10 := Lib.hid (T10.out.keep hb1)
              have RS := Lib.hid h1
              have RL := Lib.hid h2
              go_wp2_with fail
              refine hK.out _ _ (MK.out _ (HBX.out.trans (hb1.mono HBX.out.size))) (fun hHeld => ?_)
              try simp only [Act.put, List.getElem_toArray, List.getElem_cons_succ, List.getElem_cons_zero, List.setIfInBounds_toArray, List.set_cons_zero, List.set_cons_succ]
              clear h1 h2 hb1 HBX hK K
              refine wpAnyH_ready (rs := [10, 11]) (by kernel_rfl) (by simp) ?_
              refine AllReadyH.cons rfl (fun K hK => ?_) (AllReadyH.cons rfl (fun K hK => ?_) (AllReadyH.nil))
              · go_simp
                obtain ⟨-, -, -, -, -, HBX⟩ := hHeld
                go_at_call 91
                refine (arrivalOf_any N _ l A c a _ (KN.out _ HBX.out) (KA.out _ HBX.out) HE.out HIN.out (by omega) hta.1 (by omega)).mono ?_
                rintro e' y46 ⟨rfl, hb1⟩
                have RS := Lib.hid (RS.out.keep hb1)
                have RL := Lib.hid (RL.out.keep hb1)
                have T10 := Lib.hid (T10.out.keep hb1)
                go_wp2_with fail
                refine hK.out _ _ (MK.out _ (HBX.out.trans (hb1.mono HBX.out.size))) (fun hHeld => ?_)
                try simp only [Act.put, List.getElem_toArray, List.getElem_cons_succ, List.getElem_cons_zero, List.setIfInBounds_toArray, List.set_cons_zero, List.set_cons_succ]
                clear hb1 HBX hK K
                refine wpAnyH_ready (rs := [11]) (by kernel_rfl) (by simp) ?_
                refine AllReadyH.cons rfl (fun K hK => ?_) (AllReadyH.nil)
                · go_simp
                  obtain ⟨-, -, -, -, -, HBX⟩ := hHeld
                  have RS := Lib.hid (RS.out.alloc (.cells #[.slice none 0 0, .slice none 0 0] 65))
                  have RL := Lib.hid (RL.out.alloc (.cells #[.slice none 0 0, .slice none 0 0] 65))
                  have T10 := Lib.hid (T10.out.alloc (.cells #[.slice none 0 0, .slice none 0 0] 65))
                  have HP11 := HBX.out.size
                  have T9 := Lib.hid (RowV.new y46 [.slice none 0 0, .slice none 0 0] 65)
                  refine hK.out _ _ (MK.out _ (HBX.out.alloc HBX.out.size _)) (fun hHeld => ?_)
                  try simp only [Act.put, List.getElem_toArray, List.getElem_cons_succ, List.getElem_cons_zero, List.setIfInBounds_toArray, List.set_cons_zero, List.set_cons_succ]
                  clear HBX hK K
                  generalize hyy : World.alloc y46 _ = y47 at *
                  clear hyy
                  have ne1 := RowV.ne T9.out T10.out (by decide)
                  have ne2 := RowV.ne T9.out RS.out (by decide)
                  have ne3 := RowV.ne T9.out RL.out (by decide)
                  have ne4 := RowV.ne T10.out RS.out (by decide)
                  have ne5 := RowV.ne T10.out RL.out (by decide)
                  have NE := Lib.hid (And.intro ne1 (And.intro ne2 (And.intro ne3 (And.intro ne4 ne5))))
                  clear ne1 ne2 ne3 ne4 ne5
                  have q0 := T9.out.cell 0
                  have q1 := T9.out.cell 1
                  have qf0 := T9.out.frozen 0
                  have qf1 := T9.out.frozen 1
                  refine wpAnyH_ready (rs := [13]) (by kernel_rfl) (by simp) ?_
                  refine AllReadyH.cons rfl (fun K hK => ?_) AllReadyH.nil
                  go_simp
                  obtain ⟨-, -, -, -, -, HBX⟩ := hHeld
                  have T92 := Lib.hid ((T9.out.set 0 (.slice (some ⟨g1, 0, none⟩) N.places.length N.places.length)).set 1 (.slice (some ⟨g2, 0, none⟩) N.places.length N.places.length))
                  have T10 := Lib.hid ((T10.out.far (p := ⟨_, 0, none⟩) (by exact NE.out.1) (.slice (some ⟨g1, 0, none⟩) N.places.length N.places.length)).far (p := ⟨_, 1, none⟩) (by exact NE.out.1) (.slice (some ⟨g2, 0, none⟩) N.places.length N.places.length))
                  have RS := Lib.hid ((RS.out.far (p := ⟨_, 0, none⟩) (by exact NE.out.2.1) (.slice (some ⟨g1, 0, none⟩) N.places.length N.places.length)).far (p := ⟨_, 1, none⟩) (by exact NE.out.2.1) (.slice (some ⟨g2, 0, none⟩) N.places.length N.places.length))
                  have RL := Lib.hid ((RL.out.far (p := ⟨_, 0, none⟩) (by exact NE.out.2.2.1) (.slice (some ⟨g1, 0, none⟩) N.places.length N.places.length)).far (p := ⟨_, 1, none⟩) (by exact NE.out.2.2.1) (.slice (some ⟨g2, 0, none⟩) N.places.length N.places.length))
                  have T9 := T92
                  refine hK.out _ _ (MK.out _ ((HBX.out.setCell (p := ⟨_, 0, none⟩) (by first | exact Nat.le_refl _ | exact HP11) _).setCell (p := ⟨_, 1, none⟩) (by first | exact Nat.le_refl _ | exact HP11) _)) (fun hHeld => ?_)
                  try simp only [Act.put, List.getElem_toArray, List.getElem_cons_succ, List.getElem_cons_zero, List.setIfInBounds_toArray, List.set_cons_zero, List.set_cons_succ]
                  clear q0 q1 qf0 qf1 HBX hK K
                  generalize hyy : World.setCell _ _ _ = y48 at *
                  clear hyy
                  have q0 := T10.out.cell 0
                  have q1 := T10.out.cell 1
                  have qf0 := T10.out.frozen 0
                  have qf1 := T10.out.frozen 1
                  refine wpAnyH_ready (rs := [14]) (by kernel_rfl) (by simp) ?_
                  refine AllReadyH.cons rfl (fun K hK => ?_) AllReadyH.nil
                  go_simp
                  obtain ⟨-, -, -, -, -, HBX⟩ := hHeld
                  have T102 := Lib.hid ((T10.out.set 0 (.int .i64 (arrivals N l a).1)).set 1 (.int .i64 (arrivals N l a).2))
                  have T9 := Lib.hid ((T9.out.far (p := ⟨_, 0, none⟩) (by exact (Ne.symm NE.out.1)) (.int .i64 (arrivals N l a).1)).far (p := ⟨_, 1, none⟩) (by exact (Ne.symm NE.out.1)) (.int .i64 (arrivals N l a).2))
                  have RS := Lib.hid ((RS.out.far (p := ⟨_, 0, none⟩) (by exact NE.out.2.2.2.1) (.int .i64 (arrivals N l a).1)).far (p := ⟨_, 1, none⟩) (by exact NE.out.2.2.2.1) (.int .i64 (arrivals N l a).2))
                  have RL := Lib.hid ((RL.out.far (p := ⟨_, 0, none⟩) (by exact NE.out.2.2.2.2) (.int .i64 (arrivals N l a).1)).far (p := ⟨_, 1, none⟩) (by exact NE.out.2.2.2.2) (.int .i64 (arrivals N l a).2))
                  have T10 := T102
                  refine hK.out _ _ (MK.out _ ((HBX.out.setCell (p := ⟨_, 0, none⟩) (by first | exact Nat.le_refl _ | exact HP12) _).setCell (p := ⟨_, 1, none⟩) (by first | exact Nat.le_refl _ | exact HP12) _)) (fun hHeld => ?_)
                  try simp only [Act.put, List.getElem_toArray, List.getElem_cons_succ, List.getElem_cons_zero, List.setIfInBounds_toArray, List.set_cons_zero, List.set_cons_succ]
                  clear q0 q1 qf0 qf1 HBX hK K
                  generalize hyy : World.setCell _ _ _ = y49 at *
                  clear hyy
                  refine wpAnyH_done (by kernel_rfl) ?_ _
                  obtain ⟨-, -, -, -, -, hbb⟩ := hHeld
                  go_wp2_with fail
                  go_meet
                  exact ⟨_, _, g1, g2, rfl, rfl, HP12, T9, T10, RS, RL, hbb⟩
              · go_simp
                obtain ⟨-, -, -, -, -, HBX⟩ := hHeld
                have RS := Lib.hid (RS.out.alloc (.cells #[.slice none 0 0, .slice none 0 0] 65))
                have RL := Lib.hid (RL.out.alloc (.cells #[.slice none 0 0, .slice none 0 0] 65))
                have T10 := Lib.hid (T10.out.alloc (.cells #[.slice none 0 0, .slice none 0 0] 65))
                have HP11 := HBX.out.size
                have T9 := Lib.hid (RowV.new y45 [.slice none 0 0, .slice none 0 0] 65)
                refine hK.out _ _ (MK.out _ (HBX.out.alloc HBX.out.size _)) (fun hHeld => ?_)
                try simp only [Act.put, List.getElem_toArray, List.getElem_cons_succ, List.getElem_cons_zero, List.setIfInBounds_toArray, List.set_cons_zero, List.set_cons_succ]
                clear HBX hK K
                generalize hyy : World.alloc y45 _ = y50 at *
                clear hyy
                refine wpAnyH_ready (rs := [10]) (by kernel_rfl) (by simp) ?_
                refine AllReadyH.cons rfl (fun K hK => ?_) (AllReadyH.nil)
                · go_simp
                  obtain ⟨-, -, -, -, -, HBX⟩ := hHeld
                  go_at_call 91
                  refine (arrivalOf_any N _ l A c a _ (KN.out _ HBX.out) (KA.out _ HBX.out) HE.out HIN.out (by omega) hta.1 (by omega)).mono ?_
                  rintro e' y51 ⟨rfl, hb1⟩
                  have RS := Lib.hid (RS.out.keep hb1)
                  have RL := Lib.hid (RL.out.keep hb1)
                  have T9 := Lib.hid (T9.out.keep hb1)
                  have T10 := Lib.hid (T10.out.keep hb1)
                  go_wp2_with fail
                  refine hK.out _ _ (MK.out _ (HBX.out.trans (hb1.mono HBX.out.size))) (fun hHeld => ?_)
                  try simp only [Act.put, List.getElem_toArray, List.getElem_cons_succ, List.getElem_cons_zero, List.setIfInBounds_toArray, List.set_cons_zero, List.set_cons_succ]
                  clear hb1 HBX hK K
                  have ne1 := RowV.ne T9.out T10.out (by decide)
                  have ne2 := RowV.ne T9.out RS.out (by decide)
                  have ne3 := RowV.ne T9.out RL.out (by decide)
                  have ne4 := RowV.ne T10.out RS.out (by decide)
                  have ne5 := RowV.ne T10.out RL.out (by decide)
                  have NE := Lib.hid (And.intro ne1 (And.intro ne2 (And.intro ne3 (And.intro ne4 ne5))))
                  clear ne1 ne2 ne3 ne4 ne5
                  have q0 := T9.out.cell 0
                  have q1 := T9.out.cell 1
                  have qf0 := T9.out.frozen 0
                  have qf1 := T9.out.frozen 1
                  refine wpAnyH_ready (rs := [13]) (by kernel_rfl) (by simp) ?_
                  refine AllReadyH.cons rfl (fun K hK => ?_) AllReadyH.nil
                  go_simp
                  obtain ⟨-, -, -, -, -, HBX⟩ := hHeld
                  have T92 := Lib.hid ((T9.out.set 0 (.slice (some ⟨g1, 0, none⟩) N.places.length N.places.length)).set 1 (.slice (some ⟨g2, 0, none⟩) N.places.length N.places.length))
                  have T10 := Lib.hid ((T10.out.far (p := ⟨_, 0, none⟩) (by exact NE.out.1) (.slice (some ⟨g1, 0, none⟩) N.places.length N.places.length)).far (p := ⟨_, 1, none⟩) (by exact NE.out.1) (.slice (some ⟨g2, 0, none⟩) N.places.length N.places.length))
                  have RS := Lib.hid ((RS.out.far (p := ⟨_, 0, none⟩) (by exact NE.out.2.1) (.slice (some ⟨g1, 0, none⟩) N.places.length N.places.length)).far (p := ⟨_, 1, none⟩) (by exact NE.out.2.1) (.slice (some ⟨g2, 0, none⟩) N.places.length N.places.length))
                  have RL := Lib.hid ((RL.out.far (p := ⟨_, 0, none⟩) (by exact NE.out.2.2.1) (.slice (some ⟨g1, 0, none⟩) N.places.length N.places.length)).far (p := ⟨_, 1, none⟩) (by exact NE.out.2.2.1) (.slice (some ⟨g2, 0, none⟩) N.places.length N.places.length))
                  have T9 := T92
                  refine hK.out _ _ (MK.out _ ((HBX.out.setCell (p := ⟨_, 0, none⟩) (by first | exact Nat.le_refl _ | exact HP11) _).setCell (p := ⟨_, 1, none⟩) (by first | exact Nat.le_refl _ | exact HP11) _)) (fun hHeld => ?_)
                  try simp only [Act.put, List.getElem_toArray, List.getElem_cons_succ, List.getElem_cons_zero, List.setIfInBounds_toArray, List.set_cons_zero, List.set_cons_succ]
                  clear q0 q1 qf0 qf1 HBX hK K
                  generalize hyy : World.setCell _ _ _ = y52 at *
                  clear hyy
                  have q0 := T10.out.cell 0
                  have q1 := T10.out.cell 1
                  have qf0 := T10.out.frozen 0
                  have qf1 := T10.out.frozen 1
                  refine wpAnyH_ready (rs := [14]) (by kernel_rfl) (by simp) ?_
                  refine AllReadyH.cons rfl (fun K hK => ?_) AllReadyH.nil
                  go_simp
                  obtain ⟨-, -, -, -, -, HBX⟩ := hHeld
                  have T102 := Lib.hid ((T10.out.set 0 (.int .i64 (arrivals N l a).1)).set 1 (.int .i64 (arrivals N l a).2))
                  have T9 := Lib.hid ((T9.out.far (p := ⟨_, 0, none⟩) (by exact (Ne.symm NE.out.1)) (.int .i64 (arrivals N l a).1)).far (p := ⟨_, 1, none⟩) (by exact (Ne.symm NE.out.1)) (.int .i64 (arrivals N l a).2))
                  have RS := Lib.hid ((RS.out.far (p := ⟨_, 0, none⟩) (by exact NE.out.2.2.2.1) (.int .i64 (arrivals N l a).1)).far (p := ⟨_, 1, none⟩) (by exact NE.out.2.2.2.1) (.int .i64 (arrivals N l a).2))
                  have RL := Lib.hid ((RL.out.far (p := ⟨_, 0, none⟩) (by exact NE.out.2.2.2.2) (.int .i64 (arrivals N l a).1)).far (p := ⟨_, 1, none⟩) (by exact NE.out.2.2.2.2) (.int .i64 (arrivals N l a).2))
                  have T10 := T102
                  refine hK.out _ _ (MK.out _ ((HBX.out.setCell (p := ⟨_, 0, none⟩) (by first | exact Nat.le_refl _ | exact HP12) _).setCell (p := ⟨_, 1, none⟩) (by first | exact Nat.le_refl _ | exact HP12) _)) (fun hHeld => ?_)
                  try simp only [Act.put, List.getElem_toArray, List.getElem_cons_succ, List.getElem_cons_zero, List.setIfInBounds_toArray, List.set_cons_zero, List.set_cons_succ]
                  clear q0 q1 qf0 qf1 HBX hK K
                  generalize hyy : World.setCell _ _ _ = y53 at *
                  clear hyy
                  refine wpAnyH_done (by kernel_rfl) ?_ _
                  obtain ⟨-, -, -, -, -, hbb⟩ := hHeld
                  go_wp2_with fail
                  go_meet
                  exact ⟨_, _, g1, g2, rfl, rfl, HP12, T9, T10, RS, RL, hbb⟩
            · go_simp
              obtain ⟨-, -, -, -, -, HBX⟩ := hHeld
              have T10 := Lib.hid (T10.out.alloc (.cells #[.slice none 0 0, .slice none 0 0] 65))
              have HP11 := HBX.out.size
              have T9 := Lib.hid (RowV.new y44 [.slice none 0 0, .slice none 0 0] 65)
              refine hK.out _ _ (MK.out _ (HBX.out.alloc HBX.out.size _)) (fun hHeld => ?_)
              try simp only [Act.put, List.getElem_toArray, List.getElem_cons_succ, List.getElem_cons_zero, List.setIfInBounds_toArray, List.set_cons_zero, List.set_cons_succ]
              clear HBX hK K
              generalize hyy : World.alloc y44 _ = y54 at *
              clear hyy
              refine wpAnyH_ready (rs := [5]) (by kernel_rfl) (by simp) ?_
              refine AllReadyH.cons rfl (fun K hK => ?_) (AllReadyH.nil)
              · go_simp
                obtain ⟨-, -, -, -, -, HBX⟩ := hHeld
                go_at_call 95
                refine (earliest_any N _ X a _ (KN.out _ HBX.out) HE.out hXl hta.1 (by omega)).mono ?_
                rintro e' y55 ⟨g1, g2, rfl, h1, h2, hb1⟩
                have T9 := Lib.hid (T9.out.keep hb1)
                have T10 := Lib.hid (T10.out.keep hb1)
                have RS := Lib.hid h1
                have RL := Lib.hid h2
                go_wp2_with fail
                refine hK.out _ _ (MK.out _ (HBX.out.trans (hb1.mono HBX.out.size))) (fun hHeld => ?_)
                try simp only [Act.put, List.getElem_toArray, List.getElem_cons_succ, List.getElem_cons_zero, List.setIfInBounds_toArray, List.set_cons_zero, List.set_cons_succ]
                clear h1 h2 hb1 HBX hK K
                refine wpAnyH_ready (rs := [10]) (by kernel_rfl) (by simp) ?_
                refine AllReadyH.cons rfl (fun K hK => ?_) (AllReadyH.nil)
                · go_simp
                  obtain ⟨-, -, -, -, -, HBX⟩ := hHeld
                  go_at_call 91
                  refine (arrivalOf_any N _ l A c a _ (KN.out _ HBX.out) (KA.out _ HBX.out) HE.out HIN.out (by omega) hta.1 (by omega)).mono ?_
                  rintro e' y56 ⟨rfl, hb1⟩
                  have RS := Lib.hid (RS.out.keep hb1)
                  have RL := Lib.hid (RL.out.keep hb1)
                  have T9 := Lib.hid (T9.out.keep hb1)
                  have T10 := Lib.hid (T10.out.keep hb1)
                  go_wp2_with fail
                  refine hK.out _ _ (MK.out _ (HBX.out.trans (hb1.mono HBX.out.size))) (fun hHeld => ?_)
                  try simp only [Act.put, List.getElem_toArray, List.getElem_cons_succ, List.getElem_cons_zero, List.setIfInBounds_toArray, List.set_cons_zero, List.set_cons_succ]
                  clear hb1 HBX hK K
                  have ne1 := RowV.ne T9.out T10.out (by decide)
                  have ne2 := RowV.ne T9.out RS.out (by decide)
                  have ne3 := RowV.ne T9.out RL.out (by decide)
                  have ne4 := RowV.ne T10.out RS.out (by decide)
                  have ne5 := RowV.ne T10.out RL.out (by decide)
                  have NE := Lib.hid (And.intro ne1 (And.intro ne2 (And.intro ne3 (And.intro ne4 ne5))))
                  clear ne1 ne2 ne3 ne4 ne5
                  have q0 := T9.out.cell 0
                  have q1 := T9.out.cell 1
                  have qf0 := T9.out.frozen 0
                  have qf1 := T9.out.frozen 1
                  refine wpAnyH_ready (rs := [13]) (by kernel_rfl) (by simp) ?_
                  refine AllReadyH.cons rfl (fun K hK => ?_) AllReadyH.nil
                  go_simp
                  obtain ⟨-, -, -, -, -, HBX⟩ := hHeld
                  have T92 := Lib.hid ((T9.out.set 0 (.slice (some ⟨g1, 0, none⟩) N.places.length N.places.length)).set 1 (.slice (some ⟨g2, 0, none⟩) N.places.length N.places.length))
                  have T10 := Lib.hid ((T10.out.far (p := ⟨_, 0, none⟩) (by exact NE.out.1) (.slice (some ⟨g1, 0, none⟩) N.places.length N.places.length)).far (p := ⟨_, 1, none⟩) (by exact NE.out.1) (.slice (some ⟨g2, 0, none⟩) N.places.length N.places.length))
                  have RS := Lib.hid ((RS.out.far (p := ⟨_, 0, none⟩) (by exact NE.out.2.1) (.slice (some ⟨g1, 0, none⟩) N.places.length N.places.length)).far (p := ⟨_, 1, none⟩) (by exact NE.out.2.1) (.slice (some ⟨g2, 0, none⟩) N.places.length N.places.length))
                  have RL := Lib.hid ((RL.out.far (p := ⟨_, 0, none⟩) (by exact NE.out.2.2.1) (.slice (some ⟨g1, 0, none⟩) N.places.length N.places.length)).far (p := ⟨_, 1, none⟩) (by exact NE.out.2.2.1) (.slice (some ⟨g2, 0, none⟩) N.places.length N.places.length))
                  have T9 := T92
                  refine hK.out _ _ (MK.out _ ((HBX.out.setCell (p := ⟨_, 0, none⟩) (by first | exact Nat.le_refl _ | exact HP11) _).setCell (p := ⟨_, 1, none⟩) (by first | exact Nat.le_refl _ | exact HP11) _)) (fun hHeld => ?_)
                  try simp only [Act.put, List.getElem_toArray, List.getElem_cons_succ, List.getElem_cons_zero, List.setIfInBounds_toArray, List.set_cons_zero, List.set_cons_succ]
                  clear q0 q1 qf0 qf1 HBX hK K
                  generalize hyy : World.setCell _ _ _ = y57 at *
                  clear hyy
                  have q0 := T10.out.cell 0
                  have q1 := T10.out.cell 1
                  have qf0 := T10.out.frozen 0
                  have qf1 := T10.out.frozen 1
                  refine wpAnyH_ready (rs := [14]) (by kernel_rfl) (by simp) ?_
                  refine AllReadyH.cons rfl (fun K hK => ?_) AllReadyH.nil
                  go_simp
                  obtain ⟨-, -, -, -, -, HBX⟩ := hHeld
                  have T102 := Lib.hid ((T10.out.set 0 (.int .i64 (arrivals N l a).1)).set 1 (.int .i64 (arrivals N l a).2))
                  have T9 := Lib.hid ((T9.out.far (p := ⟨_, 0, none⟩) (by exact (Ne.symm NE.out.1)) (.int .i64 (arrivals N l a).1)).far (p := ⟨_, 1, none⟩) (by exact (Ne.symm NE.out.1)) (.int .i64 (arrivals N l a).2))
                  have RS := Lib.hid ((RS.out.far (p := ⟨_, 0, none⟩) (by exact NE.out.2.2.2.1) (.int .i64 (arrivals N l a).1)).far (p := ⟨_, 1, none⟩) (by exact NE.out.2.2.2.1) (.int .i64 (arrivals N l a).2))
                  have RL := Lib.hid ((RL.out.far (p := ⟨_, 0, none⟩) (by exact NE.out.2.2.2.2) (.int .i64 (arrivals N l a).1)).far (p := ⟨_, 1, none⟩) (by exact NE.out.2.2.2.2) (.int .i64 (arrivals N l a).2))
                  have T10 := T102
                  refine hK.out _ _ (MK.out _ ((HBX.out.setCell (p := ⟨_, 0, none⟩) (by first | exact Nat.le_refl _ | exact HP12) _).setCell (p := ⟨_, 1, none⟩) (by first | exact Nat.le_refl _ | exact HP12) _)) (fun hHeld => ?_)
                  try simp only [Act.put, List.getElem_toArray, List.getElem_cons_succ, List.getElem_cons_zero, List.setIfInBounds_toArray, List.set_cons_zero, List.set_cons_succ]
                  clear q0 q1 qf0 qf1 HBX hK K
                  generalize hyy : World.setCell _ _ _ = y58 at *
                  clear hyy
                  refine wpAnyH_done (by kernel_rfl) ?_ _
                  obtain ⟨-, -, -, -, -, hbb⟩ := hHeld
                  go_wp2_with fail
                  go_meet
                  exact ⟨_, _, g1, g2, rfl, rfl, HP12, T9, T10, RS, RL, hbb⟩
        case rest =>
          obtain ⟨p9, p10, g1, g2, rfl, rfl, hp10, T9, T10, RS, RL, HB⟩ := hcut
          have hw7 := HW.out.size
          have hj := along_joins (search_found (net_joined HE.out) (latest_good HE.out) hXl hta.1) (net_joined HE.out) (latest_good HE.out) hXl hta.1 HQ.out HJ.out
          have hi := along_joins (search_found (net_joined HE.out) (soonest_good HE.out) hXl hta.1) (net_joined HE.out) (soonest_good HE.out) hXl hta.1 HQ.out HJ.out
          have hj1 := (search_found (net_joined HE.out) (latest_good HE.out) hXl hta.1).least Y hYl
          have hi1 := (search_found (net_joined HE.out) (soonest_good HE.out) hXl hta.1).least Y hYl
          have ha1 := alongTo_le (soonest_small HE.out) HIN.out hta.1 l.length (Nat.le_refl _)
          have ha2 := alongTo_le (latest_small HE.out) HIN.out hta.1 l.length (Nat.le_refl _)
          have q2 := RS.out.int (i := Y) (by rw [search_len.1]; exact hYl)
          have q3 := RL.out.int (i := Y) (by rw [search_len.1]; exact hYl)
          obtain ⟨q4, q5⟩ := And.intro (T9.out.cell 0) (T9.out.cell 1)
          obtain ⟨q6, q7⟩ := And.intro (T10.out.cell 0) (T10.out.cell 1)
          have F' := Lib.hid (show detour N X Y a l = ((over (arrivals N l a).1 (listI (search N X a (latest N)).labels Y), over (arrivals N l a).2 (listI (search N X a (soonest N)).labels Y)), 0) from HF.out)
          have BVx := BV.out.keep HB.out
          have ng1 : g1 ≠ w.heap.size + 1 + 1 := RowV.ne RS.out BVx (by decide)
          have ng2 : g2 ≠ w.heap.size + 1 + 1 := RowV.ne RL.out BVx (by decide)
          have n9 : p9 ≠ w.heap.size + 1 + 1 := RowV.ne T9.out BVx (by decide)
          have hRl := BV.out.lt
          have n10 : p10 ≠ w.heap.size + 1 + 1 := by omega
          have BR2 := Lib.hid (BR.out.keep HB.out)
          have c1' := Keep.below HB.out _ _ c1
          have HX := Lib.hid (HW.out.trans (HB.out.mono HW.out.size))
          clear BVx hRl hp10 RS RL T9 T10 n0 n1 c0 c1 c2 HF BV
          rw [show (arrivals N l a).1 = alongTo (soonest N) l.length l a from rfl, show (arrivals N l a).2 = alongTo (latest N) l.length l a from rfl] at *
          generalize alongTo (soonest N) l.length l a = x1 at *
          generalize alongTo (latest N) l.length l a = x2 at *
          generalize listI (search N X a (soonest N)).labels Y = y1 at *
          generalize listI (search N X a (latest N)).labels Y = y2 at *
          have hw1 : IntKind.i64.wrap (x1 - y2) = x1 - y2 := by rw [IntKind.wrap_i64]; omega
          have hw2 : IntKind.i64.wrap (x2 - y1) = x2 - y1 := by rw [IntKind.wrap_i64]; omega
          have hYn : (Y : Int) < (N.places.length : Int) := by omega
          clear hj hi hj1 hi1 ha1 ha2 HE HQ HIN HJ
          generalize hwy : wc = wy at *
          clear hwy
          have MK : Hid (∀ w', Below wy.heap.size wy w' → w'.cell? ⟨p9, 0, none⟩ = some (.slice (some ⟨g1, 0, none⟩) N.places.length N.places.length) ∧ w'.cell? ⟨p9, 1, none⟩ = some (.slice (some ⟨g2, 0, none⟩) N.places.length N.places.length) ∧ w'.cell? ⟨p10, 0, none⟩ = some (.int .i64 x1) ∧ w'.cell? ⟨p10, 1, none⟩ = some (.int .i64 x2) ∧ w'.cell? ⟨g1, Y, none⟩ = some (.int .i64 y1) ∧ w'.cell? ⟨g2, Y, none⟩ = some (.int .i64 y2) ∧ w'.cell? ⟨w.heap.size + 1, 1, none⟩ = some (.int .i64 Y)) := Lib.hid fun w' hw => ⟨Keep.below hw _ _ q4, Keep.below hw _ _ q5, Keep.below hw _ _ q6, Keep.below hw _ _ q7, Keep.below hw _ _ q2, Keep.below hw _ _ q3, Keep.below hw _ _ c1'⟩
          have HBd : Hid (Below wy.heap.size wy wy.drew) := Lib.hid (Below.refl _ _).drew
          have SK : Hid (∀ (w' : World) (i : Nat) (x : Value), w'.cell? ⟨p9, 0, none⟩ = some (.slice (some ⟨g1, 0, none⟩) N.places.length N.places.length) ∧ w'.cell? ⟨p9, 1, none⟩ = some (.slice (some ⟨g2, 0, none⟩) N.places.length N.places.length) ∧ w'.cell? ⟨p10, 0, none⟩ = some (.int .i64 x1) ∧ w'.cell? ⟨p10, 1, none⟩ = some (.int .i64 x2) ∧ w'.cell? ⟨g1, Y, none⟩ = some (.int .i64 y1) ∧ w'.cell? ⟨g2, Y, none⟩ = some (.int .i64 y2) ∧ w'.cell? ⟨w.heap.size + 1, 1, none⟩ = some (.int .i64 Y) → (w'.setCell ⟨w.heap.size + 1 + 1, i, none⟩ x).cell? ⟨p9, 0, none⟩ = some (.slice (some ⟨g1, 0, none⟩) N.places.length N.places.length) ∧ (w'.setCell ⟨w.heap.size + 1 + 1, i, none⟩ x).cell? ⟨p9, 1, none⟩ = some (.slice (some ⟨g2, 0, none⟩) N.places.length N.places.length) ∧ (w'.setCell ⟨w.heap.size + 1 + 1, i, none⟩ x).cell? ⟨p10, 0, none⟩ = some (.int .i64 x1) ∧ (w'.setCell ⟨w.heap.size + 1 + 1, i, none⟩ x).cell? ⟨p10, 1, none⟩ = some (.int .i64 x2) ∧ (w'.setCell ⟨w.heap.size + 1 + 1, i, none⟩ x).cell? ⟨g1, Y, none⟩ = some (.int .i64 y1) ∧ (w'.setCell ⟨w.heap.size + 1 + 1, i, none⟩ x).cell? ⟨g2, Y, none⟩ = some (.int .i64 y2) ∧ (w'.setCell ⟨w.heap.size + 1 + 1, i, none⟩ x).cell? ⟨w.heap.size + 1, 1, none⟩ = some (.int .i64 Y)) := Lib.hid fun w' i x h => by
            obtain ⟨h1, h2, h3, h4, h5, h6, h7⟩ := h
            have nt : w.heap.size + 1 ≠ w.heap.size + 1 + 1 := by omega
            exact ⟨(World.cell?_setCell_other _ _ _ _ (fun e => n9 (by injection e with e; exact e.symm))).trans h1, (World.cell?_setCell_other _ _ _ _ (fun e => n9 (by injection e with e; exact e.symm))).trans h2, (World.cell?_setCell_other _ _ _ _ (fun e => n10 (by injection e with e; exact e.symm))).trans h3, (World.cell?_setCell_other _ _ _ _ (fun e => n10 (by injection e with e; exact e.symm))).trans h4, (World.cell?_setCell_other _ _ _ _ (fun e => ng1 (by injection e with e; exact e.symm))).trans h5, (World.cell?_setCell_other _ _ _ _ (fun e => ng2 (by injection e with e; exact e.symm))).trans h6, (World.cell?_setCell_other _ _ _ _ (fun e => nt (by injection e with e; exact e.symm))).trans h7⟩
          have BR3 := Lib.hid (BR2.out.keep HBd.out)
          have HX3 := Lib.hid (HX.out.trans (HBd.out.mono HX.out.size))
          clear q2 q3 q4 q5 q6 q7 c1' BR BR3
          go_wp2_with fail
          refine wp_region_held_drew (S := fun w' => w'.cell? ⟨p9, 0, none⟩ = some (.slice (some ⟨g1, 0, none⟩) N.places.length N.places.length) ∧ w'.cell? ⟨p9, 1, none⟩ = some (.slice (some ⟨g2, 0, none⟩) N.places.length N.places.length) ∧ w'.cell? ⟨p10, 0, none⟩ = some (.int .i64 x1) ∧ w'.cell? ⟨p10, 1, none⟩ = some (.int .i64 x2) ∧ w'.cell? ⟨g1, Y, none⟩ = some (.int .i64 y1) ∧ w'.cell? ⟨g2, Y, none⟩ = some (.int .i64 y2) ∧ w'.cell? ⟨w.heap.size + 1, 1, none⟩ = some (.int .i64 Y)) (by kernel_rfl) (MK.out _ HBd.out) (fun hHeld => ?_)
          refine wpAnyH_take (i := 0) (v := ?val0x10) rfl (by kernel_rfl) (by kernel_rfl) (by kernel_rfl) (fun _ _ _ h => h) (Or.inl ⟨by rfl, fun w9 hS9 => ?yields0x10⟩) (by assumption) ?later0x10
          case yields0x10 =>
            dsimp only at hS9
            go_simp
            try with_reducible rfl
          try simp only [Act.put, List.getElem_toArray, List.getElem_cons_succ, List.getElem_cons_zero, List.setIfInBounds_toArray, List.set_cons_zero, List.set_cons_succ]
          refine wpAnyH_take (i := 1) (v := ?val1x11) rfl (by kernel_rfl) (by kernel_rfl) (by kernel_rfl) (fun _ _ _ h => h) (Or.inl ⟨by rfl, fun w9 hS9 => ?yields1x11⟩) (by assumption) ?later1x11
          case yields1x11 =>
            dsimp only at hS9
            go_simp
            try with_reducible rfl
          try simp only [Act.put, List.getElem_toArray, List.getElem_cons_succ, List.getElem_cons_zero, List.setIfInBounds_toArray, List.set_cons_zero, List.set_cons_succ]
          refine wpAnyH_take (i := 2) (v := ?val2x12) rfl (by kernel_rfl) (by kernel_rfl) (by kernel_rfl) (fun _ _ _ h => h) (Or.inl ⟨by rfl, fun w9 hS9 => ?yields2x12⟩) (by assumption) ?later2x12
          case yields2x12 =>
            dsimp only at hS9
            go_simp
            try with_reducible rfl
          try simp only [Act.put, List.getElem_toArray, List.getElem_cons_succ, List.getElem_cons_zero, List.setIfInBounds_toArray, List.set_cons_zero, List.set_cons_succ]
          refine wpAnyH_take (i := 3) (v := ?val3x13) rfl (by kernel_rfl) (by kernel_rfl) (by kernel_rfl) (fun _ _ _ h => h) (Or.inl ⟨by rfl, fun w9 hS9 => ?yields3x13⟩) (by assumption) ?later3x13
          case yields3x13 =>
            dsimp only at hS9
            go_simp
            try with_reducible rfl
          try simp only [Act.put, List.getElem_toArray, List.getElem_cons_succ, List.getElem_cons_zero, List.setIfInBounds_toArray, List.set_cons_zero, List.set_cons_succ]
          refine wpAnyH_take (i := 4) (v := ?val4x14) rfl (by kernel_rfl) (by kernel_rfl) (by kernel_rfl) (fun _ _ _ h => h) (Or.inl ⟨by rfl, fun w9 hS9 => ?yields4x14⟩) (by assumption) ?later4x14
          case yields4x14 =>
            dsimp only at hS9
            go_simp
            try with_reducible rfl
          try simp only [Act.put, List.getElem_toArray, List.getElem_cons_succ, List.getElem_cons_zero, List.setIfInBounds_toArray, List.set_cons_zero, List.set_cons_succ]
          refine wpAnyH_take (i := 5) (v := ?val5x15) rfl (by kernel_rfl) (by kernel_rfl) (by kernel_rfl) (fun _ _ _ h => h) (Or.inl ⟨by rfl, fun w9 hS9 => ?yields5x15⟩) (by assumption) ?later5x15
          case yields5x15 =>
            dsimp only at hS9
            go_simp
            try with_reducible rfl
          try simp only [Act.put, List.getElem_toArray, List.getElem_cons_succ, List.getElem_cons_zero, List.setIfInBounds_toArray, List.set_cons_zero, List.set_cons_succ]
          refine wpAnyH_take (i := 6) (v := ?val6x16) rfl (by kernel_rfl) (by kernel_rfl) (by kernel_rfl) (fun _ _ _ h => h) (Or.inl ⟨by rfl, fun w9 hS9 => ?yields6x16⟩) (by assumption) ?later6x16
          case yields6x16 =>
            dsimp only at hS9
            go_simp
            try with_reducible rfl
          try simp only [Act.put, List.getElem_toArray, List.getElem_cons_succ, List.getElem_cons_zero, List.setIfInBounds_toArray, List.set_cons_zero, List.set_cons_succ]
          refine wpAnyH_take (i := 7) (v := ?val7x17) rfl (by kernel_rfl) (by kernel_rfl) (by kernel_rfl) (fun _ _ _ h => h) (Or.inl ⟨by rfl, fun w9 hS9 => ?yields7x17⟩) (by assumption) ?later7x17
          case yields7x17 =>
            dsimp only at hS9
            go_simp
            try with_reducible rfl
          try simp only [Act.put, List.getElem_toArray, List.getElem_cons_succ, List.getElem_cons_zero, List.setIfInBounds_toArray, List.set_cons_zero, List.set_cons_succ]
          refine wpAnyH_take (i := 8) (v := ?val8x18) rfl (by kernel_rfl) (by kernel_rfl) (by kernel_rfl) (fun _ _ _ h => h) (Or.inl ⟨by rfl, fun w9 hS9 => ?yields8x18⟩) (by assumption) ?later8x18
          case yields8x18 =>
            dsimp only at hS9
            go_simp
            try with_reducible rfl
          try simp only [Act.put, List.getElem_toArray, List.getElem_cons_succ, List.getElem_cons_zero, List.setIfInBounds_toArray, List.set_cons_zero, List.set_cons_succ]
          refine wpAnyH_take (i := 9) (v := ?val9x19) rfl (by kernel_rfl) (by kernel_rfl) (by kernel_rfl) (fun _ _ _ h => h) (Or.inl ⟨by rfl, fun w9 hS9 => ?yields9x19⟩) (by assumption) ?later9x19
          case yields9x19 =>
            dsimp only at hS9
            go_simp
            try with_reducible rfl
          try simp only [Act.put, List.getElem_toArray, List.getElem_cons_succ, List.getElem_cons_zero, List.setIfInBounds_toArray, List.set_cons_zero, List.set_cons_succ]
          refine wpAnyH_take (i := 10) (v := ?val10x20) rfl (by kernel_rfl) (by kernel_rfl) (by kernel_rfl) (fun _ _ _ h => h) (Or.inl ⟨by rfl, fun w9 hS9 => ?yields10x20⟩) (by assumption) ?later10x20
          case yields10x20 =>
            dsimp only at hS9
            go_simp
            try with_reducible rfl
          try simp only [Act.put, List.getElem_toArray, List.getElem_cons_succ, List.getElem_cons_zero, List.setIfInBounds_toArray, List.set_cons_zero, List.set_cons_succ]
          refine wpAnyH_take (i := 11) (v := ?val11x21) rfl (by kernel_rfl) (by kernel_rfl) (by kernel_rfl) (fun _ _ _ h => h) (Or.inl ⟨by rfl, fun w9 hS9 => ?yields11x21⟩) (by assumption) ?later11x21
          case yields11x21 =>
            dsimp only at hS9
            go_simp
            try with_reducible rfl
          try simp only [Act.put, List.getElem_toArray, List.getElem_cons_succ, List.getElem_cons_zero, List.setIfInBounds_toArray, List.set_cons_zero, List.set_cons_succ]
          refine wpAnyH_take (i := 12) (v := ?val12x22) rfl (by kernel_rfl) (by kernel_rfl) (by kernel_rfl) (fun _ _ _ h => h) (Or.inl ⟨by rfl, fun w9 hS9 => ?yields12x22⟩) (by assumption) ?later12x22
          case yields12x22 =>
            dsimp only at hS9
            go_simp
            try with_reducible rfl
          try simp only [Act.put, List.getElem_toArray, List.getElem_cons_succ, List.getElem_cons_zero, List.setIfInBounds_toArray, List.set_cons_zero, List.set_cons_succ]
          refine wpAnyH_take (i := 13) (v := ?val13x23) rfl (by kernel_rfl) (by kernel_rfl) (by kernel_rfl) (fun _ _ _ h => h) (Or.inl ⟨by rfl, fun w9 hS9 => ?yields13x23⟩) (by assumption) ?later13x23
          case yields13x23 =>
            dsimp only at hS9
            go_simp
            try with_reducible rfl
          try simp only [Act.put, List.getElem_toArray, List.getElem_cons_succ, List.getElem_cons_zero, List.setIfInBounds_toArray, List.set_cons_zero, List.set_cons_succ]
          refine wpAnyH_take (i := 14) (v := ?val14x24) rfl (by kernel_rfl) (by kernel_rfl) (by kernel_rfl) (fun _ _ _ h => h) (Or.inl ⟨by rfl, fun w9 hS9 => ?yields14x24⟩) (by assumption) ?later14x24
          case yields14x24 =>
            dsimp only at hS9
            go_simp
            try with_reducible rfl
          try simp only [Act.put, List.getElem_toArray, List.getElem_cons_succ, List.getElem_cons_zero, List.setIfInBounds_toArray, List.set_cons_zero, List.set_cons_succ]
          refine wpAnyH_take (i := 15) (v := ?val15x25) rfl (by kernel_rfl) (by kernel_rfl) (by kernel_rfl) (fun _ _ _ h => h) (Or.inl ⟨by rfl, fun w9 hS9 => ?yields15x25⟩) (by assumption) ?later15x25
          case yields15x25 =>
            dsimp only at hS9
            go_simp
            try with_reducible rfl
          try simp only [Act.put, List.getElem_toArray, List.getElem_cons_succ, List.getElem_cons_zero, List.setIfInBounds_toArray, List.set_cons_zero, List.set_cons_succ]
          refine wpAnyH_take (i := 16) (v := ?val16x26) rfl (by kernel_rfl) (by kernel_rfl) (by kernel_rfl) (fun _ _ _ h => h) (Or.inl ⟨by rfl, fun w9 hS9 => ?yields16x26⟩) (by assumption) ?later16x26
          case yields16x26 =>
            dsimp only at hS9
            go_simp
            try with_reducible rfl
          try simp only [Act.put, List.getElem_toArray, List.getElem_cons_succ, List.getElem_cons_zero, List.setIfInBounds_toArray, List.set_cons_zero, List.set_cons_succ]
          refine wpAnyH_take (i := 17) (v := ?val17x27) rfl (by kernel_rfl) (by kernel_rfl) (by kernel_rfl) (fun _ _ _ h => h) (Or.inl ⟨by rfl, fun w9 hS9 => ?yields17x27⟩) (by assumption) ?later17x27
          case yields17x27 =>
            dsimp only at hS9
            go_simp
            try with_reducible rfl
          try simp only [Act.put, List.getElem_toArray, List.getElem_cons_succ, List.getElem_cons_zero, List.setIfInBounds_toArray, List.set_cons_zero, List.set_cons_succ]
          refine wpAnyH_take (i := 18) (v := ?val18x28) rfl (by kernel_rfl) (by kernel_rfl) (by kernel_rfl) (fun _ _ _ h => h) (Or.inl ⟨by rfl, fun w9 hS9 => ?yields18x28⟩) (by assumption) ?later18x28
          case yields18x28 =>
            dsimp only at hS9
            go_simp
            try with_reducible rfl
          try simp only [Act.put, List.getElem_toArray, List.getElem_cons_succ, List.getElem_cons_zero, List.setIfInBounds_toArray, List.set_cons_zero, List.set_cons_succ]
          refine wpAnyH_take (i := 19) (v := ?val19x29) rfl (by kernel_rfl) (by kernel_rfl) (by kernel_rfl) (fun _ _ _ h => h) (Or.inl ⟨by rfl, fun w9 hS9 => ?yields19x29⟩) (by assumption) ?later19x29
          case yields19x29 =>
            dsimp only at hS9
            go_simp
            try with_reducible rfl
          try simp only [Act.put, List.getElem_toArray, List.getElem_cons_succ, List.getElem_cons_zero, List.setIfInBounds_toArray, List.set_cons_zero, List.set_cons_succ]
          refine wpAnyH_take (i := 20) (v := ?val20x30) rfl (by kernel_rfl) (by kernel_rfl) (by kernel_rfl) (fun _ _ _ h => h) (Or.inl ⟨by rfl, fun w9 hS9 => ?yields20x30⟩) (by assumption) ?later20x30
          case yields20x30 =>
            dsimp only at hS9
            go_simp
            try with_reducible rfl
          try simp only [Act.put, List.getElem_toArray, List.getElem_cons_succ, List.getElem_cons_zero, List.setIfInBounds_toArray, List.set_cons_zero, List.set_cons_succ]
          obtain ⟨r0, r1, rf0, rf1⟩ := BR2.out
          refine wpAnyH_ready (rs := [21]) (by kernel_rfl) (by simp) ?_
          refine AllReadyH.cons rfl (fun K hK => ?_) AllReadyH.nil
          go_simp
          refine hK.out _ _ (SK.out _ _ _ (SK.out _ _ _ hHeld)) (fun hHeld => ?_)
          try simp only [Act.put, List.getElem_toArray, List.getElem_cons_succ, List.getElem_cons_zero, List.setIfInBounds_toArray, List.set_cons_zero, List.set_cons_succ]
          refine wpAnyH_take (i := 22) (v := ?val22x31) rfl (by kernel_rfl) (by kernel_rfl) (by kernel_rfl) (fun _ _ _ h => h) (Or.inl ⟨by rfl, fun w9 hS9 => ?yields22x31⟩) (by assumption) ?later22x31
          case yields22x31 =>
            dsimp only at hS9
            go_simp
            try with_reducible rfl
          try simp only [Act.put, List.getElem_toArray, List.getElem_cons_succ, List.getElem_cons_zero, List.setIfInBounds_toArray, List.set_cons_zero, List.set_cons_succ]
          refine wpAnyH_done (by kernel_rfl) ?_ _
          go_wp2_with fail
          refine bodyPost_ret (v := .tuple #[.agg #[.int .i64 (over x1 y2), .int .i64 (over x2 y1)], .int .i64 0]) (by simp [results, Try.results48, go_sem, r0, r1, over]) rfl ⟨by rw [F'.out], ?_⟩
          exact (HX3.out.setCell (p := ⟨w.heap.size + 1 + 1, 0, none⟩) (by dsimp only; omega) _).setCell (p := ⟨w.heap.size + 1 + 1, 1, none⟩) (by dsimp only; omega) _
      · have F := Lib.hid (HF0.out.trans (if_neg hj))
        rw [show decide (JoinsIs N l X Y) = false from decide_eq_false hj]
        clear hj
        obtain ⟨r0, r1, rf0, rf1⟩ := BR.out
        go_wp2_with fail
        refine bodyPost_ret (v := .tuple #[.agg #[.int .i64 0, .int .i64 0], .int .i64 13]) (by simp [results, Try.results48, go_sem, r0, r1]) rfl ⟨by rw [F.out], ?_⟩
        exact (HW.out.setCell (p := ⟨w.heap.size + 1 + 1, 0, none⟩) (by dsimp only; omega) _).setCell (p := ⟨w.heap.size + 1 + 1, 1, none⟩) (by dsimp only; omega) _
    · have F := Lib.hid (show detour N f t a l = ((0, 0), dtErr N f t a l) from if_neg he)
      have e1 : (dtErr N f t a l == 0) = false := by simpa using he
      have e2 : (dtErr N f t a l != 0) = true := by simpa using he
      clear he
      obtain ⟨r0, r1, rf0, rf1⟩ := BR.out
      go_wp2_with fail
      refine bodyPost_ret (v := .tuple #[.agg #[.int .i64 0, .int .i64 0], .int .i64 (dtErr N f t a l)]) (by simp [results, Try.results48, go_sem, r0, r1]) rfl ⟨by rw [F.out], ?_⟩
      exact (HW.out.setCell (p := ⟨w.heap.size + 1 + 1, 0, none⟩) (by dsimp only; omega) _).setCell (p := ⟨w.heap.size + 1 + 1, 1, none⟩) (by dsimp only; omega) _
end Go.Proofs.Ythipneggplebcaa

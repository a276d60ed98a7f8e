/- Which labels are accepted, and their bound, as the reference tells it. Conditions: the net is right; the trip is right. -/
import Derived.Test.YthipneggplebcaaT62
import Derived.Test.YthipneggplebcaaT58p
namespace Go.Proofs.Ythipneggplebcaa
open Go.RowKit Fs

theorem Fs.labErr_shape {N : Net} {l m : List Int} (h : ¬ (l.length = N.places.length ∧ m.length = N.places.length)) : labErr N [l, m] = 10 := by
  unfold labErr
  refine if_neg (fun h1 => h ⟨h1 0 (by show 0 < 2; decide), h1 1 (by show 1 < 2; decide)⟩)
theorem Fs.labErr_range {N : Net} {l m : List Int} (h1 : l.length = N.places.length) (h2 : m.length = N.places.length) (h : ¬ (LabIn l ∧ LabIn m)) : labErr N [l, m] = 2 := by
  have hf : LabFit N [l, m] := fun i hi => by
    have hi : i < 2 := hi
    match i, hi with
    | 0, _ => exact h1
    | 1, _ => exact h2
  unfold labErr
  rw [if_pos hf, flat_two, if_neg (fun h' => h (labIn_app.1 h'))]
theorem Fs.labErr_fine {N : Net} {l m : List Int} (h1 : l.length = N.places.length) (h2 : m.length = N.places.length) (h3 : LabIn l) (h4 : LabIn m) : labErr N [l, m] = 0 := labErr_two.2 ⟨h1, h2, h3, h4⟩
theorem ret_i64 {a b : Int} (h : a = b) : Ending.returned (.int .i64 a) = .returned (.int .i64 b) := by rw [h]

set_option maxHeartbeats 3200000 in
set_option maxRecDepth 100000 in
theorem rLabelsErr_any (N : Net) (v : Value) (l m : List Int) (A B : Option Addr) (c d : Nat) (w : World) (hN : RdNet w v N) (hA : ArrI w A l c) (hB : ArrI w B m d) :
    Calls Try.prog 105 #[v, .agg #[.slice A l.length c, .slice B m.length d]] w fun e w' => e = .returned (.int .i64 (labErr N [l, m])) ∧ Below w.heap.size w w' := by
  obtain ⟨P, R, pc, rc, ar, rfl, mm⟩ := hN
  have pb1 := mm.places.le.1
  have pb2 := mm.places.le.2
  clear mm
  have b1 := hA.le.1
  have b2 := hA.le.2
  have b3 := hB.le.1
  have b4 := hB.le.2
  have HA := Lib.hid hA
  have HBB := Lib.hid hB
  clear hA hB
  have BN := Lib.hid ((BoxN.new w N P R pc rc 25).keep (Keep.alloc _ (.cells #[.slice A l.length c, .slice B m.length d] 65)))
  have BL := Lib.hid (show TreeAt ((w.alloc (.cells #[.slice P N.places.length pc, .slice R N.roads.length rc] 25)).alloc (.cells #[.slice A l.length c, .slice B m.length d] 65)) (w.heap.size + 1) (.slice A l.length c) (.slice B m.length d) from by
    have := TreeAt.new (w.alloc (.cells #[.slice P N.places.length pc, .slice R N.roads.length rc] 25)) (.slice A l.length c) (.slice B m.length d) 65
    simpa using this)
  go_enter Try.func105, Try.ntmps105
  go_upto_region 1 with fail
  generalize hwb : (w.alloc _).alloc _ = wb at *
  have HW : Hid (Below w.heap.size w wb) := by rw [← hwb]; exact Lib.hid (((Below.refl _ _).alloc (Nat.le_refl _) _).alloc (by simp) _)
  clear hwb
  obtain ⟨n0, n1⟩ := BN.out
  obtain ⟨l0, l1, -, -⟩ := BL.out
  have HAW := Lib.hid (HA.out.keep (Keep.below HW.out))
  have HBW := Lib.hid (HBB.out.keep (Keep.below HW.out))
  by_cases hl : l.length = N.places.length
  · have e1 : ((l.length : Int) == (N.places.length : Int)) = true := by rw [hl]; simp
    have e2 : ((l.length : Int) != (N.places.length : Int)) = false := by rw [hl]; simp
    have HLL := Lib.hid hl
    clear hl
    by_cases hm : m.length = N.places.length
    · have e3 : ((m.length : Int) == (N.places.length : Int)) = true := by rw [hm]; simp
      have e4 : ((m.length : Int) != (N.places.length : Int)) = false := by rw [hm]; simp
      have HML := Lib.hid hm
      clear hm
      go_wp2_with fail
      clear e1 e2 e3 e4
      go_loop [5] (fun i => ∃ k : Nat, k ≤ N.places.length ∧ i = .int .i64 k ∧ Hid (∀ j, j < k → within (listI l j) (-1) 1000000000000000 = true ∧ within (listI m j) (-1) 1000000000000000 = true)) (fun i => N.places.length - (intOf i).toNat)
      case atStart => exact ⟨0, Nat.zero_le _, rfl, Lib.hid (fun j hj => absurd hj (Nat.not_lt_zero _))⟩
      case round =>
        obtain ⟨k, hk, rfl, Hn⟩ := hrel
        by_cases hlt : k < N.places.length
        · have hkl : k < l.length := by have := HLL.out; omega
          have hkm : k < m.length := by have := HML.out; omega
          obtain ⟨b, o, rfl, q0⟩ := HAW.out.at_ hkl
          obtain ⟨b', o', rfl, q1⟩ := HBW.out.at_ hkm
          have hkn : (k : Int) < (N.places.length : Int) := by omega
          have hkn1 : (k : Int) < (l.length : Int) := by omega
          have hkn2 : (k : Int) < (m.length : Int) := by omega
          cases hp : within (listI l k) (-1) 1000000000000000 with
          | false =>
            have F := Lib.hid (labErr_range HLL.out HML.out (fun h => by have := h.1 k hkl; rw [hp] at this; cases this))
            have Z := Lib.hid hp
            clear hp
            go_wp2_with fail
            refine (bwithin_any _ _ _ _).mono ?_
            rintro e w' ⟨rfl, rfl⟩
            rw [Z.out]
            go_wp2_with fail
            go_ret
            exact ⟨ret_int F.out.symm, HW.out⟩
          | true =>
            have Z := Lib.hid hp
            clear hp
            cases hp : within (listI m k) (-1) 1000000000000000 with
            | false =>
              have F := Lib.hid (labErr_range HLL.out HML.out (fun h => by have := h.2 k hkm; rw [hp] at this; cases this))
              have Y := Lib.hid hp
              clear hp
              go_wp2_with fail
              refine (bwithin_any _ _ _ _).mono ?_
              rintro e w' ⟨rfl, rfl⟩
              rw [Z.out]
              go_wp2_with fail
              refine (bwithin_any _ _ _ _).mono ?_
              rintro e w' ⟨rfl, rfl⟩
              rw [Y.out]
              go_wp2_with fail
              go_ret
              exact ⟨ret_int F.out.symm, HW.out⟩
            | true =>
              have F : Hid (∀ j, j < k + 1 → within (listI l j) (-1) 1000000000000000 = true ∧ within (listI m j) (-1) 1000000000000000 = true) := Lib.hid fun j hj => by
                by_cases e : j = k
                · subst e; exact ⟨Z.out, hp⟩
                · exact Hn.out j (by omega)
              have Y := Lib.hid hp
              clear hp
              go_wp2_with fail
              refine (bwithin_any _ _ _ _).mono ?_
              rintro e w' ⟨rfl, rfl⟩
              rw [Z.out]
              go_wp2_with fail
              refine (bwithin_any _ _ _ _).mono ?_
              rintro e w' ⟨rfl, rfl⟩
              rw [Y.out]
              go_wp2_with fail
              go_round
              case rel => exact ⟨k + 1, by omega, by go_num, F⟩
              case measure => simp [intOf]; omega
        · have F := Lib.hid (labErr_fine HLL.out HML.out (fun j hj => (Hn.out j (by have := HLL.out; omega)).1) (fun j hj => (Hn.out j (by have := HML.out; omega)).2))
          obtain rfl : k = N.places.length := by omega
          clear hlt hk
          go_wp2_with fail
          go_ret
          exact ⟨ret_int F.out.symm, HW.out⟩
    · have hm' : ¬ (m.length : Int) = (N.places.length : Int) := by omega
      have e3 : ((m.length : Int) == (N.places.length : Int)) = false := by simpa using hm'
      have e4 : ((m.length : Int) != (N.places.length : Int)) = true := by simpa using hm'
      have F := Lib.hid (labErr_shape (N := N) (l := l) (m := m) (fun h => hm h.2))
      clear hm hm'
      go_wp2_with fail
      go_ret
      exact ⟨ret_int F.out.symm, HW.out⟩
  · have hl' : ¬ (l.length : Int) = (N.places.length : Int) := by omega
    have e1 : ((l.length : Int) == (N.places.length : Int)) = false := by simpa using hl'
    have e2 : ((l.length : Int) != (N.places.length : Int)) = true := by simpa using hl'
    have F := Lib.hid (labErr_shape (N := N) (l := l) (m := m) (fun h => hl h.1))
    clear hl hl'
    go_wp2_with fail
    go_ret
    exact ⟨ret_int F.out.symm, HW.out⟩

/-- What the reference says of labels. -/
def Fs.rcl (N : Net) (X Y : Nat) (a : Int) (l m : List Int) : (Int × Int) × Int := if labErr N [l, m] = 0 then clRes N X Y a l m else ((0, 0), labErr N [l, m])
set_option maxHeartbeats 6400000 in
set_option maxRecDepth 100000 in
theorem rCheckLabels_any (N : Net) (v : Value) (X Y : Nat) (a : Int) (l m : List Int) (A B : Option Addr) (c d : Nat) (w : World) (hN : RdNet w v N) (hA : ArrI w A l c) (hB : ArrI w B m d) (hE : netErr N = 0) (hX : X < N.places.length) (hY : Y < N.places.length) :
    Calls Try.prog 46 #[v, stripV X Y a, .agg #[.slice A l.length c, .slice B m.length d]] w fun e w' => e = .returned (.tuple #[.agg #[.int .i64 (rcl N X Y a l m).1.1, .int .i64 (rcl N X Y a l m).1.2], .int .i64 (rcl N X Y a l m).2]) ∧ Below w.heap.size w w' := by
  have hN0 := Lib.hid hN
  obtain ⟨P, R, pc, rc, ar, rfl, mm⟩ := hN
  clear mm
  have b1 := hA.le.1
  have b2 := hA.le.2
  have b3 := hB.le.1
  have b4 := hB.le.2
  have HA := Lib.hid hA
  have HBB := Lib.hid hB
  clear hA hB
  have BN := Lib.hid ((BoxN.new w N P R pc rc 25).keep ((Keep.alloc _ (.cells #[.int .i64 X, .int .i64 Y, .int .i64 a] 63)).trans ((Keep.alloc _ (.cells #[.slice A l.length c, .slice B m.length d] 65)).trans (Keep.alloc _ (.cells #[.int .i64 0, .int .i64 0] 35)))))
  have BT := Lib.hid ((TripAt.new1 w (.cells #[.slice P N.places.length pc, .slice R N.roads.length rc] 25) X Y a 63).keep ((Keep.alloc _ (.cells #[.slice A l.length c, .slice B m.length d] 65)).trans (Keep.alloc _ (.cells #[.int .i64 0, .int .i64 0] 35))))
  have BL := Lib.hid (show TreeAt ((((w.alloc (.cells #[.slice P N.places.length pc, .slice R N.roads.length rc] 25)).alloc (.cells #[.int .i64 X, .int .i64 Y, .int .i64 a] 63)).alloc (.cells #[.slice A l.length c, .slice B m.length d] 65)).alloc (.cells #[.int .i64 0, .int .i64 0] 35)) (w.heap.size + 1 + 1) (.slice A l.length c) (.slice B m.length d) from by
    have := (TreeAt.new ((w.alloc (.cells #[.slice P N.places.length pc, .slice R N.roads.length rc] 25)).alloc (.cells #[.int .i64 X, .int .i64 Y, .int .i64 a] 63)) (.slice A l.length c) (.slice B m.length d) 65).alloc (.cells #[.int .i64 0, .int .i64 0] 35)
    simpa using this)
  have RT := Lib.hid (show TreeAt ((((w.alloc (.cells #[.slice P N.places.length pc, .slice R N.roads.length rc] 25)).alloc (.cells #[.int .i64 X, .int .i64 Y, .int .i64 a] 63)).alloc (.cells #[.slice A l.length c, .slice B m.length d] 65)).alloc (.cells #[.int .i64 0, .int .i64 0] 35)) (w.heap.size + 1 + 1 + 1) (.int .i64 0) (.int .i64 0) from by
    have := TreeAt.new (((w.alloc (.cells #[.slice P N.places.length pc, .slice R N.roads.length rc] 25)).alloc (.cells #[.int .i64 X, .int .i64 Y, .int .i64 a] 63)).alloc (.cells #[.slice A l.length c, .slice B m.length d] 65)) (.int .i64 0) (.int .i64 0) 35
    simpa using this)
  go_enter Try.func46, Try.ntmps46
  go_upto_region 1 with fail
  generalize hwb : (((w.alloc _).alloc _).alloc _).alloc _ = wb at *
  have HW : Hid (Below w.heap.size w wb) := by rw [← hwb]; exact Lib.hid (((((Below.refl _ _).alloc (Nat.le_refl _) _).alloc (by simp) _).alloc (by simp; omega) _).alloc (by simp; omega) _)
  clear hwb
  obtain ⟨n0, n1⟩ := BN.out
  obtain ⟨c0, c1, c2⟩ := BT.out
  obtain ⟨l0, l1, -, -⟩ := BL.out
  obtain ⟨r0, r1, rf0, rf1⟩ := RT.out
  go_wp2_with fail
  refine (rLabelsErr_any N _ l m A B c d _ (hN0.out.keep (Keep.below HW.out)) (HA.out.keep (Keep.below HW.out)) (HBB.out.keep (Keep.below HW.out))).mono ?_
  rintro e' w1 ⟨rfl, hb1⟩
  replace HW := Lib.hid (HW.out.trans (hb1.mono HW.out.size))
  replace BN := Lib.hid (BN.out.keep (Keep.below hb1))
  replace BT := Lib.hid (BT.out.keep (Keep.below hb1))
  replace BL := Lib.hid (BL.out.keep hb1)
  replace RT := Lib.hid (RT.out.keep hb1)
  clear n0 n1 c0 c1 c2 l0 l1 r0 r1 rf0 rf1
  clear hb1
  by_cases he : labErr N [l, m] = 0
  · obtain ⟨hll, hml, hin, hin2⟩ := labErr_two.1 he
    have HF := Lib.hid (show rcl N X Y a l m = clRes N X Y a l m from if_pos he)
    have hXl : X < l.length := by omega
    have hXm : X < m.length := by omega
    have hYl : Y < l.length := by omega
    have hYm : Y < m.length := by omega
    have HLL := Lib.hid hll
    have HML := Lib.hid hml
    have HIN := Lib.hid hin
    have HIN2 := Lib.hid hin2
    have hr1 := Fs.within_iff.1 (hin Y hYl)
    have hr2 := Fs.within_iff.1 (hin2 Y hYm)
    rw [he]
    clear he hll hml hin hin2
    obtain ⟨n0, n1⟩ := BN.out
    obtain ⟨c0, c1, c2⟩ := BT.out
    obtain ⟨l0, l1, -, -⟩ := BL.out
    obtain ⟨r0, r1, rf0, rf1⟩ := RT.out
    go_wp2_with fail
    refine (rProvesS_any N _ X Y a l A c _ (hN0.out.keep (Keep.below HW.out)) (HA.out.keep (Keep.below HW.out)) hE HLL.out HIN.out hXl).mono ?_
    rintro e' w2 ⟨rfl, hb1⟩
    replace HW := Lib.hid (HW.out.trans (hb1.mono HW.out.size))
    replace BN := Lib.hid (BN.out.keep (Keep.below hb1))
    replace BT := Lib.hid (BT.out.keep (Keep.below hb1))
    replace BL := Lib.hid (BL.out.keep hb1)
    replace RT := Lib.hid (RT.out.keep hb1)
    clear n0 n1 c0 c1 c2 l0 l1 r0 r1 rf0 rf1
    clear hb1
    cases hp1 : provesP N (soonest N) l X a with
    | false =>
      have F := Lib.hid (HF.out.trans (if_neg (fun h => by rw [proves_yes h.1 h.2.2.1] at hp1; cases hp1) : clRes N X Y a l m = ((0, 0), 20)))
      clear hp1
      obtain ⟨r0, r1, rf0, rf1⟩ := RT.out
      go_wp2_with fail
      refine bodyPost_ret (v := .tuple #[.agg #[.int .i64 0, .int .i64 0], .int .i64 20]) (by simp [results, Try.results46, go_sem, r0, r1]) rfl ⟨by rw [F.out], ?_⟩
      exact (HW.out.setCell (p := ⟨w.heap.size + 1 + 1 + 1, 0, none⟩) (by dsimp only; omega) _).setCell (p := ⟨w.heap.size + 1 + 1 + 1, 1, none⟩) (by dsimp only; omega) _
    | true =>
      obtain ⟨n0, n1⟩ := BN.out
      obtain ⟨c0, c1, c2⟩ := BT.out
      obtain ⟨l0, l1, -, -⟩ := BL.out
      obtain ⟨r0, r1, rf0, rf1⟩ := RT.out
      go_wp2_with fail
      refine (rProvesL_any N _ X Y a m B d _ (hN0.out.keep (Keep.below HW.out)) (HBB.out.keep (Keep.below HW.out)) hE HML.out HIN2.out hXm).mono ?_
      rintro e' w3 ⟨rfl, hb1⟩
      replace HW := Lib.hid (HW.out.trans (hb1.mono HW.out.size))
      replace BN := Lib.hid (BN.out.keep (Keep.below hb1))
      replace BT := Lib.hid (BT.out.keep (Keep.below hb1))
      replace BL := Lib.hid (BL.out.keep hb1)
      replace RT := Lib.hid (RT.out.keep hb1)
      clear n0 n1 c0 c1 c2 l0 l1 r0 r1 rf0 rf1
      clear hb1
      cases hp2 : provesP N (latest N) m X a with
      | false =>
        have F := Lib.hid (HF.out.trans (if_neg (fun h => by rw [proves_yes h.2.1 h.2.2.2] at hp2; cases hp2) : clRes N X Y a l m = ((0, 0), 20)))
        clear hp1 hp2
        obtain ⟨r0, r1, rf0, rf1⟩ := RT.out
        go_wp2_with fail
        refine bodyPost_ret (v := .tuple #[.agg #[.int .i64 0, .int .i64 0], .int .i64 20]) (by simp [results, Try.results46, go_sem, r0, r1]) rfl ⟨by rw [F.out], ?_⟩
        exact (HW.out.setCell (p := ⟨w.heap.size + 1 + 1 + 1, 0, none⟩) (by dsimp only; omega) _).setCell (p := ⟨w.heap.size + 1 + 1 + 1, 1, none⟩) (by dsimp only; omega) _
      | true =>
        have h1 := of_decide_eq_true hp1
        have h2 := of_decide_eq_true hp2
        have HF2 := Lib.hid (HF.out.trans (if_pos ⟨h1.1, h2.1, h1.2, h2.2⟩ : clRes N X Y a l m = bound l m Y))
        clear hp1 hp2 h1 h2
        obtain ⟨p, o, hAe, q0⟩ := (HA.out.keep (Keep.below HW.out)).at_ hYl
        obtain ⟨p', o', hBe, q1⟩ := (HBB.out.keep (Keep.below HW.out)).at_ hYm
        subst hAe; subst hBe
        have hYln : (Y : Int) < (l.length : Int) := by omega
        have hYmn : (Y : Int) < (m.length : Int) := by omega
        obtain ⟨n0, n1⟩ := BN.out
        obtain ⟨c0, c1, c2⟩ := BT.out
        obtain ⟨l0, l1, -, -⟩ := BL.out
        obtain ⟨r0, r1, rf0, rf1⟩ := RT.out
        by_cases hz : listI l Y = -1
        · have F := Lib.hid (HF2.out.trans (show bound l m Y = ((0, 0), 12) from if_pos (.inl hz)))
          have d1 : decide (listI l Y < 0) = true := decide_eq_true (by omega)
          clear hz
          go_wp2_with fail
          refine bodyPost_ret (v := .tuple #[.agg #[.int .i64 0, .int .i64 0], .int .i64 12]) (by simp [results, Try.results46, go_sem, r0, r1]) rfl ⟨by rw [F.out], ?_⟩
          exact (HW.out.setCell (p := ⟨w.heap.size + 1 + 1 + 1, 0, none⟩) (by dsimp only; omega) _).setCell (p := ⟨w.heap.size + 1 + 1 + 1, 1, none⟩) (by dsimp only; omega) _
        · have d1 : decide (listI l Y < 0) = false := decide_eq_false (by omega)
          by_cases hz2 : listI m Y = -1
          · have F := Lib.hid (HF2.out.trans (show bound l m Y = ((0, 0), 12) from if_pos (.inr hz2)))
            have d2 : decide (listI m Y < 0) = true := decide_eq_true (by omega)
            clear hz hz2
            go_wp2_with fail
            refine bodyPost_ret (v := .tuple #[.agg #[.int .i64 0, .int .i64 0], .int .i64 12]) (by simp [results, Try.results46, go_sem, r0, r1]) rfl ⟨by rw [F.out], ?_⟩
            exact (HW.out.setCell (p := ⟨w.heap.size + 1 + 1 + 1, 0, none⟩) (by dsimp only; omega) _).setCell (p := ⟨w.heap.size + 1 + 1 + 1, 1, none⟩) (by dsimp only; omega) _
          · have F := Lib.hid (HF2.out.trans (show bound l m Y = ((listI l Y, listI m Y), 0) from if_neg (fun h => h.elim hz hz2)))
            have d2 : decide (listI m Y < 0) = false := decide_eq_false (by omega)
            clear hz hz2
            go_wp2_with fail
            go_region
            all_goals
              go_wp2_with fail
              refine bodyPost_ret (v := .tuple #[.agg #[.int .i64 (listI l Y), .int .i64 (listI m Y)], .int .i64 0]) (by simp [results, Try.results46, go_sem, r0, r1]) rfl ⟨by rw [F.out], ?_⟩
              exact ((HW.out.setCell (p := ⟨w.heap.size + 1 + 1 + 1, 0, none⟩) (by dsimp only; omega) _).setCell (p := ⟨w.heap.size + 1 + 1 + 1, 1, none⟩) (by dsimp only; omega) _).drew
  · have F := Lib.hid (show rcl N X Y a l m = ((0, 0), labErr N [l, m]) from if_neg he)
    have e1 : (labErr N [l, m] == 0) = false := by simpa using he
    have e2 : (labErr N [l, m] != 0) = true := by simpa using he
    clear he
    obtain ⟨r0, r1, rf0, rf1⟩ := RT.out
    go_wp2_with fail
    refine bodyPost_ret (v := .tuple #[.agg #[.int .i64 0, .int .i64 0], .int .i64 (labErr N [l, m])]) (by simp [results, Try.results46, go_sem, r0, r1]) rfl ⟨by rw [F.out], ?_⟩
    exact (HW.out.setCell (p := ⟨w.heap.size + 1 + 1 + 1, 0, none⟩) (by dsimp only; omega) _).setCell (p := ⟨w.heap.size + 1 + 1 + 1, 1, none⟩) (by dsimp only; omega) _
end Go.Proofs.Ythipneggplebcaa

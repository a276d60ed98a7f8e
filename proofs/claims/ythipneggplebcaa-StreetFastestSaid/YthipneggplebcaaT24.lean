/- Examined: what it answers. Condition: the net can be read. -/
import Derived.Test.YthipneggplebcaaT20
namespace Go.Proofs.Ythipneggplebcaa
open Go.RowKit Fs

/-- The three cells of a result, which may be written. -/
structure ResAt (w : World) (g : Nat) (x y z : Value) : Prop where
  c0 : w.cell? ⟨g, 0, none⟩ = some x
  c1 : w.cell? ⟨g, 1, none⟩ = some y
  c2 : w.cell? ⟨g, 2, none⟩ = some z
  f0 : w.frozen? ⟨g, 0, none⟩ = false
  f1 : w.frozen? ⟨g, 1, none⟩ = false
  f2 : w.frozen? ⟨g, 2, none⟩ = false
theorem ResAt.lt {w : World} {g : Nat} {x y z : Value} (m : ResAt w g x y z) : g < w.heap.size := World.block_lt_of_cell? w _ m.c0
theorem ResAt.below {B : Nat} {w w' : World} {g : Nat} {x y z : Value} (m : ResAt w g x y z) (h : Below B w w') (hg : g < B) : ResAt w' g x y z :=
  ⟨(h.cell (p := ⟨g, 0, none⟩) hg).trans m.c0, (h.cell (p := ⟨g, 1, none⟩) hg).trans m.c1, (h.cell (p := ⟨g, 2, none⟩) hg).trans m.c2, (h.frozen (p := ⟨g, 0, none⟩) hg).trans m.f0, (h.frozen (p := ⟨g, 1, none⟩) hg).trans m.f1, (h.frozen (p := ⟨g, 2, none⟩) hg).trans m.f2⟩
theorem ResAt.keep {w w' : World} {g : Nat} {x y z : Value} (m : ResAt w g x y z) (h : Below w.heap.size w w') : ResAt w' g x y z := m.below h m.lt
theorem ResAt.keepD {w w' : World} {g : Nat} {x y z : Value} (m : ResAt w g x y z) (h : Below w.drew.heap.size w.drew w') : ResAt w' g x y z := ResAt.keep (w := w.drew) ⟨m.c0, m.c1, m.c2, m.f0, m.f1, m.f2⟩ h
theorem ResAt.new (w : World) (x y z : Value) (t : TypeId) : ResAt (w.alloc (.cells #[x, y, z] t)) w.heap.size x y z := ⟨cellNew _ _ _ 0, cellNew _ _ _ 1, cellNew _ _ _ 2, frozenNew _ _ _ 0, frozenNew _ _ _ 1, frozenNew _ _ _ 2⟩
theorem ResAt.set {w : World} {g : Nat} {x y z : Value} (m : ResAt w g x y z) (x' y' z' : Value) : ResAt (((w.setCell ⟨g, 0, none⟩ x').setCell ⟨g, 1, none⟩ y').setCell ⟨g, 2, none⟩ z') g x' y' z' :=
  ⟨(World.cell?_setCell_other _ _ _ _ (by simp)).trans ((World.cell?_setCell_other _ _ _ _ (by simp)).trans (World.cell?_setCell_same _ _ _ m.c0)),
   (World.cell?_setCell_other _ _ _ _ (by simp)).trans (World.cell?_setCell_same _ _ _ ((World.cell?_setCell_other _ _ _ _ (by simp)).trans m.c1)),
   World.cell?_setCell_same _ _ _ ((World.cell?_setCell_other _ _ _ _ (by simp)).trans ((World.cell?_setCell_other _ _ _ _ (by simp)).trans m.c2)),
   (World.frozen?_setCell _ _ _ _).trans ((World.frozen?_setCell _ _ _ _).trans ((World.frozen?_setCell _ _ _ _).trans m.f0)), (World.frozen?_setCell _ _ _ _).trans ((World.frozen?_setCell _ _ _ _).trans ((World.frozen?_setCell _ _ _ _).trans m.f1)), (World.frozen?_setCell _ _ _ _).trans ((World.frozen?_setCell _ _ _ _).trans ((World.frozen?_setCell _ _ _ _).trans m.f2))⟩
theorem below_after {a w w' : World} (hb : Below w.heap.size w w') (h : Below a.heap.size a w) : Below a.heap.size a w' := h.trans (hb.mono h.size)
abbrev resV (a b : Int) (p : Bool) : Value := .agg #[.int .i64 a, .int .i64 b, .bool p]

theorem Fs.told_in {N : Net} {l : List Int} (h : (told N l).2 = 0) : ∀ j, j < (told N l).1.length → 0 ≤ listI (told N l).1 j ∧ listI (told N l).1 j < N.roads.length := by
  obtain ⟨hb, ht⟩ := told_ok h
  rw [ht]
  have hlen := toldTo_len N l (l.length - 1)
  intro j hj
  rw [toldTo_at N l _ j (by omega)]
  obtain ⟨p, hp, hp1, -⟩ := best_in (hb j (by omega))
  omega
theorem Fs.told_len {N : Net} {l : List Int} (h : (told N l).2 = 0) : (told N l).1.length = l.length - 1 := by
  obtain ⟨hb, ht⟩ := told_ok h
  rw [ht, toldTo_len]
theorem StepV.alloc {N : Net} {nx : Nat → Int → Int} {v : Value} {w : World} (h : StepV N nx v w) (o : Obj) : StepV N nx v (w.alloc o) := h.below ((Below.refl _ _).alloc (Nat.le_refl _) o)

set_option maxHeartbeats 6400000 in
set_option maxRecDepth 100000 in
theorem examined_any (N : Net) (v : Value) (l : List Int) (A : Option Addr) (c : Nat) (m : Int) (w : World) (hN : RdNet w v N) (h : ArrI w A l c) :
    Calls Try.prog 69 #[v, examV A l.length c m] w fun e w' => e = .returned (.tuple #[resV (examined N l m).1.1 (examined N l m).1.2.1 (examined N l m).1.2.2, .int .i64 (examined N l m).2]) ∧ Below w.heap.size w w' := by
  have hN0 := Lib.hid hN
  obtain ⟨P, R, pc, rc, ar, rfl, mm⟩ := hN
  clear mm
  have b1 := h.le.1
  have b2 := h.le.2
  have HA := Lib.hid h
  clear h
  have BN := Lib.hid ((BoxN.new w N P R pc rc 25).keep ((Keep.alloc _ (.cells #[.slice A l.length c, .int .i64 m] 111)).trans (Keep.alloc _ (.cells #[.int .i64 0, .int .i64 0, .bool false] 113))))
  have BT := Lib.hid ((ExamAt.new1 w (.cells #[.slice P N.places.length pc, .slice R N.roads.length rc] 25) A l.length c m 111).keep (Keep.alloc _ (.cells #[.int .i64 0, .int .i64 0, .bool false] 113)))
  have RT := Lib.hid (show ResAt (((w.alloc (.cells #[.slice P N.places.length pc, .slice R N.roads.length rc] 25)).alloc (.cells #[.slice A l.length c, .int .i64 m] 111)).alloc (.cells #[.int .i64 0, .int .i64 0, .bool false] 113)) (w.heap.size + 1 + 1) (.int .i64 0) (.int .i64 0) (.bool false) from by
    have := ResAt.new ((w.alloc (.cells #[.slice P N.places.length pc, .slice R N.roads.length rc] 25)).alloc (.cells #[.slice A l.length c, .int .i64 m] 111)) (.int .i64 0) (.int .i64 0) (.bool false) 113
    simpa using this)
  go_enter Try.func69, Try.ntmps69
  go_upto_region 1 with fail
  generalize hwb : ((w.alloc _).alloc _).alloc _ = wb at *
  have HW : Hid (Below w.heap.size w wb) := by rw [← hwb]; exact Lib.hid ((((Below.refl _ _).alloc (Nat.le_refl _) _).alloc (by simp) _).alloc (by simp; omega) _)
  have HWS : Hid (w.heap.size + 3 = wb.heap.size) := by rw [← hwb]; exact Lib.hid (by simp)
  clear hwb
  obtain ⟨n0, n1⟩ := BN.out
  obtain ⟨c0, c1⟩ := BT.out
  go_cut [6] from 12 to 19 (fun s wx => s = .int .i64 (exErr N l m) ∧ Hid (Below wb.heap.size wb wx))
  case first =>
    have HBd : Hid (Below wb.heap.size wb wb.drew) := Lib.hid (Below.refl _ _).drew
    have MK : Hid (∀ w', Below wb.heap.size wb w' → w'.cell? ⟨w.heap.size, 0, none⟩ = some (.slice P N.places.length pc) ∧ w'.cell? ⟨w.heap.size, 1, none⟩ = some (.slice R N.roads.length rc) ∧ w'.cell? ⟨w.heap.size + 1, 0, none⟩ = some (.slice A l.length c) ∧ w'.cell? ⟨w.heap.size + 1, 1, none⟩ = some (.int .i64 m) ∧ Hid (Below wb.heap.size wb w')) :=
      Lib.hid fun w' hw => ⟨Keep.below hw _ _ n0, Keep.below hw _ _ n1, Keep.below hw _ _ c0, Keep.below hw _ _ c1, Lib.hid hw⟩
    go_region_held3 (fun w' => w'.cell? ⟨w.heap.size, 0, none⟩ = some (.slice P N.places.length pc) ∧ w'.cell? ⟨w.heap.size, 1, none⟩ = some (.slice R N.roads.length rc) ∧ w'.cell? ⟨w.heap.size + 1, 0, none⟩ = some (.slice A l.length c) ∧ w'.cell? ⟨w.heap.size + 1, 1, none⟩ = some (.int .i64 m) ∧ Hid (Below wb.heap.size wb w'))
      (first
        | exact MK.out _ HBd.out
        | (go_split_ands; exact ⟨by assumption, by assumption, by assumption, by assumption, by assumption⟩)
        | (go_split_ands; exact MK.out _ (Below.trans (Hid.out (by assumption)) (hb1.mono (Hid.out (by assumption) : Below wb.heap.size wb _).size)))
        | (go_split_ands; exact MK.out _ (Below.alloc (Hid.out (by assumption)) (Hid.out (by assumption) : Below wb.heap.size wb _).size _)))
      ((first
          | (go_at_call 80
             go_split_ands
             refine (errNet_any N _ _ (hN0.out.keep (Keep.below (HW.out.trans ((Hid.out (by assumption) : Below wb.heap.size wb _).mono HW.out.size))))).mono ?_
             rintro e' w1 ⟨rfl, hb1⟩)
          | (go_at_call 120
             go_split_ands
             refine (examErr_any N _ l A c m _ (hN0.out.keep (Keep.below (HW.out.trans ((Hid.out (by assumption) : Below wb.heap.size wb _).mono HW.out.size)))) (HA.out.keep (Keep.below (HW.out.trans ((Hid.out (by assumption) : Below wb.heap.size wb _).mono HW.out.size))))).mono ?_
             rintro e' w1 ⟨rfl, hb1⟩)
          | (go_at_call 79
             refine (firstError_any [netErr N, examErr N l m] _ _ _ (by first | exact arr2New _ _ _ _ | exact ArrI.keep (Keep.drew _) (arr2New _ _ _ _))).mono ?_
             rintro e' w1 ⟨rfl, rfl⟩)))
    all_goals
      rename_i hS
      obtain ⟨-, -, -, -, hbb⟩ := hS
      go_wp2_with fail
      go_meet
      exact ⟨rfl, hbb⟩
  case rest =>
    obtain ⟨rfl, HB⟩ := hcut
    obtain ⟨wp, hwp⟩ : ∃ wp, wp = wc := ⟨_, rfl⟩
    subst hwp
    clear n0 n1 c0 c1
    have HX := Lib.hid (HW.out.trans (HB.out.mono HW.out.size))
    by_cases he : exErr N l m = 0
    · have hEE := Lib.hid (exErr_ok he)
      have hXX := Lib.hid (examErr_ok hEE.out.2)
      have HF0 := Lib.hid (show examined N l m = _ from if_pos he)
      rw [he]
      clear he
      obtain ⟨n0, n1⟩ := BN.out.keep (Keep.below HB.out)
      obtain ⟨c0, c1⟩ := BT.out.keep (Keep.below HB.out)
      have HE := Lib.hid hEE.out.1
      by_cases ht : (told N l).2 = 0
      · have HF := Lib.hid (HF0.out.trans (if_pos ht))
        have HT := Lib.hid ht
        have HL := Lib.hid (told_least HE.out (place_in hXX.out.2.2.1 (by have := hXX.out.1; omega)) hXX.out.1 ht)
        clear ht HF0
        go_wp2_with (go_at_call 121; refine (toldRoads_any N _ l A c _ (hN0.out.keep (Keep.below HX.out)) HE.out (HA.out.keep (Keep.below HX.out)) hXX.out.1 hXX.out.2.1).mono ?_; rintro e w1 ⟨B, d, rfl, hB, hb1⟩; rw [HT.out]; have HBB := Lib.hid hB; clear hB)
        have HB1 := Lib.hid (HB.out.trans (hb1.mono HB.out.size))
        have HX1 := Lib.hid (HW.out.trans (HB1.out.mono HW.out.size))
        clear n0 n1 c0 c1 hb1
        obtain ⟨c0, c1⟩ := BT.out.keep (Keep.below HB1.out)
        have hx2 := hXX.out.1
        obtain ⟨b, o, hAe, -⟩ := HA.out.at_ (k := 0) (by omega)
        subst hAe
        obtain ⟨s, hs⟩ : ∃ s : Nat, listI l 0 = s := ⟨_, (Int.toNat_of_nonneg (place_in hXX.out.2.2.1 (k := 0) (by omega)).1).symm⟩
        obtain ⟨z, hz⟩ : ∃ z : Nat, listI l (l.length - 1) = z := ⟨_, (Int.toNat_of_nonneg (place_in hXX.out.2.2.1 (k := l.length - 1) (by omega)).1).symm⟩
        have a0 := (HA.out.keep (Keep.below HX1.out)).cells (k := 0) (by omega)
        have a1 := (HA.out.keep (Keep.below HX1.out)).cells (k := l.length - 1) (by omega)
        rw [hs] at a0
        rw [hz] at a1
        rw [Nat.add_zero] at a0
        have HS := Lib.hid hs
        have HZ := Lib.hid hz
        clear hs hz
        have hm1 : ((l.length : Int) - 1) = ((l.length - 1 : Nat) : Int) := by omega
        have hm2 : ((l.length - 1 : Nat) : Int) < (l.length : Int) := by omega
        go_quiet (fail)
        go_upto_region 8 with fail
        generalize hwq : w1.drewN _ = wq at *
        have HBq : Hid (Below wb.heap.size wb wq) := by rw [← hwq]; exact Lib.hid (bdrewN HB1.out _)
        have HXq := Lib.hid (HW.out.trans (HBq.out.mono HW.out.size))
        have KBB : Hid (ArrI wq B (told N l).1 d) := by rw [← hwq]; exact Lib.hid (HBB.out.keep (Keep.drewN _ _))
        clear hwq a0 a1 c0 c1 hm1 hm2
        obtain ⟨n0, n1⟩ := BN.out.keep (Keep.below HBq.out)
        have hzl : z < N.places.length := by
          have h := (place_in hXX.out.2.2.1 (k := l.length - 1) (by omega)).2
          rw [HZ.out] at h
          omega
        have hzn : (z : Int) < (N.places.length : Int) := by omega
        have hsl : s < N.places.length := by
          have h := (place_in hXX.out.2.2.1 (k := 0) (by omega)).2
          rw [HS.out] at h
          omega
        have HZL : Hid (z < (heights N (s : Int)).length) := by
          unfold heights
          rw [search_len.1]
          exact Lib.hid hzl
        have HIN := Lib.hid (told_in HT.out)
        have HLN := Lib.hid (show (told N l).1.length ≤ 1000000 by rw [told_len HT.out]; have := hXX.out.2.1; omega)
        clear HT
        have HM := Lib.hid (show leastM N l = listI (heights N (s : Int)) z by unfold leastM; rw [HS.out, HZ.out, Int.toNat_natCast])
        go_cut [11] from 46 to 57 (fun x wx => ∃ g : Nat, x = .pointer (some ⟨g, 0, none⟩) ∧ Hid (ResAt wx g (.int .i64 (toldM N l)) (.int .i64 (leastM N l)) (.bool false)) ∧ Hid (wq.heap.size ≤ g) ∧ Hid (Below wq.heap.size wq wx))
        case first =>
          have N0 := Lib.hid (And.intro n0 n1)
          have hln := World.block_lt_of_cell? _ _ n0
          dsimp only at hln
          have HBd : Hid (Below wq.heap.size wq wq.drew) := Lib.hid (Below.refl _ _).drew
          have HBa : Hid (Below wq.heap.size wq (wq.alloc (.cells #[.int .i64 0, .int .i64 0, .bool false] 113)).drew) := Lib.hid ((Below.refl _ _).alloc (Nat.le_refl _) _).drew
          have KN : Hid (∀ w', Below wq.heap.size wq w' → RdNet w' (netV N P R pc rc) N) := Lib.hid fun w' hw => (hN0.out.keep (Keep.below (HXq.out.trans (hw.mono HXq.out.size))))
          have KB : Hid (∀ w', Below wq.heap.size wq w' → ArrI w' B (told N l).1 d) := Lib.hid fun w' hw => KBB.out.keep (Keep.below hw)
          go_region_with
            (first
              | (go_at_call 93
                 refine (further_any N _ _ (KN.out _ (by first | exact HBd.out | exact HBa.out | exact HBC.out | exact HBC.out.alloc HBC.out.size _)) HE.out).mono ?_
                 rintro e' w2 ⟨f1, rfl, hf1, hb1⟩
                 have HBC := Lib.hid (below_after hb1 (by first | exact HBd.out | exact HBa.out | exact HBC.out | exact HBC.out.alloc HBC.out.size _))
                 have n0 := Keep.below HBC.out _ _ N0.out.1
                 have n1 := Keep.below HBC.out _ _ N0.out.2
                 have hln := World.block_lt_of_cell? _ _ n0
                 dsimp only at hln
                 have hle := HBC.out.size
                 have HF1 := Lib.hid hf1
                 clear hf1
                 try (have HRW := Lib.hid (by first | exact HRW.out.keep hb1 | exact (HRW.out.alloc _).keep hb1 : RowV w2 g1 3 ((heights N (s : Int)).map (Value.int .i64))); have t0 := HRW.out.int (i := z) HZL.out; have hgl := World.block_lt_of_cell? _ _ t0; dsimp only at hgl)
                 try (first
                   | (have HT0 := (HT.out.keep hb1 : ResAt _ _ (.int .i64 0) (.int .i64 0) (.bool false)); (try simp only [size_drew] at HT0); (try simp only [World.size_alloc] at HT0); (try simp only [size_drew] at HT0); have HT := Lib.hid HT0; clear HT0; obtain ⟨q0, q1, q2, qf0, qf1, qf2⟩ := HT.out)
                   | (have HT0 := ((ResAt.new _ _ _ _ 113).keep hb1 : ResAt _ _ (.int .i64 0) (.int .i64 0) (.bool false)); (try simp only [size_drew] at HT0); (try simp only [World.size_alloc] at HT0); (try simp only [size_drew] at HT0); have HT := Lib.hid HT0; clear HT0; obtain ⟨q0, q1, q2, qf0, qf1, qf2⟩ := HT.out)
                   | (have HT0 := ((ResAt.new _ _ _ _ 113).keepD hb1 : ResAt _ _ (.int .i64 0) (.int .i64 0) (.bool false)); (try simp only [size_drew] at HT0); (try simp only [World.size_alloc] at HT0); (try simp only [size_drew] at HT0); have HT := Lib.hid HT0; clear HT0; obtain ⟨q0, q1, q2, qf0, qf1, qf2⟩ := HT.out)))
              | (go_at_call 92
                 refine (along_any N (further N) f1 0 (told N l).1 B d _ (by first | exact HF1.out | exact HF1.out.alloc _) (further_small HE.out) (KB.out _ (by first | exact HBd.out | exact HBa.out | exact HBC.out | exact HBC.out.alloc HBC.out.size _)) HIN.out (by decide) (by decide) HLN.out).mono ?_
                 rintro e' w2 ⟨rfl, hb1⟩
                 have HBC := Lib.hid (below_after hb1 (by first | exact HBd.out | exact HBa.out | exact HBC.out | exact HBC.out.alloc HBC.out.size _))
                 have n0 := Keep.below HBC.out _ _ N0.out.1
                 have n1 := Keep.below HBC.out _ _ N0.out.2
                 have hln := World.block_lt_of_cell? _ _ n0
                 dsimp only at hln
                 have hle := HBC.out.size
                 try (have HRW := Lib.hid (by first | exact HRW.out.keep hb1 | exact (HRW.out.alloc _).keep hb1 : RowV w2 g1 3 ((heights N (s : Int)).map (Value.int .i64))); have t0 := HRW.out.int (i := z) HZL.out; have hgl := World.block_lt_of_cell? _ _ t0; dsimp only at hgl)
                 try (first
                   | (have HT0 := (HT.out.keep hb1 : ResAt _ _ (.int .i64 0) (.int .i64 0) (.bool false)); (try simp only [size_drew] at HT0); (try simp only [World.size_alloc] at HT0); (try simp only [size_drew] at HT0); have HT := Lib.hid HT0; clear HT0; obtain ⟨q0, q1, q2, qf0, qf1, qf2⟩ := HT.out)
                   | (have HT0 := ((ResAt.new _ _ _ _ 113).keep hb1 : ResAt _ _ (.int .i64 0) (.int .i64 0) (.bool false)); (try simp only [size_drew] at HT0); (try simp only [World.size_alloc] at HT0); (try simp only [size_drew] at HT0); have HT := Lib.hid HT0; clear HT0; obtain ⟨q0, q1, q2, qf0, qf1, qf2⟩ := HT.out)
                   | (have HT0 := ((ResAt.new _ _ _ _ 113).keepD hb1 : ResAt _ _ (.int .i64 0) (.int .i64 0) (.bool false)); (try simp only [size_drew] at HT0); (try simp only [World.size_alloc] at HT0); (try simp only [size_drew] at HT0); have HT := Lib.hid HT0; clear HT0; obtain ⟨q0, q1, q2, qf0, qf1, qf2⟩ := HT.out)))
              | (go_at_call 114
                 refine (heightsFrom_any N _ s _ (KN.out _ (by first | exact HBd.out | exact HBa.out | exact HBC.out | exact HBC.out.alloc HBC.out.size _)) HE.out hsl).mono ?_
                 rintro e' w2 ⟨g1, rfl, hrw, hb1⟩
                 have HBC := Lib.hid (below_after hb1 (by first | exact HBd.out | exact HBa.out | exact HBC.out | exact HBC.out.alloc HBC.out.size _))
                 have n0 := Keep.below HBC.out _ _ N0.out.1
                 have n1 := Keep.below HBC.out _ _ N0.out.2
                 have hln := World.block_lt_of_cell? _ _ n0
                 dsimp only at hln
                 have hle := HBC.out.size
                 have HRW := Lib.hid hrw
                 clear hrw
                 have t0 := HRW.out.int (i := z) HZL.out
                 have hgl := World.block_lt_of_cell? _ _ t0
                 dsimp only at hgl
                 try (have HF1 := Lib.hid (by first | exact HF1.out.below hb1 | exact (HF1.out.alloc _).below hb1 : StepV N (further N) f1 w2))
                 try (first
                   | (have HT0 := (HT.out.keep hb1 : ResAt _ _ (.int .i64 0) (.int .i64 0) (.bool false)); (try simp only [size_drew] at HT0); (try simp only [World.size_alloc] at HT0); (try simp only [size_drew] at HT0); have HT := Lib.hid HT0; clear HT0; obtain ⟨q0, q1, q2, qf0, qf1, qf2⟩ := HT.out)
                   | (have HT0 := ((ResAt.new _ _ _ _ 113).keep hb1 : ResAt _ _ (.int .i64 0) (.int .i64 0) (.bool false)); (try simp only [size_drew] at HT0); (try simp only [World.size_alloc] at HT0); (try simp only [size_drew] at HT0); have HT := Lib.hid HT0; clear HT0; obtain ⟨q0, q1, q2, qf0, qf1, qf2⟩ := HT.out)
                   | (have HT0 := ((ResAt.new _ _ _ _ 113).keepD hb1 : ResAt _ _ (.int .i64 0) (.int .i64 0) (.bool false)); (try simp only [size_drew] at HT0); (try simp only [World.size_alloc] at HT0); (try simp only [size_drew] at HT0); have HT := Lib.hid HT0; clear HT0; obtain ⟨q0, q1, q2, qf0, qf1, qf2⟩ := HT.out))))
          all_goals
            go_wp2_with fail
            go_meet
            unfold toldM
            rw [HM.out]
            first
              | exact ⟨_, rfl, Lib.hid (ResAt.new _ _ _ _ _), Lib.hid (by omega), Lib.hid (HBC.out.alloc HBC.out.size _)⟩
              | exact ⟨_, rfl, Lib.hid (HT.out.set _ _ _), Lib.hid (by omega), Lib.hid (((HBC.out.setCell (p := ⟨_, 0, none⟩) (by dsimp only; omega) _).setCell (p := ⟨_, 1, none⟩) (by dsimp only; omega) _).setCell (p := ⟨_, 2, none⟩) (by dsimp only; omega) _)⟩
        case rest =>
          obtain ⟨g, rfl, HR, HG, HBF⟩ := hcut
          have HY := Lib.hid (HXq.out.trans (HBF.out.mono HXq.out.size))
          clear n0 n1
          have hwg : w.heap.size + 3 ≤ g := by
            have h1 := HWS.out
            have h2 := HBq.out.size
            have h3 := HG.out
            omega
          obtain ⟨q0, q1, q2, f0, f1, f2⟩ := HR.out
          obtain ⟨c0, c1⟩ := BT.out.keep (Keep.below (HBq.out.trans (HBF.out.mono HBq.out.size)))
          obtain ⟨r0, r1, r2, rf0, rf1, rf2⟩ := RT.out.below (HBq.out.trans (HBF.out.mono HBq.out.size)) RT.out.lt
          have hne1 : g ≠ w.heap.size + 1 + 1 := by omega
          have hne2 : w.heap.size + 1 + 1 ≠ g := by omega
          have hne3 : g ≠ w.heap.size + 1 := by omega
          have hne4 : w.heap.size + 1 ≠ g := by omega
          have hm3 := hXX.out.2.2.2.1
          have hm4 := hXX.out.2.2.2.2
          have hx3 := hXX.out.2.1
          obtain ⟨hb0, hb1, hb2⟩ := HL.out
          have hp := Fs.mul_le (x := 1000 + m) (y := leastM N l) (a := 2000) (b := 19900000) ⟨by omega, by omega⟩ ⟨by omega, by omega⟩
          have w1 : IntKind.i64.wrap (1000 * toldM N l) = 1000 * toldM N l := by rw [IntKind.wrap_i64]; omega
          have w2 : IntKind.i64.wrap (1000 + m) = 1000 + m := by rw [IntKind.wrap_i64]; omega
          have w3 : IntKind.i64.wrap ((1000 + m) * leastM N l) = (1000 + m) * leastM N l := by rw [IntKind.wrap_i64]; omega
          go_wp2_with fail
          refine bodyPost_ret (v := .tuple #[resV (toldM N l) (leastM N l) (decide (1000 * toldM N l ≤ (1000 + m) * leastM N l)), .int .i64 0]) (by simp [results, Try.results69, go_sem, r0, r1, r2]) rfl ⟨by rw [HF.out], ?_⟩
          exact ((((HY.out.setCell (p := ⟨g, 2, none⟩) (by dsimp only; omega) _).setCell (p := ⟨w.heap.size + 1 + 1, 0, none⟩) (by dsimp only; omega) _).setCell (p := ⟨w.heap.size + 1 + 1, 1, none⟩) (by dsimp only; omega) _).setCell (p := ⟨w.heap.size + 1 + 1, 2, none⟩) (by dsimp only; omega) _)
      · have HF := Lib.hid (HF0.out.trans (if_neg ht))
        have e1 : ((told N l).2 == 0) = false := by simpa using ht
        clear ht HF0
        go_wp2_with (go_at_call 121; refine (toldRoads_any N _ l A c _ (hN0.out.keep (Keep.below HX.out)) HE.out (HA.out.keep (Keep.below HX.out)) hXX.out.1 hXX.out.2.1).mono ?_; rintro e w1 ⟨B, d, rfl, hB, hb1⟩; obtain ⟨r0, r1, r2, rf0, rf1, rf2⟩ := RT.out.below (HB.out.trans (hb1.mono HB.out.size)) RT.out.lt)
        refine bodyPost_ret (v := .tuple #[resV 0 0 false, .int .i64 (told N l).2]) (by simp [results, Try.results69, go_sem, r0, r1, r2]) rfl ⟨by rw [HF.out], ?_⟩
        have HX1 := HX.out.trans (hb1.mono HX.out.size)
        exact (((HX1.setCell (p := ⟨w.heap.size + 1 + 1, 0, none⟩) (by dsimp only; omega) _).setCell (p := ⟨w.heap.size + 1 + 1, 1, none⟩) (by dsimp only; omega) _).setCell (p := ⟨w.heap.size + 1 + 1, 2, none⟩) (by dsimp only; omega) _)
    · have hz : (exErr N l m == 0) = false := by simpa using he
      have HF := Lib.hid (show examined N l m = ((0, 0, false), exErr N l m) from if_neg he)
      clear he
      obtain ⟨r0, r1, r2, rf0, rf1, rf2⟩ := RT.out.below HB.out RT.out.lt
      go_wp2_with fail
      refine bodyPost_ret (v := .tuple #[resV 0 0 false, .int .i64 (exErr N l m)]) (by simp [results, Try.results69, go_sem, r0, r1, r2]) rfl ⟨by rw [HF.out], ?_⟩
      exact (((HX.out.setCell (p := ⟨w.heap.size + 1 + 1, 0, none⟩) (by dsimp only; omega) _).setCell (p := ⟨w.heap.size + 1 + 1, 1, none⟩) (by dsimp only; omega) _).setCell (p := ⟨w.heap.size + 1 + 1, 2, none⟩) (by dsimp only; omega) _)
end Go.Proofs.Ythipneggplebcaa

/- The law of the changes. No condition. -/
import Derived.Test.YtbehabaoeicgeaaC8
import Derived.Test.YtbehabaoeicgeaaW10c
import Derived.Test.YtbehabaoeicgeaaW6a
import Derived.Test.YtbehabaoeicgeaaW11b
import Derived.Deep.RegionHeld3
import Derived.Deep.CutRange
import Derived.Deep.CutBlock
namespace Go.Proofs.Ytbehabaoeicgeaa
open Go.RowKit Fs

theorem lists_of_few {T : Tar} (h : few T = true) : Lists T := by
  have hp : FewP T := by unfold few at h; simpa using h
  obtain ⟨-, h1, h2, h3, h4, h5, -, h6, -⟩ := hp
  unfold many at h1 h2 h3 h4 h5
  simp at h1 h2 h3 h4 h5
  exact ⟨by omega, by omega, by omega, by omega, by omega, fun i hi => by have := (h6 i hi).2.1; omega, fun i hi => by have := (h6 i hi).2.2; omega⟩
/-- A place's cells, of which those of its moment may be written. -/
structure PlaceW (w : World) (g : Nat) (z d t : Int) : Prop where
  place : PlaceAt w g z d t
  f1 : w.frozen? ⟨g, 1, none⟩ = false
  f2 : w.frozen? ⟨g, 2, none⟩ = false
theorem PlaceW.lt {w : World} {g : Nat} {z d t : Int} (m : PlaceW w g z d t) : g < w.heap.size := World.block_lt_of_cell? w _ m.place.c0
theorem PlaceW.new (w : World) (z d t : Int) (ty : TypeId) : PlaceW (w.alloc (.cells #[.int .i64 z, .int .i64 d, .int .i64 t] ty)) w.heap.size z d t :=
  ⟨⟨cellNew _ _ _ 0, cellNew _ _ _ 1, cellNew _ _ _ 2⟩, frozenNew _ _ _ 1, frozenNew _ _ _ 2⟩
theorem PlaceW.below {B : Nat} {w w' : World} {g : Nat} {z d t : Int} (m : PlaceW w g z d t) (h : Below B w w') (hg : g < B) : PlaceW w' g z d t :=
  ⟨⟨(h.cell (p := ⟨g, 0, none⟩) hg).trans m.place.c0, (h.cell (p := ⟨g, 1, none⟩) hg).trans m.place.c1, (h.cell (p := ⟨g, 2, none⟩) hg).trans m.place.c2⟩, (h.frozen (p := ⟨g, 1, none⟩) hg).trans m.f1, (h.frozen (p := ⟨g, 2, none⟩) hg).trans m.f2⟩
theorem PlaceW.set {w : World} {g : Nat} {z d t : Int} (m : PlaceW w g z d t) (d' t' : Int) : PlaceW ((w.setCell ⟨g, 1, none⟩ (.int .i64 d')).setCell ⟨g, 2, none⟩ (.int .i64 t')) g z d' t' := by
  obtain ⟨⟨c0, c1, c2⟩, f1, f2⟩ := m
  refine ⟨⟨?_, ?_, ?_⟩, ?_, ?_⟩
  · simp [World.cell?_setCell_other, c0]
  · simp [World.cell?_setCell_other, World.cell?_setCell_same _ _ _ c1]
  · simp [World.cell?_setCell_other, World.cell?_setCell_same', c2]
  · simpa [World.frozen?_setCell] using f1
  · simpa [World.frozen?_setCell] using f2
theorem BoxT.off {w : World} {g g' k : Nat} {T : Tar} {z h r e f : Option Addr} {zc hc rc ec fc : Nat} (m : BoxT w g T z h r e f zc hc rc ec fc) (hne : g ≠ g') (u : Value) : BoxT (w.setCell ⟨g', k, none⟩ u) g T z h r e f zc hc rc ec fc := by
  have key : ∀ i, (w.setCell ⟨g', k, none⟩ u).cell? ⟨g, i, none⟩ = w.cell? ⟨g, i, none⟩ := fun i => World.cell?_setCell_other _ _ _ _ (fun hh => by injection hh with hh1; exact hne hh1.symm)
  exact ⟨(key _).trans m.c0, (key _).trans m.c1, (key _).trans m.c2, (key _).trans m.c3, (key _).trans m.c4, (key _).trans m.c5, (key _).trans m.c6, (key _).trans m.c7⟩
theorem PlaceAt.far {w : World} {g g' k : Nat} {z d t : Int} (m : PlaceAt w g z d t) (hne : g ≠ g') (u : Value) : PlaceAt (w.setCell ⟨g', k, none⟩ u) g z d t := by
  have key : ∀ i, (w.setCell ⟨g', k, none⟩ u).cell? ⟨g, i, none⟩ = w.cell? ⟨g, i, none⟩ := fun i => World.cell?_setCell_other _ _ _ _ (fun hh => by injection hh with hh1; exact hne hh1.symm)
  exact ⟨(key _).trans m.c0, (key _).trans m.c1, (key _).trans m.c2⟩

set_option maxHeartbeats 6400000 in
set_option maxRecDepth 100000 in
theorem law2_any (T : Tar) (zz d t s : Int) (v : Value) (w : World) (hT : RdTar w v T) :
    Calls Try.prog 4 #[v, placeV zz d t, .int .i64 s] w fun e w' => e = .returned (.bool true) ∧ Below w.heap.size w w' := by
  have hT0 := hT
  obtain ⟨z, h, r, e, f, zc, hc, rc, ec, fc, a, rfl, m⟩ := hT
  clear m
  have BT := Lib.hid ((BoxT.new w T z h r e f zc hc rc ec fc 28).keep (Keep.alloc _ (.cells #[.int .i64 zz, .int .i64 d, .int .i64 t] 53)))
  have BP := Lib.hid (show PlaceAt _ (w.heap.size + 1) zz d t from ⟨cellNew1 w (.cells #[.string T.name, .int .i64 T.unit, .int .i64 T.step, .slice z T.zones.length zc, .slice h T.hols.length hc, .slice r T.rules.length rc, .slice e T.extras.length ec, .slice f T.fixed.length fc] 28) #[.int .i64 zz, .int .i64 d, .int .i64 t] 53 0, cellNew1 _ _ _ _ 1, cellNew1 _ _ _ _ 2⟩)
  go_enter Try.func4, Try.ntmps4
  go_upto_region 1 with fail
  generalize hwb : (w.alloc _).alloc _ = wb at *
  have HW : Hid (Below w.heap.size w wb) := by rw [← hwb]; exact Lib.hid (((Below.refl _ _).alloc (Nat.le_refl _) _).alloc (by simp) _)
  clear hwb
  go_wp2_with fail
  refine (tariffed_any _).mono ?_
  rintro e' w1 ⟨rfl, hb1⟩
  replace HW := Lib.hid (HW.out.trans (hb1.mono HW.out.size))
  replace BT := Lib.hid (BT.out.keep (Keep.below hb1))
  replace BP := Lib.hid (BP.out.keep (Keep.below hb1))
  clear hb1
  obtain ⟨t0, t1, t2, t3, t4, t5, t6, t7⟩ := BT.out
  go_wp2_with fail
  refine (few_any T _ _ (hT0.keep (Keep.below HW.out))).mono ?_
  rintro e' w2 ⟨rfl, hb2⟩
  replace HW := Lib.hid (HW.out.trans (hb2.mono HW.out.size))
  replace BT := Lib.hid (BT.out.keep (Keep.below hb2))
  replace BP := Lib.hid (BP.out.keep (Keep.below hb2))
  clear hb2 t0 t1 t2 t3 t4 t5 t6 t7
  cases hf : few T with
  | false =>
    go_wp2_with fail
    go_ret
    exact ⟨rfl, HW.out⟩
  | true =>
    have HL := Lib.hid (lists_of_few hf)
    clear hf
    cases hx : within s 0 100000000 with
    | false =>
      have X1 := Lib.hid hx
      clear hx
      go_wp2_with (go_at_call 9; refine (bwithin_any _ _ _ _).mono ?_; rintro e' w' ⟨rfl, rfl⟩; rw [X1.out])
      go_ret
      exact ⟨rfl, HW.out⟩
    | true =>
      have X1 := Lib.hid hx
      clear hx
      obtain ⟨wA, hwA⟩ : ∃ wA, wA = w2 := ⟨_, rfl⟩
      subst hwA
      go_upto_region 5 with (go_at_call 9; refine (bwithin_any _ _ _ _).mono ?_; rintro e' w' ⟨rfl, rfl⟩; rw [X1.out])
      go_upto_region 5 with fail
      go_cut [7, 8] from 29 to 35 (fun s1 s2 wx => s1 = .int .i64 (ruleAtP T zz d t).1 ∧ s2 = .int .i64 (ruleAtP T zz d t).2 ∧ Hid (Below wA.heap.size wA wx))
      case first =>
        obtain ⟨t0, t1, t2, t3, t4, t5, t6, t7⟩ := BT.out
        obtain ⟨p0, p1, p2⟩ := BP.out
        have HBd : Hid (Below wA.heap.size wA wA.drew) := Lib.hid (Below.refl _ _).drew
        have MK : Hid (∀ w', Below wA.heap.size wA w' → w'.cell? ⟨w.heap.size, 0, none⟩ = some (.string T.name) ∧ w'.cell? ⟨w.heap.size, 1, none⟩ = some (.int .i64 T.unit) ∧ w'.cell? ⟨w.heap.size, 2, none⟩ = some (.int .i64 T.step) ∧ w'.cell? ⟨w.heap.size, 3, none⟩ = some (.slice z T.zones.length zc) ∧ w'.cell? ⟨w.heap.size, 4, none⟩ = some (.slice h T.hols.length hc) ∧ w'.cell? ⟨w.heap.size, 5, none⟩ = some (.slice r T.rules.length rc) ∧ w'.cell? ⟨w.heap.size, 6, none⟩ = some (.slice e T.extras.length ec) ∧ w'.cell? ⟨w.heap.size, 7, none⟩ = some (.slice f T.fixed.length fc) ∧ w'.cell? ⟨w.heap.size + 1, 0, none⟩ = some (.int .i64 zz) ∧ w'.cell? ⟨w.heap.size + 1, 1, none⟩ = some (.int .i64 d) ∧ w'.cell? ⟨w.heap.size + 1, 2, none⟩ = some (.int .i64 t) ∧ Hid (Below wA.heap.size wA w')) := Lib.hid fun w' hw => ⟨Keep.below hw _ _ t0, Keep.below hw _ _ t1, Keep.below hw _ _ t2, Keep.below hw _ _ t3, Keep.below hw _ _ t4, Keep.below hw _ _ t5, Keep.below hw _ _ t6, Keep.below hw _ _ t7, Keep.below hw _ _ p0, Keep.below hw _ _ p1, Keep.below hw _ _ p2, Lib.hid hw⟩
        have hle0 := Nat.le_refl wA.heap.size
        go_region_held3 (fun w' => w'.cell? ⟨w.heap.size, 0, none⟩ = some (.string T.name) ∧ w'.cell? ⟨w.heap.size, 1, none⟩ = some (.int .i64 T.unit) ∧ w'.cell? ⟨w.heap.size, 2, none⟩ = some (.int .i64 T.step) ∧ w'.cell? ⟨w.heap.size, 3, none⟩ = some (.slice z T.zones.length zc) ∧ w'.cell? ⟨w.heap.size, 4, none⟩ = some (.slice h T.hols.length hc) ∧ w'.cell? ⟨w.heap.size, 5, none⟩ = some (.slice r T.rules.length rc) ∧ w'.cell? ⟨w.heap.size, 6, none⟩ = some (.slice e T.extras.length ec) ∧ w'.cell? ⟨w.heap.size, 7, none⟩ = some (.slice f T.fixed.length fc) ∧ w'.cell? ⟨w.heap.size + 1, 0, none⟩ = some (.int .i64 zz) ∧ w'.cell? ⟨w.heap.size + 1, 1, none⟩ = some (.int .i64 d) ∧ w'.cell? ⟨w.heap.size + 1, 2, none⟩ = some (.int .i64 t) ∧ Hid (Below wA.heap.size wA w'))
          (first
            | exact MK.out _ HBd.out
            | (go_split_ands; exact MK.out _ (Below.trans (Hid.out (by assumption)) (hb1.mono (Hid.out (by assumption) : Below wA.heap.size wA _).size))))
          ((first
              | (go_at_call 11
                 go_split_ands
                 refine (copy_any T _ _ (hT0.keep (Keep.below (HW.out.trans ((Hid.out (by assumption) : Below wA.heap.size wA _).mono HW.out.size)))) HL.out).mono ?_
                 rintro e' w1 ⟨v1, rfl, h1, hb1⟩
                 have hle := Nat.le_trans (Hid.out (by assumption) : Below wA.heap.size wA _).size hb1.size
                 have H1 := Lib.hid h1
                 clear h1)
              | (go_at_call 13
                 go_split_ands
                 refine (ruleAtP_any T _ zz d t _ H1.out HL.out.rules).mono ?_
                 rintro e' w1 ⟨rfl, hb1⟩
                 have hle := Nat.le_trans (Hid.out (by assumption) : Below wA.heap.size wA _).size hb1.size)))
        all_goals
          rename_i hS
          obtain ⟨-, -, -, -, -, -, -, -, -, -, -, hbb⟩ := hS
          clear t0 t1 t2 t3 t4 t5 t6 t7 p0 p1 p2
          go_wp2_with fail
          go_meet
          exact ⟨rfl, rfl, hbb⟩
      case rest =>
        obtain ⟨rfl, rfl, HB⟩ := hcut
        replace BT := Lib.hid (BT.out.keep (Keep.below HB.out))
        replace BP := Lib.hid (BP.out.keep (Keep.below HB.out))
        replace HW := Lib.hid (HW.out.trans (HB.out.mono HW.out.size))
        obtain ⟨wB, hwB⟩ : ∃ wB, wB = wc := ⟨_, rfl⟩
        subst hwB
        clear HB
        have BP0 := Lib.hid BP.out.c0
        by_cases he : (ruleAtP T zz d t).2 = 0 ∨ (ruleAtP T zz d t).2 = 12 ∨ (ruleAtP T zz d t).2 = 13
        · have HE := Lib.hid he
          have hc : ((ruleAtP T zz d t).2 != 0) = false ∨ (((ruleAtP T zz d t).2 != 0) = true ∧ ((ruleAtP T zz d t).2 != 12) = false) ∨ (((ruleAtP T zz d t).2 != 0) = true ∧ ((ruleAtP T zz d t).2 != 12) = true ∧ ((ruleAtP T zz d t).2 != 13) = false) := by
            rcases he with he | he | he <;> simp [he]
          clear he
          go_upto_region 6 with fail
          go_cut [45] from 36 to 45 (fun s wx => s = .bool false ∧ wB = wx)
          case first =>
            rcases hc with hc | ⟨hc, hc2⟩ | ⟨hc, hc2, hc3⟩
            all_goals
              go_wp2_with fail
              go_meet
              exact ⟨rfl, rfl⟩
          case rest =>
            obtain ⟨rfl, rfl⟩ := hcut
            clear hc
            go_upto_region 8 with fail
            go_cut [9, 10] from 48 to 54 (fun s1 s2 wx => ∃ (g : Nat) (md mt f' : Int), s1 = .pointer (some ⟨g, 0, none⟩) ∧ s2 = .int .i64 f' ∧ wB.heap.size ≤ g ∧ Hid (PairAt wx g md mt) ∧ Hid (NextE T zz d t (turnsL T) md mt f') ∧ Hid (Below wB.heap.size wB wx))
            case first =>
              obtain ⟨t0, t1, t2, t3, t4, t5, t6, t7⟩ := BT.out
              obtain ⟨p0, p1, p2⟩ := BP.out
              have HBd : Hid (Below wB.heap.size wB wB.drew) := Lib.hid (Below.refl _ _).drew
              have MK : Hid (∀ w', Below wB.heap.size wB w' → w'.cell? ⟨w.heap.size, 0, none⟩ = some (.string T.name) ∧ w'.cell? ⟨w.heap.size, 1, none⟩ = some (.int .i64 T.unit) ∧ w'.cell? ⟨w.heap.size, 2, none⟩ = some (.int .i64 T.step) ∧ w'.cell? ⟨w.heap.size, 3, none⟩ = some (.slice z T.zones.length zc) ∧ w'.cell? ⟨w.heap.size, 4, none⟩ = some (.slice h T.hols.length hc) ∧ w'.cell? ⟨w.heap.size, 5, none⟩ = some (.slice r T.rules.length rc) ∧ w'.cell? ⟨w.heap.size, 6, none⟩ = some (.slice e T.extras.length ec) ∧ w'.cell? ⟨w.heap.size, 7, none⟩ = some (.slice f T.fixed.length fc) ∧ w'.cell? ⟨w.heap.size + 1, 0, none⟩ = some (.int .i64 zz) ∧ w'.cell? ⟨w.heap.size + 1, 1, none⟩ = some (.int .i64 d) ∧ w'.cell? ⟨w.heap.size + 1, 2, none⟩ = some (.int .i64 t) ∧ Hid (Below wB.heap.size wB w')) := Lib.hid fun w' hw => ⟨Keep.below hw _ _ t0, Keep.below hw _ _ t1, Keep.below hw _ _ t2, Keep.below hw _ _ t3, Keep.below hw _ _ t4, Keep.below hw _ _ t5, Keep.below hw _ _ t6, Keep.below hw _ _ t7, Keep.below hw _ _ p0, Keep.below hw _ _ p1, Keep.below hw _ _ p2, Lib.hid hw⟩
              have hle0 := Nat.le_refl wB.heap.size
              go_region_held3 (fun w' => w'.cell? ⟨w.heap.size, 0, none⟩ = some (.string T.name) ∧ w'.cell? ⟨w.heap.size, 1, none⟩ = some (.int .i64 T.unit) ∧ w'.cell? ⟨w.heap.size, 2, none⟩ = some (.int .i64 T.step) ∧ w'.cell? ⟨w.heap.size, 3, none⟩ = some (.slice z T.zones.length zc) ∧ w'.cell? ⟨w.heap.size, 4, none⟩ = some (.slice h T.hols.length hc) ∧ w'.cell? ⟨w.heap.size, 5, none⟩ = some (.slice r T.rules.length rc) ∧ w'.cell? ⟨w.heap.size, 6, none⟩ = some (.slice e T.extras.length ec) ∧ w'.cell? ⟨w.heap.size, 7, none⟩ = some (.slice f T.fixed.length fc) ∧ w'.cell? ⟨w.heap.size + 1, 0, none⟩ = some (.int .i64 zz) ∧ w'.cell? ⟨w.heap.size + 1, 1, none⟩ = some (.int .i64 d) ∧ w'.cell? ⟨w.heap.size + 1, 2, none⟩ = some (.int .i64 t) ∧ Hid (Below wB.heap.size wB w'))
                (first
                  | exact MK.out _ HBd.out
                  | (go_split_ands; exact MK.out _ (Below.trans (Hid.out (by assumption)) (hb1.mono (Hid.out (by assumption) : Below wB.heap.size wB _).size)))
                  | (go_split_ands; exact MK.out _ (Below.realloc (Hid.out (by assumption)) hle _))
                  | (go_split_ands; exact MK.out _ (Below.alloc (Hid.out (by assumption)) (Hid.out (by assumption) : Below wB.heap.size wB _).size _))
                  | (go_split_ands; exact MK.out _ (Below.setCell (Below.setCell (Hid.out (by assumption)) (by show wB.heap.size ≤ _; first | exact Nat.le_refl _ | assumption) _) (by show wB.heap.size ≤ _; first | exact Nat.le_refl _ | assumption) _)))
                ((first
                    | (go_at_call 11
                       go_split_ands
                       refine (copy_any T _ _ (hT0.keep (Keep.below (HW.out.trans ((Hid.out (by assumption) : Below wB.heap.size wB _).mono HW.out.size)))) HL.out).mono ?_
                       rintro e' w1 ⟨v1, rfl, h1, hb1⟩
                       have hle := Nat.le_trans (Hid.out (by assumption) : Below wB.heap.size wB _).size hb1.size
                       have H1 := Lib.hid h1
                       clear h1
                       try (first
                          | (have HN := Lib.hid (show PairAt w1 wB.heap.size 0 0 from (PairAt.new wB.drew 0 0 30).below hb1 (by simp)); obtain ⟨q0, q1, f0, f1⟩ := HN.out)
                          | (have HN := Lib.hid (show PairAt w1 _ 0 0 from (PairAt.new _ 0 0 30).below hb1 (by simp)); obtain ⟨q0, q1, f0, f1⟩ := HN.out)
                          | (have HN := Lib.hid (PairAt.below (Hid.out HN) hb1 (PairAt.lt (Hid.out HN))); obtain ⟨q0, q1, f0, f1⟩ := HN.out)))
                    | (go_at_call 14
                       go_split_ands
                       refine (nextChange_any T _ zz d t _ (by first | exact H1.out | exact H1.out.keep (Keep.alloc _ _)) HL.out.rules).mono ?_
                       rintro e' w1 ⟨md, mt, f7, rfl, hne, hb1⟩
                       have hle := Nat.le_trans (Hid.out (by assumption) : Below wB.heap.size wB _).size hb1.size
                       have HX := Lib.hid hne
                       clear hne
                       try (first
                          | (have HN := Lib.hid (show PairAt w1 wB.heap.size 0 0 from (PairAt.new wB.drew 0 0 30).below hb1 (by simp)); obtain ⟨q0, q1, f0, f1⟩ := HN.out)
                          | (have HN := Lib.hid (show PairAt w1 _ 0 0 from (PairAt.new _ 0 0 30).below hb1 (by simp)); obtain ⟨q0, q1, f0, f1⟩ := HN.out)
                          | (have HN := Lib.hid (PairAt.below (Hid.out HN) hb1 (PairAt.lt (Hid.out HN))); obtain ⟨q0, q1, f0, f1⟩ := HN.out)))))
              all_goals
                rename_i hS
                obtain ⟨-, -, -, -, -, -, -, -, -, -, -, hbb⟩ := hS
                clear t0 t1 t2 t3 t4 t5 t6 t7 p0 p1 p2
                go_wp2_with fail
                go_meet
                first
                  | exact ⟨_, md, mt, f7, rfl, rfl, (by first | exact Nat.le_refl _ | assumption), Lib.hid (PairAt.set (Hid.out HN) _ _), HX, hbb⟩
                  | exact ⟨_, md, mt, f7, rfl, rfl, (by first | exact Nat.le_refl _ | assumption), Lib.hid (PairAt.new _ _ _ _), HX, hbb⟩
            case rest =>
              obtain ⟨g, md, mt, f', rfl, rfl, hg, HM, HX, HB⟩ := hcut
              replace BT := Lib.hid (BT.out.keep (Keep.below HB.out))
              replace BP := Lib.hid (BP.out.keep (Keep.below HB.out))
              have hlow := HW.out.size
              have hp1 := World.block_lt_of_cell? wB _ BP0.out
              replace HW := Lib.hid (HW.out.trans (HB.out.mono HW.out.size))
              obtain ⟨wC, hwC⟩ : ∃ wC, wC = wc := ⟨_, rfl⟩
              subst hwC
              clear HB
              have hgC := HM.out.lt
              obtain ⟨p0, p1, p2⟩ := BP.out
              have HQ := Lib.hid (PlaceW.new wC zz d t 53)
              have hal := (Below.refl wC.heap.size wC).alloc (Nat.le_refl _) (.cells #[.int .i64 zz, .int .i64 d, .int .i64 t] 53)
              replace BT := Lib.hid (BT.out.keep (Keep.below hal))
              replace BP := Lib.hid (BP.out.keep (Keep.below hal))
              replace HM := Lib.hid (HM.out.below hal hgC)
              replace HW := Lib.hid (HW.out.trans (hal.mono HW.out.size))
              clear hal
              go_upto_region 10 with fail
              clear p0 p1 p2
              generalize wC.alloc _ = wD at *
              generalize wC.heap.size = gq at *
              obtain ⟨p0, p1, p2⟩ := BP.out
              go_wp2_with fail
              refine (laterP_any d t s _).mono ?_
              rintro e' w5 ⟨rfl, hb5⟩
              replace BT := Lib.hid (BT.out.keep (Keep.below hb5))
              replace BP := Lib.hid (BP.out.keep (Keep.below hb5))
              replace HM := Lib.hid (HM.out.below hb5 HM.out.lt)
              replace HQ := Lib.hid (HQ.out.below hb5 HQ.out.lt)
              replace HW := Lib.hid (HW.out.trans (hb5.mono HW.out.size))
              clear hb5 p0 p1 p2
              have HN := Lib.hid (PairAt.new w5 (laterP d t s).1.1 (laterP d t s).1.2 30)
              have hal := (Below.refl w5.heap.size w5).alloc (Nat.le_refl _) (.cells #[.int .i64 (laterP d t s).1.1, .int .i64 (laterP d t s).1.2] 30)
              replace BT := Lib.hid (BT.out.keep (Keep.below hal))
              replace BP := Lib.hid (BP.out.keep (Keep.below hal))
              replace HM := Lib.hid (HM.out.below hal HM.out.lt)
              replace HQ := Lib.hid (HQ.out.below hal HQ.out.lt)
              replace HW := Lib.hid (HW.out.trans (hal.mono HW.out.size))
              clear hal
              go_upto_region 11 with fail
              generalize w5.alloc _ = w6 at *
              generalize w5.heap.size = gl at *
              by_cases hl : (laterP d t s).2 = 0
              all_goals
                first
                  | (have dl : ((laterP d t s).2 == 0) = true := by simpa using hl
                     have HK := Lib.hid (show (laterP d t s).1 = lookAt d t s by unfold lookAt; rw [if_pos hl])
                     clear hl
                     obtain ⟨y0, y1, -, -⟩ := HN.out
                     obtain ⟨⟨p0, p1, p2⟩, f1, f2⟩ := HQ.out
                     replace BT := Lib.hid ((BT.out.off (g' := gq) (k := 1) (by omega) (.int .i64 (laterP d t s).1.1)).off (g' := gq) (k := 2) (by omega) (.int .i64 (laterP d t s).1.2))
                     replace BP := Lib.hid ((BP.out.far (g' := gq) (k := 1) (by omega) (.int .i64 (laterP d t s).1.1)).far (g' := gq) (k := 2) (by omega) (.int .i64 (laterP d t s).1.2))
                     replace HM := Lib.hid ((HM.out.far (g' := gq) (k := 1) (by omega) (.int .i64 (laterP d t s).1.1)).far (g' := gq) (k := 2) (by omega) (.int .i64 (laterP d t s).1.2))
                     replace HQ := Lib.hid (HQ.out.set (laterP d t s).1.1 (laterP d t s).1.2)
                     replace HW := Lib.hid ((HW.out.setCell (p := ⟨gq, 1, none⟩) (by show w.heap.size ≤ gq; omega) (.int .i64 (laterP d t s).1.1)).setCell (p := ⟨gq, 2, none⟩) (by show w.heap.size ≤ gq; omega) (.int .i64 (laterP d t s).1.2))
                     go_upto_region 13 with fail
                     generalize (w6.setCell _ _).setCell _ _ = w7 at *
                     rw [HK.out] at HQ
                     clear y0 y1 p0 p1 p2 f1 f2 dl HK HN)
                  | (have dl : ((laterP d t s).2 == 0) = false := by simpa using hl
                     have HK := Lib.hid (show (d, t) = lookAt d t s by unfold lookAt; rw [if_neg hl])
                     clear hl
                     replace HQ := Lib.hid (show PlaceW w6 gq zz (lookAt d t s).1 (lookAt d t s).2 by rw [← HK.out]; exact HQ.out)
                     go_upto_region 13 with fail
                     obtain ⟨w7, hw7⟩ : ∃ w7, w7 = w6 := ⟨_, rfl⟩
                     subst hw7
                     clear dl HK HN)
              all_goals
                by_cases hf : f' = 0
                · subst hf
                  go_upto_region 15 with fail
                  go_cut [14] from 81 to 102 (fun s1 wx => ∃ b : Bool, s1 = .bool b ∧ (b = true → Beyond (lookAt d t s).1 (lookAt d t s).2 md mt) ∧ w7 = wx)
                  case first =>
                    obtain ⟨⟨p0, p1, p2⟩, -, -⟩ := HQ.out
                    obtain ⟨y0, y1, -, -⟩ := HM.out
                    by_cases a1 : (lookAt d t s).1 < md
                    · have b1 : decide ((lookAt d t s).1 < md) = true := decide_eq_true a1
                      go_wp2_with fail
                      go_meet
                      exact ⟨_, rfl, fun _ => .inl a1, rfl⟩
                    · have b1 : decide ((lookAt d t s).1 < md) = false := decide_eq_false a1
                      by_cases a2 : (lookAt d t s).1 = md
                      · have b2 : ((lookAt d t s).1 == md) = true := by simpa using a2
                        by_cases a3 : (lookAt d t s).2 < mt
                        · have b3 : decide ((lookAt d t s).2 < mt) = true := decide_eq_true a3
                          have HA2 := Lib.hid a2
                          clear a2
                          go_wp2_with fail
                          go_meet
                          exact ⟨_, rfl, fun _ => .inr ⟨HA2.out, a3⟩, rfl⟩
                        · have b3 : decide ((lookAt d t s).2 < mt) = false := decide_eq_false a3
                          clear a2
                          go_wp2_with fail
                          go_meet
                          exact ⟨_, rfl, fun hh => by simp at hh, rfl⟩
                      · have b2 : ((lookAt d t s).1 == md) = false := by simpa using a2
                        go_wp2_with fail
                        go_meet
                        exact ⟨_, rfl, fun hh => by simp at hh, rfl⟩
                  case rest =>
                    obtain ⟨ah, rfl, ha, hw⟩ := hcut
                    subst hw
                    have HA := Lib.hid ha
                    clear ha
                    go_upto_region 16 with fail
                    go_cut [15, 16] from 103 to 112 (fun s1 s2 wx => s1 = .int .i64 (ruleAtP T zz md mt).1 ∧ s2 = .int .i64 (ruleAtP T zz md mt).2 ∧ Hid (Below w7.heap.size w7 wx))
                    case first =>
                      obtain ⟨t0, t1, t2, t3, t4, t5, t6, t7⟩ := BT.out
                      obtain ⟨p0, p1, p2⟩ := BP.out
                      obtain ⟨y0, y1, -, -⟩ := HM.out
                      have HBd : Hid (Below w7.heap.size w7 w7.drew) := Lib.hid (Below.refl _ _).drew
                      have MK : Hid (∀ w', Below w7.heap.size w7 w' → w'.cell? ⟨w.heap.size, 0, none⟩ = some (.string T.name) ∧ w'.cell? ⟨w.heap.size, 1, none⟩ = some (.int .i64 T.unit) ∧ w'.cell? ⟨w.heap.size, 2, none⟩ = some (.int .i64 T.step) ∧ w'.cell? ⟨w.heap.size, 3, none⟩ = some (.slice z T.zones.length zc) ∧ w'.cell? ⟨w.heap.size, 4, none⟩ = some (.slice h T.hols.length hc) ∧ w'.cell? ⟨w.heap.size, 5, none⟩ = some (.slice r T.rules.length rc) ∧ w'.cell? ⟨w.heap.size, 6, none⟩ = some (.slice e T.extras.length ec) ∧ w'.cell? ⟨w.heap.size, 7, none⟩ = some (.slice f T.fixed.length fc) ∧ w'.cell? ⟨w.heap.size + 1, 0, none⟩ = some (.int .i64 zz) ∧ w'.cell? ⟨w.heap.size + 1, 1, none⟩ = some (.int .i64 d) ∧ w'.cell? ⟨w.heap.size + 1, 2, none⟩ = some (.int .i64 t) ∧ w'.cell? ⟨g, 0, none⟩ = some (.int .i64 md) ∧ w'.cell? ⟨g, 1, none⟩ = some (.int .i64 mt) ∧ Hid (Below w7.heap.size w7 w')) := Lib.hid fun w' hw => ⟨Keep.below hw _ _ t0, Keep.below hw _ _ t1, Keep.below hw _ _ t2, Keep.below hw _ _ t3, Keep.below hw _ _ t4, Keep.below hw _ _ t5, Keep.below hw _ _ t6, Keep.below hw _ _ t7, Keep.below hw _ _ p0, Keep.below hw _ _ p1, Keep.below hw _ _ p2, Keep.below hw _ _ y0, Keep.below hw _ _ y1, Lib.hid hw⟩
                      have hle0 := Nat.le_refl w7.heap.size
                      go_region_held3 (fun w' => w'.cell? ⟨w.heap.size, 0, none⟩ = some (.string T.name) ∧ w'.cell? ⟨w.heap.size, 1, none⟩ = some (.int .i64 T.unit) ∧ w'.cell? ⟨w.heap.size, 2, none⟩ = some (.int .i64 T.step) ∧ w'.cell? ⟨w.heap.size, 3, none⟩ = some (.slice z T.zones.length zc) ∧ w'.cell? ⟨w.heap.size, 4, none⟩ = some (.slice h T.hols.length hc) ∧ w'.cell? ⟨w.heap.size, 5, none⟩ = some (.slice r T.rules.length rc) ∧ w'.cell? ⟨w.heap.size, 6, none⟩ = some (.slice e T.extras.length ec) ∧ w'.cell? ⟨w.heap.size, 7, none⟩ = some (.slice f T.fixed.length fc) ∧ w'.cell? ⟨w.heap.size + 1, 0, none⟩ = some (.int .i64 zz) ∧ w'.cell? ⟨w.heap.size + 1, 1, none⟩ = some (.int .i64 d) ∧ w'.cell? ⟨w.heap.size + 1, 2, none⟩ = some (.int .i64 t) ∧ w'.cell? ⟨g, 0, none⟩ = some (.int .i64 md) ∧ w'.cell? ⟨g, 1, none⟩ = some (.int .i64 mt) ∧ Hid (Below w7.heap.size w7 w'))
                        (first
                          | exact MK.out _ HBd.out
                          | (go_split_ands; exact MK.out _ (Below.trans (Hid.out (by assumption)) (hb1.mono (Hid.out (by assumption) : Below w7.heap.size w7 _).size))))
                        ((first
                            | (go_at_call 11
                               go_split_ands
                               refine (copy_any T _ _ (hT0.keep (Keep.below (HW.out.trans ((Hid.out (by assumption) : Below w7.heap.size w7 _).mono HW.out.size)))) HL.out).mono ?_
                               rintro e' w1 ⟨v1, rfl, h1, hb1⟩
                               have hle := Nat.le_trans (Hid.out (by assumption) : Below w7.heap.size w7 _).size hb1.size
                               have H1 := Lib.hid h1
                               clear h1)
                            | (go_at_call 13
                               go_split_ands
                               refine (ruleAtP_any T _ zz md mt _ H1.out HL.out.rules).mono ?_
                               rintro e' w1 ⟨rfl, hb1⟩
                               have hle := Nat.le_trans (Hid.out (by assumption) : Below w7.heap.size w7 _).size hb1.size)))
                      all_goals
                        rename_i hS
                        obtain ⟨-, -, -, -, -, -, -, -, -, -, -, -, -, hbb⟩ := hS
                        clear t0 t1 t2 t3 t4 t5 t6 t7 p0 p1 p2 y0 y1
                        go_wp2_with fail
                        go_meet
                        exact ⟨rfl, rfl, hbb⟩
                    case rest =>
                      obtain ⟨rfl, rfl, HB⟩ := hcut
                      replace BT := Lib.hid (BT.out.keep (Keep.below HB.out))
                      replace HQ := Lib.hid (HQ.out.below HB.out HQ.out.lt)
                      replace HW := Lib.hid (HW.out.trans (HB.out.mono HW.out.size))
                      obtain ⟨wE, hwE⟩ : ∃ wE, wE = wc := ⟨_, rfl⟩
                      subst hwE
                      clear HB
                      have hne := at_change (zs := turnsL T) turnsL_of HX.out
                      have hcase : ((ruleAtP T zz md mt).1 == (ruleAtP T zz d t).1) = false ∨ (((ruleAtP T zz md mt).1 == (ruleAtP T zz d t).1) = true ∧ ((ruleAtP T zz md mt).2 == (ruleAtP T zz d t).2) = false) := by
                        by_cases g1 : (ruleAtP T zz md mt).1 = (ruleAtP T zz d t).1
                        · right
                          have : (ruleAtP T zz md mt).2 ≠ (ruleAtP T zz d t).2 := fun g2 => hne (Prod.ext g1 g2)
                          exact ⟨by simpa using g1, by simpa using this⟩
                        · left
                          simpa using g1
                      clear hne
                      go_upto_region 17 with fail
                      go_cut [120] from 113 to 120 (fun s1 wx => s1 = .bool false ∧ wE = wx)
                      case first =>
                        rcases hcase with g1 | ⟨g1, g2⟩
                        all_goals
                          go_wp2_with fail
                          go_meet
                          exact ⟨rfl, rfl⟩
                      case rest =>
                        obtain ⟨rfl, hw⟩ := hcut
                        subst hw
                        clear hcase
                        go_upto_region 19 with fail
                        go_cut [17, 18] from 121 to 127 (fun s1 s2 wx => s1 = .int .i64 (ruleAtP T zz (lookAt d t s).1 (lookAt d t s).2).1 ∧ s2 = .int .i64 (ruleAtP T zz (lookAt d t s).1 (lookAt d t s).2).2 ∧ Hid (Below wE.heap.size wE wx))
                        case first =>
                          obtain ⟨t0, t1, t2, t3, t4, t5, t6, t7⟩ := BT.out
                          obtain ⟨⟨p0, p1, p2⟩, -, -⟩ := HQ.out
                          have HBd : Hid (Below wE.heap.size wE wE.drew) := Lib.hid (Below.refl _ _).drew
                          have MK : Hid (∀ w', Below wE.heap.size wE w' → w'.cell? ⟨w.heap.size, 0, none⟩ = some (.string T.name) ∧ w'.cell? ⟨w.heap.size, 1, none⟩ = some (.int .i64 T.unit) ∧ w'.cell? ⟨w.heap.size, 2, none⟩ = some (.int .i64 T.step) ∧ w'.cell? ⟨w.heap.size, 3, none⟩ = some (.slice z T.zones.length zc) ∧ w'.cell? ⟨w.heap.size, 4, none⟩ = some (.slice h T.hols.length hc) ∧ w'.cell? ⟨w.heap.size, 5, none⟩ = some (.slice r T.rules.length rc) ∧ w'.cell? ⟨w.heap.size, 6, none⟩ = some (.slice e T.extras.length ec) ∧ w'.cell? ⟨w.heap.size, 7, none⟩ = some (.slice f T.fixed.length fc) ∧ w'.cell? ⟨gq, 0, none⟩ = some (.int .i64 zz) ∧ w'.cell? ⟨gq, 1, none⟩ = some (.int .i64 (lookAt d t s).1) ∧ w'.cell? ⟨gq, 2, none⟩ = some (.int .i64 (lookAt d t s).2) ∧ Hid (Below wE.heap.size wE w')) := Lib.hid fun w' hw => ⟨Keep.below hw _ _ t0, Keep.below hw _ _ t1, Keep.below hw _ _ t2, Keep.below hw _ _ t3, Keep.below hw _ _ t4, Keep.below hw _ _ t5, Keep.below hw _ _ t6, Keep.below hw _ _ t7, Keep.below hw _ _ p0, Keep.below hw _ _ p1, Keep.below hw _ _ p2, Lib.hid hw⟩
                          have hle0 := Nat.le_refl wE.heap.size
                          go_region_held3 (fun w' => w'.cell? ⟨w.heap.size, 0, none⟩ = some (.string T.name) ∧ w'.cell? ⟨w.heap.size, 1, none⟩ = some (.int .i64 T.unit) ∧ w'.cell? ⟨w.heap.size, 2, none⟩ = some (.int .i64 T.step) ∧ w'.cell? ⟨w.heap.size, 3, none⟩ = some (.slice z T.zones.length zc) ∧ w'.cell? ⟨w.heap.size, 4, none⟩ = some (.slice h T.hols.length hc) ∧ w'.cell? ⟨w.heap.size, 5, none⟩ = some (.slice r T.rules.length rc) ∧ w'.cell? ⟨w.heap.size, 6, none⟩ = some (.slice e T.extras.length ec) ∧ w'.cell? ⟨w.heap.size, 7, none⟩ = some (.slice f T.fixed.length fc) ∧ w'.cell? ⟨gq, 0, none⟩ = some (.int .i64 zz) ∧ w'.cell? ⟨gq, 1, none⟩ = some (.int .i64 (lookAt d t s).1) ∧ w'.cell? ⟨gq, 2, none⟩ = some (.int .i64 (lookAt d t s).2) ∧ Hid (Below wE.heap.size wE w'))
                            (first
                              | exact MK.out _ HBd.out
                              | (go_split_ands; exact MK.out _ (Below.trans (Hid.out (by assumption)) (hb1.mono (Hid.out (by assumption) : Below wE.heap.size wE _).size))))
                            ((first
                                | (go_at_call 11
                                   go_split_ands
                                   refine (copy_any T _ _ (hT0.keep (Keep.below (HW.out.trans ((Hid.out (by assumption) : Below wE.heap.size wE _).mono HW.out.size)))) HL.out).mono ?_
                                   rintro e' w1 ⟨v1, rfl, h1, hb1⟩
                                   have hle := Nat.le_trans (Hid.out (by assumption) : Below wE.heap.size wE _).size hb1.size
                                   have H1 := Lib.hid h1
                                   clear h1)
                                | (go_at_call 13
                                   go_split_ands
                                   refine (ruleAtP_any T _ zz (lookAt d t s).1 (lookAt d t s).2 _ H1.out HL.out.rules).mono ?_
                                   rintro e' w1 ⟨rfl, hb1⟩
                                   have hle := Nat.le_trans (Hid.out (by assumption) : Below wE.heap.size wE _).size hb1.size)))
                          all_goals
                            rename_i hS
                            obtain ⟨-, -, -, -, -, -, -, -, -, -, -, hbb⟩ := hS
                            clear t0 t1 t2 t3 t4 t5 t6 t7 p0 p1 p2
                            go_wp2_with fail
                            go_meet
                            exact ⟨rfl, rfl, hbb⟩
                        case rest =>
                          obtain ⟨rfl, rfl, HB⟩ := hcut
                          replace HW := Lib.hid (HW.out.trans (HB.out.mono HW.out.size))
                          clear HB
                          have hz : ah = true → ruleAtP T zz (lookAt d t s).1 (lookAt d t s).2 = ruleAtP T zz d t := fun hh => look_same (zs := turnsL T) turnsL_of HX.out HE.out (fun he => by rw [if_pos rfl]; exact HA.out hh)
                          cases ah with
                          | false =>
                            clear hz
                            go_wp2_with fail
                            go_ret
                            exact ⟨rfl, HW.out⟩
                          | true =>
                            rw [hz rfl]
                            clear hz
                            have z1 : ((ruleAtP T zz d t).1 == (ruleAtP T zz d t).1) = true := by simp
                            have z2 : ((ruleAtP T zz d t).2 == (ruleAtP T zz d t).2) = true := by simp
                            go_wp2_with fail
                            go_ret
                            exact ⟨rfl, HW.out⟩
                · have d1 : (f' != 0) = true := by simpa using hf
                  have HF := Lib.hid hf
                  clear hf
                  go_cut [14] from 67 to 78 (fun s1 wx => ∃ b : Bool, s1 = .bool b ∧ (errPlace T zz d t = 0 → b = true → (lookAt d t s).1 ≤ d + 400) ∧ w7 = wx)
                  case first =>
                    obtain ⟨⟨p0, p1, p2⟩, -, -⟩ := HQ.out
                    obtain ⟨r0, r1, r2⟩ := BP.out
                    by_cases he : errPlace T zz d t = 0
                    · obtain ⟨⟨m0, m1⟩, m2, m3⟩ := moment_ok (place_parts he).2.2
                      clear he
                      by_cases a1 : (lookAt d t s).1 ≤ d + 400
                      · have b1 : decide ((lookAt d t s).1 ≤ d + 400) = true := decide_eq_true a1
                        go_wp2_with fail
                        go_meet
                        exact ⟨_, rfl, fun _ _ => a1, rfl⟩
                      · have b1 : decide ((lookAt d t s).1 ≤ d + 400) = false := decide_eq_false a1
                        go_wp2_with fail
                        go_meet
                        exact ⟨_, rfl, fun _ hh => by simp at hh, rfl⟩
                    · have HN0 := Lib.hid he
                      clear he
                      go_wp2_with fail
                      all_goals
                        go_meet
                        exact ⟨_, rfl, fun hh => absurd hh HN0.out, rfl⟩
                  case rest =>
                    obtain ⟨ah, rfl, ha, hw⟩ := hcut
                    subst hw
                    have HA := Lib.hid ha
                    have d2 : (f' == 0) = false := by simpa using HF.out
                    clear ha d1
                    go_upto_region 19 with fail
                    go_cut [17, 18] from 121 to 127 (fun s1 s2 wx => s1 = .int .i64 (ruleAtP T zz (lookAt d t s).1 (lookAt d t s).2).1 ∧ s2 = .int .i64 (ruleAtP T zz (lookAt d t s).1 (lookAt d t s).2).2 ∧ Hid (Below w7.heap.size w7 wx))
                    case first =>
                      obtain ⟨t0, t1, t2, t3, t4, t5, t6, t7⟩ := BT.out
                      obtain ⟨⟨p0, p1, p2⟩, -, -⟩ := HQ.out
                      have HBd : Hid (Below w7.heap.size w7 w7.drew) := Lib.hid (Below.refl _ _).drew
                      have MK : Hid (∀ w', Below w7.heap.size w7 w' → w'.cell? ⟨w.heap.size, 0, none⟩ = some (.string T.name) ∧ w'.cell? ⟨w.heap.size, 1, none⟩ = some (.int .i64 T.unit) ∧ w'.cell? ⟨w.heap.size, 2, none⟩ = some (.int .i64 T.step) ∧ w'.cell? ⟨w.heap.size, 3, none⟩ = some (.slice z T.zones.length zc) ∧ w'.cell? ⟨w.heap.size, 4, none⟩ = some (.slice h T.hols.length hc) ∧ w'.cell? ⟨w.heap.size, 5, none⟩ = some (.slice r T.rules.length rc) ∧ w'.cell? ⟨w.heap.size, 6, none⟩ = some (.slice e T.extras.length ec) ∧ w'.cell? ⟨w.heap.size, 7, none⟩ = some (.slice f T.fixed.length fc) ∧ w'.cell? ⟨gq, 0, none⟩ = some (.int .i64 zz) ∧ w'.cell? ⟨gq, 1, none⟩ = some (.int .i64 (lookAt d t s).1) ∧ w'.cell? ⟨gq, 2, none⟩ = some (.int .i64 (lookAt d t s).2) ∧ Hid (Below w7.heap.size w7 w')) := Lib.hid fun w' hw => ⟨Keep.below hw _ _ t0, Keep.below hw _ _ t1, Keep.below hw _ _ t2, Keep.below hw _ _ t3, Keep.below hw _ _ t4, Keep.below hw _ _ t5, Keep.below hw _ _ t6, Keep.below hw _ _ t7, Keep.below hw _ _ p0, Keep.below hw _ _ p1, Keep.below hw _ _ p2, Lib.hid hw⟩
                      have hle0 := Nat.le_refl w7.heap.size
                      go_region_held3 (fun w' => w'.cell? ⟨w.heap.size, 0, none⟩ = some (.string T.name) ∧ w'.cell? ⟨w.heap.size, 1, none⟩ = some (.int .i64 T.unit) ∧ w'.cell? ⟨w.heap.size, 2, none⟩ = some (.int .i64 T.step) ∧ w'.cell? ⟨w.heap.size, 3, none⟩ = some (.slice z T.zones.length zc) ∧ w'.cell? ⟨w.heap.size, 4, none⟩ = some (.slice h T.hols.length hc) ∧ w'.cell? ⟨w.heap.size, 5, none⟩ = some (.slice r T.rules.length rc) ∧ w'.cell? ⟨w.heap.size, 6, none⟩ = some (.slice e T.extras.length ec) ∧ w'.cell? ⟨w.heap.size, 7, none⟩ = some (.slice f T.fixed.length fc) ∧ w'.cell? ⟨gq, 0, none⟩ = some (.int .i64 zz) ∧ w'.cell? ⟨gq, 1, none⟩ = some (.int .i64 (lookAt d t s).1) ∧ w'.cell? ⟨gq, 2, none⟩ = some (.int .i64 (lookAt d t s).2) ∧ Hid (Below w7.heap.size w7 w'))
                        (first
                          | exact MK.out _ HBd.out
                          | (go_split_ands; exact MK.out _ (Below.trans (Hid.out (by assumption)) (hb1.mono (Hid.out (by assumption) : Below w7.heap.size w7 _).size))))
                        ((first
                            | (go_at_call 11
                               go_split_ands
                               refine (copy_any T _ _ (hT0.keep (Keep.below (HW.out.trans ((Hid.out (by assumption) : Below w7.heap.size w7 _).mono HW.out.size)))) HL.out).mono ?_
                               rintro e' w1 ⟨v1, rfl, h1, hb1⟩
                               have hle := Nat.le_trans (Hid.out (by assumption) : Below w7.heap.size w7 _).size hb1.size
                               have H1 := Lib.hid h1
                               clear h1)
                            | (go_at_call 13
                               go_split_ands
                               refine (ruleAtP_any T _ zz (lookAt d t s).1 (lookAt d t s).2 _ H1.out HL.out.rules).mono ?_
                               rintro e' w1 ⟨rfl, hb1⟩
                               have hle := Nat.le_trans (Hid.out (by assumption) : Below w7.heap.size w7 _).size hb1.size)))
                      all_goals
                        rename_i hS
                        obtain ⟨-, -, -, -, -, -, -, -, -, -, -, hbb⟩ := hS
                        clear t0 t1 t2 t3 t4 t5 t6 t7 p0 p1 p2
                        go_wp2_with fail
                        go_meet
                        exact ⟨rfl, rfl, hbb⟩
                    case rest =>
                      obtain ⟨rfl, rfl, HB⟩ := hcut
                      replace HW := Lib.hid (HW.out.trans (HB.out.mono HW.out.size))
                      clear HB
                      have hz : ah = true → ruleAtP T zz (lookAt d t s).1 (lookAt d t s).2 = ruleAtP T zz d t := fun hh => look_same (zs := turnsL T) turnsL_of HX.out HE.out (fun he => by rw [if_neg HF.out]; exact HA.out he hh)
                      cases ah with
                      | false =>
                        clear hz
                        go_wp2_with fail
                        go_ret
                        exact ⟨rfl, HW.out⟩
                      | true =>
                        rw [hz rfl]
                        clear hz
                        have z1 : ((ruleAtP T zz d t).1 == (ruleAtP T zz d t).1) = true := by simp
                        have z2 : ((ruleAtP T zz d t).2 == (ruleAtP T zz d t).2) = true := by simp
                        go_wp2_with fail
                        go_ret
                        exact ⟨rfl, HW.out⟩
        · have hz := ruleAtP_zero (T := T) (z := zz) (d := d) (t := t) (fun hh => he (.inl hh))
          have e1 : ((ruleAtP T zz d t).2 != 0) = true := by simpa using fun hh => he (.inl hh)
          have e2 : ((ruleAtP T zz d t).2 != 12) = true := by simpa using fun hh => he (.inr (.inl hh))
          have e3 : ((ruleAtP T zz d t).2 != 13) = true := by simpa using fun hh => he (.inr (.inr hh))
          have e4 : ((ruleAtP T zz d t).1 == 0) = true := by simpa using hz
          clear he hz
          go_wp2_with fail
          go_ret
          exact ⟨rfl, HW.out⟩
end Go.Proofs.Ytbehabaoeicgeaa

/- Pairs and covers: the reference's CopyPairs, CopyCover, the law's great. Conditions: no list has more than a million elements. -/
import Derived.Test.YtfjdnbnalihjiaaGreatDoorK8
import Derived.Deep.RegionHeld3
import Derived.Test.YtfjdnbnalihjiaaGreatDoorRP
namespace Go.Proofs.YtfjdnbnalihjiaaGreatDoor
open Go.RowKit Fs

theorem Tryz.infoPair : (Tryz.prog.info? 42).map (fun i => (i.zero, i.size, i.bytes)) = some (some (.agg #[.int .i64 0, .int .i64 0]), 2, 16) := by kernel_rfl
set_option maxHeartbeats 400000 in
theorem rCopyPairs_any (l : List (Int × Int)) (A : Option Addr) (c : Nat) (w : World) (h : ArrPr w A l c) (hn : l.length ≤ 1000000) :
    Calls Tryz.prog 46 #[.slice A l.length c] w fun e w' => ∃ A' c', e = .returned (.slice A' l.length c') ∧ ArrPr w' A' l c' ∧ Above w.heap.size A' ∧ Below w.heap.size w w' := by
  obtain ⟨i0, hi, hz0, hz1, hz2⟩ := info_parts Tryz.infoPair
  go_enter Tryz.func46, Tryz.ntmps46
  go_wp2_with (at_builtin
               refine wpList_copy rfl (.tmp 3) (.tmp 4) 68 rfl 42 i0 (.agg #[.int .i64 0, .int .i64 0]) 2 16 Tryz.underlying68 hi hz0 hz1 hz2 rfl (by decide) w.heap.size w.heap.size rfl (Nat.le_refl _) (heap_alloc_new _ _) A l.length c _ rfl (Arr.keep (Keep.alloc w _) h) (by intro i j; unfold prCells; split <;> rfl) (by unfold maxLen; omega) (by omega) ?_
               intro A1 c1 w1 ha hb)
  go_ret
  exact ⟨A1, c1, rfl, own_arrN ha, own_above ha, ((Below.refl _ _).alloc (Nat.le_refl _) _).trans hb⟩
theorem ArrI.farI {B : Nat} {w : World} {A : Option Addr} {l : List Int} {c : Nat} (h : ArrI w A l c) (ha : Above B A) {p : Addr} (hp : p.block < B) (v : Value) : ArrI (w.setCell p v) A l c := by
  refine ⟨h.1, h.2.1, fun hn => ?_⟩
  obtain ⟨b, o, h1, h4⟩ := h.2.2 hn
  have : B ≤ b := ha _ h1
  refine ⟨b, o, h1, fun i j hi hj => (World.cell?_setCell_far _ _ _ _ ?_).trans (h4 i j hi hj)⟩
  show p.block ≠ b
  omega
/-- Two cells of a block. -/
structure BoxTwo (w : World) (g : Nat) (u v : Value) : Prop where
  c0 : w.cell? ⟨g, 0, none⟩ = some u
  c1 : w.cell? ⟨g, 1, none⟩ = some v
theorem BoxTwo.keep {w w' : World} (k : Keep w w') {g : Nat} {u v : Value} (m : BoxTwo w g u v) : BoxTwo w' g u v := ⟨k _ _ m.c0, k _ _ m.c1⟩
set_option linter.unusedSimpArgs false in
set_option maxHeartbeats 3200000 in
set_option maxRecDepth 100000 in
theorem rCopyCover_any (s t : List Int) (S T : Option Addr) (sc tc : Nat) (w : World) (h : ArrI w S s sc) (h2 : ArrI w T t tc) (hs : s.length ≤ 1000000) (ht : t.length ≤ 1000000) :
    Calls Tryz.prog 48 #[.agg #[.slice S s.length sc, .slice T t.length tc]] w fun e w' => (∃ S' T' sc' tc', e = .returned (.agg #[.slice S' s.length sc', .slice T' t.length tc']) ∧ ArrI w' S' s sc' ∧ ArrI w' T' t tc') ∧ Below w.heap.size w w' := by
  have HS := Lib.hid h
  have HT := Lib.hid h2
  have BX := Lib.hid (show BoxTwo ((w.alloc (.cells #[.slice S s.length sc, .slice T t.length tc] 70)).alloc (.cells #[.slice none 0 0, .slice none 0 0] 70)) w.heap.size (.slice S s.length sc) (.slice T t.length tc) from ⟨(Keep.alloc _ (.cells #[.slice none 0 0, .slice none 0 0] 70)) _ _ (cellNew w #[.slice S s.length sc, .slice T t.length tc] 70 0), (Keep.alloc _ (.cells #[.slice none 0 0, .slice none 0 0] 70)) _ _ (cellNew w #[.slice S s.length sc, .slice T t.length tc] 70 1)⟩)
  have BZ := Lib.hid (show BoxTwo ((w.alloc (.cells #[.slice S s.length sc, .slice T t.length tc] 70)).alloc (.cells #[.slice none 0 0, .slice none 0 0] 70)) (w.heap.size + 1) (.slice none 0 0) (.slice none 0 0) from ⟨cellNew1 _ _ _ _ 0, cellNew1 _ _ _ _ 1⟩)
  have FZ := Lib.hid (show ((w.alloc (.cells #[.slice S s.length sc, .slice T t.length tc] 70)).alloc (.cells #[.slice none 0 0, .slice none 0 0] 70)).frozen? ⟨w.heap.size + 1, 0, none⟩ = false ∧ ((w.alloc (.cells #[.slice S s.length sc, .slice T t.length tc] 70)).alloc (.cells #[.slice none 0 0, .slice none 0 0] 70)).frozen? ⟨w.heap.size + 1, 1, none⟩ = false from ⟨frozenNew1 _ _ _ _ 0, frozenNew1 _ _ _ _ 1⟩)
  clear h h2
  go_enter Tryz.func48, Tryz.ntmps48
  go_upto_region 1 with fail
  generalize hwb : (w.alloc _).alloc _ = wb at *
  have HW : Hid (Below w.heap.size w wb) := by rw [← hwb]; exact Lib.hid (((Below.refl _ _).alloc (Nat.le_refl _) _).alloc (by simp) _)
  have HWS : Hid (w.heap.size + 2 = wb.heap.size) := by rw [← hwb]; exact Lib.hid (by simp)
  clear hwb
  obtain ⟨q0, q1⟩ := BX.out
  go_wp2_with fail
  have HBd : Hid (Below wb.heap.size wb wb.drew) := Lib.hid (Below.refl _ _).drew
  have MK : Hid (∀ w', Below wb.heap.size wb w' → w'.cell? ⟨w.heap.size, 0, none⟩ = some (.slice S s.length sc) ∧ w'.cell? ⟨w.heap.size, 1, none⟩ = some (.slice T t.length tc) ∧ Hid (Below wb.heap.size wb w')) :=
    Lib.hid fun w' hw => ⟨Keep.below hw _ _ q0, Keep.below hw _ _ q1, Lib.hid hw⟩
  have KS : Hid (∀ w', Below wb.heap.size wb w' → ArrI w' S s sc) := Lib.hid fun w' hw => (HS.out.keep (Keep.below (HW.out.trans (hw.mono HW.out.size))))
  have KT : Hid (∀ w', Below wb.heap.size wb w' → ArrI w' T t tc) := Lib.hid fun w' hw => (HT.out.keep (Keep.below (HW.out.trans (hw.mono HW.out.size))))
  refine heldPeel (S := fun w' => w'.cell? ⟨w.heap.size, 0, none⟩ = some (.slice S s.length sc) ∧ w'.cell? ⟨w.heap.size, 1, none⟩ = some (.slice T t.length tc) ∧ Hid (Below wb.heap.size wb w')) (l := [_, _, _, _, _, _, _]) (by kernel_rfl) (by kernel_rfl) (MK.out _ HBd.out) (fun hHeld => ?_)
  refine wpAnyH_take (i := 0) (v := ?val0x1) rfl (by kernel_rfl) (by kernel_rfl) (by kernel_rfl) (fun _ _ _ h => h) (Or.inl ⟨by rfl, fun w9 hS9 => ?yields0x1⟩) (by assumption) ?later0x1
  case yields0x1 =>
    dsimp only at hS9
    go_simp
    try with_reducible rfl
  try simp only [Act.put, List.getElem_toArray, List.getElem_cons_succ, List.getElem_cons_zero, List.setIfInBounds_toArray, List.set_cons_zero, List.set_cons_succ]
  refine wpAnyH_take (i := 1) (v := ?val1x2) rfl (by kernel_rfl) (by kernel_rfl) (by kernel_rfl) (fun _ _ _ h => h) (Or.inl ⟨by rfl, fun w9 hS9 => ?yields1x2⟩) (by assumption) ?later1x2
  case yields1x2 =>
    dsimp only at hS9
    go_simp
    try with_reducible rfl
  try simp only [Act.put, List.getElem_toArray, List.getElem_cons_succ, List.getElem_cons_zero, List.setIfInBounds_toArray, List.set_cons_zero, List.set_cons_succ]
  refine wpAnyH_take (i := 3) (v := ?val3x3) rfl (by kernel_rfl) (by kernel_rfl) (by kernel_rfl) (fun _ _ _ h => h) (Or.inl ⟨by rfl, fun w9 hS9 => ?yields3x3⟩) (by assumption) ?later3x3
  case yields3x3 =>
    dsimp only at hS9
    go_simp
    try with_reducible rfl
  try simp only [Act.put, List.getElem_toArray, List.getElem_cons_succ, List.getElem_cons_zero, List.setIfInBounds_toArray, List.set_cons_zero, List.set_cons_succ]
  refine wpAnyH_take (i := 4) (v := ?val4x4) rfl (by kernel_rfl) (by kernel_rfl) (by kernel_rfl) (fun _ _ _ h => h) (Or.inl ⟨by rfl, fun w9 hS9 => ?yields4x4⟩) (by assumption) ?later4x4
  case yields4x4 =>
    dsimp only at hS9
    go_simp
    try with_reducible rfl
  try simp only [Act.put, List.getElem_toArray, List.getElem_cons_succ, List.getElem_cons_zero, List.setIfInBounds_toArray, List.set_cons_zero, List.set_cons_succ]
  refine wpAnyH_ready (rs := [2]) (by kernel_rfl) (by simp) ?_
  refine AllReadyH.cons rfl (fun K hK => ?_) AllReadyH.nil
  go_simp
  go_at_call 100
  go_split_ands
  refine (copyInts_any s S sc _ (KS.out _ (Hid.out (by assumption))) (by omega)).mono ?_
  rintro e' wz5 ⟨A5, c5, rfl, h5, hab5, hb1⟩
  have H5 := Lib.hid h5
  have HA5 := Lib.hid hab5
  clear h5 hab5
  go_wp2_with fail
  refine hK.out _ _ ?_ (fun hHeld => ?_)
  · (try dsimp only)
    (go_split_ands; exact MK.out _ (Below.trans (Hid.out (by assumption)) (hb1.mono (Hid.out (by assumption) : Below wb.heap.size wb _).size)))
  clear hK K
  try simp only [Act.put, List.getElem_toArray, List.getElem_cons_succ, List.getElem_cons_zero, List.setIfInBounds_toArray, List.set_cons_zero, List.set_cons_succ]
  refine wpAnyH_ready (rs := [5]) (by kernel_rfl) (by simp) ?_
  refine AllReadyH.cons rfl (fun K hK => ?_) AllReadyH.nil
  go_simp
  go_at_call 100
  go_split_ands
  refine (copyInts_any t T tc _ (KT.out _ (Hid.out (by assumption))) (by omega)).mono ?_
  rintro e' wz6 ⟨A6, c6, rfl, h6, hab6, hb1⟩
  have H6 := Lib.hid h6
  have HA6 := Lib.hid hab6
  replace H5 := Lib.hid (H5.out.keep (Keep.below hb1))
  have HF6 := Lib.hid (show wb.heap.size ≤ wz5.heap.size from (Hid.out (by assumption) : Below wb.heap.size wb _).size)
  clear h6 hab6
  go_wp2_with fail
  refine hK.out _ _ ?_ (fun hHeld => ?_)
  · (try dsimp only)
    (go_split_ands; exact MK.out _ (Below.trans (Hid.out (by assumption)) (hb1.mono (Hid.out (by assumption) : Below wb.heap.size wb _).size)))
  clear hK K
  try simp only [Act.put, List.getElem_toArray, List.getElem_cons_succ, List.getElem_cons_zero, List.setIfInBounds_toArray, List.set_cons_zero, List.set_cons_succ]
  refine wpAnyH_take (i := 6) (v := ?val6x5) rfl (by kernel_rfl) (by kernel_rfl) (by kernel_rfl) (fun _ _ _ h => h) (Or.inl ⟨by rfl, fun w9 hS9 => ?yields6x5⟩) (by assumption) ?later6x5
  case yields6x5 =>
    dsimp only at hS9
    go_simp
    try with_reducible rfl
  try simp only [Act.put, List.getElem_toArray, List.getElem_cons_succ, List.getElem_cons_zero, List.setIfInBounds_toArray, List.set_cons_zero, List.set_cons_succ]
  refine wpAnyH_done (by kernel_rfl) ?_ _
  unfold Peeled
  dsimp only
  obtain ⟨q0, q1, HBq⟩ := hHeld
  obtain ⟨zz0, zz1⟩ := BZ.out
  obtain ⟨ff0, ff1⟩ := FZ.out
  have z0 := Keep.below HBq.out _ _ zz0
  have z1 := Keep.below HBq.out _ _ zz1
  have zf0 := (HBq.out.frozen (p := ⟨w.heap.size + 1, 0, none⟩) (by have := HWS.out; show w.heap.size + 1 < _; omega)).trans ff0
  have zf1 := (HBq.out.frozen (p := ⟨w.heap.size + 1, 1, none⟩) (by have := HWS.out; show w.heap.size + 1 < _; omega)).trans ff1
  go_wp2_with fail
  refine bodyPost_ret (v := .agg #[.slice A5 s.length c5, .slice A6 t.length c6]) (by simp [results, Tryz.results48, go_sem, z0, z1]) rfl ⟨⟨A5, A6, c5, c6, rfl, ?_, ?_⟩, ?_⟩
  · exact (H5.out.farI HA5.out (p := ⟨w.heap.size + 1, 0, none⟩) (by have := HWS.out; have hds : wb.drew.heap.size = wb.heap.size := (by simp); show w.heap.size + 1 < _; omega) _).farI HA5.out (p := ⟨w.heap.size + 1, 1, none⟩) (by have := HWS.out; have hds : wb.drew.heap.size = wb.heap.size := (by simp); show w.heap.size + 1 < _; omega) _
  · exact (H6.out.farI HA6.out (p := ⟨w.heap.size + 1, 0, none⟩) (by have := HWS.out; have := HF6.out; show w.heap.size + 1 < _; omega) _).farI HA6.out (p := ⟨w.heap.size + 1, 1, none⟩) (by have := HWS.out; have := HF6.out; show w.heap.size + 1 < _; omega) _
  · exact ((HW.out.trans (HBq.out.mono HW.out.size)).setCell (p := ⟨w.heap.size + 1, 0, none⟩) (by simp) _).setCell (p := ⟨w.heap.size + 1, 1, none⟩) (by simp) _
/-- A bool that tells P where it is false. -/
def IfN (P : Prop) (e : Ending) : Prop := ∃ b, e = .returned (.bool b) ∧ (b = false → P)
set_option linter.unusedSimpArgs false in
set_option maxHeartbeats 1600000 in
theorem lawGreat_any (p : List (Int × Int)) (s t : List Int) (P S T : Option Addr) (pc sc tc : Nat) (w : World) :
    Calls Tryz.prog 44 #[.agg #[.slice P p.length pc, .slice S s.length sc, .slice T t.length tc]] w fun e w' => IfN (p.length ≤ 15 ∧ s.length ≤ 15 ∧ t.length ≤ 15) e ∧ Below w.heap.size w w' := by
  have q0 := cellNew w #[.slice P p.length pc, .slice S s.length sc, .slice T t.length tc] 72 0
  have q1 := cellNew w #[.slice P p.length pc, .slice S s.length sc, .slice T t.length tc] 72 1
  have q2 := cellNew w #[.slice P p.length pc, .slice S s.length sc, .slice T t.length tc] 72 2
  go_enter Tryz.func44, Tryz.ntmps44
  by_cases r1 : p.length ≤ 15
  · have g1a : decide ((p.length : Int) > 15) = false := decide_eq_false (by omega)
    have g1b : decide ((15 : Int) < (p.length : Int)) = false := decide_eq_false (by omega)
    by_cases r2 : s.length ≤ 15
    · have g2a : decide ((s.length : Int) > 15) = false := decide_eq_false (by omega)
      have g2b : decide ((15 : Int) < (s.length : Int)) = false := decide_eq_false (by omega)
      by_cases r3 : t.length ≤ 15
      · have g3a : decide ((t.length : Int) > 15) = false := decide_eq_false (by omega)
        have g3b : decide ((15 : Int) < (t.length : Int)) = false := decide_eq_false (by omega)
        go_wp2_with fail
        go_ret
        exact ⟨⟨_, rfl, fun _ => ⟨r1, r2, r3⟩⟩, (Below.refl _ _).alloc (Nat.le_refl _) _⟩
      · have g3a : decide ((t.length : Int) > 15) = true := decide_eq_true (by omega)
        have g3b : decide ((15 : Int) < (t.length : Int)) = true := decide_eq_true (by omega)
        go_wp2_with fail
        go_ret
        exact ⟨⟨_, rfl, fun hh => absurd hh (by decide)⟩, (Below.refl _ _).alloc (Nat.le_refl _) _⟩
    · have g2a : decide ((s.length : Int) > 15) = true := decide_eq_true (by omega)
      have g2b : decide ((15 : Int) < (s.length : Int)) = true := decide_eq_true (by omega)
      go_wp2_with fail
      go_ret
      exact ⟨⟨_, rfl, fun hh => absurd hh (by decide)⟩, (Below.refl _ _).alloc (Nat.le_refl _) _⟩
  · have g1a : decide ((p.length : Int) > 15) = true := decide_eq_true (by omega)
    have g1b : decide ((15 : Int) < (p.length : Int)) = true := decide_eq_true (by omega)
    go_wp2_with fail
    go_ret
    exact ⟨⟨_, rfl, fun hh => absurd hh (by decide)⟩, (Below.refl _ _).alloc (Nat.le_refl _) _⟩
end Go.Proofs.YtfjdnbnalihjiaaGreatDoor
/- Plain facts: marks agree and differ either way. Two cells that may be written. No condition. -/
namespace Go.Proofs.YtfjdnbnalihjiaaGreatDoor
open Go.RowKit Fs

/-- Two cells, which may be written. -/
structure TwoAt (w : World) (g : Nat) (u v : Value) : Prop where
  c0 : w.cell? ⟨g, 0, none⟩ = some u
  c1 : w.cell? ⟨g, 1, none⟩ = some v
  f0 : w.frozen? ⟨g, 0, none⟩ = false
  f1 : w.frozen? ⟨g, 1, none⟩ = false
theorem TwoAt.lt {w : World} {g : Nat} {u v : Value} (m : TwoAt w g u v) : g < w.heap.size := World.block_lt_of_cell? w _ m.c0
theorem TwoAt.below {B : Nat} {w w' : World} {g : Nat} {u v : Value} (m : TwoAt w g u v) (h : Below B w w') (hg : g < B) : TwoAt w' g u v :=
  ⟨(h.cell (p := ⟨g, 0, none⟩) hg).trans m.c0, (h.cell (p := ⟨g, 1, none⟩) hg).trans m.c1, (h.frozen (p := ⟨g, 0, none⟩) hg).trans m.f0, (h.frozen (p := ⟨g, 1, none⟩) hg).trans m.f1⟩
theorem TwoAt.keep {w w' : World} {g : Nat} {u v : Value} (m : TwoAt w g u v) (h : Below w.heap.size w w') : TwoAt w' g u v := m.below h m.lt
theorem TwoAt.keepD {w w' : World} {g : Nat} {u v : Value} (m : TwoAt w g u v) (h : Below w.drew.heap.size w.drew w') : TwoAt w' g u v := TwoAt.keep (w := w.drew) ⟨m.c0, m.c1, m.f0, m.f1⟩ h
theorem TwoAt.set {w : World} {g : Nat} {u v : Value} (m : TwoAt w g u v) (u' v' : Value) : TwoAt ((w.setCell ⟨g, 0, none⟩ u').setCell ⟨g, 1, none⟩ v') g u' v' :=
  ⟨(World.cell?_setCell_other _ _ _ _ (by simp)).trans (World.cell?_setCell_same _ _ _ m.c0), World.cell?_setCell_same _ _ _ ((World.cell?_setCell_other _ _ _ _ (by simp)).trans m.c1), (World.frozen?_setCell _ _ _ _).trans ((World.frozen?_setCell _ _ _ _).trans m.f0), (World.frozen?_setCell _ _ _ _).trans ((World.frozen?_setCell _ _ _ _).trans m.f1)⟩
theorem TwoAt.new (w : World) (u v : Value) (t : TypeId) : TwoAt (w.alloc (.cells #[u, v] t)) w.heap.size u v := ⟨cellNew _ _ _ 0, cellNew _ _ _ 1, frozenNew _ _ _ 0, frozenNew _ _ _ 1⟩
theorem TwoAt.alloc {w : World} {g : Nat} {u v : Value} (m : TwoAt w g u v) (o : Obj) : TwoAt (w.alloc o) g u v := m.keep ((Below.refl _ _).alloc (Nat.le_refl _) o)
theorem gsize_drew (w : World) : w.drew.heap.size = w.heap.size := rfl
theorem gbelow_realloc {B : Nat} {a w : World} {o : Obj} (h : Below B a (w.alloc o)) (hB : B ≤ w.heap.size) (o' : Obj) : Below B a (w.alloc o') :=
  ⟨h.os, h.tape, h.output, by simpa using h.size, fun k hk => by
    have := h.block k hk
    rw [Below.heap_alloc _ _ _ (by omega)] at this ⊢
    exact this⟩

theorem Fs.sum_zero (n : Nat) : sumTo (fun _ => 0) n = 0 := by
  induction n with
  | zero => rfl
  | succ n ih => rw [sumTo, ih]; rfl
theorem Fs.sum_add (f g : Nat → Int) (n : Nat) : sumTo (fun i => f i + g i) n = sumTo f n + sumTo g n := by
  induction n with
  | zero => rfl
  | succ n ih => rw [sumTo, sumTo, sumTo, ih]; omega
theorem Fs.sum_swap (g : Nat → Nat → Int) (m n : Nat) : sumTo (fun i => sumTo (g i) n) m = sumTo (fun j => sumTo (fun i => g i j) m) n := by
  induction m with
  | zero => exact (sum_zero n).symm
  | succ m ih =>
    rw [sumTo, ih]
    exact (sum_add (fun j => sumTo (fun i => g i j) m) (g m) n).symm
theorem Fs.agrees_comm (a b : List Mrk) : agrees a b = agrees b a := by
  unfold agrees agreeTo agreeIn
  rw [sum_swap]
  congr; funext j; congr; funext i
  by_cases h : (lMrk a i).key = (lMrk b j).key ∧ (lMrk a i).val = (lMrk b j).val
  · rw [if_pos h, if_pos ⟨h.1.symm, h.2.symm⟩]
  · rw [if_neg h, if_neg (fun hh => h ⟨hh.1.symm, hh.2.symm⟩)]
theorem Fs.differs_comm (a b : List Mrk) : differs a b = differs b a := by
  unfold differs differTo differIn
  rw [sum_swap]
  congr; funext j; congr; funext i
  by_cases h : (lMrk a i).key = (lMrk b j).key ∧ (lMrk a i).val ≠ (lMrk b j).val
  · rw [if_pos h, if_pos ⟨h.1.symm, fun e => h.2 e.symm⟩]
  · rw [if_neg h, if_neg (fun hh => h ⟨hh.1.symm, fun e => hh.2 e.symm⟩)]
theorem Fs.agErr_comm {a b : List Mrk} : agErr a b = 0 ↔ agErr b a = 0 := by
  unfold agErr
  by_cases h : marksErr a = 0
  · by_cases h2 : marksErr b = 0
    · simp [h, h2]
    · simp [h, h2]
  · by_cases h2 : marksErr b = 0
    · simp [h, h2]
    · simp [h, h2]
theorem Fs.agOut_comm {a b : List Mrk} : agOut a b = agOut b a := by
  unfold agOut
  by_cases h : agErr a b = 0
  · rw [if_pos h, if_pos (agErr_comm.1 h), agrees_comm, differs_comm]
  · rw [if_neg h, if_neg (fun hh => h (agErr_comm.2 hh))]
theorem geqTwo (a b c d : Int) (w : World) : (Op.equalIn 10000 42 (.agg #[.int .i64 a, .int .i64 b]) (.agg #[.int .i64 c, .int .i64 d])).run Tryz.prog w = .ok (a == c && b == d) w := by
  obtain ⟨i0, hi, hz0, hz1, hz2⟩ := info_parts Tryz.infoIntG
  have hc : Tryz.prog.cellsOf 3 = 1 := by kernel_rfl
  rw [show (10000 : Nat) = 9999 + 1 from rfl, run_equalIn_array _ 9999 _ _ Tryz.underlying42 hi, hc]
  show (Op.eqItems 9999 3 1 _ _ [0, 1]).run _ _ = _
  have h0 : ∀ w : World, (part 3 #[.int .i64 a, .int .i64 b] 0).run Tryz.prog w = .ok (.int .i64 a) w := fun _ => by kernel_rfl
  have h1 : ∀ w : World, (part 3 #[.int .i64 a, .int .i64 b] 1).run Tryz.prog w = .ok (.int .i64 b) w := fun _ => by kernel_rfl
  have h2 : ∀ w : World, (part 3 #[.int .i64 c, .int .i64 d] 0).run Tryz.prog w = .ok (.int .i64 c) w := fun _ => by kernel_rfl
  have h3 : ∀ w : World, (part 3 #[.int .i64 c, .int .i64 d] 1).run Tryz.prog w = .ok (.int .i64 d) w := fun _ => by kernel_rfl
  have e1 : ∀ (x y : Int) (w : World), (Op.equalIn 9999 3 (.int .i64 x) (.int .i64 y)).run Tryz.prog w = .ok (x == y) w := fun x y w => run_equalIn_int (P := Tryz.prog) w 9998 3 .i64 .i64 x y Tryz.underlying3
  simp only [Op.eqItems, Sem.run_bind, Nat.zero_mul, Nat.one_mul, h0, h2, e1, Result.andThen_ok]
  cases a == c with
  | false => simp
  | true =>
    simp only [Bool.not_true, Bool.false_eq_true, if_false, Sem.run_bind, h1, h3, e1, Result.andThen_ok, Bool.true_and]
    cases b == d <;> simp
end Go.Proofs.YtfjdnbnalihjiaaGreatDoor

/- Copies: the reference's CopyMarks, CopyItem, CopyClaim, CopyItems, CopyClaims, CopyEvents. Conditions: no list has more than a million elements. -/
import Derived.Test.YtfjdnbnalihjiaaGreatDoorG6
import Derived.Deep.RegionHeld3
namespace Go.Proofs.YtfjdnbnalihjiaaGreatDoor
open Go.RowKit Fs

/-- A row of n elements that lies in another block than x. -/
def Offm (x : Option Nat) (w : World) (A : Option Addr) (n c size : Nat) (C : Nat → Nat → Value) : Prop :=
  n ≤ c ∧ c ≤ 9223372036854775807 ∧ (0 < n → ∃ b o, A = some ⟨b, o, none⟩ ∧ x ≠ some b ∧ ∀ i j, i < n → j < size → w.cell? ⟨b, o + i * size + j, none⟩ = some (C i j))
theorem Offm.arr {x : Option Nat} {w : World} {A : Option Addr} {n c size : Nat} {C : Nat → Nat → Value} (h : Offm x w A n c size C) : Arr w A n c size C := by
  refine ⟨h.1, h.2.1, fun hn => ?_⟩
  obtain ⟨b, o, h1, -, h2⟩ := h.2.2 hn
  exact ⟨b, o, h1, h2⟩
theorem Offm.of {B : Nat} {x : Option Nat} {w : World} {A : Option Addr} {n c size : Nat} {C : Nat → Nat → Value} (h : Arr w A n c size C) (ha : Above B A) (hx : ∀ b, x = some b → b < B) : Offm x w A n c size C := by
  refine ⟨h.1, h.2.1, fun hn => ?_⟩
  obtain ⟨b, o, h1, h2⟩ := h.2.2 hn
  have : B ≤ b := ha _ h1
  exact ⟨b, o, h1, fun e => by have := hx b e; omega, h2⟩
theorem Offm.keep {x : Option Nat} {w w' : World} (k : Keep w w') {A : Option Addr} {n c size : Nat} {C : Nat → Nat → Value} (h : Offm x w A n c size C) : Offm x w' A n c size C := by
  refine ⟨h.1, h.2.1, fun hn => ?_⟩
  obtain ⟨b, o, h1, h3, h4⟩ := h.2.2 hn
  exact ⟨b, o, h1, h3, fun i j hi hj => k _ _ (h4 i j hi hj)⟩
/-- The row x has grown, in its place or at the end of memory. -/
theorem Offm.grown {x x' : Option Nat} {w w' : World} {A : Option Addr} {n c size : Nat} {C : Nat → Nat → Value} (h : Offm x w A n c size C) (hs : 0 < size) (hg : w.grownBy w' x) (hx : x' = x ∨ x' = some w.heap.size) : Offm x' w' A n c size C := by
  refine ⟨h.1, h.2.1, fun hn => ?_⟩
  obtain ⟨b, o, h1, h3, h4⟩ := h.2.2 hn
  have hb : b < w.heap.size := World.block_lt_of_cell? w _ (h4 0 0 hn hs)
  refine ⟨b, o, h1, fun e => ?_, fun i j hi hj => ?_⟩
  · rcases hx with hx | hx
    · exact h3 (hx ▸ e)
    · rw [hx] at e; injection e with e; omega
  · rw [← h4 i j hi hj]
    have := hg.block b hb (fun e => h3 e.symm)
    unfold World.cell?
    simp only [this]
theorem ArrMk.far {B : Nat} {w : World} {A : Option Addr} {l : List Mrk} {c : Nat} (h : ArrMk w A l c) (ha : Above B A) {p : Addr} (hp : p.block < B) (v : Value) : ArrMk (w.setCell p v) A l c := by
  refine ⟨h.1, h.2.1, fun hn => ?_⟩
  obtain ⟨b, o, h1, h4⟩ := h.2.2 hn
  have : B ≤ b := ha _ h1
  refine ⟨b, o, h1, fun i j hi hj => (World.cell?_setCell_far _ _ _ _ ?_).trans (h4 i j hi hj)⟩
  show p.block ≠ b
  omega
abbrev OffM (x : Option Nat) (w : World) (A : Option Addr) (l : List Mrk) (c : Nat) : Prop := Offm x w A l.length c 2 fun i j => mrkCells (lMrk l i) j
theorem Tryz.infoMrk : (Tryz.prog.info? 119).map (fun i => (i.zero, i.size, i.bytes)) = some (some (.agg #[.string ⟨#[]⟩, .string ⟨#[]⟩]), 2, 32) := by kernel_rfl
theorem Tryz.infoEvt : (Tryz.prog.info? 107).map (fun i => (i.zero, i.size, i.bytes)) = some (some (.agg #[.string ⟨#[]⟩, .int .i64 0, .int .i64 0, .string ⟨#[]⟩, .string ⟨#[]⟩]), 5, 64) := by kernel_rfl
theorem Tryz.infoItm : (Tryz.prog.info? 24).map (fun i => (i.zero, i.size, i.bytes)) = some (some (.agg #[.string ⟨#[]⟩, .int .i64 0, .string ⟨#[]⟩, .slice none 0 0]), 4, 64) := by kernel_rfl
theorem Tryz.infoClm : (Tryz.prog.info? 26).map (fun i => (i.zero, i.size, i.bytes)) = some (some (.agg #[.string ⟨#[]⟩, .int .i64 0, .string ⟨#[]⟩, .slice none 0 0]), 4, 64) := by kernel_rfl
set_option maxHeartbeats 400000 in
theorem rCopyMarks_any (l : List Mrk) (A : Option Addr) (c : Nat) (w : World) (h : ArrMk w A l c) (hn : l.length ≤ 1000000) :
    Calls Tryz.prog 19 #[.slice A l.length c] w fun e w' => ∃ A' c', e = .returned (.slice A' l.length c') ∧ ArrMk w' A' l c' ∧ Above w.heap.size A' ∧ Below w.heap.size w w' := by
  obtain ⟨i0, hi, hz0, hz1, hz2⟩ := info_parts Tryz.infoMrk
  go_enter Tryz.func19, Tryz.ntmps19
  go_wp2_with (at_builtin
               refine wpList_copy rfl (.tmp 3) (.tmp 4) 22 rfl 119 i0 (.agg #[.string ⟨#[]⟩, .string ⟨#[]⟩]) 2 32 Tryz.underlying22 hi hz0 hz1 hz2 rfl (by decide) w.heap.size w.heap.size rfl (Nat.le_refl _) (heap_alloc_new _ _) A l.length c _ rfl (Arr.keep (Keep.alloc w _) h) (by intro i j; unfold mrkCells; split <;> rfl) (by unfold maxLen; omega) (by omega) ?_
               intro A1 c1 w1 ha hb)
  go_ret
  exact ⟨A1, c1, rfl, own_arrN ha, own_above ha, ((Below.refl _ _).alloc (Nat.le_refl _) _).trans hb⟩
set_option maxHeartbeats 400000 in
theorem rCopyEvents_any (l : List Evt) (A : Option Addr) (c : Nat) (w : World) (h : ArrEv w A l c) (hn : l.length ≤ 1000000) :
    Calls Tryz.prog 56 #[.slice A l.length c] w fun e w' => ∃ A' c', e = .returned (.slice A' l.length c') ∧ ArrEv w' A' l c' ∧ Above w.heap.size A' ∧ Below w.heap.size w w' := by
  obtain ⟨i0, hi, hz0, hz1, hz2⟩ := info_parts Tryz.infoEvt
  go_enter Tryz.func56, Tryz.ntmps56
  go_wp2_with (at_builtin
               refine wpList_copy rfl (.tmp 3) (.tmp 4) 86 rfl 107 i0 (.agg #[.string ⟨#[]⟩, .int .i64 0, .int .i64 0, .string ⟨#[]⟩, .string ⟨#[]⟩]) 5 64 Tryz.underlying86 hi hz0 hz1 hz2 rfl (by decide) w.heap.size w.heap.size rfl (Nat.le_refl _) (heap_alloc_new _ _) A l.length c _ rfl (Arr.keep (Keep.alloc w _) h) (by intro i j; unfold evtCells; split <;> rfl) (by unfold maxLen; omega) (by omega) ?_
               intro A1 c1 w1 ha hb)
  go_ret
  exact ⟨A1, c1, rfl, own_arrN ha, own_above ha, ((Below.refl _ _).alloc (Nat.le_refl _) _).trans hb⟩
/-- The cells of a thing that may be written. -/
structure ThgW (w : World) (g : Nat) (x : Thg) (p : Option Addr) (pc : Nat) : Prop where
  box : ThgAt w g 0 x p pc
  f0 : w.frozen? ⟨g, 0, none⟩ = false
  f1 : w.frozen? ⟨g, 1, none⟩ = false
  f2 : w.frozen? ⟨g, 2, none⟩ = false
  f3 : w.frozen? ⟨g, 3, none⟩ = false
theorem ThgW.new (w : World) (x : Thg) (p : Option Addr) (pc : Nat) (t : TypeId) : ThgW (w.alloc (.cells #[.string x.name, .int .i64 x.day, .string x.who, .slice p x.marks.length pc] t)) w.heap.size x p pc := ⟨ThgAt.new _ _ _ _ _, frozenNew _ _ _ 0, frozenNew _ _ _ 1, frozenNew _ _ _ 2, frozenNew _ _ _ 3⟩
theorem ThgW.below {B : Nat} {w w' : World} {g : Nat} {x : Thg} {p : Option Addr} {pc : Nat} (m : ThgW w g x p pc) (hb : Below B w w') (hg : g < B) : ThgW w' g x p pc :=
  ⟨⟨(hb.cell (p := ⟨g, 0, none⟩) hg).trans m.box.c0, (hb.cell (p := ⟨g, 0 + 1, none⟩) hg).trans m.box.c1, (hb.cell (p := ⟨g, 0 + 2, none⟩) hg).trans m.box.c2, (hb.cell (p := ⟨g, 0 + 3, none⟩) hg).trans m.box.c3⟩, (hb.frozen (p := ⟨g, 0, none⟩) hg).trans m.f0, (hb.frozen (p := ⟨g, 1, none⟩) hg).trans m.f1, (hb.frozen (p := ⟨g, 2, none⟩) hg).trans m.f2, (hb.frozen (p := ⟨g, 3, none⟩) hg).trans m.f3⟩
theorem ThgW.lt {w : World} {g : Nat} {x : Thg} {p : Option Addr} {pc : Nat} (m : ThgW w g x p pc) : g < w.heap.size := m.box.lt
theorem ThgW.set {w : World} {g : Nat} {x : Thg} {p : Option Addr} {pc : Nat} (m : ThgW w g x p pc) (p' : Option Addr) (pc' : Nat) : ThgW (w.setCell ⟨g, 3, none⟩ (.slice p' x.marks.length pc')) g x p' pc' := by
  have far : ∀ i, i ≠ 3 → (w.setCell ⟨g, 3, none⟩ (.slice p' x.marks.length pc')).cell? ⟨g, i, none⟩ = w.cell? ⟨g, i, none⟩ := fun i hi => World.cell?_setCell_other _ _ _ _ (by intro e; injection e with _ e; omega)
  exact ⟨⟨(far 0 (by decide)).trans m.box.c0, (far 1 (by decide)).trans m.box.c1, (far 2 (by decide)).trans m.box.c2, World.cell?_setCell_same _ _ _ m.box.c3⟩, (World.frozen?_setCell _ _ _ _).trans m.f0, (World.frozen?_setCell _ _ _ _).trans m.f1, (World.frozen?_setCell _ _ _ _).trans m.f2, (World.frozen?_setCell _ _ _ _).trans m.f3⟩
set_option maxHeartbeats 1600000 in
set_option maxRecDepth 100000 in
theorem rCopyItem_any (x : Thg) (v : Value) (w : World) (hv : RdThg w v x) (hn : x.marks.length ≤ 1000000) :
    Calls Tryz.prog 22 #[v] w fun e w' => ∃ A' c', e = .returned (thgV x A' c') ∧ ArrMk w' A' x.marks c' ∧ Above w.heap.size A' ∧ Below w.heap.size w w' := by
  obtain ⟨p, pc, rfl, m⟩ := hv
  have M := Lib.hid m
  clear m
  have BX := Lib.hid ((ThgW.new w x p pc 24).below ((Below.refl (w.heap.size + 1) _).alloc (by simp) (.cells #[.string ⟨#[]⟩, .int .i64 0, .string ⟨#[]⟩, .slice none 0 0] 24)) (Nat.lt_succ_self _))
  have RZ := Lib.hid (show ThgW ((w.alloc (.cells #[.string x.name, .int .i64 x.day, .string x.who, .slice p x.marks.length pc] 24)).alloc (.cells #[.string ⟨#[]⟩, .int .i64 0, .string ⟨#[]⟩, .slice none 0 0] 24)) (w.heap.size + 1) ⟨⟨#[]⟩, 0, ⟨#[]⟩, []⟩ none 0 from by
    have h := ThgW.new (w.alloc (.cells #[.string x.name, .int .i64 x.day, .string x.who, .slice p x.marks.length pc] 24)) ⟨⟨#[]⟩, 0, ⟨#[]⟩, []⟩ none 0 24
    simpa using h)
  go_enter Tryz.func22, Tryz.ntmps22
  go_upto_region 1 with fail
  generalize hwb : (w.alloc _).alloc _ = wb at *
  have HW : Hid (Below w.heap.size w wb) := by rw [← hwb]; exact Lib.hid (((Below.refl _ _).alloc (Nat.le_refl _) _).alloc (by simp) _)
  have hws : wb.heap.size = w.heap.size + 2 := by rw [← hwb]; simp
  clear hwb
  obtain ⟨⟨q0, q1, q2, q3⟩, -, -, -, -⟩ := BX.out
  go_wp2_with fail
  refine (rCopyMarks_any x.marks p pc _ (M.out.keep (Keep.below HW.out)) hn).mono ?_
  rintro e' w1 ⟨A1, c1, rfl, ha, hab, hb1⟩
  have HA := Lib.hid ha
  have HAB := Lib.hid hab
  have BX1 := Lib.hid (BX.out.below hb1 BX.out.lt)
  have BX2 := Lib.hid (BX1.out.set A1 c1)
  have RZ1 := Lib.hid (RZ.out.below hb1 RZ.out.lt)
  have HW1 := Lib.hid (HW.out.trans (hb1.mono HW.out.size))
  clear ha hab hb1 q0 q1 q2 q3
  obtain ⟨⟨q0, q1, q2, q3⟩, f0, f1, f2, f3⟩ := BX1.out
  obtain ⟨⟨z0, z1, z2, z3⟩, zf0, zf1, zf2, zf3⟩ := RZ1.out
  go_wp2_with fail
  refine bodyPost_ret (v := thgV x A1 c1) (by simp [results, Tryz.results22, go_sem, z0, z1, z2, z3]) rfl ⟨A1, c1, rfl, ?_, fun a e => by have := HAB.out a e; omega, ?_⟩
  · exact ((((HA.out.far HAB.out (p := ⟨w.heap.size, 3, none⟩) (by show w.heap.size < _; omega) _).far HAB.out (p := ⟨w.heap.size + 1, 0, none⟩) (by show w.heap.size + 1 < _; omega) _).far HAB.out (p := ⟨w.heap.size + 1, 1, none⟩) (by show w.heap.size + 1 < _; omega) _).far HAB.out (p := ⟨w.heap.size + 1, 2, none⟩) (by show w.heap.size + 1 < _; omega) _).far HAB.out (p := ⟨w.heap.size + 1, 3, none⟩) (by show w.heap.size + 1 < _; omega) _
  · exact ((((HW1.out.setCell (p := ⟨w.heap.size, 3, none⟩) (Nat.le_refl _) _).setCell (p := ⟨w.heap.size + 1, 0, none⟩) (by simp) _).setCell (p := ⟨w.heap.size + 1, 1, none⟩) (by simp) _).setCell (p := ⟨w.heap.size + 1, 2, none⟩) (by simp) _).setCell (p := ⟨w.heap.size + 1, 3, none⟩) (by simp) _
set_option maxHeartbeats 1600000 in
set_option maxRecDepth 100000 in
theorem rCopyClaim_any (x : Thg) (v : Value) (w : World) (hv : RdThg w v x) (hn : x.marks.length ≤ 1000000) :
    Calls Tryz.prog 25 #[v] w fun e w' => ∃ A' c', e = .returned (thgV x A' c') ∧ ArrMk w' A' x.marks c' ∧ Above w.heap.size A' ∧ Below w.heap.size w w' := by
  obtain ⟨p, pc, rfl, m⟩ := hv
  have M := Lib.hid m
  clear m
  have BX := Lib.hid ((ThgW.new w x p pc 26).below ((Below.refl (w.heap.size + 1) _).alloc (by simp) (.cells #[.string ⟨#[]⟩, .int .i64 0, .string ⟨#[]⟩, .slice none 0 0] 26)) (Nat.lt_succ_self _))
  have RZ := Lib.hid (show ThgW ((w.alloc (.cells #[.string x.name, .int .i64 x.day, .string x.who, .slice p x.marks.length pc] 26)).alloc (.cells #[.string ⟨#[]⟩, .int .i64 0, .string ⟨#[]⟩, .slice none 0 0] 26)) (w.heap.size + 1) ⟨⟨#[]⟩, 0, ⟨#[]⟩, []⟩ none 0 from by
    have h := ThgW.new (w.alloc (.cells #[.string x.name, .int .i64 x.day, .string x.who, .slice p x.marks.length pc] 26)) ⟨⟨#[]⟩, 0, ⟨#[]⟩, []⟩ none 0 26
    simpa using h)
  go_enter Tryz.func25, Tryz.ntmps25
  go_upto_region 1 with fail
  generalize hwb : (w.alloc _).alloc _ = wb at *
  have HW : Hid (Below w.heap.size w wb) := by rw [← hwb]; exact Lib.hid (((Below.refl _ _).alloc (Nat.le_refl _) _).alloc (by simp) _)
  have hws : wb.heap.size = w.heap.size + 2 := by rw [← hwb]; simp
  clear hwb
  obtain ⟨⟨q0, q1, q2, q3⟩, -, -, -, -⟩ := BX.out
  go_wp2_with fail
  refine (rCopyMarks_any x.marks p pc _ (M.out.keep (Keep.below HW.out)) hn).mono ?_
  rintro e' w1 ⟨A1, c1, rfl, ha, hab, hb1⟩
  have HA := Lib.hid ha
  have HAB := Lib.hid hab
  have BX1 := Lib.hid (BX.out.below hb1 BX.out.lt)
  have BX2 := Lib.hid (BX1.out.set A1 c1)
  have RZ1 := Lib.hid (RZ.out.below hb1 RZ.out.lt)
  have HW1 := Lib.hid (HW.out.trans (hb1.mono HW.out.size))
  clear ha hab hb1 q0 q1 q2 q3
  obtain ⟨⟨q0, q1, q2, q3⟩, f0, f1, f2, f3⟩ := BX1.out
  obtain ⟨⟨z0, z1, z2, z3⟩, zf0, zf1, zf2, zf3⟩ := RZ1.out
  go_wp2_with fail
  refine bodyPost_ret (v := thgV x A1 c1) (by simp [results, Tryz.results25, go_sem, z0, z1, z2, z3]) rfl ⟨A1, c1, rfl, ?_, fun a e => by have := HAB.out a e; omega, ?_⟩
  · exact ((((HA.out.far HAB.out (p := ⟨w.heap.size, 3, none⟩) (by show w.heap.size < _; omega) _).far HAB.out (p := ⟨w.heap.size + 1, 0, none⟩) (by show w.heap.size + 1 < _; omega) _).far HAB.out (p := ⟨w.heap.size + 1, 1, none⟩) (by show w.heap.size + 1 < _; omega) _).far HAB.out (p := ⟨w.heap.size + 1, 2, none⟩) (by show w.heap.size + 1 < _; omega) _).far HAB.out (p := ⟨w.heap.size + 1, 3, none⟩) (by show w.heap.size + 1 < _; omega) _
  · exact ((((HW1.out.setCell (p := ⟨w.heap.size, 3, none⟩) (Nat.le_refl _) _).setCell (p := ⟨w.heap.size + 1, 0, none⟩) (by simp) _).setCell (p := ⟨w.heap.size + 1, 1, none⟩) (by simp) _).setCell (p := ⟨w.heap.size + 1, 2, none⟩) (by simp) _).setCell (p := ⟨w.heap.size + 1, 3, none⟩) (by simp) _
def thgRow (x : Thg) (p : Option Addr) (pc : Nat) : List Value := [.string x.name, .int .i64 x.day, .string x.who, .slice p x.marks.length pc]
theorem news4 (w : World) (x : Thg) (p : Option Addr) (pc : Nat) (t : TypeId) : ∀ j u, (thgRow x p pc)[j]? = some u → (w.alloc (.cells #[.string x.name, .int .i64 x.day, .string x.who, .slice p x.marks.length pc] t)).cell? (Addr.add ⟨w.heap.size, 0, none⟩ j) = some u := by
  intro j u hu
  have B := ThgAt.new w x p pc t
  match j with
  | 0 => have : Value.string x.name = u := by simpa [thgRow] using hu
         subst this; exact B.c0
  | 1 => have : Value.int .i64 x.day = u := by simpa [thgRow] using hu
         subst this; exact B.c1
  | 2 => have : Value.string x.who = u := by simpa [thgRow] using hu
         subst this; exact B.c2
  | 3 => have : Value.slice p x.marks.length pc = u := by simpa [thgRow] using hu
         subst this; exact B.c3
  | j + 4 => simp [thgRow] at hu
theorem oneThg (x : Thg) (p : Option Addr) (pc : Nat) : ∀ u ∈ thgRow x p pc, u.oneCell' = true := by
  intro u hu
  simp only [thgRow, List.mem_cons, List.not_mem_nil, or_false] at hu
  rcases hu with rfl | rfl | rfl | rfl <;> rfl
/-- The cells of the first k things, whose marks lie at a. -/
def thgVals (l : List Thg) (a : GA) (k : Nat) : List Value := flat k 4 fun i j => thgCells (lThg l i) (a.p i) (a.pc i) j
def GA.put (a : GA) (k : Nat) (A : Option Addr) (c : Nat) : GA := ⟨fun i => if i = k then A else a.p i, fun i => if i = k then c else a.pc i⟩
theorem thgVals_put (l : List Thg) (a : GA) (k : Nat) (A : Option Addr) (c : Nat) : thgVals l (a.put k A c) (k + 1) = thgVals l a k ++ thgRow (lThg l k) A c := by
  unfold thgVals flat
  rw [show (k + 1) * 4 = k * 4 + 4 by omega, List.range_add, List.map_append, List.map_map]
  congr 1
  · refine List.map_congr_left fun t ht => ?_
    have h1 : t < k * 4 := by simpa using ht
    have h2 : t / 4 < k := by omega
    simp only [GA.put]
    rw [if_neg (by omega), if_neg (by omega)]
  · have e : ∀ t, t < 4 → (k * 4 + t) / 4 = k ∧ (k * 4 + t) % 4 = t := fun t ht => by omega
    rw [show List.range 4 = [0, 1, 2, 3] by rfl]
    simp only [List.map_cons, List.map_nil, Function.comp, GA.put, (e 0 (by decide)).1, (e 0 (by decide)).2, (e 1 (by decide)).1, (e 1 (by decide)).2, (e 2 (by decide)).1, (e 2 (by decide)).2, (e 3 (by decide)).1, (e 3 (by decide)).2, if_pos, thgRow, thgCells]
set_option maxHeartbeats 3200000 in
set_option maxRecDepth 100000 in
theorem rCopyItems_any (l : List Thg) (A : Option Addr) (c : Nat) (a : GA) (w : World) (h : ArrTh w A l c a) (hn : l.length ≤ 1000000) (hm : ∀ i, i < l.length → (lThg l i).marks.length ≤ 1000000) :
    Calls Tryz.prog 32 #[.slice A l.length c] w fun e w' => (∃ A' c' a', e = .returned (.slice A' l.length c') ∧ ArrTh w' A' l c' a') ∧ Below w.heap.size w w' := by
  obtain ⟨j0, hj, jz0, jz1, jz2⟩ := info_parts Tryz.infoItm
  have b1 := h.le.1
  have b2 := h.le.2
  have HA := Lib.hid h
  have HM := Lib.hid hm
  clear h hm
  go_enter Tryz.func32, Tryz.ntmps32
  go_wp2_with fail
  go_loopw [3, 4] (fun v i wr => ∃ (k : Nat) (ar : GA) (vr : Value), vr = v ∧ k ≤ l.length ∧ i = .int .i64 k ∧ Hid (Below w.heap.size w wr) ∧ Hid (wr.ownsRow w.heap.size 24 4 vr k (thgVals l ar k)) ∧ Hid (∀ i, i < k → OffM vr.ownBlock wr (ar.p i) (lThg l i).marks (ar.pc i))) (fun _ i _ => l.length - (intOf i).toNat)
  case atStart => exact ⟨0, ⟨fun _ => none, fun _ => 0⟩, _, rfl, Nat.zero_le _, rfl, Lib.hid (Below.refl _ _), Lib.hid (World.ownsRow_nil _ _ _ _), Lib.hid fun i hi => absurd hi (Nat.not_lt_zero _)⟩
  case round =>
    obtain ⟨k, ar, vr, rfl, hk, rfl, HB, OW, OP⟩ := hrel
    by_cases hlt : k < l.length
    · have hkn : (k : Int) < (l.length : Int) := by omega
      obtain ⟨b, o, rfl, q, qm⟩ := (HA.out.keep (Keep.below HB.out)).at_ hlt
      obtain ⟨q0, q1, q2, q3⟩ := q
      have QM := Lib.hid qm
      clear qm
      have hvb := Lib.hid (show ∀ x, vr.ownBlock = some x → w.heap.size ≤ x ∧ x < wr.heap.size from fun x hx => OW.out.lt x hx)
      go_wp2_with fail
      refine (rCopyItem_any (lThg l k) _ _ ⟨_, _, rfl, QM.out⟩ (HM.out k hlt)).mono ?_
      rintro e' w1 ⟨A2, c2, rfl, ha2, hab2, hb1⟩
      have NP := Lib.hid (Offm.of (x := vr.ownBlock) ha2 hab2 (fun x hx => (hvb.out x hx).2))
      have OP1 := Lib.hid fun i hi => (OP.out i hi).keep (Keep.below hb1)
      have HB1 := Lib.hid (HB.out.trans (hb1.mono HB.out.size))
      have HOW := Lib.hid ((below_of_own OW.out hb1).alloc (.cells #[.string (lThg l k).name, .int .i64 (lThg l k).day, .string (lThg l k).who, .slice A2 (lThg l k).marks.length c2] 24))
      have HNW := Lib.hid (news4 w1 (lThg l k) A2 c2 24)
      have HBS := Lib.hid (show w.heap.size ≤ (w1.alloc (.cells #[.string (lThg l k).name, .int .i64 (lThg l k).day, .string (lThg l k).who, .slice A2 (lThg l k).marks.length c2] 24)).heap.size by have := HB1.out.size; simp; omega)
      have hk63 : k + 1 ≤ maxLen := by unfold maxLen; omega
      have hk64 : (k + 1) * 64 ≤ 140737488355328 := by omega
      clear q0 q1 q2 q3 ha2 hab2 hb1
      go_wp2_with (at_builtin
                   refine wpList_append_own_at _ rfl (.tmp 11) (.tmp 17) 48 rfl w.heap.size 24 j0 _ 4 64 Tryz.underlying48 hj jz0 jz1 jz2 rfl (by decide) vr k (thgVals l ar k) rfl HOW.out ⟨w1.heap.size, 0, none⟩ 1 1 (thgRow (lThg l k) A2 c2) rfl rfl HNW.out (oneThg _ _ _) hk63 hk64 HBS.out ?_)
      intro v5 w5 hown hg5 hnil hblk
      rw [← thgVals_put l ar k A2 c2] at hown
      have hblk' : v5.ownBlock = vr.ownBlock ∨ v5.ownBlock = some (w1.alloc (.cells #[.string (lThg l k).name, .int .i64 (lThg l k).day, .string (lThg l k).who, .slice A2 (lThg l k).marks.length c2] 24)).heap.size := by first | exact hblk | (rw [World.size_alloc]; exact hblk)
      have HG5 := Lib.hid ((HB1.out.alloc HB1.out.size (.cells #[.string (lThg l k).name, .int .i64 (lThg l k).day, .string (lThg l k).who, .slice A2 (lThg l k).marks.length c2] 24)).grown hg5 (by have := HB1.out.size; simp; omega) (fun x hx => (hvb.out x hx).1))
      have OW5 := Lib.hid hown
      have OP5 : Hid (∀ i, i < k + 1 → OffM v5.ownBlock w5 ((ar.put k A2 c2).p i) (lThg l i).marks ((ar.put k A2 c2).pc i)) := Lib.hid fun i hi => by
        by_cases e : i = k
        · subst e
          simp only [GA.put, if_pos]
          exact (NP.out.keep (Keep.alloc _ _)).grown (by decide) hg5 hblk'
        · simp only [GA.put, if_neg e]
          exact ((OP1.out i (by omega)).keep (Keep.alloc _ _)).grown (by decide) hg5 hblk'
      clear hown hg5 hnil hblk hblk'
      go_wp2_with fail
      go_roundw
      case rel => exact ⟨k + 1, ar.put k A2 c2, _, rfl, by omega, by go_num, HG5, OW5, OP5⟩
      case measure => simp [intOf]; omega
    · obtain rfl : k = l.length := by omega
      have OWN := OW.out
      unfold thgVals at OWN
      obtain ⟨AR, cR, rfl, harr⟩ := own_row OWN
      have HAR := Lib.hid harr
      clear OWN harr
      go_wp2_with fail
      go_ret
      exact ⟨⟨AR, cR, ar, rfl, HAR.out, fun i hi => (OP.out i hi).arr⟩, HB.out⟩
set_option maxHeartbeats 3200000 in
set_option maxRecDepth 100000 in
theorem rCopyClaims_any (l : List Thg) (A : Option Addr) (c : Nat) (a : GA) (w : World) (h : ArrTh w A l c a) (hn : l.length ≤ 1000000) (hm : ∀ i, i < l.length → (lThg l i).marks.length ≤ 1000000) :
    Calls Tryz.prog 41 #[.slice A l.length c] w fun e w' => (∃ A' c' a', e = .returned (.slice A' l.length c') ∧ ArrTh w' A' l c' a') ∧ Below w.heap.size w w' := by
  obtain ⟨j0, hj, jz0, jz1, jz2⟩ := info_parts Tryz.infoClm
  have b1 := h.le.1
  have b2 := h.le.2
  have HA := Lib.hid h
  have HM := Lib.hid hm
  clear h hm
  go_enter Tryz.func41, Tryz.ntmps41
  go_wp2_with fail
  go_loopw [3, 4] (fun v i wr => ∃ (k : Nat) (ar : GA) (vr : Value), vr = v ∧ k ≤ l.length ∧ i = .int .i64 k ∧ Hid (Below w.heap.size w wr) ∧ Hid (wr.ownsRow w.heap.size 26 4 vr k (thgVals l ar k)) ∧ Hid (∀ i, i < k → OffM vr.ownBlock wr (ar.p i) (lThg l i).marks (ar.pc i))) (fun _ i _ => l.length - (intOf i).toNat)
  case atStart => exact ⟨0, ⟨fun _ => none, fun _ => 0⟩, _, rfl, Nat.zero_le _, rfl, Lib.hid (Below.refl _ _), Lib.hid (World.ownsRow_nil _ _ _ _), Lib.hid fun i hi => absurd hi (Nat.not_lt_zero _)⟩
  case round =>
    obtain ⟨k, ar, vr, rfl, hk, rfl, HB, OW, OP⟩ := hrel
    by_cases hlt : k < l.length
    · have hkn : (k : Int) < (l.length : Int) := by omega
      obtain ⟨b, o, rfl, q, qm⟩ := (HA.out.keep (Keep.below HB.out)).at_ hlt
      obtain ⟨q0, q1, q2, q3⟩ := q
      have QM := Lib.hid qm
      clear qm
      have hvb := Lib.hid (show ∀ x, vr.ownBlock = some x → w.heap.size ≤ x ∧ x < wr.heap.size from fun x hx => OW.out.lt x hx)
      go_wp2_with fail
      refine (rCopyClaim_any (lThg l k) _ _ ⟨_, _, rfl, QM.out⟩ (HM.out k hlt)).mono ?_
      rintro e' w1 ⟨A2, c2, rfl, ha2, hab2, hb1⟩
      have NP := Lib.hid (Offm.of (x := vr.ownBlock) ha2 hab2 (fun x hx => (hvb.out x hx).2))
      have OP1 := Lib.hid fun i hi => (OP.out i hi).keep (Keep.below hb1)
      have HB1 := Lib.hid (HB.out.trans (hb1.mono HB.out.size))
      have HOW := Lib.hid ((below_of_own OW.out hb1).alloc (.cells #[.string (lThg l k).name, .int .i64 (lThg l k).day, .string (lThg l k).who, .slice A2 (lThg l k).marks.length c2] 26))
      have HNW := Lib.hid (news4 w1 (lThg l k) A2 c2 26)
      have HBS := Lib.hid (show w.heap.size ≤ (w1.alloc (.cells #[.string (lThg l k).name, .int .i64 (lThg l k).day, .string (lThg l k).who, .slice A2 (lThg l k).marks.length c2] 26)).heap.size by have := HB1.out.size; simp; omega)
      have hk63 : k + 1 ≤ maxLen := by unfold maxLen; omega
      have hk64 : (k + 1) * 64 ≤ 140737488355328 := by omega
      clear q0 q1 q2 q3 ha2 hab2 hb1
      go_wp2_with (at_builtin
                   refine wpList_append_own_at _ rfl (.tmp 11) (.tmp 17) 50 rfl w.heap.size 26 j0 _ 4 64 Tryz.underlying50 hj jz0 jz1 jz2 rfl (by decide) vr k (thgVals l ar k) rfl HOW.out ⟨w1.heap.size, 0, none⟩ 1 1 (thgRow (lThg l k) A2 c2) rfl rfl HNW.out (oneThg _ _ _) hk63 hk64 HBS.out ?_)
      intro v5 w5 hown hg5 hnil hblk
      rw [← thgVals_put l ar k A2 c2] at hown
      have hblk' : v5.ownBlock = vr.ownBlock ∨ v5.ownBlock = some (w1.alloc (.cells #[.string (lThg l k).name, .int .i64 (lThg l k).day, .string (lThg l k).who, .slice A2 (lThg l k).marks.length c2] 26)).heap.size := by first | exact hblk | (rw [World.size_alloc]; exact hblk)
      have HG5 := Lib.hid ((HB1.out.alloc HB1.out.size (.cells #[.string (lThg l k).name, .int .i64 (lThg l k).day, .string (lThg l k).who, .slice A2 (lThg l k).marks.length c2] 26)).grown hg5 (by have := HB1.out.size; simp; omega) (fun x hx => (hvb.out x hx).1))
      have OW5 := Lib.hid hown
      have OP5 : Hid (∀ i, i < k + 1 → OffM v5.ownBlock w5 ((ar.put k A2 c2).p i) (lThg l i).marks ((ar.put k A2 c2).pc i)) := Lib.hid fun i hi => by
        by_cases e : i = k
        · subst e
          simp only [GA.put, if_pos]
          exact (NP.out.keep (Keep.alloc _ _)).grown (by decide) hg5 hblk'
        · simp only [GA.put, if_neg e]
          exact ((OP1.out i (by omega)).keep (Keep.alloc _ _)).grown (by decide) hg5 hblk'
      clear hown hg5 hnil hblk hblk'
      go_wp2_with fail
      go_roundw
      case rel => exact ⟨k + 1, ar.put k A2 c2, _, rfl, by omega, by go_num, HG5, OW5, OP5⟩
      case measure => simp [intOf]; omega
    · obtain rfl : k = l.length := by omega
      have OWN := OW.out
      unfold thgVals at OWN
      obtain ⟨AR, cR, rfl, harr⟩ := own_row OWN
      have HAR := Lib.hid harr
      clear OWN harr
      go_wp2_with fail
      go_ret
      exact ⟨⟨AR, cR, ar, rfl, HAR.out, fun i hi => (OP.out i hi).arr⟩, HB.out⟩
end Go.Proofs.YtfjdnbnalihjiaaGreatDoor

/- What a copy of a tariff under way is: its box, the box of the result, its rows. No condition. -/
import Derived.Test.YtbehabaoeicgeaaW10a
import Derived.Test.YtbehabaoeicgeaaW9c
namespace Go.Proofs.Ytbehabaoeicgeaa
open Go.RowKit Fs

/-- A row of n elements that lies neither in block g nor in the next one. -/
def Away (g : Nat) (w : World) (A : Option Addr) (n c size : Nat) (C : Nat → Nat → Value) : Prop :=
  n ≤ c ∧ c ≤ 9223372036854775807 ∧ (0 < n → ∃ b o, A = some ⟨b, o, none⟩ ∧ b ≠ g ∧ b ≠ g + 1 ∧ ∀ i j, i < n → j < size → w.cell? ⟨b, o + i * size + j, none⟩ = some (C i j))
theorem Away.arr {g : Nat} {w : World} {A : Option Addr} {n c size : Nat} {C : Nat → Nat → Value} (h : Away g w A n c size C) : Arr w A n c size C := by
  refine ⟨h.1, h.2.1, fun hn => ?_⟩
  obtain ⟨b, o, h1, -, -, h2⟩ := h.2.2 hn
  exact ⟨b, o, h1, h2⟩
theorem Away.of {w : World} {A : Option Addr} {n c size : Nat} {C : Nat → Nat → Value} (h : Arr w A n c size C) (hs : 0 < size) : Away w.heap.size w A n c size C := by
  refine ⟨h.1, h.2.1, fun hn => ?_⟩
  obtain ⟨b, o, h1, h2⟩ := h.2.2 hn
  have hbl : b < w.heap.size := World.block_lt_of_cell? w _ (h2 0 0 hn hs)
  exact ⟨b, o, h1, by omega, by omega, h2⟩
theorem Away.over {g B : Nat} {w : World} {A : Option Addr} {n c size : Nat} {C : Nat → Nat → Value} (h : Arr w A n c size C) (ha : Above B A) (hB : g + 2 ≤ B) : Away g w A n c size C := by
  refine ⟨h.1, h.2.1, fun hn => ?_⟩
  obtain ⟨b, o, h1, h2⟩ := h.2.2 hn
  have : B ≤ b := ha _ h1
  exact ⟨b, o, h1, by omega, by omega, h2⟩
theorem Away.keep {g : Nat} {w w' : World} (k : Keep w w') {A : Option Addr} {n c size : Nat} {C : Nat → Nat → Value} (h : Away g w A n c size C) : Away g w' A n c size C := by
  refine ⟨h.1, h.2.1, fun hn => ?_⟩
  obtain ⟨b, o, h1, h2, h3, h4⟩ := h.2.2 hn
  exact ⟨b, o, h1, h2, h3, fun i j hi hj => k _ _ (h4 i j hi hj)⟩
theorem Away.box {g : Nat} {w : World} {A : Option Addr} {n c size : Nat} {C : Nat → Nat → Value} (h : Away g w A n c size C) {p : Addr} (hp : p.block = g ∨ p.block = g + 1) (v : Value) : Away g (w.setCell p v) A n c size C := by
  refine ⟨h.1, h.2.1, fun hn => ?_⟩
  obtain ⟨b, o, h1, h2, h3, h4⟩ := h.2.2 hn
  refine ⟨b, o, h1, h2, h3, fun i j hi hj => (World.cell?_setCell_far _ _ _ _ ?_).trans (h4 i j hi hj)⟩
  show p.block ≠ b
  omega
def isSlice : Value → Bool
  | .slice _ _ _ => true
  | _ => false
theorem Away.row {g : Nat} {w : World} {A : Option Addr} {n c size : Nat} {C : Nat → Nat → Value} (h : Away g w A n c size C) {p : Addr} {u : Value} (hp : w.cell? p = some u) (hu : isSlice u = true) (hC : ∀ i j, isSlice (C i j) = false) (v : Value) : Away g (w.setCell p v) A n c size C := by
  refine ⟨h.1, h.2.1, fun hn => ?_⟩
  obtain ⟨b, o, h1, h2, h3, h4⟩ := h.2.2 hn
  refine ⟨b, o, h1, h2, h3, fun i j hi hj => ?_⟩
  have hc := h4 i j hi hj
  rw [World.cell?_setCell_other _ _ _ _ ?_]
  · exact hc
  · intro he
    rw [← he, hp] at hc
    injection hc with hc
    have h5 := hC i j
    rw [← hc, hu] at h5
    cases h5
abbrev AwayI (g : Nat) (w : World) (A : Option Addr) (l : List Int) (c : Nat) : Prop := Away g w A l.length c 1 fun i _ => .int .i64 (listI l i)
abbrev AwayS (g : Nat) (w : World) (A : Option Addr) (l : List ByteArray) (c : Nat) : Prop := Away g w A l.length c 1 fun i _ => .string (listS l i)
abbrev AwayE (g : Nat) (w : World) (A : Option Addr) (l : List Extra) (c : Nat) : Prop := Away g w A l.length c 2 fun i j => extraCells (listE l i) j
abbrev AwayF (g : Nat) (w : World) (A : Option Addr) (l : List Fix) (c : Nat) : Prop := Away g w A l.length c 3 fun i j => fixCells (listF l i) j
theorem noSliceE (l : List Extra) (i j : Nat) : isSlice (extraCells (listE l i) j) = false := by
  unfold extraCells; split <;> rfl
theorem noSliceF (l : List Fix) (i j : Nat) : isSlice (fixCells (listF l i) j) = false := by
  unfold fixCells; split <;> rfl

/-- The rows of the rules, which the call has made itself, their lists elsewhere. -/
def RowsAt (g : Nat) (w : World) (A : Option Addr) (l : List Rule) : Prop :=
  l.length = 0 ∨ ∃ b cap f, ∃ a : RA, A = some ⟨b, 0, none⟩ ∧ g + 2 ≤ b ∧ w.rowIs b 63 cap f ∧ l.length * 10 ≤ cap ∧
    (∀ i j, i < l.length → j < 10 → f (i * 10 + j) = ruleCells (listR l i) (a.z i) (a.d i) (a.zc i) (a.dc i) j) ∧
    ∀ i, i < l.length → AwayI g w (a.z i) (listR l i).zones (a.zc i) ∧ AwayI g w (a.d i) (listR l i).days (a.dc i)
theorem RowsAt.below {g : Nat} {w w' : World} {A : Option Addr} {l : List Rule} (h : RowsAt g w A l) (hb : Below w.heap.size w w') : RowsAt g w' A l := by
  rcases h with h | ⟨b, cap, f, a, h1, h2, h3, h4, h5, h6⟩
  · exact .inl h
  · exact .inr ⟨b, cap, f, a, h1, h2, h3.of_block (hb.block b h3.lt), h4, h5, fun i hi => ⟨(h6 i hi).1.keep (Keep.below hb), (h6 i hi).2.keep (Keep.below hb)⟩⟩
theorem RowsAt.box {g : Nat} {w : World} {A : Option Addr} {l : List Rule} (h : RowsAt g w A l) {p : Addr} (hp : p.block = g ∨ p.block = g + 1) (v : Value) : RowsAt g (w.setCell p v) A l := by
  rcases h with h | ⟨b, cap, f, a, h1, h2, h3, h4, h5, h6⟩
  · exact .inl h
  · exact .inr ⟨b, cap, f, a, h1, h2, h3.setOther (by omega) v, h4, h5, fun i hi => ⟨(h6 i hi).1.box hp v, (h6 i hi).2.box hp v⟩⟩
theorem RowsAt.arr {g : Nat} {w : World} {A : Option Addr} {l : List Rule} {c : Nat} (h : RowsAt g w A l) (h1 : l.length ≤ c) (h2 : c ≤ 9223372036854775807) : ∃ a, ArrR w A l c a := by
  rcases h with h | ⟨b, cap, f, a, e1, e2, e3, e4, e5, e6⟩
  · exact ⟨⟨fun _ => none, fun _ => none, fun _ => 0, fun _ => 0⟩, ⟨h1, h2, fun hh => by omega⟩, fun i hi => by omega⟩
  · refine ⟨a, ⟨h1, h2, fun _ => ⟨b, 0, e1, fun i j hi hj => ?_⟩⟩, fun i hi => ⟨(e6 i hi).1.arr, (e6 i hi).2.arr⟩⟩
    rw [Nat.zero_add, e3.cell (by omega), e5 i j hi hj]
/-- The box of the tariff under way at g, the empty box of the result behind it, all below g as in W. -/
structure CopyAt (W w : World) (g : Nat) (T : Tar) (z h r e f : Option Addr) (zc hc rc ec fc : Nat) : Prop where
  box : BoxT w g T z h r e f zc hc rc ec fc
  fz : ∀ i, w.frozen? ⟨g, i, none⟩ = false
  z0 : w.cell? ⟨g + 1, 0, none⟩ = some (.string ⟨#[]⟩)
  z1 : w.cell? ⟨g + 1, 1, none⟩ = some (.int .i64 0)
  z2 : w.cell? ⟨g + 1, 2, none⟩ = some (.int .i64 0)
  z3 : w.cell? ⟨g + 1, 3, none⟩ = some (.slice none 0 0)
  z4 : w.cell? ⟨g + 1, 4, none⟩ = some (.slice none 0 0)
  z5 : w.cell? ⟨g + 1, 5, none⟩ = some (.slice none 0 0)
  z6 : w.cell? ⟨g + 1, 6, none⟩ = some (.slice none 0 0)
  z7 : w.cell? ⟨g + 1, 7, none⟩ = some (.slice none 0 0)
  zf : ∀ i, w.frozen? ⟨g + 1, i, none⟩ = false
  bel : Below g W w
theorem CopyAt.lt {W w : World} {g : Nat} {T : Tar} {z h r e f : Option Addr} {zc hc rc ec fc : Nat} (m : CopyAt W w g T z h r e f zc hc rc ec fc) : g + 1 < w.heap.size := World.block_lt_of_cell? w _ m.z0
theorem CopyAt.below {W w w' : World} {g : Nat} {T : Tar} {z h r e f : Option Addr} {zc hc rc ec fc : Nat} (m : CopyAt W w g T z h r e f zc hc rc ec fc) (hb : Below w.heap.size w w') : CopyAt W w' g T z h r e f zc hc rc ec fc := by
  have hl := m.lt
  exact ⟨m.box.keep (Keep.below hb), fun i => (hb.frozen (p := ⟨g, i, none⟩) (by show g < _; omega)).trans (m.fz i), Keep.below hb _ _ m.z0, Keep.below hb _ _ m.z1, Keep.below hb _ _ m.z2, Keep.below hb _ _ m.z3, Keep.below hb _ _ m.z4, Keep.below hb _ _ m.z5, Keep.below hb _ _ m.z6, Keep.below hb _ _ m.z7,
    fun i => (hb.frozen (p := ⟨g + 1, i, none⟩) hl).trans (m.zf i), m.bel.trans (hb.mono (by omega))⟩
theorem CopyAt.start (w : World) (T : Tar) (z h r e f : Option Addr) (zc hc rc ec fc : Nat) (t t' : TypeId) :
    CopyAt w ((w.alloc (.cells #[.string T.name, .int .i64 T.unit, .int .i64 T.step, .slice z T.zones.length zc, .slice h T.hols.length hc, .slice r T.rules.length rc, .slice e T.extras.length ec, .slice f T.fixed.length fc] t)).alloc (.cells #[.string ⟨#[]⟩, .int .i64 0, .int .i64 0, .slice none 0 0, .slice none 0 0, .slice none 0 0, .slice none 0 0, .slice none 0 0] t')) w.heap.size T z h r e f zc hc rc ec fc := by
  refine ⟨(BoxT.new w T z h r e f zc hc rc ec fc t).keep (Keep.alloc _ _), fun i => ?_, cellNew1 _ _ _ _ 0, cellNew1 _ _ _ _ 1, cellNew1 _ _ _ _ 2, cellNew1 _ _ _ _ 3, cellNew1 _ _ _ _ 4, cellNew1 _ _ _ _ 5, cellNew1 _ _ _ _ 6, cellNew1 _ _ _ _ 7, fun i => ?_, ((Below.refl _ _).alloc (Nat.le_refl _) _).alloc (by simp) _⟩
  · have hb := (Below.refl (w.heap.size + 1) (w.alloc (.cells #[.string T.name, .int .i64 T.unit, .int .i64 T.step, .slice z T.zones.length zc, .slice h T.hols.length hc, .slice r T.rules.length rc, .slice e T.extras.length ec, .slice f T.fixed.length fc] t))).alloc (by simp) (.cells #[.string ⟨#[]⟩, .int .i64 0, .int .i64 0, .slice none 0 0, .slice none 0 0, .slice none 0 0, .slice none 0 0, .slice none 0 0] t')
    exact (hb.frozen (p := ⟨w.heap.size, i, none⟩) (Nat.lt_succ_self _)).trans (frozenNew _ _ _ _)
  · exact frozenNew1 _ _ _ _ _
/-- A store into another block beyond. -/
theorem CopyAt.far {W w : World} {g : Nat} {T : Tar} {z h r e f : Option Addr} {zc hc rc ec fc : Nat} (m : CopyAt W w g T z h r e f zc hc rc ec fc) {p : Addr} (hp : g + 2 ≤ p.block) (v : Value) : CopyAt W (w.setCell p v) g T z h r e f zc hc rc ec fc := by
  have far : ∀ i, (w.setCell p v).cell? ⟨g, i, none⟩ = w.cell? ⟨g, i, none⟩ := fun i => World.cell?_setCell_far _ _ _ _ (by show p.block ≠ g; omega)
  have far1 : ∀ i, (w.setCell p v).cell? ⟨g + 1, i, none⟩ = w.cell? ⟨g + 1, i, none⟩ := fun i => World.cell?_setCell_far _ _ _ _ (by show p.block ≠ g + 1; omega)
  exact ⟨⟨(far 0).trans m.box.c0, (far 1).trans m.box.c1, (far 2).trans m.box.c2, (far 3).trans m.box.c3, (far 4).trans m.box.c4, (far 5).trans m.box.c5, (far 6).trans m.box.c6, (far 7).trans m.box.c7⟩, fun i => (World.frozen?_setCell _ _ _ _).trans (m.fz i),
    (far1 0).trans m.z0, (far1 1).trans m.z1, (far1 2).trans m.z2, (far1 3).trans m.z3, (far1 4).trans m.z4, (far1 5).trans m.z5, (far1 6).trans m.z6, (far1 7).trans m.z7, fun i => (World.frozen?_setCell _ _ _ _).trans (m.zf i), m.bel.setCell (by omega) v⟩
theorem CopyAt.set3 {W w : World} {g : Nat} {T : Tar} {z h r e f : Option Addr} {zc hc rc ec fc : Nat} (m : CopyAt W w g T z h r e f zc hc rc ec fc) (A' : Option Addr) (c' : Nat) : CopyAt W (w.setCell ⟨g, 3, none⟩ (.slice A' T.zones.length c')) g T A' h r e f c' hc rc ec fc := by
  have far : ∀ i, i ≠ 3 → (w.setCell ⟨g, 3, none⟩ (.slice A' T.zones.length c')).cell? ⟨g, i, none⟩ = w.cell? ⟨g, i, none⟩ := fun i hi => World.cell?_setCell_other _ _ _ _ (by intro e; injection e with _ e; omega)
  have far1 : ∀ i, (w.setCell ⟨g, 3, none⟩ (.slice A' T.zones.length c')).cell? ⟨g + 1, i, none⟩ = w.cell? ⟨g + 1, i, none⟩ := fun i => World.cell?_setCell_far _ _ _ _ (by show g ≠ g + 1; omega)
  exact ⟨⟨(far 0 (by decide)).trans m.box.c0, (far 1 (by decide)).trans m.box.c1, (far 2 (by decide)).trans m.box.c2, World.cell?_setCell_same _ _ _ m.box.c3, (far 4 (by decide)).trans m.box.c4, (far 5 (by decide)).trans m.box.c5, (far 6 (by decide)).trans m.box.c6, (far 7 (by decide)).trans m.box.c7⟩, fun i => (World.frozen?_setCell _ _ _ _).trans (m.fz i),
    (far1 0).trans m.z0, (far1 1).trans m.z1, (far1 2).trans m.z2, (far1 3).trans m.z3, (far1 4).trans m.z4, (far1 5).trans m.z5, (far1 6).trans m.z6, (far1 7).trans m.z7, fun i => (World.frozen?_setCell _ _ _ _).trans (m.zf i), m.bel.setCell (p := ⟨g, 3, none⟩) (Nat.le_refl _) _⟩
theorem CopyAt.set4 {W w : World} {g : Nat} {T : Tar} {z h r e f : Option Addr} {zc hc rc ec fc : Nat} (m : CopyAt W w g T z h r e f zc hc rc ec fc) (A' : Option Addr) (c' : Nat) : CopyAt W (w.setCell ⟨g, 4, none⟩ (.slice A' T.hols.length c')) g T z A' r e f zc c' rc ec fc := by
  have far : ∀ i, i ≠ 4 → (w.setCell ⟨g, 4, none⟩ (.slice A' T.hols.length c')).cell? ⟨g, i, none⟩ = w.cell? ⟨g, i, none⟩ := fun i hi => World.cell?_setCell_other _ _ _ _ (by intro e; injection e with _ e; omega)
  have far1 : ∀ i, (w.setCell ⟨g, 4, none⟩ (.slice A' T.hols.length c')).cell? ⟨g + 1, i, none⟩ = w.cell? ⟨g + 1, i, none⟩ := fun i => World.cell?_setCell_far _ _ _ _ (by show g ≠ g + 1; omega)
  exact ⟨⟨(far 0 (by decide)).trans m.box.c0, (far 1 (by decide)).trans m.box.c1, (far 2 (by decide)).trans m.box.c2, (far 3 (by decide)).trans m.box.c3, World.cell?_setCell_same _ _ _ m.box.c4, (far 5 (by decide)).trans m.box.c5, (far 6 (by decide)).trans m.box.c6, (far 7 (by decide)).trans m.box.c7⟩, fun i => (World.frozen?_setCell _ _ _ _).trans (m.fz i),
    (far1 0).trans m.z0, (far1 1).trans m.z1, (far1 2).trans m.z2, (far1 3).trans m.z3, (far1 4).trans m.z4, (far1 5).trans m.z5, (far1 6).trans m.z6, (far1 7).trans m.z7, fun i => (World.frozen?_setCell _ _ _ _).trans (m.zf i), m.bel.setCell (p := ⟨g, 4, none⟩) (Nat.le_refl _) _⟩
theorem CopyAt.set5 {W w : World} {g : Nat} {T : Tar} {z h r e f : Option Addr} {zc hc rc ec fc : Nat} (m : CopyAt W w g T z h r e f zc hc rc ec fc) (A' : Option Addr) (c' : Nat) : CopyAt W (w.setCell ⟨g, 5, none⟩ (.slice A' T.rules.length c')) g T z h A' e f zc hc c' ec fc := by
  have far : ∀ i, i ≠ 5 → (w.setCell ⟨g, 5, none⟩ (.slice A' T.rules.length c')).cell? ⟨g, i, none⟩ = w.cell? ⟨g, i, none⟩ := fun i hi => World.cell?_setCell_other _ _ _ _ (by intro e; injection e with _ e; omega)
  have far1 : ∀ i, (w.setCell ⟨g, 5, none⟩ (.slice A' T.rules.length c')).cell? ⟨g + 1, i, none⟩ = w.cell? ⟨g + 1, i, none⟩ := fun i => World.cell?_setCell_far _ _ _ _ (by show g ≠ g + 1; omega)
  exact ⟨⟨(far 0 (by decide)).trans m.box.c0, (far 1 (by decide)).trans m.box.c1, (far 2 (by decide)).trans m.box.c2, (far 3 (by decide)).trans m.box.c3, (far 4 (by decide)).trans m.box.c4, World.cell?_setCell_same _ _ _ m.box.c5, (far 6 (by decide)).trans m.box.c6, (far 7 (by decide)).trans m.box.c7⟩, fun i => (World.frozen?_setCell _ _ _ _).trans (m.fz i),
    (far1 0).trans m.z0, (far1 1).trans m.z1, (far1 2).trans m.z2, (far1 3).trans m.z3, (far1 4).trans m.z4, (far1 5).trans m.z5, (far1 6).trans m.z6, (far1 7).trans m.z7, fun i => (World.frozen?_setCell _ _ _ _).trans (m.zf i), m.bel.setCell (p := ⟨g, 5, none⟩) (Nat.le_refl _) _⟩
theorem CopyAt.set6 {W w : World} {g : Nat} {T : Tar} {z h r e f : Option Addr} {zc hc rc ec fc : Nat} (m : CopyAt W w g T z h r e f zc hc rc ec fc) (A' : Option Addr) (c' : Nat) : CopyAt W (w.setCell ⟨g, 6, none⟩ (.slice A' T.extras.length c')) g T z h r A' f zc hc rc c' fc := by
  have far : ∀ i, i ≠ 6 → (w.setCell ⟨g, 6, none⟩ (.slice A' T.extras.length c')).cell? ⟨g, i, none⟩ = w.cell? ⟨g, i, none⟩ := fun i hi => World.cell?_setCell_other _ _ _ _ (by intro e; injection e with _ e; omega)
  have far1 : ∀ i, (w.setCell ⟨g, 6, none⟩ (.slice A' T.extras.length c')).cell? ⟨g + 1, i, none⟩ = w.cell? ⟨g + 1, i, none⟩ := fun i => World.cell?_setCell_far _ _ _ _ (by show g ≠ g + 1; omega)
  exact ⟨⟨(far 0 (by decide)).trans m.box.c0, (far 1 (by decide)).trans m.box.c1, (far 2 (by decide)).trans m.box.c2, (far 3 (by decide)).trans m.box.c3, (far 4 (by decide)).trans m.box.c4, (far 5 (by decide)).trans m.box.c5, World.cell?_setCell_same _ _ _ m.box.c6, (far 7 (by decide)).trans m.box.c7⟩, fun i => (World.frozen?_setCell _ _ _ _).trans (m.fz i),
    (far1 0).trans m.z0, (far1 1).trans m.z1, (far1 2).trans m.z2, (far1 3).trans m.z3, (far1 4).trans m.z4, (far1 5).trans m.z5, (far1 6).trans m.z6, (far1 7).trans m.z7, fun i => (World.frozen?_setCell _ _ _ _).trans (m.zf i), m.bel.setCell (p := ⟨g, 6, none⟩) (Nat.le_refl _) _⟩
theorem CopyAt.set7 {W w : World} {g : Nat} {T : Tar} {z h r e f : Option Addr} {zc hc rc ec fc : Nat} (m : CopyAt W w g T z h r e f zc hc rc ec fc) (A' : Option Addr) (c' : Nat) : CopyAt W (w.setCell ⟨g, 7, none⟩ (.slice A' T.fixed.length c')) g T z h r e A' zc hc rc ec c' := by
  have far : ∀ i, i ≠ 7 → (w.setCell ⟨g, 7, none⟩ (.slice A' T.fixed.length c')).cell? ⟨g, i, none⟩ = w.cell? ⟨g, i, none⟩ := fun i hi => World.cell?_setCell_other _ _ _ _ (by intro e; injection e with _ e; omega)
  have far1 : ∀ i, (w.setCell ⟨g, 7, none⟩ (.slice A' T.fixed.length c')).cell? ⟨g + 1, i, none⟩ = w.cell? ⟨g + 1, i, none⟩ := fun i => World.cell?_setCell_far _ _ _ _ (by show g ≠ g + 1; omega)
  exact ⟨⟨(far 0 (by decide)).trans m.box.c0, (far 1 (by decide)).trans m.box.c1, (far 2 (by decide)).trans m.box.c2, (far 3 (by decide)).trans m.box.c3, (far 4 (by decide)).trans m.box.c4, (far 5 (by decide)).trans m.box.c5, (far 6 (by decide)).trans m.box.c6, World.cell?_setCell_same _ _ _ m.box.c7⟩, fun i => (World.frozen?_setCell _ _ _ _).trans (m.fz i),
    (far1 0).trans m.z0, (far1 1).trans m.z1, (far1 2).trans m.z2, (far1 3).trans m.z3, (far1 4).trans m.z4, (far1 5).trans m.z5, (far1 6).trans m.z6, (far1 7).trans m.z7, fun i => (World.frozen?_setCell _ _ _ _).trans (m.zf i), m.bel.setCell (p := ⟨g, 7, none⟩) (Nat.le_refl _) _⟩
theorem RowsAt.of_own {g : Nat} {w : World} {base c : Nat} {A : Option Addr} {l : List Rule} {a : RA} (h : w.ownsRow base 63 10 (.slice A l.length c) l.length (flat l.length 10 fun i j => ruleCells (listR l i) (a.z i) (a.d i) (a.zc i) (a.dc i) j)) (hB : g + 2 ≤ base)
    (hq : ∀ i, i < l.length → AwayI g w (a.z i) (listR l i).zones (a.zc i) ∧ AwayI g w (a.d i) (listR l i).days (a.dc i)) : RowsAt g w A l := by
  rcases h.2 with ⟨-, hn⟩ | ⟨b, cap, cur, hv, hb, hh, h1, h2, h3, h4⟩
  · exact .inl hn
  · injection hv with hv
    subst hv
    refine .inr ⟨b, cap * 10, fun i => (cur[i]?).getD undef, a, rfl, by omega, ⟨cur, hh, h3, fun i hi => ?_⟩, by omega, fun i j hi hj => ?_, hq⟩
    · show cur[i]? = some ((cur[i]?).getD undef)
      rw [Array.getElem?_eq_getElem (by omega)]; rfl
    · obtain ⟨p1, p2, p3⟩ := place hi hj
      have e : cur[i * 10 + j]? = some (ruleCells (listR l i) (a.z i) (a.d i) (a.zc i) (a.dc i) j) := by
        have e1 : cur[i * 10 + j]? = (cur.toList.take (l.length * 10))[i * 10 + j]? := by
          rw [List.getElem?_take_of_lt p1, Array.getElem?_toList]
        rw [e1, h4, flat_get _ p1, p2, p3]
      show (cur[i * 10 + j]?).getD undef = _
      rw [e]; rfl
/-- The two lists of rule k are put in place. -/
theorem RowsAt.put {g : Nat} {w : World} {b cap : Nat} {f : Nat → Value} {a : RA} {l : List Rule} {k : Nat} (hk : k < l.length) (hgb : g + 2 ≤ b) (hrow : w.rowIs b 63 cap f) (hcap : l.length * 10 ≤ cap)
    (hf : ∀ i j, i < l.length → j < 10 → f (i * 10 + j) = ruleCells (listR l i) (a.z i) (a.d i) (a.zc i) (a.dc i) j)
    (hq : ∀ i, i < l.length → AwayI g w (a.z i) (listR l i).zones (a.zc i) ∧ AwayI g w (a.d i) (listR l i).days (a.dc i))
    {A4 A5 : Option Addr} {c4 c5 : Nat} (h4 : AwayI g w A4 (listR l k).zones c4) (h5 : AwayI g w A5 (listR l k).days c5) :
    RowsAt g ((w.setCell ⟨b, k * 10 + 3, none⟩ (.slice A4 (listR l k).zones.length c4)).setCell ⟨b, k * 10 + 4, none⟩ (.slice A5 (listR l k).days.length c5)) (some ⟨b, 0, none⟩) l := by
  have q3 : w.cell? ⟨b, k * 10 + 3, none⟩ = some (.slice (a.z k) (listR l k).zones.length (a.zc k)) := by rw [hrow.cell (by omega), hf k 3 hk (by omega)]; rfl
  have q4 : (w.setCell ⟨b, k * 10 + 3, none⟩ (.slice A4 (listR l k).zones.length c4)).cell? ⟨b, k * 10 + 4, none⟩ = some (.slice (a.d k) (listR l k).days.length (a.dc k)) := by
    rw [World.cell?_setCell_other _ _ _ _ (by intro e; injection e with _ e; omega), hrow.cell (by omega), hf k 4 hk (by omega)]; rfl
  have keepI : ∀ {A : Option Addr} {l' : List Int} {c : Nat}, AwayI g w A l' c → AwayI g ((w.setCell ⟨b, k * 10 + 3, none⟩ (.slice A4 (listR l k).zones.length c4)).setCell ⟨b, k * 10 + 4, none⟩ (.slice A5 (listR l k).days.length c5)) A l' c :=
    fun h => (h.row q3 rfl (fun _ _ => rfl) _).row q4 rfl (fun _ _ => rfl) _
  refine .inr ⟨b, cap, _, ⟨fun i => if i = k then A4 else a.z i, fun i => if i = k then A5 else a.d i, fun i => if i = k then c4 else a.zc i, fun i => if i = k then c5 else a.dc i⟩, rfl, hgb, (hrow.set (k * 10 + 3) (.slice A4 (listR l k).zones.length c4)).set (k * 10 + 4) (.slice A5 (listR l k).days.length c5), hcap, fun i j hi hj => ?_, fun i hi => ?_⟩
  · by_cases e : i = k
    · subst e
      simp only
      by_cases e4 : j = 4
      · subst e4; rw [if_pos rfl]; rfl
      · rw [if_neg (by omega)]
        by_cases e3 : j = 3
        · subst e3; rw [if_pos rfl]; rfl
        · rw [if_neg (by omega), hf i j hi hj]
          unfold ruleCells
          split <;> first | rfl | omega
    · simp only [if_neg e]
      rw [if_neg (by omega), if_neg (by omega), hf i j hi hj]
  · by_cases e : i = k
    · subst e
      simp only
      exact ⟨keepI h4, keepI h5⟩
    · simp only [if_neg e]
      exact ⟨keepI (hq i hi).1, keepI (hq i hi).2⟩
/-- The eight cells of a tariff, stored one behind the other. -/
theorem BoxT.fill {w : World} {g : Nat} {T : Tar} (z h r e f : Option Addr) (zc hc rc ec fc : Nat) {u0 u1 u2 u3 u4 u5 u6 u7 : Value}
    (z0 : w.cell? ⟨g, 0, none⟩ = some u0) (z1 : w.cell? ⟨g, 1, none⟩ = some u1) (z2 : w.cell? ⟨g, 2, none⟩ = some u2) (z3 : w.cell? ⟨g, 3, none⟩ = some u3) (z4 : w.cell? ⟨g, 4, none⟩ = some u4) (z5 : w.cell? ⟨g, 5, none⟩ = some u5) (z6 : w.cell? ⟨g, 6, none⟩ = some u6) (z7 : w.cell? ⟨g, 7, none⟩ = some u7) :
    BoxT ((((((((w.setCell ⟨g, 0, none⟩ (.string T.name)).setCell ⟨g, 1, none⟩ (.int .i64 T.unit)).setCell ⟨g, 2, none⟩ (.int .i64 T.step)).setCell ⟨g, 3, none⟩ (.slice z T.zones.length zc)).setCell ⟨g, 4, none⟩ (.slice h T.hols.length hc)).setCell ⟨g, 5, none⟩ (.slice r T.rules.length rc)).setCell ⟨g, 6, none⟩ (.slice e T.extras.length ec)).setCell ⟨g, 7, none⟩ (.slice f T.fixed.length fc)) g T z h r e f zc hc rc ec fc := by
  constructor <;> simp [World.cell?_setCell_other, World.cell?_setCell_same', z0, z1, z2, z3, z4, z5, z6, z7]
theorem Away.fillT {g : Nat} {w : World} {A : Option Addr} {n c size : Nat} {C : Nat → Nat → Value} (m : Away g w A n c size C) (z h r e f : Option Addr) (zc hc rc ec fc : Nat) (T : Tar) : Away g ((((((((w.setCell ⟨g + 1, 0, none⟩ (.string T.name)).setCell ⟨g + 1, 1, none⟩ (.int .i64 T.unit)).setCell ⟨g + 1, 2, none⟩ (.int .i64 T.step)).setCell ⟨g + 1, 3, none⟩ (.slice z T.zones.length zc)).setCell ⟨g + 1, 4, none⟩ (.slice h T.hols.length hc)).setCell ⟨g + 1, 5, none⟩ (.slice r T.rules.length rc)).setCell ⟨g + 1, 6, none⟩ (.slice e T.extras.length ec)).setCell ⟨g + 1, 7, none⟩ (.slice f T.fixed.length fc)) A n c size C :=
  (((((((m.box (.inr rfl) _).box (.inr rfl) _).box (.inr rfl) _).box (.inr rfl) _).box (.inr rfl) _).box (.inr rfl) _).box (.inr rfl) _).box (.inr rfl) _
theorem RowsAt.fillT {g : Nat} {w : World} {A : Option Addr} {l : List Rule} (m : RowsAt g w A l) (z h r e f : Option Addr) (zc hc rc ec fc : Nat) (T : Tar) : RowsAt g ((((((((w.setCell ⟨g + 1, 0, none⟩ (.string T.name)).setCell ⟨g + 1, 1, none⟩ (.int .i64 T.unit)).setCell ⟨g + 1, 2, none⟩ (.int .i64 T.step)).setCell ⟨g + 1, 3, none⟩ (.slice z T.zones.length zc)).setCell ⟨g + 1, 4, none⟩ (.slice h T.hols.length hc)).setCell ⟨g + 1, 5, none⟩ (.slice r T.rules.length rc)).setCell ⟨g + 1, 6, none⟩ (.slice e T.extras.length ec)).setCell ⟨g + 1, 7, none⟩ (.slice f T.fixed.length fc)) A l :=
  (((((((m.box (.inr rfl) _).box (.inr rfl) _).box (.inr rfl) _).box (.inr rfl) _).box (.inr rfl) _).box (.inr rfl) _).box (.inr rfl) _).box (.inr rfl) _
theorem belowFillT {g : Nat} {W w : World} (m : Below g W w) (z h r e f : Option Addr) (zc hc rc ec fc : Nat) (T : Tar) : Below g W ((((((((w.setCell ⟨g + 1, 0, none⟩ (.string T.name)).setCell ⟨g + 1, 1, none⟩ (.int .i64 T.unit)).setCell ⟨g + 1, 2, none⟩ (.int .i64 T.step)).setCell ⟨g + 1, 3, none⟩ (.slice z T.zones.length zc)).setCell ⟨g + 1, 4, none⟩ (.slice h T.hols.length hc)).setCell ⟨g + 1, 5, none⟩ (.slice r T.rules.length rc)).setCell ⟨g + 1, 6, none⟩ (.slice e T.extras.length ec)).setCell ⟨g + 1, 7, none⟩ (.slice f T.fixed.length fc)) := by
  have s : ∀ {w : World} (i : Nat) (v : Value), Below g W w → Below g W (w.setCell ⟨g + 1, i, none⟩ v) := fun i v h => h.setCell (p := ⟨g + 1, i, none⟩) (Nat.le_succ _) v
  exact s _ _ (s _ _ (s _ _ (s _ _ (s _ _ (s _ _ (s _ _ (s _ _ m)))))))
end Go.Proofs.Ytbehabaoeicgeaa

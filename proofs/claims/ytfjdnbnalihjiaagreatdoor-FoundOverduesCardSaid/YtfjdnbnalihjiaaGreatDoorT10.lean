/- A copy of a net reads as the net. Condition: no list has more than a million elements. -/
import Derived.Test.YtfjdnbnalihjiaaGreatDoorT8
import Derived.Deep.RegionHeld3
namespace Go.Proofs.YtfjdnbnalihjiaaGreatDoor
open Go.RowKit Fs

/-- A row of n elements that lies behind block g, and not in block x. -/
def Off (g : Nat) (x : Option Nat) (w : World) (A : Option Addr) (n c size : Nat) (C : Nat → Nat → Value) : Prop :=
  n ≤ c ∧ c ≤ 9223372036854775807 ∧ (0 < n → ∃ b o, A = some ⟨b, o, none⟩ ∧ g < b ∧ x ≠ some b ∧ ∀ i j, i < n → j < size → w.cell? ⟨b, o + i * size + j, none⟩ = some (C i j))
theorem Off.arr {g : Nat} {x : Option Nat} {w : World} {A : Option Addr} {n c size : Nat} {C : Nat → Nat → Value} (h : Off g x w A n c size C) : Arr w A n c size C := by
  refine ⟨h.1, h.2.1, fun hn => ?_⟩
  obtain ⟨b, o, h1, -, -, h2⟩ := h.2.2 hn
  exact ⟨b, o, h1, h2⟩
theorem Off.of {g B : Nat} {x : Option Nat} {w : World} {A : Option Addr} {n c size : Nat} {C : Nat → Nat → Value} (h : Arr w A n c size C) (ha : Above B A) (hB : g < B) (hx : ∀ b, x = some b → b < B) : Off g x w A n c size C := by
  refine ⟨h.1, h.2.1, fun hn => ?_⟩
  obtain ⟨b, o, h1, h2⟩ := h.2.2 hn
  have : B ≤ b := ha _ h1
  exact ⟨b, o, h1, by omega, fun e => by have := hx b e; omega, h2⟩
theorem Off.keep {g : Nat} {x : Option Nat} {w w' : World} (k : Keep w w') {A : Option Addr} {n c size : Nat} {C : Nat → Nat → Value} (h : Off g x w A n c size C) : Off g x w' A n c size C := by
  refine ⟨h.1, h.2.1, fun hn => ?_⟩
  obtain ⟨b, o, h1, h2, h3, h4⟩ := h.2.2 hn
  exact ⟨b, o, h1, h2, h3, fun i j hi hj => k _ _ (h4 i j hi hj)⟩
theorem Off.newer {g : Nat} {x : Option Nat} {w0 w : World} {A : Option Addr} {n c size : Nat} {C : Nat → Nat → Value} (h : Off g x w0 A n c size C) (hs : 0 < size) (k : Keep w0 w) {p : Addr} (hp : w0.heap.size ≤ p.block) (v : Value) : Off g x (w.setCell p v) A n c size C := by
  refine ⟨h.1, h.2.1, fun hn => ?_⟩
  obtain ⟨b, o, h1, h2, h3, h4⟩ := h.2.2 hn
  have hb : b < w0.heap.size := World.block_lt_of_cell? w0 _ (h4 0 0 hn hs)
  refine ⟨b, o, h1, h2, h3, fun i j hi hj => (World.cell?_setCell_far _ _ _ _ ?_).trans (k _ _ (h4 i j hi hj))⟩
  show p.block ≠ b
  omega
theorem Off.far {g : Nat} {x : Option Nat} {w : World} {A : Option Addr} {n c size : Nat} {C : Nat → Nat → Value} (h : Off g x w A n c size C) {p : Addr} (hp : p.block ≤ g) (v : Value) : Off g x (w.setCell p v) A n c size C := by
  refine ⟨h.1, h.2.1, fun hn => ?_⟩
  obtain ⟨b, o, h1, h2, h3, h4⟩ := h.2.2 hn
  refine ⟨b, o, h1, h2, h3, fun i j hi hj => (World.cell?_setCell_far _ _ _ _ ?_).trans (h4 i j hi hj)⟩
  show p.block ≠ b
  omega
/-- The row x has grown, in its place or at the end of memory. -/
theorem Off.grown {g : Nat} {x x' : Option Nat} {w w' : World} {A : Option Addr} {n c size : Nat} {C : Nat → Nat → Value} (h : Off g x w A n c size C) (hs : 0 < size) (hg : w.grownBy w' x) (hx : x' = x ∨ x' = some w.heap.size) : Off g x' w' A n c size C := by
  refine ⟨h.1, h.2.1, fun hn => ?_⟩
  obtain ⟨b, o, h1, h2, h3, h4⟩ := h.2.2 hn
  have hb : b < w.heap.size := World.block_lt_of_cell? w _ (h4 0 0 hn hs)
  refine ⟨b, o, h1, h2, fun e => ?_, fun i j hi hj => ?_⟩
  · rcases hx with hx | hx
    · exact h3 (hx ▸ e)
    · rw [hx] at e; injection e with e; omega
  · rw [← h4 i j hi hj]
    have := hg.block b hb (fun e => h3 e.symm)
    unfold World.cell?
    simp only [this]
theorem Arr.far {B : Nat} {w : World} {A : Option Addr} {n c size : Nat} {C : Nat → Nat → Value} (h : Arr w A n c size C) (ha : Above B A) {p : Addr} (hp : p.block < B) (v : Value) : Arr (w.setCell p v) A n c size C := by
  refine ⟨h.1, h.2.1, fun hn => ?_⟩
  obtain ⟨b, o, h1, h4⟩ := h.2.2 hn
  have : B ≤ b := ha _ h1
  refine ⟨b, o, h1, fun i j hi hj => (World.cell?_setCell_far _ _ _ _ ?_).trans (h4 i j hi hj)⟩
  show p.block ≠ b
  omega
abbrev OffP (g : Nat) (x : Option Nat) (w : World) (A : Option Addr) (l : List Pt) (c : Nat) : Prop := Off g x w A l.length c 3 fun i j => ptCells (listP l i) j
abbrev OffS (g : Nat) (x : Option Nat) (w : World) (A : Option Addr) (l : List ByteArray) (c : Nat) : Prop := Off g x w A l.length c 1 fun i _ => .string (listS l i)

/-- What has been copied: the places, the roads so far. -/
structure OutAt (w : World) (g : Nat) (u v : Value) : Prop where
  c0 : w.cell? ⟨g, 0, none⟩ = some u
  c1 : w.cell? ⟨g, 1, none⟩ = some v
  f1 : w.frozen? ⟨g, 1, none⟩ = false
theorem OutAt.below {B : Nat} {w w' : World} {g : Nat} {u v : Value} (m : OutAt w g u v) (h : Below B w w') (hg : g < B) : OutAt w' g u v :=
  ⟨(h.cell (p := ⟨g, 0, none⟩) hg).trans m.c0, (h.cell (p := ⟨g, 1, none⟩) hg).trans m.c1, (h.frozen (p := ⟨g, 1, none⟩) hg).trans m.f1⟩
theorem OutAt.lt {w : World} {g : Nat} {u v : Value} (m : OutAt w g u v) : g < w.heap.size := World.block_lt_of_cell? w _ m.c0
theorem OutAt.far {w : World} {g : Nat} {u v : Value} (m : OutAt w g u v) {p : Addr} (hp : p.block ≠ g) (x : Value) : OutAt (w.setCell p x) g u v :=
  ⟨(World.cell?_setCell_far _ _ _ _ hp).trans m.c0, (World.cell?_setCell_far _ _ _ _ hp).trans m.c1, (World.frozen?_setCell _ _ _ _).trans m.f1⟩
theorem OutAt.set {w : World} {g : Nat} {u v : Value} (m : OutAt w g u v) (x : Value) : OutAt (w.setCell ⟨g, 1, none⟩ x) g u x :=
  ⟨(World.cell?_setCell_other _ _ _ _ (by simp)).trans m.c0, World.cell?_setCell_same _ _ _ m.c1, (World.frozen?_setCell _ _ _ _).trans m.f1⟩
theorem OutAt.grown {w w' : World} {g : Nat} {u v : Value} {x : Option Nat} (m : OutAt w g u v) (h : w.grownBy w' x) (hx : x ≠ some g) : OutAt w' g u v := by
  have hb := h.block g m.lt (fun e => hx e.symm)
  have c : ∀ i, w'.cell? ⟨g, i, none⟩ = w.cell? ⟨g, i, none⟩ := fun i => by unfold World.cell?; simp only [hb]
  have f : ∀ i, w'.frozen? ⟨g, i, none⟩ = w.frozen? ⟨g, i, none⟩ := fun i => by unfold World.frozen?; simp only [hb]
  exact ⟨(c 0).trans m.c0, (c 1).trans m.c1, (f 1).trans m.f1⟩
/-- A road's cells in the block h, of which that of its points may be written. -/
structure BoxW (w : World) (h : Nat) (r : Rd) (p : Option Addr) (pc : Nat) : Prop where
  box : BoxD w h r p pc
  f4 : w.frozen? ⟨h, 4, none⟩ = false
theorem BoxW.new (w : World) (r : Rd) (p : Option Addr) (pc : Nat) (t : TypeId) : BoxW (w.alloc (.cells #[.string r.name, .int .i64 r.src, .int .i64 r.dst, .int .i64 r.metres, .slice p r.pts.length pc] t)) w.heap.size r p pc := ⟨BoxD.new _ _ _ _ _, frozenNew _ _ _ 4⟩
theorem BoxW.below {B : Nat} {w w' : World} {h : Nat} {r : Rd} {p : Option Addr} {pc : Nat} (m : BoxW w h r p pc) (hb : Below B w w') (hg : h < B) : BoxW w' h r p pc :=
  ⟨⟨(hb.cell (p := ⟨h, 0, none⟩) hg).trans m.box.c0, (hb.cell (p := ⟨h, 1, none⟩) hg).trans m.box.c1, (hb.cell (p := ⟨h, 2, none⟩) hg).trans m.box.c2, (hb.cell (p := ⟨h, 3, none⟩) hg).trans m.box.c3, (hb.cell (p := ⟨h, 4, none⟩) hg).trans m.box.c4⟩, (hb.frozen (p := ⟨h, 4, none⟩) hg).trans m.f4⟩
theorem BoxW.set {w : World} {h : Nat} {r : Rd} {p : Option Addr} {pc : Nat} (m : BoxW w h r p pc) (p' : Option Addr) (pc' : Nat) : BoxW (w.setCell ⟨h, 4, none⟩ (.slice p' r.pts.length pc')) h r p' pc' := by
  have far : ∀ i, i ≠ 4 → (w.setCell ⟨h, 4, none⟩ (.slice p' r.pts.length pc')).cell? ⟨h, i, none⟩ = w.cell? ⟨h, i, none⟩ := fun i hi => World.cell?_setCell_other _ _ _ _ (by intro e; injection e with _ e; omega)
  exact ⟨⟨(far 0 (by decide)).trans m.box.c0, (far 1 (by decide)).trans m.box.c1, (far 2 (by decide)).trans m.box.c2, (far 3 (by decide)).trans m.box.c3, World.cell?_setCell_same _ _ _ m.box.c4⟩, (World.frozen?_setCell _ _ _ _).trans m.f4⟩
def roadVals (r : Rd) (p : Option Addr) (pc : Nat) : List Value := [.string r.name, .int .i64 r.src, .int .i64 r.dst, .int .i64 r.metres, .slice p r.pts.length pc]
theorem news5 (w : World) (r : Rd) (p : Option Addr) (pc : Nat) (t : TypeId) : ∀ j u, (roadVals r p pc)[j]? = some u → (w.alloc (.cells #[.string r.name, .int .i64 r.src, .int .i64 r.dst, .int .i64 r.metres, .slice p r.pts.length pc] t)).cell? (Addr.add ⟨w.heap.size, 0, none⟩ j) = some u := by
  intro j u hu
  have B := BoxD.new w r p pc t
  match j with
  | 0 => have : Value.string r.name = u := by simpa [roadVals] using hu
         subst this; exact B.c0
  | 1 => have : Value.int .i64 r.src = u := by simpa [roadVals] using hu
         subst this; exact B.c1
  | 2 => have : Value.int .i64 r.dst = u := by simpa [roadVals] using hu
         subst this; exact B.c2
  | 3 => have : Value.int .i64 r.metres = u := by simpa [roadVals] using hu
         subst this; exact B.c3
  | 4 => have : Value.slice p r.pts.length pc = u := by simpa [roadVals] using hu
         subst this; exact B.c4
  | j + 5 => simp [roadVals] at hu
theorem oneRoad (r : Rd) (p : Option Addr) (pc : Nat) : ∀ u ∈ roadVals r p pc, u.oneCell' = true := by
  intro u hu
  simp only [roadVals, List.mem_cons, List.not_mem_nil, or_false] at hu
  rcases hu with rfl | rfl | rfl | rfl | rfl <;> rfl
/-- The cells of the first k roads, whose points lie at a. -/
def rowVals (l : List Rd) (a : DA) (k : Nat) : List Value := flat k 5 fun i j => rdCells (listD l i) (a.p i) (a.pc i) j
def DA.put (a : DA) (k : Nat) (A : Option Addr) (c : Nat) : DA := ⟨fun i => if i = k then A else a.p i, fun i => if i = k then c else a.pc i⟩
theorem rowVals_put (l : List Rd) (a : DA) (k : Nat) (A : Option Addr) (c : Nat) : rowVals l (a.put k A c) (k + 1) = rowVals l a k ++ roadVals (listD l k) A c := by
  unfold rowVals flat
  rw [show (k + 1) * 5 = k * 5 + 5 by omega, List.range_add, List.map_append, List.map_map]
  congr 1
  · refine List.map_congr_left fun t ht => ?_
    have h1 : t < k * 5 := by simpa using ht
    have h2 : t / 5 < k := by omega
    simp only [DA.put]
    rw [if_neg (by omega), if_neg (by omega)]
  · have e : ∀ t, t < 5 → (k * 5 + t) / 5 = k ∧ (k * 5 + t) % 5 = t := fun t ht => by omega
    rw [show List.range 5 = [0, 1, 2, 3, 4] by rfl]
    simp only [List.map_cons, List.map_nil, Function.comp, DA.put, (e 0 (by decide)).1, (e 0 (by decide)).2, (e 1 (by decide)).1, (e 1 (by decide)).2, (e 2 (by decide)).1, (e 2 (by decide)).2, (e 3 (by decide)).1, (e 3 (by decide)).2, (e 4 (by decide)).1, (e 4 (by decide)).2, if_pos, roadVals, rdCells]

end Go.Proofs.YtfjdnbnalihjiaaGreatDoor

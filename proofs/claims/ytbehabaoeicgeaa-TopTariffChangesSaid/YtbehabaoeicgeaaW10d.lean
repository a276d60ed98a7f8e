/- A copy of a trip reads as the trip. Condition: no list has more than a million elements. -/
import Derived.Test.YtbehabaoeicgeaaW10c
namespace Go.Proofs.Ytbehabaoeicgeaa
open Go.RowKit Fs

theorem Try.infoSeg3 : (Try.prog.info? 40).map (fun i => (i.zero, i.size, i.bytes)) = some (some (.agg #[.int .i64 0, .int .i64 0, .int .i64 0]), 3, 24) := by kernel_rfl
/-- The box of a trip at g, which may be written, the empty box of the result behind it. -/
structure TripAt (W w : World) (g : Nat) (X : Trip) (e s : Option Addr) (ec sc : Nat) : Prop where
  box : BoxX w g X e s ec sc
  fz : ∀ i, w.frozen? ⟨g, i, none⟩ = false
  z0 : w.cell? ⟨g + 1, 0, none⟩ = some (.int .i64 0)
  z1 : w.cell? ⟨g + 1, 1, none⟩ = some (.int .i64 0)
  z2 : w.cell? ⟨g + 1, 2, none⟩ = some (.bool false)
  z3 : w.cell? ⟨g + 1, 3, none⟩ = some (.slice none 0 0)
  z4 : w.cell? ⟨g + 1, 4, none⟩ = some (.slice none 0 0)
  zf : ∀ i, w.frozen? ⟨g + 1, i, none⟩ = false
  bel : Below g W w
theorem TripAt.lt {W w : World} {g : Nat} {X : Trip} {e s : Option Addr} {ec sc : Nat} (m : TripAt W w g X e s ec sc) : g + 1 < w.heap.size := World.block_lt_of_cell? w _ m.z0
theorem TripAt.below {W w w' : World} {g : Nat} {X : Trip} {e s : Option Addr} {ec sc : Nat} (m : TripAt W w g X e s ec sc) (hb : Below w.heap.size w w') : TripAt W w' g X e s ec sc := by
  have hl := m.lt
  exact ⟨m.box.keep (Keep.below hb), fun i => (hb.frozen (p := ⟨g, i, none⟩) (by show g < _; omega)).trans (m.fz i), Keep.below hb _ _ m.z0, Keep.below hb _ _ m.z1, Keep.below hb _ _ m.z2, Keep.below hb _ _ m.z3, Keep.below hb _ _ m.z4,
    fun i => (hb.frozen (p := ⟨g + 1, i, none⟩) hl).trans (m.zf i), m.bel.trans (hb.mono (by omega))⟩
theorem TripAt.start (w : World) (X : Trip) (e s : Option Addr) (ec sc : Nat) (t t' : TypeId) :
    TripAt w ((w.alloc (.cells #[.int .i64 X.date, .int .i64 X.time, .bool X.fixed, .slice e X.extras.length ec, .slice s X.segs.length sc] t)).alloc (.cells #[.int .i64 0, .int .i64 0, .bool false, .slice none 0 0, .slice none 0 0] t')) w.heap.size X e s ec sc := by
  refine ⟨(BoxX.new w X e s ec sc t).keep (Keep.alloc _ _), fun i => ?_, cellNew1 _ _ _ _ 0, cellNew1 _ _ _ _ 1, cellNew1 _ _ _ _ 2, cellNew1 _ _ _ _ 3, cellNew1 _ _ _ _ 4, fun i => ?_, ((Below.refl _ _).alloc (Nat.le_refl _) _).alloc (by simp) _⟩
  · have hb := (Below.refl (w.heap.size + 1) (w.alloc (.cells #[.int .i64 X.date, .int .i64 X.time, .bool X.fixed, .slice e X.extras.length ec, .slice s X.segs.length sc] t))).alloc (by simp) (.cells #[.int .i64 0, .int .i64 0, .bool false, .slice none 0 0, .slice none 0 0] t')
    exact (hb.frozen (p := ⟨w.heap.size, i, none⟩) (Nat.lt_succ_self _)).trans (frozenNew _ _ _ _)
  · exact frozenNew1 _ _ _ _ _
theorem TripAt.set3 {W w : World} {g : Nat} {X : Trip} {e s : Option Addr} {ec sc : Nat} (m : TripAt W w g X e s ec sc) (A' : Option Addr) (c' : Nat) : TripAt W (w.setCell ⟨g, 3, none⟩ (.slice A' X.extras.length c')) g X A' s c' sc := by
  have far : ∀ i, i ≠ 3 → (w.setCell ⟨g, 3, none⟩ (.slice A' X.extras.length c')).cell? ⟨g, i, none⟩ = w.cell? ⟨g, i, none⟩ := fun i hi => World.cell?_setCell_other _ _ _ _ (by intro e; injection e with _ e; omega)
  have far1 : ∀ i, (w.setCell ⟨g, 3, none⟩ (.slice A' X.extras.length c')).cell? ⟨g + 1, i, none⟩ = w.cell? ⟨g + 1, i, none⟩ := fun i => World.cell?_setCell_far _ _ _ _ (by show g ≠ g + 1; omega)
  exact ⟨⟨(far 0 (by decide)).trans m.box.c0, (far 1 (by decide)).trans m.box.c1, (far 2 (by decide)).trans m.box.c2, World.cell?_setCell_same _ _ _ m.box.c3, (far 4 (by decide)).trans m.box.c4⟩, fun i => (World.frozen?_setCell _ _ _ _).trans (m.fz i),
    (far1 0).trans m.z0, (far1 1).trans m.z1, (far1 2).trans m.z2, (far1 3).trans m.z3, (far1 4).trans m.z4, fun i => (World.frozen?_setCell _ _ _ _).trans (m.zf i), m.bel.setCell (p := ⟨g, 3, none⟩) (Nat.le_refl _) _⟩
theorem TripAt.set4 {W w : World} {g : Nat} {X : Trip} {e s : Option Addr} {ec sc : Nat} (m : TripAt W w g X e s ec sc) (A' : Option Addr) (c' : Nat) : TripAt W (w.setCell ⟨g, 4, none⟩ (.slice A' X.segs.length c')) g X e A' ec c' := by
  have far : ∀ i, i ≠ 4 → (w.setCell ⟨g, 4, none⟩ (.slice A' X.segs.length c')).cell? ⟨g, i, none⟩ = w.cell? ⟨g, i, none⟩ := fun i hi => World.cell?_setCell_other _ _ _ _ (by intro e; injection e with _ e; omega)
  have far1 : ∀ i, (w.setCell ⟨g, 4, none⟩ (.slice A' X.segs.length c')).cell? ⟨g + 1, i, none⟩ = w.cell? ⟨g + 1, i, none⟩ := fun i => World.cell?_setCell_far _ _ _ _ (by show g ≠ g + 1; omega)
  exact ⟨⟨(far 0 (by decide)).trans m.box.c0, (far 1 (by decide)).trans m.box.c1, (far 2 (by decide)).trans m.box.c2, (far 3 (by decide)).trans m.box.c3, World.cell?_setCell_same _ _ _ m.box.c4⟩, fun i => (World.frozen?_setCell _ _ _ _).trans (m.fz i),
    (far1 0).trans m.z0, (far1 1).trans m.z1, (far1 2).trans m.z2, (far1 3).trans m.z3, (far1 4).trans m.z4, fun i => (World.frozen?_setCell _ _ _ _).trans (m.zf i), m.bel.setCell (p := ⟨g, 4, none⟩) (Nat.le_refl _) _⟩
theorem BoxX.fill {w : World} {g : Nat} {X : Trip} (e s : Option Addr) (ec sc : Nat) {u0 u1 u2 u3 u4 : Value}
    (z0 : w.cell? ⟨g, 0, none⟩ = some u0) (z1 : w.cell? ⟨g, 1, none⟩ = some u1) (z2 : w.cell? ⟨g, 2, none⟩ = some u2) (z3 : w.cell? ⟨g, 3, none⟩ = some u3) (z4 : w.cell? ⟨g, 4, none⟩ = some u4) :
    BoxX (((((w.setCell ⟨g, 0, none⟩ (.int .i64 X.date)).setCell ⟨g, 1, none⟩ (.int .i64 X.time)).setCell ⟨g, 2, none⟩ (.bool X.fixed)).setCell ⟨g, 3, none⟩ (.slice e X.extras.length ec)).setCell ⟨g, 4, none⟩ (.slice s X.segs.length sc)) g X e s ec sc := by
  constructor <;> simp [World.cell?_setCell_other, World.cell?_setCell_same', z0, z1, z2, z3, z4]
theorem Away.fillX {g : Nat} {w : World} {A : Option Addr} {n c size : Nat} {C : Nat → Nat → Value} (m : Away g w A n c size C) (e s : Option Addr) (ec sc : Nat) (X : Trip) : Away g (((((w.setCell ⟨g + 1, 0, none⟩ (.int .i64 X.date)).setCell ⟨g + 1, 1, none⟩ (.int .i64 X.time)).setCell ⟨g + 1, 2, none⟩ (.bool X.fixed)).setCell ⟨g + 1, 3, none⟩ (.slice e X.extras.length ec)).setCell ⟨g + 1, 4, none⟩ (.slice s X.segs.length sc)) A n c size C :=
  ((((m.box (.inr rfl) _).box (.inr rfl) _).box (.inr rfl) _).box (.inr rfl) _).box (.inr rfl) _
theorem belowFillX {g : Nat} {W w : World} (m : Below g W w) (e s : Option Addr) (ec sc : Nat) (X : Trip) : Below g W (((((w.setCell ⟨g + 1, 0, none⟩ (.int .i64 X.date)).setCell ⟨g + 1, 1, none⟩ (.int .i64 X.time)).setCell ⟨g + 1, 2, none⟩ (.bool X.fixed)).setCell ⟨g + 1, 3, none⟩ (.slice e X.extras.length ec)).setCell ⟨g + 1, 4, none⟩ (.slice s X.segs.length sc)) := by
  have s : ∀ {w : World} (i : Nat) (v : Value), Below g W w → Below g W (w.setCell ⟨g + 1, i, none⟩ v) := fun i v h => h.setCell (p := ⟨g + 1, i, none⟩) (Nat.le_succ _) v
  exact s _ _ (s _ _ (s _ _ (s _ _ (s _ _ m))))

theorem ownFar {w : World} {base size n : Nat} {e : TypeId} {v : Value} {xs : List Value} (h : w.ownsRow base e size v n xs) {p : Addr} (hp : p.block < base) (u : Value) : (w.setCell p u).ownsRow base e size v n xs := by
  refine ⟨h.1, ?_⟩
  rcases h.2 with h1 | ⟨g, cap, cur, h1, h2, h3, h4⟩
  · exact .inl h1
  · exact .inr ⟨g, cap, cur, h1, h2, (Below.heap_setCell w p u g (by omega)).trans h3, h4⟩
theorem ownMono {w : World} {base B size n : Nat} {e : TypeId} {v : Value} {xs : List Value} (h : w.ownsRow base e size v n xs) (hB : B ≤ base) : w.ownsRow B e size v n xs := by
  refine ⟨h.1, ?_⟩
  rcases h.2 with h1 | ⟨g, cap, cur, h1, h2, h3⟩
  · exact .inl h1
  · exact .inr ⟨g, cap, cur, h1, by omega, h3⟩
/-- A row of n elements below block B. -/
def Low (B : Nat) (w : World) (A : Option Addr) (n c size : Nat) (C : Nat → Nat → Value) : Prop :=
  n ≤ c ∧ c ≤ 9223372036854775807 ∧ (0 < n → ∃ b o, A = some ⟨b, o, none⟩ ∧ b < B ∧ ∀ i j, i < n → j < size → w.cell? ⟨b, o + i * size + j, none⟩ = some (C i j))
theorem Low.arr {B : Nat} {w : World} {A : Option Addr} {n c size : Nat} {C : Nat → Nat → Value} (h : Low B w A n c size C) : Arr w A n c size C := by
  refine ⟨h.1, h.2.1, fun hn => ?_⟩
  obtain ⟨b, o, h1, -, h2⟩ := h.2.2 hn
  exact ⟨b, o, h1, h2⟩
theorem Low.keep {B : Nat} {w w' : World} (k : Keep w w') {A : Option Addr} {n c size : Nat} {C : Nat → Nat → Value} (h : Low B w A n c size C) : Low B w' A n c size C := by
  refine ⟨h.1, h.2.1, fun hn => ?_⟩
  obtain ⟨b, o, h1, h2, h3⟩ := h.2.2 hn
  exact ⟨b, o, h1, h2, fun i j hi hj => k _ _ (h3 i j hi hj)⟩
theorem Low.far {B : Nat} {w : World} {A : Option Addr} {n c size : Nat} {C : Nat → Nat → Value} (h : Low B w A n c size C) {p : Addr} (hp : B ≤ p.block) (v : Value) : Low B (w.setCell p v) A n c size C := by
  refine ⟨h.1, h.2.1, fun hn => ?_⟩
  obtain ⟨b, o, h1, h2, h3⟩ := h.2.2 hn
  exact ⟨b, o, h1, h2, fun i j hi hj => (World.cell?_setCell_far _ _ _ _ (by show p.block ≠ b; omega)).trans (h3 i j hi hj)⟩
theorem Low.of {g : Nat} {w w' : World} {A : Option Addr} {n c size : Nat} {C : Nat → Nat → Value} (h : Away g w A n c size C) (h' : Away g w' A n c size C) (hs : 0 < size) : Low w.heap.size w' A n c size C := by
  refine ⟨h.1, h.2.1, fun hn => ?_⟩
  obtain ⟨b, o, h1, -, -, h2⟩ := h.2.2 hn
  obtain ⟨b', o', h1', -, -, h2'⟩ := h'.2.2 hn
  have hbl : b < w.heap.size := World.block_lt_of_cell? w _ (h2 0 0 hn hs)
  have e : some (⟨b, o, none⟩ : Addr) = some ⟨b', o', none⟩ := h1.symm.trans h1'
  injection e with e
  injection e with e1 e2
  subst e1; subst e2
  exact ⟨b, o, h1, hbl, h2'⟩
/-- A copy's value: its segments lie in a row of their own, alone. -/
def OwnSegs (B : Nat) (w : World) (v : Value) (X : Trip) : Prop := ∃ e s ec sc base, v = tripV X e s ec sc ∧ B ≤ base ∧ Low base w e X.extras.length ec 1 (fun i _ => .int .i64 (listI X.extras i)) ∧ w.ownsRow base 40 3 (.slice s X.segs.length sc) X.segs.length (flat X.segs.length 3 fun i j => segCells (listG X.segs i) j)
theorem OwnSegs.rd {B : Nat} {w : World} {v : Value} {X : Trip} (h : OwnSegs B w v X) : RdTrip w v X := by
  obtain ⟨e, s, ec, sc, base, hv, -, h1, h2⟩ := h
  exact ⟨e, s, ec, sc, hv, h1.arr, own_arrN h2⟩

set_option maxHeartbeats 1600000 in
set_option maxRecDepth 100000 in
theorem copyTrip_any (X : Trip) (x : Value) (w : World) (hX : RdTrip w x X) (n1 : X.extras.length ≤ 1000000) (n2 : X.segs.length ≤ 1000000) :
    Calls Try.prog 8 #[x] w fun e w' => ∃ v', e = .returned v' ∧ OwnSegs w.heap.size w' v' X ∧ Below w.heap.size w w' := by
  obtain ⟨e, s, ec, sc, rfl, x1, x2⟩ := hX
  have X1 := Lib.hid x1
  have X2 := Lib.hid x2
  have CA := Lib.hid (TripAt.start w X e s ec sc 33 33)
  obtain ⟨i0, hi, hz0, hz1, hz2⟩ := info_parts Try.infoSeg3
  clear x1 x2
  go_enter Try.func8, Try.ntmps8
  go_upto_region 1 with fail
  generalize hwb : (w.alloc _).alloc _ = wb at *
  have hsz : wb.heap.size = w.heap.size + 1 + 1 := by rw [← hwb]; simp
  clear hwb
  obtain ⟨p0, p1, p2, p3, p4⟩ := CA.out.box
  go_wp2_with fail
  refine (copyInts_any X.extras _ _ _ (ArrI.keep (Keep.below CA.out.bel) X1.out) n1).mono ?_
  rintro e' w1 ⟨A1, c1, rfl, ha1, hab1, hb1⟩
  have CA1 := Lib.hid (CA.out.below hb1)
  have HE1 := Lib.hid (Away.over (g := w.heap.size) ha1 hab1 (by omega))
  clear ha1 hab1 hb1 p0 p1 p2 p3 p4
  obtain ⟨p0, p1, p2, p3, p4⟩ := CA1.out.box
  have fz := CA1.out.fz
  go_upto_region 2 with fail
  have CA2 := Lib.hid (CA1.out.set3 A1 c1)
  have HE2 := Lib.hid (HE1.out.box (p := ⟨w.heap.size, 3, none⟩) (.inl rfl) (.slice A1 X.extras.length c1))
  clear p0 p1 p2 p3 p4 fz CA1 HE1
  generalize w1.setCell _ _ = w2 at *
  have CA3 := Lib.hid (CA2.out.below ((Below.refl _ _).alloc (Nat.le_refl _) (.cells #[] 40)))
  have hg2 := CA2.out.lt
  obtain ⟨p0, p1, p2, p3, p4⟩ := CA3.out.box
  go_upto_region 3 with (at_builtin
                         refine wpList_copy rfl (.tmp 7) (.tmp 9) 31 rfl 40 i0 _ 3 24 Try.underlying31 hi hz0 hz1 hz2 rfl (by decide) w2.heap.size w2.heap.size rfl (Nat.le_refl _) (heap_alloc_new _ _) s X.segs.length sc _ rfl (Arr.keep (Keep.below CA3.out.bel) X2.out) (by intro i j; unfold segCells; split <;> rfl) (by unfold maxLen; omega) (by omega) ?_
                         intro A3 c3 w3 ha3 hb3
                         have hb3' := ((Below.refl w2.heap.size w2).alloc (Nat.le_refl _) (.cells #[] 40)).trans hb3
                         have CA4 := Lib.hid (CA2.out.below hb3')
                         clear p0 p1 p2 p3 p4
                         obtain ⟨p0, p1, p2, p3, p4⟩ := CA4.out.box
                         have fz := CA4.out.fz)
  have CA5 := Lib.hid (CA4.out.set4 A3 c3)
  have HE5 := Lib.hid ((HE2.out.keep (Keep.below hb3')).box (p := ⟨w.heap.size, 4, none⟩) (.inl rfl) (.slice A3 X.segs.length c3))
  have HO5 := Lib.hid (ownFar ha3 (p := ⟨w.heap.size, 4, none⟩) (by show w.heap.size < w2.heap.size; omega) (.slice A3 X.segs.length c3))
  clear p0 p1 p2 p3 p4 fz ha3 hb3 hb3' CA2 CA3 CA4
  generalize w3.setCell _ _ = w4 at *
  obtain ⟨p0, p1, p2, p3, p4⟩ := CA5.out.box
  obtain ⟨-, -, z0, z1, z2, z3, z4, zf, -⟩ := CA5.out
  have HB8 := Lib.hid (BoxX.fill (X := X) A1 A3 c1 c3 z0 z1 z2 z3 z4)
  have HE8 := Lib.hid (HE5.out.fillX A1 A3 c1 c3 X)
  have HO8 := Lib.hid (ownFar (p := ⟨w.heap.size + 1, 4, none⟩) (ownFar (p := ⟨w.heap.size + 1, 3, none⟩) (ownFar (p := ⟨w.heap.size + 1, 2, none⟩) (ownFar (p := ⟨w.heap.size + 1, 1, none⟩) (ownFar (p := ⟨w.heap.size + 1, 0, none⟩) HO5.out hg2 (.int .i64 X.date)) hg2 (.int .i64 X.time)) hg2 (.bool X.fixed)) hg2 (.slice A1 X.extras.length c1)) hg2 (.slice A3 X.segs.length c3))
  have HW8 := Lib.hid (belowFillX CA5.out.bel A1 A3 c1 c3 X)
  go_wp2_with fail
  generalize ((((w4.setCell _ _).setCell _ _).setCell _ _).setCell _ _).setCell _ _ = wf at *
  clear p0 p1 p2 p3 p4 z0 z1 z2 z3 z4 zf
  obtain ⟨m0, m1, m2, m3, m4⟩ := HB8.out
  exact bodyPost_ret (v := tripV X A1 A3 c1 c3) (by simp [results, Try.results8, go_sem, m0, m1, m2, m3, m4]) rfl ⟨_, rfl, ⟨A1, A3, c1, c3, w2.heap.size, rfl, by omega, Low.of HE2.out HE8.out (by decide), HO8.out⟩, HW8.out⟩
end Go.Proofs.Ytbehabaoeicgeaa

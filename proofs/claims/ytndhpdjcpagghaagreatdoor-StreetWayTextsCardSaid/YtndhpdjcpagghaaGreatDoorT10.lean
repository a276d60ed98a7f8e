/- A copy of a net reads as the net. Condition: no list has more than a million elements. -/
import Derived.Test.YtndhpdjcpagghaaGreatDoorT9
import Derived.Deep.RegionHeld3
namespace Go.Proofs.YtndhpdjcpagghaaGreatDoor
open Go.RowKit Fs

/-- A row of n elements that lies behind block g, and not in block x. -/
def Off (g : Nat) (x : Option Nat) (w : World) (A : Option Addr) (n c size : Nat) (C : Nat → Nat → Value) : Prop :=
  n ≤ c ∧ c ≤ 9223372036854775807 ∧ (0 < n → ∃ b o, A = some ⟨b, o, none⟩ ∧ g < b ∧ x ≠ some b ∧ ∀ i j, i < n → j < size → w.cell? ⟨b, o + i * size + j, none⟩ = some (C i j))
theorem Off.arr {g : Nat} {x : Option Nat} {w : World} {A : Option Addr} {n c size : Nat} {C : Nat → Nat → Value} (h : Off g x w A n c size C) : Arr w A n c size C := by
  refine ⟨h.1, h.2.1, fun hn => ?_⟩
  obtain ⟨b, o, h1, -, -, h2⟩ := h.2.2 hn
  exact ⟨b, o, h1, h2⟩
theorem Off.of {g B : Nat} {x : Option Nat} {w : World} {A : Option Addr} {n c size : Nat} {C : Nat → Nat → Value} (h : Arr w A n c size C) (ha : Above B A) (hB : g < B) (hx : ∀ b, x = some b → b < B) : Off g x w A n c size C := by
  refine ⟨h.1, h.2.1, fun hn => ?_⟩
  obtain ⟨b, o, h1, h2⟩ := h.2.2 hn
  have : B ≤ b := ha _ h1
  exact ⟨b, o, h1, by omega, fun e => by have := hx b e; omega, h2⟩
theorem Off.keep {g : Nat} {x : Option Nat} {w w' : World} (k : Keep w w') {A : Option Addr} {n c size : Nat} {C : Nat → Nat → Value} (h : Off g x w A n c size C) : Off g x w' A n c size C := by
  refine ⟨h.1, h.2.1, fun hn => ?_⟩
  obtain ⟨b, o, h1, h2, h3, h4⟩ := h.2.2 hn
  exact ⟨b, o, h1, h2, h3, fun i j hi hj => k _ _ (h4 i j hi hj)⟩
theorem Off.newer {g : Nat} {x : Option Nat} {w0 w : World} {A : Option Addr} {n c size : Nat} {C : Nat → Nat → Value} (h : Off g x w0 A n c size C) (hs : 0 < size) (k : Keep w0 w) {p : Addr} (hp : w0.heap.size ≤ p.block) (v : Value) : Off g x (w.setCell p v) A n c size C := by
  refine ⟨h.1, h.2.1, fun hn => ?_⟩
  obtain ⟨b, o, h1, h2, h3, h4⟩ := h.2.2 hn
  have hb : b < w0.heap.size := World.block_lt_of_cell? w0 _ (h4 0 0 hn hs)
  refine ⟨b, o, h1, h2, h3, fun i j hi hj => (World.cell?_setCell_far _ _ _ _ ?_).trans (k _ _ (h4 i j hi hj))⟩
  show p.block ≠ b
  omega
theorem Off.far {g : Nat} {x : Option Nat} {w : World} {A : Option Addr} {n c size : Nat} {C : Nat → Nat → Value} (h : Off g x w A n c size C) {p : Addr} (hp : p.block ≤ g) (v : Value) : Off g x (w.setCell p v) A n c size C := by
  refine ⟨h.1, h.2.1, fun hn => ?_⟩
  obtain ⟨b, o, h1, h2, h3, h4⟩ := h.2.2 hn
  refine ⟨b, o, h1, h2, h3, fun i j hi hj => (World.cell?_setCell_far _ _ _ _ ?_).trans (h4 i j hi hj)⟩
  show p.block ≠ b
  omega
/-- The row x has grown, in its place or at the end of memory. -/
theorem Off.grown {g : Nat} {x x' : Option Nat} {w w' : World} {A : Option Addr} {n c size : Nat} {C : Nat → Nat → Value} (h : Off g x w A n c size C) (hs : 0 < size) (hg : w.grownBy w' x) (hx : x' = x ∨ x' = some w.heap.size) : Off g x' w' A n c size C := by
  refine ⟨h.1, h.2.1, fun hn => ?_⟩
  obtain ⟨b, o, h1, h2, h3, h4⟩ := h.2.2 hn
  have hb : b < w.heap.size := World.block_lt_of_cell? w _ (h4 0 0 hn hs)
  refine ⟨b, o, h1, h2, fun e => ?_, fun i j hi hj => ?_⟩
  · rcases hx with hx | hx
    · exact h3 (hx ▸ e)
    · rw [hx] at e; injection e with e; omega
  · rw [← h4 i j hi hj]
    have := hg.block b hb (fun e => h3 e.symm)
    unfold World.cell?
    simp only [this]
theorem Arr.far {B : Nat} {w : World} {A : Option Addr} {n c size : Nat} {C : Nat → Nat → Value} (h : Arr w A n c size C) (ha : Above B A) {p : Addr} (hp : p.block < B) (v : Value) : Arr (w.setCell p v) A n c size C := by
  refine ⟨h.1, h.2.1, fun hn => ?_⟩
  obtain ⟨b, o, h1, h4⟩ := h.2.2 hn
  have : B ≤ b := ha _ h1
  refine ⟨b, o, h1, fun i j hi hj => (World.cell?_setCell_far _ _ _ _ ?_).trans (h4 i j hi hj)⟩
  show p.block ≠ b
  omega
abbrev OffP (g : Nat) (x : Option Nat) (w : World) (A : Option Addr) (l : List Pt) (c : Nat) : Prop := Off g x w A l.length c 3 fun i j => ptCells (listP l i) j
abbrev OffS (g : Nat) (x : Option Nat) (w : World) (A : Option Addr) (l : List ByteArray) (c : Nat) : Prop := Off g x w A l.length c 1 fun i _ => .string (listS l i)

theorem Tryz.infoPt : (Tryz.prog.info? 94).map (fun i => (i.zero, i.size, i.bytes)) = some (some (.agg #[.int .i64 0, .int .i64 0, .int .i64 0]), 3, 24) := by kernel_rfl
theorem Tryz.infoRd : (Tryz.prog.info? 67).map (fun i => (i.zero, i.size, i.bytes)) = some (some (.agg #[.string ⟨#[]⟩, .int .i64 0, .int .i64 0, .int .i64 0, .slice none 0 0]), 5, 64) := by kernel_rfl
/-- What has been copied: the places, the roads so far. -/
structure OutAt (w : World) (g : Nat) (u v : Value) : Prop where
  c0 : w.cell? ⟨g, 0, none⟩ = some u
  c1 : w.cell? ⟨g, 1, none⟩ = some v
  f1 : w.frozen? ⟨g, 1, none⟩ = false
theorem OutAt.below {B : Nat} {w w' : World} {g : Nat} {u v : Value} (m : OutAt w g u v) (h : Below B w w') (hg : g < B) : OutAt w' g u v :=
  ⟨(h.cell (p := ⟨g, 0, none⟩) hg).trans m.c0, (h.cell (p := ⟨g, 1, none⟩) hg).trans m.c1, (h.frozen (p := ⟨g, 1, none⟩) hg).trans m.f1⟩
theorem OutAt.lt {w : World} {g : Nat} {u v : Value} (m : OutAt w g u v) : g < w.heap.size := World.block_lt_of_cell? w _ m.c0
theorem OutAt.far {w : World} {g : Nat} {u v : Value} (m : OutAt w g u v) {p : Addr} (hp : p.block ≠ g) (x : Value) : OutAt (w.setCell p x) g u v :=
  ⟨(World.cell?_setCell_far _ _ _ _ hp).trans m.c0, (World.cell?_setCell_far _ _ _ _ hp).trans m.c1, (World.frozen?_setCell _ _ _ _).trans m.f1⟩
theorem OutAt.set {w : World} {g : Nat} {u v : Value} (m : OutAt w g u v) (x : Value) : OutAt (w.setCell ⟨g, 1, none⟩ x) g u x :=
  ⟨(World.cell?_setCell_other _ _ _ _ (by simp)).trans m.c0, World.cell?_setCell_same _ _ _ m.c1, (World.frozen?_setCell _ _ _ _).trans m.f1⟩
theorem OutAt.grown {w w' : World} {g : Nat} {u v : Value} {x : Option Nat} (m : OutAt w g u v) (h : w.grownBy w' x) (hx : x ≠ some g) : OutAt w' g u v := by
  have hb := h.block g m.lt (fun e => hx e.symm)
  have c : ∀ i, w'.cell? ⟨g, i, none⟩ = w.cell? ⟨g, i, none⟩ := fun i => by unfold World.cell?; simp only [hb]
  have f : ∀ i, w'.frozen? ⟨g, i, none⟩ = w.frozen? ⟨g, i, none⟩ := fun i => by unfold World.frozen?; simp only [hb]
  exact ⟨(c 0).trans m.c0, (c 1).trans m.c1, (f 1).trans m.f1⟩
/-- A road's cells in the block h, of which that of its points may be written. -/
structure BoxW (w : World) (h : Nat) (r : Rd) (p : Option Addr) (pc : Nat) : Prop where
  box : BoxD w h r p pc
  f4 : w.frozen? ⟨h, 4, none⟩ = false
theorem BoxW.new (w : World) (r : Rd) (p : Option Addr) (pc : Nat) (t : TypeId) : BoxW (w.alloc (.cells #[.string r.name, .int .i64 r.src, .int .i64 r.dst, .int .i64 r.metres, .slice p r.pts.length pc] t)) w.heap.size r p pc := ⟨BoxD.new _ _ _ _ _, frozenNew _ _ _ 4⟩
theorem BoxW.below {B : Nat} {w w' : World} {h : Nat} {r : Rd} {p : Option Addr} {pc : Nat} (m : BoxW w h r p pc) (hb : Below B w w') (hg : h < B) : BoxW w' h r p pc :=
  ⟨⟨(hb.cell (p := ⟨h, 0, none⟩) hg).trans m.box.c0, (hb.cell (p := ⟨h, 1, none⟩) hg).trans m.box.c1, (hb.cell (p := ⟨h, 2, none⟩) hg).trans m.box.c2, (hb.cell (p := ⟨h, 3, none⟩) hg).trans m.box.c3, (hb.cell (p := ⟨h, 4, none⟩) hg).trans m.box.c4⟩, (hb.frozen (p := ⟨h, 4, none⟩) hg).trans m.f4⟩
theorem BoxW.set {w : World} {h : Nat} {r : Rd} {p : Option Addr} {pc : Nat} (m : BoxW w h r p pc) (p' : Option Addr) (pc' : Nat) : BoxW (w.setCell ⟨h, 4, none⟩ (.slice p' r.pts.length pc')) h r p' pc' := by
  have far : ∀ i, i ≠ 4 → (w.setCell ⟨h, 4, none⟩ (.slice p' r.pts.length pc')).cell? ⟨h, i, none⟩ = w.cell? ⟨h, i, none⟩ := fun i hi => World.cell?_setCell_other _ _ _ _ (by intro e; injection e with _ e; omega)
  exact ⟨⟨(far 0 (by decide)).trans m.box.c0, (far 1 (by decide)).trans m.box.c1, (far 2 (by decide)).trans m.box.c2, (far 3 (by decide)).trans m.box.c3, World.cell?_setCell_same _ _ _ m.box.c4⟩, (World.frozen?_setCell _ _ _ _).trans m.f4⟩
def roadVals (r : Rd) (p : Option Addr) (pc : Nat) : List Value := [.string r.name, .int .i64 r.src, .int .i64 r.dst, .int .i64 r.metres, .slice p r.pts.length pc]
theorem news5 (w : World) (r : Rd) (p : Option Addr) (pc : Nat) (t : TypeId) : ∀ j u, (roadVals r p pc)[j]? = some u → (w.alloc (.cells #[.string r.name, .int .i64 r.src, .int .i64 r.dst, .int .i64 r.metres, .slice p r.pts.length pc] t)).cell? (Addr.add ⟨w.heap.size, 0, none⟩ j) = some u := by
  intro j u hu
  have B := BoxD.new w r p pc t
  match j with
  | 0 => have : Value.string r.name = u := by simpa [roadVals] using hu
         subst this; exact B.c0
  | 1 => have : Value.int .i64 r.src = u := by simpa [roadVals] using hu
         subst this; exact B.c1
  | 2 => have : Value.int .i64 r.dst = u := by simpa [roadVals] using hu
         subst this; exact B.c2
  | 3 => have : Value.int .i64 r.metres = u := by simpa [roadVals] using hu
         subst this; exact B.c3
  | 4 => have : Value.slice p r.pts.length pc = u := by simpa [roadVals] using hu
         subst this; exact B.c4
  | j + 5 => simp [roadVals] at hu
theorem oneRoad (r : Rd) (p : Option Addr) (pc : Nat) : ∀ u ∈ roadVals r p pc, u.oneCell' = true := by
  intro u hu
  simp only [roadVals, List.mem_cons, List.not_mem_nil, or_false] at hu
  rcases hu with rfl | rfl | rfl | rfl | rfl <;> rfl
/-- The cells of the first k roads, whose points lie at a. -/
def rowVals (l : List Rd) (a : DA) (k : Nat) : List Value := flat k 5 fun i j => rdCells (listD l i) (a.p i) (a.pc i) j
def DA.put (a : DA) (k : Nat) (A : Option Addr) (c : Nat) : DA := ⟨fun i => if i = k then A else a.p i, fun i => if i = k then c else a.pc i⟩
theorem rowVals_put (l : List Rd) (a : DA) (k : Nat) (A : Option Addr) (c : Nat) : rowVals l (a.put k A c) (k + 1) = rowVals l a k ++ roadVals (listD l k) A c := by
  unfold rowVals flat
  rw [show (k + 1) * 5 = k * 5 + 5 by omega, List.range_add, List.map_append, List.map_map]
  congr 1
  · refine List.map_congr_left fun t ht => ?_
    have h1 : t < k * 5 := by simpa using ht
    have h2 : t / 5 < k := by omega
    simp only [DA.put]
    rw [if_neg (by omega), if_neg (by omega)]
  · have e : ∀ t, t < 5 → (k * 5 + t) / 5 = k ∧ (k * 5 + t) % 5 = t := fun t ht => by omega
    rw [show List.range 5 = [0, 1, 2, 3, 4] by rfl]
    simp only [List.map_cons, List.map_nil, Function.comp, DA.put, (e 0 (by decide)).1, (e 0 (by decide)).2, (e 1 (by decide)).1, (e 1 (by decide)).2, (e 2 (by decide)).1, (e 2 (by decide)).2, (e 3 (by decide)).1, (e 3 (by decide)).2, (e 4 (by decide)).1, (e 4 (by decide)).2, if_pos, roadVals, rdCells]

set_option maxHeartbeats 3200000 in
set_option maxRecDepth 100000 in
theorem copyNet_any (N : Net) (v : Value) (w : World) (hN : RdNet w v N) (hL1 : N.places.length ≤ 1000000) (hL2 : N.roads.length ≤ 1000000) (hL3 : ∀ i, i < N.roads.length → (listD N.roads i).pts.length ≤ 1000000) :
    Calls Tryz.prog 9 #[v] w fun e w' => ∃ v', e = .returned v' ∧ RdNet w' v' N ∧ Below w.heap.size w w' := by
  obtain ⟨P, R, pc, rc, a, rfl, m⟩ := hN
  have M := Lib.hid m
  have a1 := m.places.le.1
  have a2 := m.places.le.2
  have b1 := m.roads.le.1
  have b2 := m.roads.le.2
  have HL3 := Lib.hid hL3
  clear m hL3
  obtain ⟨i0, hi, hz0, hz1, hz2⟩ := info_parts Tryz.infoPt
  obtain ⟨j0, hj, jz0, jz1, jz2⟩ := info_parts Tryz.infoRd
  have BN := Lib.hid ((BoxN.new w N P R pc rc 25).keep (Keep.alloc _ (.cells #[.slice none 0 0, .slice none 0 0] 25)))
  have RV : Hid (∀ i, (i = 0 ∨ i = 1) → ((w.alloc (.cells #[.slice P N.places.length pc, .slice R N.roads.length rc] 25)).alloc (.cells #[.slice none 0 0, .slice none 0 0] 25)).cell? ⟨w.heap.size + 1, i, none⟩ = some (.slice none 0 0) ∧ ((w.alloc (.cells #[.slice P N.places.length pc, .slice R N.roads.length rc] 25)).alloc (.cells #[.slice none 0 0, .slice none 0 0] 25)).frozen? ⟨w.heap.size + 1, i, none⟩ = false) := Lib.hid (fun i hi => ⟨(cellNew1 _ _ _ _ i).trans (by rcases hi with rfl | rfl <;> rfl), frozenNew1 _ _ _ _ i⟩)
  go_enter Tryz.func9, Tryz.ntmps9
  obtain ⟨n0, n1⟩ := BN.out
  go_upto_region 1 with fail
  generalize hwb : (w.alloc _).alloc _ = wb at *
  have HW : Hid (Below w.heap.size w wb) := by rw [← hwb]; exact Lib.hid (((Below.refl _ _).alloc (Nat.le_refl _) _).alloc (by simp) _)
  have hwbs : wb.heap.size = w.heap.size + 2 := by rw [← hwb]; simp
  clear hwb
  go_wp2_with fail
  refine (copyTexts_any N.places _ _ _ (M.out.places.keep (Keep.below HW.out)) hL1).mono ?_
  rintro e w1 ⟨A1, c1, rfl, ha1, hab1, hb1⟩
  have HA1 := Lib.hid ha1
  have HAB := Lib.hid hab1
  have HB1 := Lib.hid hb1
  have h1s : w.heap.size + 2 ≤ w1.heap.size := by have := hb1.size; omega
  clear ha1 hab1 hb1 n0 n1
  have OA : Hid (OutAt (w1.alloc (.cells #[.slice A1 N.places.length c1, .slice none 0 0] 25)) w1.heap.size (.slice A1 N.places.length c1) (.slice none 0 0)) := Lib.hid ⟨cellNew _ _ _ 0, cellNew _ _ _ 1, frozenNew _ _ _ 1⟩
  have HG : Hid (Below w1.heap.size w1 (w1.alloc (.cells #[.slice A1 N.places.length c1, .slice none 0 0] 25))) := Lib.hid ((Below.refl _ _).alloc (Nat.le_refl _) _)
  have OW : Hid ((w1.alloc (.cells #[.slice A1 N.places.length c1, .slice none 0 0] 25)).ownsRow (w1.heap.size + 1) 67 5 (.slice none 0 0) 0 (rowVals N.roads ⟨fun _ => none, fun _ => 0⟩ 0)) := Lib.hid (World.ownsRow_nil _ _ _ _)
  go_upto_region 2 with fail
  generalize hwc : w1.alloc _ = wc at *
  have hwcs : wc.heap.size = w1.heap.size + 1 := by rw [← hwc]; simp
  clear hwc
  go_wp2_with fail
  go_loopw [4] (fun u wr => ∃ (k : Nat) (vr : Value) (ar : DA), k ≤ N.roads.length ∧ u = .int .i64 k ∧ Hid (Below w1.heap.size w1 wr) ∧ Hid (OutAt wr w1.heap.size (.slice A1 N.places.length c1) vr) ∧ Hid (wr.ownsRow (w1.heap.size + 1) 67 5 vr k (rowVals N.roads ar k)) ∧
    Hid (∀ i, i < k → OffP w1.heap.size vr.ownBlock wr (ar.p i) (listD N.roads i).pts (ar.pc i))) (fun u _ => N.roads.length - (intOf u).toNat)
  case atStart => exact ⟨0, _, _, Nat.zero_le _, rfl, HG, OA, OW, Lib.hid fun i hi => absurd hi (Nat.not_lt_zero _)⟩
  case round =>
    obtain ⟨k, vr, ar, hk, rfl, HG2, OA2, OW2, OP2⟩ := hrel
    have HB2 := Lib.hid (HB1.out.trans (HG2.out.mono HB1.out.size))
    have HX2 := Lib.hid (HW.out.trans (HB2.out.mono HW.out.size))
    obtain ⟨n0, n1⟩ := BN.out.keep (Keep.below HB2.out)
    obtain ⟨o0, o1, of1⟩ := OA2.out
    have hos := OA2.out.lt
    by_cases hlt : k < N.roads.length
    · obtain ⟨b, o, rfl, q⟩ := (M.out.roads.keep (Keep.below HX2.out)).at_ hlt
      obtain ⟨q0, q1, q2, q3, q4⟩ := q
      have hp := Lib.hid (M.out.roads.2 k hlt)
      have p1 := hp.out.le.1
      have p2 := hp.out.le.2
      have l3 := HL3.out k hlt
      have BD := Lib.hid (BoxW.new wr (listD N.roads k) (a.p k) (a.pc k) 67)
      have HG3 := Lib.hid (HG2.out.alloc HG2.out.size (.cells #[.string (listD N.roads k).name, .int .i64 (listD N.roads k).src, .int .i64 (listD N.roads k).dst, .int .i64 (listD N.roads k).metres, .slice (a.p k) (listD N.roads k).pts.length (a.pc k)] 67))
      have OA3 := Lib.hid (OA2.out.below ((Below.refl _ _).alloc (Nat.le_refl _) (.cells #[.string (listD N.roads k).name, .int .i64 (listD N.roads k).src, .int .i64 (listD N.roads k).dst, .int .i64 (listD N.roads k).metres, .slice (a.p k) (listD N.roads k).pts.length (a.pc k)] 67)) hos)
      have OW3 := Lib.hid (OW2.out.alloc (.cells #[.string (listD N.roads k).name, .int .i64 (listD N.roads k).src, .int .i64 (listD N.roads k).dst, .int .i64 (listD N.roads k).metres, .slice (a.p k) (listD N.roads k).pts.length (a.pc k)] 67))
      have OP3 := Lib.hid fun i hi => (OP2.out i hi).keep (Keep.alloc wr (.cells #[.string (listD N.roads k).name, .int .i64 (listD N.roads k).src, .int .i64 (listD N.roads k).dst, .int .i64 (listD N.roads k).metres, .slice (a.p k) (listD N.roads k).pts.length (a.pc k)] 67))
      go_upto_region 6 with fail
      generalize hwd : wr.alloc _ = wd at *
      have hds : wd.heap.size = wr.heap.size + 1 := by rw [← hwd]; simp
      have KD : Hid (Keep wr wd) := by rw [← hwd]; exact Lib.hid (Keep.alloc _ _)
      clear hwd n0 n1 q0 q1 q2 q3 q4 o0 o1 of1
      obtain ⟨d0, d1, d2, d3, d4⟩ := BD.out.box
      have hvb := Lib.hid (show ∀ x, vr.ownBlock = some x → w1.heap.size + 1 ≤ x ∧ x < wr.heap.size from fun x hx => OW2.out.lt x hx)
      have HPd := Lib.hid (hp.out.keep (Keep.below (HW.out.trans ((HB1.out.trans (HG3.out.mono HB1.out.size)).mono HW.out.size))))
      have f4 := BD.out.f4
      go_upto_region 7 with (at_builtin
                             refine wpList_copy rfl (.tmp 22) (.tmp 24) 65 rfl 94 i0 _ 3 24 Tryz.underlying65 hi hz0 hz1 hz2 rfl (by decide) (wr.heap.size + 1) (wr.heap.size + 1) rfl (Nat.le_refl _) (by rw [← hds]; exact heap_alloc_new _ _) (a.p k) (listD N.roads k).pts.length (a.pc k) _ rfl (Arr.keep (Keep.alloc _ _) HPd.out) (by intro i j; unfold ptCells; split <;> rfl) (by unfold maxLen; omega) (by omega) ?_
                             intro A2 c2 w2 ha2 hb2
                             have BD2 := Lib.hid (BD.out.below (B := wr.heap.size + 1) (((Below.refl _ _).alloc (by omega) _).trans hb2) (by omega))
                             clear d0 d1 d2 d3 d4 f4
                             obtain ⟨d0, d1, d2, d3, d4⟩ := BD2.out.box
                             have f4 := BD2.out.f4)
      have HB4 := Lib.hid (((Below.refl (wr.heap.size + 1) wd).alloc (by omega) _).trans hb2)
      have hc1 := (own_arrN ha2).1
      have hc2 := (own_arrN ha2).2.1
      have ha3 := ownsRow_setCell_below ha2 (a := ⟨wr.heap.size, 4, none⟩) (Nat.lt_succ_self _) (.slice A2 (listD N.roads k).pts.length c2)
      have NP := Lib.hid (Off.of (g := w1.heap.size) (x := vr.ownBlock) (own_arrN ha3) (own_above ha3) (by omega) (fun x hx => by have := (hvb.out x hx).2; omega))
      have BD3 := Lib.hid (BD2.out.set A2 c2)
      have OA4 := Lib.hid (((OA3.out.below HB4.out (by omega)).far (p := ⟨wr.heap.size, 4, none⟩) (by show wr.heap.size ≠ _; omega) (.slice A2 (listD N.roads k).pts.length c2)))
      have HG4 := Lib.hid ((HG3.out.trans (HB4.out.mono (by omega))).setCell (p := ⟨wr.heap.size, 4, none⟩) (by show w1.heap.size ≤ wr.heap.size; omega) (.slice A2 (listD N.roads k).pts.length c2))
      have OW4 := Lib.hid (ownsRow_setCell_other (below_of_own OW3.out (by rw [hds]; exact HB4.out)) (a := ⟨wr.heap.size, 4, none⟩) (fun e => absurd (hvb.out wr.heap.size e).2 (Nat.lt_irrefl _)) (.slice A2 (listD N.roads k).pts.length c2))
      have OP4 := Lib.hid fun i hi => (OP2.out i hi).newer (w := w2) (by decide) (KD.out.trans (Keep.below (by rw [hds]; exact HB4.out))) (p := ⟨wr.heap.size, 4, none⟩) (Nat.le_refl _) (.slice A2 (listD N.roads k).pts.length c2)
      clear ha2 hb2 ha3 d0 d1 d2 d3 d4 f4 BD BD2 OA3 OW3 OP3 HB4 HPd
      generalize w2.setCell _ _ = w3 at *
      obtain ⟨d0, d1, d2, d3, d4⟩ := BD3.out.box
      obtain ⟨o0, o1, of1⟩ := OA4.out
      have h3s := HG4.out.size
      have HN := Lib.hid (show ∀ x, vr.ownBlock = some x → w1.heap.size ≠ x from fun x hx => by have := (hvb.out x hx).1; omega)
      have HOW := Lib.hid (OW4.out.alloc (.cells #[.string (listD N.roads k).name, .int .i64 (listD N.roads k).src, .int .i64 (listD N.roads k).dst, .int .i64 (listD N.roads k).metres, .slice A2 (listD N.roads k).pts.length c2] 67))
      have HNW := Lib.hid (news5 w3 (listD N.roads k) A2 c2 67)
      have HBS := Lib.hid (show w1.heap.size + 1 ≤ (w3.alloc (.cells #[.string (listD N.roads k).name, .int .i64 (listD N.roads k).src, .int .i64 (listD N.roads k).dst, .int .i64 (listD N.roads k).metres, .slice A2 (listD N.roads k).pts.length c2] 67)).heap.size by have := OA4.out.lt; simp; omega)
      have hk63 : k + 1 ≤ maxLen := by unfold maxLen; omega
      have hk64 : (k + 1) * 64 ≤ 140737488355328 := by omega
      go_wp2_with (at_builtin
                   refine wpList_append_own_at _ rfl (.tmp 28) (.tmp 30) 23 rfl (w1.heap.size + 1) 67 j0 _ 5 64 Tryz.underlying23 hj jz0 jz1 jz2 rfl (by decide) vr k (rowVals N.roads ar k) rfl HOW.out ⟨w3.heap.size, 0, none⟩ 1 1 (roadVals (listD N.roads k) A2 c2) rfl rfl HNW.out (oneRoad _ _ _) hk63 hk64 HBS.out ?_)
      intro v5 w5 hown hg5 hnil hblk
      rw [← rowVals_put N.roads ar k A2 c2] at hown
      obtain ⟨A5, c5, rfl, -⟩ := own_row hown
      have hblk' : (Value.slice A5 (k + 1) c5).ownBlock = vr.ownBlock ∨ (Value.slice A5 (k + 1) c5).ownBlock = some (w3.alloc (.cells #[.string (listD N.roads k).name, .int .i64 (listD N.roads k).src, .int .i64 (listD N.roads k).dst, .int .i64 (listD N.roads k).metres, .slice A2 (listD N.roads k).pts.length c2] 67)).heap.size := by rw [World.size_alloc]; exact hblk
      have OA5 := Lib.hid ((OA4.out.below ((Below.refl w3.heap.size w3).alloc (Nat.le_refl _) _) OA4.out.lt).grown hg5 (fun e => HN.out _ e rfl))
      have HG5 := Lib.hid (((HG4.out.alloc HG4.out.size _).grown hg5 (by simp; omega) (fun x hx => by have := (hvb.out x hx).1; omega)).setCell (p := ⟨w1.heap.size, 1, none⟩) (Nat.le_refl _) (.slice A5 (k + 1) c5))
      have OA6 := Lib.hid (OA5.out.set (.slice A5 (k + 1) c5))
      have OW6 := Lib.hid (ownsRow_setCell_below (a := ⟨w1.heap.size, 1, none⟩) hown (Nat.lt_succ_self _) (.slice A5 (k + 1) c5))
      have OP6 : Hid (∀ i, i < k + 1 → OffP w1.heap.size (Value.slice A5 (k + 1) c5).ownBlock (w5.setCell ⟨w1.heap.size, 1, none⟩ (.slice A5 (k + 1) c5)) ((ar.put k A2 c2).p i) (listD N.roads i).pts ((ar.put k A2 c2).pc i)) := Lib.hid fun i hi => by
        by_cases e : i = k
        · subst e
          simp only [DA.put, if_pos]
          exact ((NP.out.keep (Keep.alloc _ _)).grown (by decide) hg5 hblk').far (p := ⟨w1.heap.size, 1, none⟩) (Nat.le_refl _) _
        · simp only [DA.put, if_neg e]
          exact (((OP4.out i (by omega)).keep (Keep.alloc _ _)).grown (by decide) hg5 hblk').far (p := ⟨w1.heap.size, 1, none⟩) (Nat.le_refl _) _
      clear d0 d1 d2 d3 d4 o0 o1 of1 hown hg5 hnil hblk hblk'
      obtain ⟨o0, o1, of1⟩ := OA5.out
      go_wp2_with fail
      go_roundw
      case rel => exact ⟨k + 1, (.slice A5 (k + 1) c5), ar.put k A2 c2, by omega, by go_num, HG5, OA6, OW6, OP6⟩
      case measure => simp [intOf]; omega
    · obtain rfl : k = N.roads.length := by omega
      have OWN := OW2.out
      unfold rowVals at OWN
      obtain ⟨AR, cR, hv, harr⟩ := own_row OWN
      subst hv
      have HAR := Lib.hid harr
      have HAA := Lib.hid (own_above OWN)
      clear harr OWN
      have r0 := ((HB2.out.cell (p := ⟨w.heap.size + 1, 0, none⟩) (by show w.heap.size + 1 < _; omega)).trans (RV.out 0 (.inl rfl)).1)
      have r1 := ((HB2.out.cell (p := ⟨w.heap.size + 1, 1, none⟩) (by show w.heap.size + 1 < _; omega)).trans (RV.out 1 (.inr rfl)).1)
      have rf0 := ((HB2.out.frozen (p := ⟨w.heap.size + 1, 0, none⟩) (by show w.heap.size + 1 < _; omega)).trans (RV.out 0 (.inl rfl)).2)
      have rf1 := ((HB2.out.frozen (p := ⟨w.heap.size + 1, 1, none⟩) (by show w.heap.size + 1 < _; omega)).trans (RV.out 1 (.inr rfl)).2)
      have HFIN : Hid (NetM ((wr.setCell ⟨w.heap.size + 1, 0, none⟩ (.slice A1 N.places.length c1)).setCell ⟨w.heap.size + 1, 1, none⟩ (.slice AR N.roads.length cR)) N A1 AR c1 cR ar) := Lib.hid ⟨
        ((HA1.out.keep (Keep.below HG2.out)).far HAB.out (p := ⟨w.heap.size + 1, 0, none⟩) (by show w.heap.size + 1 < _; omega) _).far HAB.out (p := ⟨w.heap.size + 1, 1, none⟩) (by show w.heap.size + 1 < _; omega) _,
        ⟨(HAR.out.far HAA.out (p := ⟨w.heap.size + 1, 0, none⟩) (by show w.heap.size + 1 < _; omega) _).far HAA.out (p := ⟨w.heap.size + 1, 1, none⟩) (by show w.heap.size + 1 < _; omega) _, fun i hi =>
          (((OP2.out i hi).far (p := ⟨w.heap.size + 1, 0, none⟩) (by show w.heap.size + 1 ≤ _; omega) _).far (p := ⟨w.heap.size + 1, 1, none⟩) (by show w.heap.size + 1 ≤ _; omega) _).arr⟩⟩
      go_wp2_with fail
      refine bodyPost_ret (v := netV N A1 AR c1 cR) (by simp [results, Tryz.results9, go_sem, r0, r1]) rfl ⟨_, rfl, ⟨_, _, _, _, _, rfl, HFIN.out⟩, ?_⟩
      exact (HX2.out.setCell (p := ⟨w.heap.size + 1, 0, none⟩) (by simp) _).setCell (p := ⟨w.heap.size + 1, 1, none⟩) (by simp) _
end Go.Proofs.YtndhpdjcpagghaaGreatDoor

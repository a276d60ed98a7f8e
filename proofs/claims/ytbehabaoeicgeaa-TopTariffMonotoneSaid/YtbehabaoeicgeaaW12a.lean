/- The law's own copy of a trip, whose segments it changes. No condition. -/
import Derived.Test.YtbehabaoeicgeaaW10d
import Derived.Test.YtbehabaoeicgeaaFs6
import Derived.Test.YtbehabaoeicgeaaW6a
namespace Go.Proofs.Ytbehabaoeicgeaa
open Go.RowKit Fs

/-- The rows of a list of segments, the call's own. -/
def SegsAt (base gy : Nat) (w : World) (A : Option Addr) (L : List Seg) : Prop :=
  L.length = 0 ∨ ∃ b cap f, A = some ⟨b, 0, none⟩ ∧ base ≤ b ∧ b ≠ gy ∧ w.rowIs b 40 cap f ∧ L.length * 3 ≤ cap ∧ ∀ i j, i < L.length → j < 3 → f (i * 3 + j) = segCells (listG L i) j
theorem SegsAt.below {base gy : Nat} {w w' : World} {A : Option Addr} {L : List Seg} (h : SegsAt base gy w A L) (hb : Below w.heap.size w w') : SegsAt base gy w' A L := by
  rcases h with h | ⟨b, cap, f, h1, h2, h3, h4, h5⟩
  · exact .inl h
  · exact .inr ⟨b, cap, f, h1, h2, h3, h4.of_block (hb.block b h4.lt), h5⟩
theorem SegsAt.of_own {base c : Nat} {w : World} {A : Option Addr} {L : List Seg} (h : w.ownsRow base 40 3 (.slice A L.length c) L.length (flat L.length 3 fun i j => segCells (listG L i) j)) : SegsAt base w.heap.size w A L := by
  rcases h.2 with ⟨-, hn⟩ | ⟨b, cap, cur, hv, hb, hh, h1, h2, h3, h4⟩
  · exact .inl hn
  · injection hv with hv
    subst hv
    have hrow : w.rowIs b 40 (cap * 3) fun i => (cur[i]?).getD undef := ⟨cur, hh, h3, fun i hi => by
      show cur[i]? = some ((cur[i]?).getD undef)
      rw [Array.getElem?_eq_getElem (by omega)]; rfl⟩
    have hlt := hrow.lt
    refine .inr ⟨b, cap * 3, fun i => (cur[i]?).getD undef, rfl, hb, by omega, hrow, by omega, fun i j hi hj => ?_⟩
    obtain ⟨p1, p2, p3⟩ := place hi hj
    have e : cur[i * 3 + j]? = some (segCells (listG L i) j) := by
      have e1 : cur[i * 3 + j]? = (cur.toList.take (L.length * 3))[i * 3 + j]? := by
        rw [List.getElem?_take_of_lt p1, Array.getElem?_toList]
      rw [e1, h4, flat_get _ p1, p2, p3]
    show (cur[i * 3 + j]?).getD undef = _
    rw [e]; rfl
/-- The copy y in the block gy, its segments those of L. -/
structure YAt (base gy : Nat) (w : World) (X : Trip) (L : List Seg) (e s : Option Addr) (ec sc : Nat) : Prop where
  c0 : w.cell? ⟨gy, 0, none⟩ = some (.int .i64 X.date)
  c1 : w.cell? ⟨gy, 1, none⟩ = some (.int .i64 X.time)
  c2 : w.cell? ⟨gy, 2, none⟩ = some (.bool X.fixed)
  c3 : w.cell? ⟨gy, 3, none⟩ = some (.slice e X.extras.length ec)
  c4 : w.cell? ⟨gy, 4, none⟩ = some (.slice s X.segs.length sc)
  hL : L.length = X.segs.length
  h1 : X.segs.length ≤ sc
  h2 : sc ≤ 9223372036854775807
  low : Low base w e X.extras.length ec 1 (fun i _ => .int .i64 (listI X.extras i))
  seg : SegsAt base gy w s L
abbrev yV (X : Trip) (e s : Option Addr) (ec sc : Nat) : Value := .agg #[.int .i64 X.date, .int .i64 X.time, .bool X.fixed, .slice e X.extras.length ec, .slice s X.segs.length sc]
section
variable {base gy : Nat} {w : World} {X : Trip} {L : List Seg} {e s : Option Addr} {ec sc : Nat}
theorem YAt.lt (h : YAt base gy w X L e s ec sc) : gy < w.heap.size := World.block_lt_of_cell? w _ h.c0
theorem YAt.below {w' : World} (h : YAt base gy w X L e s ec sc) (hb : Below w.heap.size w w') : YAt base gy w' X L e s ec sc :=
  ⟨Keep.below hb _ _ h.c0, Keep.below hb _ _ h.c1, Keep.below hb _ _ h.c2, Keep.below hb _ _ h.c3, Keep.below hb _ _ h.c4, h.hL, h.h1, h.h2, h.low.keep (Keep.below hb), h.seg.below hb⟩
theorem YAt.rd (h : YAt base gy w X L e s ec sc) : RdTrip w (yV X e s ec sc) (withSegs X L) := by
  refine ⟨e, s, ec, sc, ?_, h.low.arr, ?_⟩
  · show yV X e s ec sc = .agg #[.int .i64 X.date, .int .i64 X.time, .bool X.fixed, .slice e X.extras.length ec, .slice s L.length sc]
    rw [h.hL]
  · refine ⟨by show L.length ≤ sc; have := h.hL; have := h.h1; omega, h.h2, fun hn => ?_⟩
    rcases h.seg with h0 | ⟨b, cap, f, e1, -, -, e4, e5, e6⟩
    · exact absurd hn (by show ¬ 0 < L.length; omega)
    · refine ⟨b, 0, e1, fun i j hi hj => ?_⟩
      have hi' : i < L.length := hi
      rw [Nat.zero_add, e4.cell (by omega), e6 i j hi' hj]
      rfl
/-- Segment k's cells. -/
theorem YAt.at_ (h : YAt base gy w X L e s ec sc) {k : Nat} (hk : k < X.segs.length) : ∃ b, s = some ⟨b, 0, none⟩ ∧ base ≤ b ∧ b ≠ gy ∧ b < w.heap.size ∧ (∀ i, w.frozen? ⟨b, i, none⟩ = false) ∧
    w.cell? ⟨b, k * 3, none⟩ = some (.int .i64 (listG L k).zone) ∧ w.cell? ⟨b, k * 3 + 1, none⟩ = some (.int .i64 (listG L k).metres) ∧ w.cell? ⟨b, k * 3 + 2, none⟩ = some (.int .i64 (listG L k).seconds) := by
  have hn := h.hL
  rcases h.seg with h0 | ⟨b, cap, f, e1, e2, e3, e4, e5, e6⟩
  · omega
  · exact ⟨b, e1, e2, e3, e4.lt, e4.frozen, by have e7 := e6 k 0 (by omega) (by omega); rw [Nat.add_zero] at e7; rw [e4.cell (i := k * 3) (by omega), e7]; rfl, by rw [e4.cell (by omega), e6 k 1 (by omega) (by omega)]; rfl, by rw [e4.cell (by omega), e6 k 2 (by omega) (by omega)]; rfl⟩
theorem YAt.put {b : Nat} (h : YAt base gy w X L e (some ⟨b, 0, none⟩) ec sc) {k : Nat} (hk : k < X.segs.length) (m : Int) : YAt base gy (w.setCell ⟨b, k * 3 + 1, none⟩ (.int .i64 m)) X (setM L k m) e (some ⟨b, 0, none⟩) ec sc := by
  have hn := h.hL
  rcases h.seg with h0 | ⟨b', cap, f, e1, e2, e3, e4, e5, e6⟩
  · omega
  · injection e1 with e1
    injection e1 with e1
    subst e1
    have far : ∀ i, (w.setCell ⟨b, k * 3 + 1, none⟩ (.int .i64 m)).cell? ⟨gy, i, none⟩ = w.cell? ⟨gy, i, none⟩ := fun i => World.cell?_setCell_far _ _ _ _ e3
    refine ⟨(far 0).trans h.c0, (far 1).trans h.c1, (far 2).trans h.c2, (far 3).trans h.c3, (far 4).trans h.c4, (setM_length _ _ _).trans hn, h.h1, h.h2, h.low.far (p := ⟨b, k * 3 + 1, none⟩) e2 _, .inr ⟨b, cap, _, rfl, e2, e3, e4.set (k * 3 + 1) (.int .i64 m), by rw [setM_length]; exact e5, fun i j hi hj => ?_⟩⟩
    rw [setM_length] at hi
    rw [setM_at (by omega)]
    by_cases e : i = k
    · subst e
      rw [if_pos rfl]
      by_cases e1 : j = 1
      · subst e1; rw [if_pos rfl]; rfl
      · rw [if_neg (by omega), e6 i j hi hj]
        match j, hj with
        | 0, _ => rfl
        | 2, _ => rfl
    · rw [if_neg e, if_neg (by omega), e6 i j hi hj]
end
/-- The copy is put into a box. -/
theorem YAt.start {B : Nat} {w : World} {v : Value} {X : Trip} (h : OwnSegs B w v X) (t : TypeId) : ∃ e s ec sc base, v = yV X e s ec sc ∧ B ≤ base ∧
    YAt base w.heap.size (w.alloc (.cells #[.int .i64 X.date, .int .i64 X.time, .bool X.fixed, .slice e X.extras.length ec, .slice s X.segs.length sc] t)) X X.segs e s ec sc := by
  obtain ⟨e, s, ec, sc, base, hv, hB, h1, h2⟩ := h
  have ha := own_arrN h2
  exact ⟨e, s, ec, sc, base, hv, hB, cellNew _ _ _ 0, cellNew _ _ _ 1, cellNew _ _ _ 2, cellNew _ _ _ 3, cellNew _ _ _ 4, rfl, ha.1, ha.2.1, h1.keep (Keep.alloc _ _), (SegsAt.of_own h2).below ((Below.refl _ _).alloc (Nat.le_refl _) _)⟩
theorem BoxT.far {w : World} {g : Nat} {T : Tar} {z h r e f : Option Addr} {zc hc rc ec fc : Nat} (m : BoxT w g T z h r e f zc hc rc ec fc) {p : Addr} (hp : p.block ≠ g) (v : Value) : BoxT (w.setCell p v) g T z h r e f zc hc rc ec fc := by
  have far : ∀ i, (w.setCell p v).cell? ⟨g, i, none⟩ = w.cell? ⟨g, i, none⟩ := fun i => World.cell?_setCell_far _ _ _ _ hp
  exact ⟨(far 0).trans m.c0, (far 1).trans m.c1, (far 2).trans m.c2, (far 3).trans m.c3, (far 4).trans m.c4, (far 5).trans m.c5, (far 6).trans m.c6, (far 7).trans m.c7⟩
theorem BoxX.far {w : World} {g : Nat} {X : Trip} {e s : Option Addr} {ec sc : Nat} (m : BoxX w g X e s ec sc) {p : Addr} (hp : p.block ≠ g) (v : Value) : BoxX (w.setCell p v) g X e s ec sc := by
  have far : ∀ i, (w.setCell p v).cell? ⟨g, i, none⟩ = w.cell? ⟨g, i, none⟩ := fun i => World.cell?_setCell_far _ _ _ _ hp
  exact ⟨(far 0).trans m.c0, (far 1).trans m.c1, (far 2).trans m.c2, (far 3).trans m.c3, (far 4).trans m.c4⟩
/-- Where the slices of the tariff and the trip lie. -/
structure Lie where
  z : Option Addr
  h : Option Addr
  r : Option Addr
  e : Option Addr
  f : Option Addr
  zc : Nat
  hc : Nat
  rc : Nat
  ec : Nat
  fc : Nat
  xe : Option Addr
  xs : Option Addr
  xec : Nat
  xsc : Nat
/-- The law under way: the boxes of the tariff and the trip as they came, the copy, all below as it was. -/
structure LawAt (W w : World) (base gy : Nat) (T : Tar) (X : Trip) (L : List Seg) (a : Lie) (ye ys : Option Addr) (yec ysc : Nat) : Prop where
  bel : Below W.heap.size W w
  bt : BoxT w W.heap.size T a.z a.h a.r a.e a.f a.zc a.hc a.rc a.ec a.fc
  bx : BoxX w (W.heap.size + 1) X a.xe a.xs a.xec a.xsc
  y : YAt base gy w X L ye ys yec ysc
  hB : W.heap.size + 2 ≤ base
section
variable {W w : World} {base gy : Nat} {T : Tar} {X : Trip} {L : List Seg} {a : Lie} {ye ys : Option Addr} {yec ysc : Nat}
theorem LawAt.below {w' : World} (h : LawAt W w base gy T X L a ye ys yec ysc) (hb : Below w.heap.size w w') : LawAt W w' base gy T X L a ye ys yec ysc :=
  ⟨h.bel.trans (hb.mono h.bel.size), h.bt.keep (Keep.below hb), h.bx.keep (Keep.below hb), h.y.below hb, h.hB⟩
theorem LawAt.put {b : Nat} (h : LawAt W w base gy T X L a ye (some ⟨b, 0, none⟩) yec ysc) (hb : base ≤ b) {k : Nat} (hk : k < X.segs.length) (m : Int) : LawAt W (w.setCell ⟨b, k * 3 + 1, none⟩ (.int .i64 m)) base gy T X (setM L k m) a ye (some ⟨b, 0, none⟩) yec ysc := by
  have := h.hB
  exact ⟨h.bel.setCell (p := ⟨b, k * 3 + 1, none⟩) (by show W.heap.size ≤ b; omega) _, h.bt.far (by show b ≠ _; omega) _, h.bx.far (by show b ≠ _; omega) _, h.y.put hk m, h.hB⟩
end
theorem few_lists {T : Tar} (h : few T = true) : Lists T := by
  have hp : FewP T := by unfold few at h; simpa using h
  obtain ⟨-, h1, h2, h3, h4, h5, -, h6, -⟩ := hp
  unfold many at h1 h2 h3 h4 h5
  simp at h1 h2 h3 h4 h5
  exact ⟨by omega, by omega, by omega, by omega, by omega, fun i hi => by have := (h6 i hi).2.1; omega, fun i hi => by have := (h6 i hi).2.2; omega⟩
theorem short_len {X : Trip} (h : short X = true) : X.segs.length ≤ 62 ∧ X.extras.length ≤ 8 := by
  unfold short many at h
  simp at h
  omega
end Go.Proofs.Ytbehabaoeicgeaa

/- Heights from a place, and the earliest arrivals. Conditions: the net is right, the time is small. -/
import Derived.Test.YtaihiahoedpbiaaT16
namespace Go.Proofs.Ytaihiahoedpbiaa
open Go.RowKit Fs

end Go.Proofs.Ytaihiahoedpbiaa
/- The error of a trip; the bound of two lists of labels. No condition. -/
namespace Go.Proofs.Ytaihiahoedpbiaa
open Go.RowKit Fs

abbrev stripV (f t a : Int) : Value := .agg #[.int .i64 f, .int .i64 t, .int .i64 a]
/-- A trip's cells in the block g. -/
structure TripAt (w : World) (g : Nat) (f t a : Int) : Prop where
  c0 : w.cell? ⟨g, 0, none⟩ = some (.int .i64 f)
  c1 : w.cell? ⟨g, 1, none⟩ = some (.int .i64 t)
  c2 : w.cell? ⟨g, 2, none⟩ = some (.int .i64 a)
theorem TripAt.keep {w w' : World} (k : Keep w w') {g : Nat} {f t a : Int} (m : TripAt w g f t a) : TripAt w' g f t a := ⟨k _ _ m.c0, k _ _ m.c1, k _ _ m.c2⟩
theorem TripAt.new1 (w : World) (A : Obj) (f t a : Int) (ty : TypeId) : TripAt ((w.alloc A).alloc (.cells #[.int .i64 f, .int .i64 t, .int .i64 a] ty)) (w.heap.size + 1) f t a := ⟨cellNew1 _ _ _ _ 0, cellNew1 _ _ _ _ 1, cellNew1 _ _ _ _ 2⟩
theorem arr2New (w : World) (x y : Int) (ty : TypeId) : ArrI (w.alloc (.cells #[.int .i64 x, .int .i64 y] ty)) (some ⟨w.heap.size, 0, none⟩) [x, y] 2 := by
  refine ⟨Nat.le_refl _, by decide, fun _ => ⟨_, _, rfl, fun i j hi hj => ?_⟩⟩
  have hj0 : j = 0 := by omega
  subst hj0
  match i, hi with
  | 0, _ => exact cellNew w _ _ 0
  | 1, _ => exact cellNew w _ _ 1
def Fs.tripErr (N : Net) (f t a : Int) : Int := fst (listI [placesErr N [f, t], timeErr a]) 2
theorem Fs.tripErr_ok {N : Net} {f t a : Int} (h : tripErr N f t a = 0) : isPlace N f = true ∧ isPlace N t = true ∧ timeErr a = 0 := by
  have h0 := fst_zero h 0 (by decide)
  have h1 := fst_zero h 1 (by decide)
  have h0 : placesErr N [f, t] = 0 := h0
  have h1 : timeErr a = 0 := h1
  have p0 := fst_zero h0 0 (by show 0 < 2; decide)
  have p1 := fst_zero h0 1 (by show 1 < 2; decide)
  refine ⟨?_, ?_, h1⟩
  · cases hp : isPlace N (listI [f, t] 0) with
    | true => exact hp
    | false => rw [hp] at p0; cases p0
  · cases hp : isPlace N (listI [f, t] 1) with
    | true => exact hp
    | false => rw [hp] at p1; cases p1

/-- Both labels of a place, or the error that there is none. -/
def Fs.bound (l m : List Int) (t : Nat) : (Int × Int) × Int := if listI l t = -1 ∨ listI m t = -1 then ((0, 0), 12) else ((listI l t, listI m t), 0)
theorem RowV.int {w : World} {g : Nat} {l : List Int} (h : RowV w g 3 (l.map (Value.int .i64))) {i : Nat} (hi : i < l.length) : w.cell? ⟨g, i, none⟩ = some (.int .i64 (listI l i)) := by
  rw [h.cell, List.getElem?_map, List.getElem?_eq_getElem hi]
  unfold listI
  rw [List.getD_eq_getElem?_getD, List.getElem?_eq_getElem hi]
  rfl
theorem BoxL.new (w : World) (u v : Value) (A B : Obj) (t : TypeId) : (((w.alloc (.cells #[u, v] t)).alloc A).alloc B).cell? ⟨w.heap.size, 0, none⟩ = some u ∧ (((w.alloc (.cells #[u, v] t)).alloc A).alloc B).cell? ⟨w.heap.size, 1, none⟩ = some v :=
  ⟨Keep.alloc _ _ _ _ (Keep.alloc _ _ _ _ (cellNew w _ _ 0)), Keep.alloc _ _ _ _ (Keep.alloc _ _ _ _ (cellNew w _ _ 1))⟩

end Go.Proofs.Ytaihiahoedpbiaa
/- The estimate of a trip. No condition. -/
namespace Go.Proofs.Ytaihiahoedpbiaa
open Go.RowKit Fs

def Fs.estErr (N : Net) (f t a : Int) : Int := fst (listI [netErr N, tripErr N f t a]) 2
def Fs.estimate (N : Net) (f t a : Int) : (Int × Int) × Int :=
  if estErr N f t a ≠ 0 then ((0, 0), estErr N f t a) else bound (search N f a (soonest N)).labels (search N f a (latest N)).labels t.toNat
theorem Fs.estErr_ok {N : Net} {f t a : Int} (h : estErr N f t a = 0) : netErr N = 0 ∧ tripErr N f t a = 0 := ⟨fst_zero h 0 (by decide), fst_zero h 1 (by decide)⟩
theorem Fs.search_len {N : Net} {nx : Nat → Int → Int} {s L : Int} : ((search N s L nx).labels.length = N.places.length) ∧ (search N s L nx).last.length = N.places.length := by
  have one : ∀ p st i, (relax N nx p st i).labels.length = st.labels.length ∧ (relax N nx p st i).last.length = st.last.length := fun p st i => by
    unfold relax
    split
    · exact ⟨rfl, rfl⟩
    · split
      · exact ⟨List.length_set, List.length_set⟩
      · exact ⟨rfl, rfl⟩
  have many : ∀ p st k, (relaxTo N nx p st k).labels.length = st.labels.length ∧ (relaxTo N nx p st k).last.length = st.last.length := fun p st k => by
    induction k with
    | zero => exact ⟨rfl, rfl⟩
    | succ k ih => rw [relaxTo, (one _ _ _).1, (one _ _ _).2]; exact ih
  have all : ∀ f st, (rounds N nx f st).labels.length = st.labels.length ∧ (rounds N nx f st).last.length = st.last.length := fun f => by
    induction f with
    | zero => exact fun st => ⟨rfl, rfl⟩
    | succ f ih =>
      intro st
      rw [rounds]
      split
      · exact ⟨rfl, rfl⟩
      · rw [(ih _).1, (ih _).2]
        unfold oneRound
        rw [(many _ _ _).1, (many _ _ _).2]
        exact ⟨rfl, rfl⟩
  unfold search
  rw [(all _ _).1, (all _ _).2]
  simp [Fs.start]

end Go.Proofs.Ytaihiahoedpbiaa
/- The way back from a place along the last roads of a search. Condition: the roads lead back. -/
namespace Go.Proofs.Ytaihiahoedpbiaa
open Go.RowKit Fs

/-- The roads back from a place, as long as there is one. -/
inductive Fs.Chain (N : Net) (last : List Int) : Nat → List Int → Prop
  | stop (z : Nat) : listI last z = -1 → Chain N last z []
  | go (z i : Nat) (l : List Int) : listI last z = (i : Int) → Chain N last (listD N.roads i).src.toNat l → Chain N last z ((i : Int) :: l)
/-- The last roads lead back, by a rank that falls. -/
structure Fs.Back (N : Net) (last : List Int) (rk : Nat → Nat) : Prop where
  len : last.length = N.places.length
  step : ∀ z, z < N.places.length → listI last z ≠ -1 → rk z < N.places.length ∧ ∃ i : Nat, i < N.roads.length ∧ listI last z = (i : Int) ∧ (listD N.roads i).dst = (z : Int) ∧ rk (listD N.roads i).src.toNat < rk z
theorem Fs.Found.back' {N : Net} {nx : Nat → Int → Int} {src : Nat} {L : Int} {s : St} (h : Found N nx src L s) : ∃ rk, Back N s.last rk := by
  obtain ⟨rk, ht⟩ := h.tree
  exact ⟨rk, h.n2, fun z hz hl => by
    obtain ⟨h1, i, a, b, c, -, -, d⟩ := ht z hz hl
    exact ⟨h1, i, a, b, c, d⟩⟩
/-- A row of the call's own of numbers, as the reversal asks for it. -/
theorem own_holds {w : World} {base : Nat} {e : TypeId} {v : Value} {l : List Int} (h : w.ownsRow base e 1 v l.length (intVals l)) (hn : l ≠ []) :
    ∃ g c, v = .slice (some ⟨g, 0, none⟩) l.length c ∧ base ≤ g ∧ g < w.heap.size ∧ l.length ≤ c ∧ c ≤ maxLen ∧ Go.Sort.Holds (Value.int .i64) w g 0 l.toArray := by
  rcases h.2 with ⟨hv, hn0⟩ | ⟨g, cap, cur, hv, hb, hh, h1, h2, h3, h4⟩
  · exact absurd (List.eq_nil_of_length_eq_zero hn0) hn
  · subst hv
    refine ⟨g, cap, rfl, hb, (Array.getElem?_eq_some_iff.1 hh).1, h1, h2, fun j hj => ?_⟩
    have hj' : j < l.length := by simpa using hj
    refine ⟨?_, by rw [Nat.zero_add]; exact h.frozenAt j⟩
    rw [Nat.zero_add, h.cellAt j (by omega)]
    unfold intVals
    simp [hj']
theorem holds_arr {w : World} {g : Nat} {l : List Int} {c : Nat} (h : Go.Sort.Holds (Value.int .i64) w g 0 l.toArray) (h1 : l.length ≤ c) (h2 : c ≤ maxLen) : ArrI w (some ⟨g, 0, none⟩) l c := by
  refine ⟨h1, h2, fun _ => ⟨g, 0, rfl, fun i j hi hj => ?_⟩⟩
  have hj0 : j = 0 := by omega
  subst hj0
  have := (h i (by simpa using hi)).1
  rw [Nat.zero_add] at this
  rw [show 0 + i * 1 + 0 = i by omega, this]
  unfold listI
  simp [hi]
theorem putRow_below {w0 w : World} {g : Nat} {d : Array Int} {B : Nat} (h : Below B w0 w) (n : Nat) (hg : B ≤ g) : Below B w0 (Go.Sort.putRow (Value.int .i64) (Go.Sort.ahead w n) g 0 d) := by
  refine ⟨h.os, h.tape, h.output, by unfold Go.Sort.putRow Go.Sort.mapBlock Go.Sort.ahead; simpa using h.size, fun k hk => ?_⟩
  rw [← h.block k hk]
  unfold Go.Sort.putRow Go.Sort.mapBlock Go.Sort.ahead
  simp only [Array.getElem?_modify]
  rw [if_neg (by omega)]

theorem own_below {w w' : World} {base : Nat} {e : TypeId} {size : Nat} {v : Value} {n : Nat} {xs : List Value} (h : w.ownsRow base e size v n xs) (hb : Below w.heap.size w w') : w'.ownsRow base e size v n xs := by
  obtain ⟨h0, h1⟩ := h
  refine ⟨h0, ?_⟩
  rcases h1 with h1 | ⟨g, cap, cur, hv, hg, hh, hr⟩
  · exact .inl h1
  · refine .inr ⟨g, cap, cur, hv, hg, ?_, hr⟩
    have hlt : g < w.heap.size := by
      rcases Nat.lt_or_ge g w.heap.size with hlt | hge
      · exact hlt
      · rw [Array.getElem?_eq_none hge] at hh; cases hh
    rw [hb.block g hlt]
    exact hh

end Go.Proofs.Ytaihiahoedpbiaa

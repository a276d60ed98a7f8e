/- The way back from a place along the last roads of a search. Condition: the roads lead back. -/
import Derived.Test.YtolicafhbeiciaaT17
namespace Go.Proofs.Ytolicafhbeiciaa
open Go.RowKit Fs

/-- The roads back from a place, as long as there is one. -/
inductive Fs.Chain (N : Net) (last : List Int) : Nat → List Int → Prop
  | stop (z : Nat) : listI last z = -1 → Chain N last z []
  | go (z i : Nat) (l : List Int) : listI last z = (i : Int) → Chain N last (listD N.roads i).src.toNat l → Chain N last z ((i : Int) :: l)
/-- The last roads lead back, by a rank that falls. -/
structure Fs.Back (N : Net) (last : List Int) (rk : Nat → Nat) : Prop where
  len : last.length = N.places.length
  step : ∀ z, z < N.places.length → listI last z ≠ -1 → rk z < N.places.length ∧ ∃ i : Nat, i < N.roads.length ∧ listI last z = (i : Int) ∧ (listD N.roads i).dst = (z : Int) ∧ rk (listD N.roads i).src.toNat < rk z
theorem Fs.Found.back' {N : Net} {nx : Nat → Int → Int} {src : Nat} {L : Int} {s : St} (h : Found N nx src L s) : ∃ rk, Back N s.last rk := by
  obtain ⟨rk, ht⟩ := h.tree
  exact ⟨rk, h.n2, fun z hz hl => by
    obtain ⟨h1, i, a, b, c, -, -, d⟩ := ht z hz hl
    exact ⟨h1, i, a, b, c, d⟩⟩
/-- A row of the call's own of numbers, as the reversal asks for it. -/
theorem own_holds {w : World} {base : Nat} {e : TypeId} {v : Value} {l : List Int} (h : w.ownsRow base e 1 v l.length (intVals l)) (hn : l ≠ []) :
    ∃ g c, v = .slice (some ⟨g, 0, none⟩) l.length c ∧ base ≤ g ∧ g < w.heap.size ∧ l.length ≤ c ∧ c ≤ maxLen ∧ Go.Sort.Holds (Value.int .i64) w g 0 l.toArray := by
  rcases h.2 with ⟨hv, hn0⟩ | ⟨g, cap, cur, hv, hb, hh, h1, h2, h3, h4⟩
  · exact absurd (List.eq_nil_of_length_eq_zero hn0) hn
  · subst hv
    refine ⟨g, cap, rfl, hb, (Array.getElem?_eq_some_iff.1 hh).1, h1, h2, fun j hj => ?_⟩
    have hj' : j < l.length := by simpa using hj
    refine ⟨?_, by rw [Nat.zero_add]; exact h.frozenAt j⟩
    rw [Nat.zero_add, h.cellAt j (by omega)]
    unfold intVals
    simp [hj']
theorem holds_arr {w : World} {g : Nat} {l : List Int} {c : Nat} (h : Go.Sort.Holds (Value.int .i64) w g 0 l.toArray) (h1 : l.length ≤ c) (h2 : c ≤ maxLen) : ArrI w (some ⟨g, 0, none⟩) l c := by
  refine ⟨h1, h2, fun _ => ⟨g, 0, rfl, fun i j hi hj => ?_⟩⟩
  have hj0 : j = 0 := by omega
  subst hj0
  have := (h i (by simpa using hi)).1
  rw [Nat.zero_add] at this
  rw [show 0 + i * 1 + 0 = i by omega, this]
  unfold listI
  simp [hi]
theorem putRow_below {w0 w : World} {g : Nat} {d : Array Int} {B : Nat} (h : Below B w0 w) (n : Nat) (hg : B ≤ g) : Below B w0 (Go.Sort.putRow (Value.int .i64) (Go.Sort.ahead w n) g 0 d) := by
  refine ⟨h.os, h.tape, h.output, by unfold Go.Sort.putRow Go.Sort.mapBlock Go.Sort.ahead; simpa using h.size, fun k hk => ?_⟩
  rw [← h.block k hk]
  unfold Go.Sort.putRow Go.Sort.mapBlock Go.Sort.ahead
  simp only [Array.getElem?_modify]
  rw [if_neg (by omega)]

theorem own_below {w w' : World} {base : Nat} {e : TypeId} {size : Nat} {v : Value} {n : Nat} {xs : List Value} (h : w.ownsRow base e size v n xs) (hb : Below w.heap.size w w') : w'.ownsRow base e size v n xs := by
  obtain ⟨h0, h1⟩ := h
  refine ⟨h0, ?_⟩
  rcases h1 with h1 | ⟨g, cap, cur, hv, hg, hh, hr⟩
  · exact .inl h1
  · refine .inr ⟨g, cap, cur, hv, hg, ?_, hr⟩
    have hlt : g < w.heap.size := by
      rcases Nat.lt_or_ge g w.heap.size with hlt | hge
      · exact hlt
      · rw [Array.getElem?_eq_none hge] at hh; cases hh
    rw [hb.block g hlt]
    exact hh

end Go.Proofs.Ytolicafhbeiciaa
/- The error of an examination, and what a row of roads comes to. Condition: the roads lie in the net. -/
namespace Go.Proofs.Ytolicafhbeiciaa
open Go.RowKit Fs

/-- Why an examination over the places l that allows m in a thousand more is refused, or nought. -/
def Fs.examErr (N : Net) (l : List Int) (m : Int) : Int := if l.length < 2 then 10 else if 200 < l.length then 8 else if placesErr N l = 0 then (if within m 0 1000 then 0 else 2) else placesErr N l
/-- The two cells of an examination. -/
structure ExamAt (w : World) (g : Nat) (A : Option Addr) (n c : Nat) (m : Int) : Prop where
  c0 : w.cell? ⟨g, 0, none⟩ = some (.slice A n c)
  c1 : w.cell? ⟨g, 1, none⟩ = some (.int .i64 m)
theorem ExamAt.keep {w w' : World} (k : Keep w w') {g : Nat} {A : Option Addr} {n c : Nat} {m : Int} (h : ExamAt w g A n c m) : ExamAt w' g A n c m := ⟨k _ _ h.c0, k _ _ h.c1⟩
theorem ExamAt.new1 (w : World) (B : Obj) (A : Option Addr) (n c : Nat) (m : Int) (ty : TypeId) : ExamAt ((w.alloc B).alloc (.cells #[.slice A n c, .int .i64 m] ty)) (w.heap.size + 1) A n c m := ⟨cellNew1 _ _ _ _ 0, cellNew1 _ _ _ _ 1⟩
abbrev examV (A : Option Addr) (n c : Nat) (m : Int) : Value := .agg #[.slice A n c, .int .i64 m]

/-- The label at the end of a row of roads. -/
def Fs.alongTo (nx : Nat → Int → Int) : Nat → List Int → Int → Int
  | 0, _, x => x
  | k + 1, l, x => nx (listI l k).toNat (alongTo nx k l x)
theorem Fs.alongTo_le {N : Net} {nx : Nat → Int → Int} (hx : Small N nx) {l : List Int} {x : Int} (hl : ∀ j, j < l.length → 0 ≤ listI l j ∧ listI l j < N.roads.length) (h0 : 0 ≤ x) : ∀ k, k ≤ l.length → 0 ≤ alongTo nx k l x ∧ alongTo nx k l x ≤ x + 100000 * k
  | 0, _ => ⟨h0, by unfold alongTo; omega⟩
  | k + 1, hk => by
    have ih := alongTo_le hx hl h0 k (by omega)
    have hr := hl k (by omega)
    have h := hx (listI l k).toNat (alongTo nx k l x) (by omega) ih.1
    unfold alongTo
    omega
end Go.Proofs.Ytolicafhbeiciaa
/- The roads that an examination tells: from each place to the next one the shortest. Conditions: the net is right, the places are two or more. -/
namespace Go.Proofs.Ytolicafhbeiciaa
open Go.RowKit Fs

/-- The first shortest of the first k roads from a to b, or -1. -/
def Fs.bestTo (N : Net) (a b : Int) : Nat → Int
  | 0 => -1
  | k + 1 => if (listD N.roads k).src = a ∧ (listD N.roads k).dst = b ∧ (bestTo N a b k = -1 ∨ (listD N.roads k).metres < (listD N.roads (bestTo N a b k).toNat).metres) then k else bestTo N a b k
theorem Fs.bestTo_is (N : Net) (a b : Int) : ∀ k, bestTo N a b k = -1 ∨ ∃ p : Nat, bestTo N a b k = p ∧ p < k ∧ (listD N.roads p).src = a ∧ (listD N.roads p).dst = b
  | 0 => .inl rfl
  | k + 1 => by
    rw [bestTo]
    by_cases h : (listD N.roads k).src = a ∧ (listD N.roads k).dst = b ∧ (bestTo N a b k = -1 ∨ (listD N.roads k).metres < (listD N.roads (bestTo N a b k).toNat).metres)
    · rw [if_pos h]
      exact .inr ⟨k, rfl, Nat.lt_succ_self _, h.1, h.2.1⟩
    · rw [if_neg h]
      rcases bestTo_is N a b k with h1 | ⟨p, h1, h2, h3⟩
      · exact .inl h1
      · exact .inr ⟨p, h1, by omega, h3⟩
theorem Fs.best_take {N : Net} {a b : Int} {k : Nat} (h : (listD N.roads k).src = a ∧ (listD N.roads k).dst = b ∧ (bestTo N a b k = -1 ∨ (listD N.roads k).metres < (listD N.roads (bestTo N a b k).toNat).metres)) : bestTo N a b (k + 1) = k := by rw [bestTo, if_pos h]
theorem Fs.best_leave {N : Net} {a b : Int} {k : Nat} (h : ¬ ((listD N.roads k).src = a ∧ (listD N.roads k).dst = b ∧ (bestTo N a b k = -1 ∨ (listD N.roads k).metres < (listD N.roads (bestTo N a b k).toNat).metres))) : bestTo N a b (k + 1) = bestTo N a b k := by rw [bestTo, if_neg h]
/-- The shortest road from place k of the list to the next one, or -1. -/
def Fs.bestAt (N : Net) (l : List Int) (k : Nat) : Int := bestTo N (listI l k) (listI l (k + 1)) N.roads.length
def Fs.toldTo (N : Net) (l : List Int) : Nat → List Int
  | 0 => []
  | k + 1 => toldTo N l k ++ [bestAt N l k]
theorem Fs.toldTo_len (N : Net) (l : List Int) : ∀ k, (toldTo N l k).length = k
  | 0 => rfl
  | k + 1 => by rw [toldTo, List.length_append, toldTo_len N l k]; rfl
/-- The roads told, or none and why. -/
def Fs.told (N : Net) (l : List Int) : List Int × Int := if ∀ k, k < l.length - 1 → bestAt N l k ≠ -1 then (toldTo N l (l.length - 1), 0) else ([], 23)

theorem arrNil (w : World) : ArrI w none [] 0 := ⟨Nat.le_refl _, by decide, fun h => absurd h (by simp)⟩
theorem ArrI.cells {w : World} {b o : Nat} {l : List Int} {c : Nat} (h : ArrI w (some ⟨b, o, none⟩) l c) {k : Nat} (hk : k < l.length) : w.cell? ⟨b, o + k, none⟩ = some (.int .i64 (listI l k)) := by
  obtain ⟨b', o', e, hc⟩ := h.at_ hk
  injection e with e
  injection e with e1 e2
  subst e1; subst e2
  exact hc
theorem ArrD.cells {w : World} {b o : Nat} {l : List Rd} {c : Nat} {a : DA} (h : ArrD w (some ⟨b, o, none⟩) l c a) {k : Nat} (hk : k < l.length) : RdAt w b (o + k * 5) (listD l k) (a.p k) (a.pc k) := by
  obtain ⟨b', o', e, hc⟩ := h.at_ hk
  injection e with e
  injection e with e1 e2
  subst e1; subst e2
  exact hc

end Go.Proofs.Ytolicafhbeiciaa

/- Lists that are the same; ways that join places, and their metres, as the reference tells them. Conditions: the net can be read; a way is right. -/
import Derived.Test.YtjmaankkbdpikaaT53
import Derived.Test.YtjmaankkbdpikaaT21
namespace Go.Proofs.Ytjmaankkbdpikaa
open Go.RowKit Fs

/-- A way joins two places. -/
def Fs.JoinsIs (N : Net) (l : List Int) (f t : Int) : Prop := if l.length = 0 then f = t else (listD N.roads (listI l 0).toNat).src = f ∧ (listD N.roads (listI l (l.length - 1)).toNat).dst = t
instance (N : Net) (l : List Int) (f t : Int) : Decidable (JoinsIs N l f t) := by unfold JoinsIs; infer_instance
end Go.Proofs.Ytjmaankkbdpikaa
/- What an examination comes to. Condition: the net can be read. -/
namespace Go.Proofs.Ytjmaankkbdpikaa
open Go.RowKit Fs

theorem Fs.toldTo_at (N : Net) (l : List Int) : ∀ n k, k < n → listI (toldTo N l n) k = bestAt N l k
  | 0, k, h => absurd h (Nat.not_lt_zero _)
  | n + 1, k, h => by
    have hl := toldTo_len N l n
    rw [toldTo]
    unfold listI
    by_cases e : k < n
    · rw [List.getD_eq_getElem?_getD, List.getElem?_append_left (by omega), ← List.getD_eq_getElem?_getD]
      have := toldTo_at N l n k e
      unfold listI at this
      exact this
    · rw [List.getD_eq_getElem?_getD, List.getElem?_append_right (by omega), show k - (toldTo N l n).length = 0 by omega]
      have : k = n := by omega
      subst this
      rfl
theorem Fs.best_in {N : Net} {l : List Int} {k : Nat} (h : bestAt N l k ≠ -1) : ∃ p : Nat, bestAt N l k = p ∧ p < N.roads.length ∧ (listD N.roads p).src = listI l k ∧ (listD N.roads p).dst = listI l (k + 1) := by
  rcases bestTo_is N (listI l k) (listI l (k + 1)) N.roads.length with h1 | h1
  · exact absurd h1 h
  · exact h1
/-- The metres of the roads told. -/
def Fs.toldM (N : Net) (l : List Int) : Int := alongTo (further N) (told N l).1.length (told N l).1 0
/-- The least metres from the first place to the last one. -/
def Fs.leastM (N : Net) (l : List Int) : Int := listI (heights N (listI l 0)) (listI l (l.length - 1)).toNat
theorem Fs.told_ok {N : Net} {l : List Int} (h : (told N l).2 = 0) : (∀ k, k < l.length - 1 → bestAt N l k ≠ -1) ∧ (told N l).1 = toldTo N l (l.length - 1) := by
  by_cases hh : ∀ k, k < l.length - 1 → bestAt N l k ≠ -1
  · exact ⟨hh, by rw [told, if_pos hh]⟩
  · rw [told, if_neg hh] at h
    exact absurd h (by decide)
/-- Told, never shorter. -/
theorem Fs.told_least {N : Net} {l : List Int} (hE : netErr N = 0) (hs : 0 ≤ listI l 0 ∧ listI l 0 < N.places.length) (h2 : 2 ≤ l.length) (h : (told N l).2 = 0) : 0 ≤ leastM N l ∧ leastM N l ≤ toldM N l ∧ toldM N l ≤ 100000 * (l.length - 1 : Nat) := by
  obtain ⟨hb, ht⟩ := told_ok h
  obtain ⟨s, hs'⟩ : ∃ s : Nat, listI l 0 = s := ⟨_, (Int.toNat_of_nonneg hs.1).symm⟩
  have hF := search_found (N := N) (nx := further N) (src := s) (L := 0) (net_joined hE) (further_good hE) (by omega) (Int.le_refl _)
  have hlen := toldTo_len N l (l.length - 1)
  have hin : ∀ j, j < (toldTo N l (l.length - 1)).length → 0 ≤ listI (toldTo N l (l.length - 1)) j ∧ listI (toldTo N l (l.length - 1)) j < N.roads.length := by
    intro j hj
    rw [toldTo_at N l _ j (by omega)]
    obtain ⟨p, hp, hp1, -⟩ := best_in (hb j (by omega))
    omega
  have hle := alongTo_le (further_small hE) (x := 0) hin (Int.le_refl _) (l.length - 1) (by omega)
  have hH : heights N (listI l 0) = (search N s 0 (further N)).labels := by rw [hs']; rfl
  have key : ∀ k, k ≤ l.length - 1 → listI (heights N (listI l 0)) (listI l k).toNat ≠ -1 ∧ listI (heights N (listI l 0)) (listI l k).toNat ≤ alongTo (further N) k (toldTo N l (l.length - 1)) 0 := by
    intro k
    induction k with
    | zero =>
      intro _
      rw [hH, hs', Int.toNat_natCast, hF.own]
      exact ⟨by decide, Int.le_refl _⟩
    | succ k ih =>
      intro hk
      obtain ⟨i1, i2⟩ := ih (by omega)
      obtain ⟨p, hp, hp1, hp2, hp3⟩ := best_in (hb k (by omega))
      have hst := hF.step p hp1
      rw [hp2, hp3, ← hH] at hst
      obtain ⟨s1, s2⟩ := hst i1
      refine ⟨s1, ?_⟩
      show _ ≤ alongTo (further N) k (toldTo N l (l.length - 1)) 0 + (listD N.roads (listI (toldTo N l (l.length - 1)) k).toNat).metres
      rw [toldTo_at N l _ k (by omega), hp, Int.toNat_natCast]
      have s3 : listI (heights N (listI l 0)) (listI l (k + 1)).toNat ≤ listI (heights N (listI l 0)) (listI l k).toNat + (listD N.roads p).metres := s2
      omega
  obtain ⟨k1, k2⟩ := key (l.length - 1) (Nat.le_refl _)
  have hpl : ∃ z : Nat, listI l (l.length - 1) = z ∧ z < N.places.length := by
    obtain ⟨p, hp, hp1, hp2, hp3⟩ := best_in (hb (l.length - 2) (by omega))
    rw [show l.length - 2 + 1 = l.length - 1 by omega] at hp3
    have hd := (net_roads_ok hE p hp1).dst
    rw [hp3] at hd
    exact ⟨(listI l (l.length - 1)).toNat, (Int.toNat_of_nonneg hd.1).symm, by omega⟩
  obtain ⟨z, hz, hzl⟩ := hpl
  have hL := hF.least z hzl
  unfold leastM toldM
  rw [ht, hlen]
  rw [hz, Int.toNat_natCast] at k1 k2
  rw [hz, Int.toNat_natCast]
  rw [← hH] at hL
  refine ⟨?_, k2, by omega⟩
  rcases hL with hL | hL
  · exact absurd hL k1
  · exact hL
def Fs.exErr (N : Net) (l : List Int) (m : Int) : Int := fst (listI [netErr N, examErr N l m]) 2
/-- What an examination comes to, and why it is refused. -/
def Fs.examined (N : Net) (l : List Int) (m : Int) : (Int × Int × Bool) × Int :=
  if exErr N l m = 0 then (if (told N l).2 = 0 then ((toldM N l, leastM N l, decide (1000 * toldM N l ≤ (1000 + m) * leastM N l)), 0) else ((0, 0, false), (told N l).2)) else ((0, 0, false), exErr N l m)
theorem Fs.exErr_ok {N : Net} {l : List Int} {m : Int} (h : exErr N l m = 0) : netErr N = 0 ∧ examErr N l m = 0 := ⟨fst_zero h 0 (by decide), fst_zero h 1 (by decide)⟩
theorem Fs.examErr_ok {N : Net} {l : List Int} {m : Int} (h : examErr N l m = 0) : 2 ≤ l.length ∧ l.length ≤ 200 ∧ placesErr N l = 0 ∧ 0 ≤ m ∧ m ≤ 1000 := by
  unfold examErr at h
  by_cases h1 : l.length < 2
  · rw [if_pos h1] at h; exact absurd h (by decide)
  · rw [if_neg h1] at h
    by_cases h2 : 200 < l.length
    · rw [if_pos h2] at h; exact absurd h (by decide)
    · rw [if_neg h2] at h
      by_cases h3 : placesErr N l = 0
      · rw [if_pos h3] at h
        cases hw : within m 0 1000 with
        | true => exact ⟨by omega, by omega, h3, (Fs.within_iff.1 hw).1, (Fs.within_iff.1 hw).2⟩
        | false => rw [hw] at h; exact absurd h (by decide)
      · rw [if_neg h3] at h; exact absurd h h3
theorem Fs.place_in {N : Net} {l : List Int} (h : placesErr N l = 0) {k : Nat} (hk : k < l.length) : 0 ≤ listI l k ∧ listI l k < N.places.length := by
  have := fst_zero h k hk
  cases hp : isPlace N (listI l k) with
  | true => have h := Fs.within_iff.1 hp; exact ⟨h.1, by omega⟩
  | false => rw [hp] at this; exact absurd this (by decide)
end Go.Proofs.Ytjmaankkbdpikaa
/- Examined: what it answers. Condition: the net can be read. -/
namespace Go.Proofs.Ytjmaankkbdpikaa
open Go.RowKit Fs

/-- The three cells of a result, which may be written. -/
structure ResAt (w : World) (g : Nat) (x y z : Value) : Prop where
  c0 : w.cell? ⟨g, 0, none⟩ = some x
  c1 : w.cell? ⟨g, 1, none⟩ = some y
  c2 : w.cell? ⟨g, 2, none⟩ = some z
  f0 : w.frozen? ⟨g, 0, none⟩ = false
  f1 : w.frozen? ⟨g, 1, none⟩ = false
  f2 : w.frozen? ⟨g, 2, none⟩ = false
theorem ResAt.lt {w : World} {g : Nat} {x y z : Value} (m : ResAt w g x y z) : g < w.heap.size := World.block_lt_of_cell? w _ m.c0
theorem ResAt.below {B : Nat} {w w' : World} {g : Nat} {x y z : Value} (m : ResAt w g x y z) (h : Below B w w') (hg : g < B) : ResAt w' g x y z :=
  ⟨(h.cell (p := ⟨g, 0, none⟩) hg).trans m.c0, (h.cell (p := ⟨g, 1, none⟩) hg).trans m.c1, (h.cell (p := ⟨g, 2, none⟩) hg).trans m.c2, (h.frozen (p := ⟨g, 0, none⟩) hg).trans m.f0, (h.frozen (p := ⟨g, 1, none⟩) hg).trans m.f1, (h.frozen (p := ⟨g, 2, none⟩) hg).trans m.f2⟩
theorem ResAt.keep {w w' : World} {g : Nat} {x y z : Value} (m : ResAt w g x y z) (h : Below w.heap.size w w') : ResAt w' g x y z := m.below h m.lt
theorem ResAt.keepD {w w' : World} {g : Nat} {x y z : Value} (m : ResAt w g x y z) (h : Below w.drew.heap.size w.drew w') : ResAt w' g x y z := ResAt.keep (w := w.drew) ⟨m.c0, m.c1, m.c2, m.f0, m.f1, m.f2⟩ h
theorem ResAt.new (w : World) (x y z : Value) (t : TypeId) : ResAt (w.alloc (.cells #[x, y, z] t)) w.heap.size x y z := ⟨cellNew _ _ _ 0, cellNew _ _ _ 1, cellNew _ _ _ 2, frozenNew _ _ _ 0, frozenNew _ _ _ 1, frozenNew _ _ _ 2⟩
theorem ResAt.set {w : World} {g : Nat} {x y z : Value} (m : ResAt w g x y z) (x' y' z' : Value) : ResAt (((w.setCell ⟨g, 0, none⟩ x').setCell ⟨g, 1, none⟩ y').setCell ⟨g, 2, none⟩ z') g x' y' z' :=
  ⟨(World.cell?_setCell_other _ _ _ _ (by simp)).trans ((World.cell?_setCell_other _ _ _ _ (by simp)).trans (World.cell?_setCell_same _ _ _ m.c0)),
   (World.cell?_setCell_other _ _ _ _ (by simp)).trans (World.cell?_setCell_same _ _ _ ((World.cell?_setCell_other _ _ _ _ (by simp)).trans m.c1)),
   World.cell?_setCell_same _ _ _ ((World.cell?_setCell_other _ _ _ _ (by simp)).trans ((World.cell?_setCell_other _ _ _ _ (by simp)).trans m.c2)),
   (World.frozen?_setCell _ _ _ _).trans ((World.frozen?_setCell _ _ _ _).trans ((World.frozen?_setCell _ _ _ _).trans m.f0)), (World.frozen?_setCell _ _ _ _).trans ((World.frozen?_setCell _ _ _ _).trans ((World.frozen?_setCell _ _ _ _).trans m.f1)), (World.frozen?_setCell _ _ _ _).trans ((World.frozen?_setCell _ _ _ _).trans ((World.frozen?_setCell _ _ _ _).trans m.f2))⟩
theorem below_after {a w w' : World} (hb : Below w.heap.size w w') (h : Below a.heap.size a w) : Below a.heap.size a w' := h.trans (hb.mono h.size)
abbrev resV (a b : Int) (p : Bool) : Value := .agg #[.int .i64 a, .int .i64 b, .bool p]

theorem Fs.told_in {N : Net} {l : List Int} (h : (told N l).2 = 0) : ∀ j, j < (told N l).1.length → 0 ≤ listI (told N l).1 j ∧ listI (told N l).1 j < N.roads.length := by
  obtain ⟨hb, ht⟩ := told_ok h
  rw [ht]
  have hlen := toldTo_len N l (l.length - 1)
  intro j hj
  rw [toldTo_at N l _ j (by omega)]
  obtain ⟨p, hp, hp1, -⟩ := best_in (hb j (by omega))
  omega
theorem Fs.told_len {N : Net} {l : List Int} (h : (told N l).2 = 0) : (told N l).1.length = l.length - 1 := by
  obtain ⟨hb, ht⟩ := told_ok h
  rw [ht, toldTo_len]
theorem StepV.alloc {N : Net} {nx : Nat → Int → Int} {v : Value} {w : World} (h : StepV N nx v w) (o : Obj) : StepV N nx v (w.alloc o) := h.below ((Below.refl _ _).alloc (Nat.le_refl _) o)

end Go.Proofs.Ytjmaankkbdpikaa
/- Shortest: a way back along the last roads, and the label of its end. Condition: the net can be read. -/
namespace Go.Proofs.Ytjmaankkbdpikaa
open Go.RowKit Fs

def Fs.shErr (N : Net) (f t : Int) : Int := fst (listI [netErr N, placesErr N [f, t]]) 2
/-- The metres of a shortest way, and why there is none. -/
def Fs.shortest (N : Net) (f t : Int) : Int × Int :=
  if shErr N f t = 0 then (if listI (heights N f) t.toNat = -1 then (0, 12) else (listI (heights N f) t.toNat, 0)) else (0, shErr N f t)
theorem Fs.shErr_ok {N : Net} {f t : Int} (h : shErr N f t = 0) : netErr N = 0 ∧ (0 ≤ f ∧ f < N.places.length) ∧ 0 ≤ t ∧ t < N.places.length := by
  have h1 : placesErr N [f, t] = 0 := fst_zero h 1 (by decide)
  exact ⟨fst_zero h 0 (by decide), place_in h1 (k := 0) (by show 0 < 2; decide), place_in h1 (k := 1) (by show 1 < 2; decide)⟩

end Go.Proofs.Ytjmaankkbdpikaa

/- CheckHeights: whether heights are accepted. Condition: the net can be read; at most a hundred thousand heights. -/
import Derived.Test.YtndhpdjcpagghaaGreatDoorT47
import Derived.Test.YtndhpdjcpagghaaGreatDoorT29
import Derived.Test.YtndhpdjcpagghaaGreatDoorT24
import Derived.Deep.RegionHeld3
import Derived.Deep.CutRange
import Derived.Test.YtndhpdjcpagghaaGreatDoorWQ
namespace Go.Proofs.YtndhpdjcpagghaaGreatDoor
open Go.RowKit Fs

/-- Two numbers in a block. -/
structure PairAt (w : World) (g : Nat) (x y : Int) : Prop where
  c0 : w.cell? ⟨g, 0, none⟩ = some (.int .i64 x)
  c1 : w.cell? ⟨g, 1, none⟩ = some (.int .i64 y)
theorem PairAt.keep {w w' : World} (k : Keep w w') {g : Nat} {x y : Int} (h : PairAt w g x y) : PairAt w' g x y := ⟨k _ _ h.c0, k _ _ h.c1⟩
theorem PairAt.new1 (w : World) (B : Obj) (x y : Int) (ty : TypeId) : PairAt ((w.alloc B).alloc (.cells #[.int .i64 x, .int .i64 y] ty)) (w.heap.size + 1) x y := ⟨cellNew1 _ _ _ _ 0, cellNew1 _ _ _ _ 1⟩
theorem PairAt.arr {w : World} {g : Nat} {x y : Int} (h : PairAt w g x y) : ArrI w (some ⟨g, 0, none⟩) [x, y] 2 := by
  refine ⟨Nat.le_refl _, by decide, fun _ => ⟨g, 0, rfl, fun i j hi hj => ?_⟩⟩
  have hj0 : j = 0 := by omega
  subst hj0
  have hi : i < 2 := hi
  match i, hi with
  | 0, _ => exact h.c0
  | 1, _ => exact h.c1
theorem arrL1New (w : World) (A : Option Addr) (l : List Int) (c : Nat) (ty : TypeId) (h : ArrI (w.alloc (.cells #[.slice A l.length c] ty)) A l c) : ArrL (w.alloc (.cells #[.slice A l.length c] ty)) (some ⟨w.heap.size, 0, none⟩) [l] 1 ⟨fun _ => A, fun _ => c⟩ := by
  refine ⟨⟨Nat.le_refl _, by decide, fun _ => ⟨w.heap.size, 0, rfl, fun i j hi hj => ?_⟩⟩, fun i hi => ?_⟩
  · have hj0 : j = 0 := by omega
    have hi : i < 1 := hi
    have hi0 : i = 0 := by omega
    subst hj0; subst hi0
    exact cellNew w _ _ 0
  · have hi : i < 1 := hi
    have hi0 : i = 0 := by omega
    subst hi0
    exact h
theorem one_le {l : List Int} {B : Nat} (h : l.length ≤ B) : ∀ i, i < [l].length → (listL [l] i).length ≤ B := fun i hi => by
  have hi : i < 1 := hi
  obtain rfl : i = 0 := by omega
  exact h
def Fs.chErr (N : Net) (x y : Int) (l : List Int) : Int := fst (listI [netErr N, placesErr N [x, y], labErr N [l]]) 3
def Fs.chRes (N : Net) (x y : Nat) (l : List Int) : Int × Int :=
  if listI l x ≠ 0 ∨ ¬ Proof N (further N) l N.roads.length then (0, 20) else if listI l y = -1 then (0, 12) else (listI l y, 0)
def Fs.chHeights (N : Net) (x y : Int) (l : List Int) : Int × Int := if chErr N x y l = 0 then chRes N x.toNat y.toNat l else (0, chErr N x y l)
theorem Fs.labErr_one {N : Net} {l : List Int} (h : labErr N [l] = 0) : l.length = N.places.length ∧ LabIn l := by
  unfold labErr at h
  by_cases h1 : LabFit N [l]
  · rw [if_pos h1] at h
    by_cases h2 : LabIn (flatTo [l] [l].length)
    · exact ⟨h1 0 (by show 0 < 1; decide), h2⟩
    · rw [if_neg h2] at h; exact absurd h (by decide)
  · rw [if_neg h1] at h; exact absurd h (by decide)
theorem Fs.place_both {N : Net} {x y : Int} (h : placesErr N [x, y] = 0) : (0 ≤ x ∧ x < N.places.length) ∧ 0 ≤ y ∧ y < N.places.length :=
  ⟨place_in h (k := 0) (by show 0 < 2; decide), place_in h (k := 1) (by show 1 < 2; decide)⟩
theorem Fs.chErr_ok {N : Net} {x y : Int} {l : List Int} (h : chErr N x y l = 0) : netErr N = 0 ∧ ((0 ≤ x ∧ x < N.places.length) ∧ 0 ≤ y ∧ y < N.places.length) ∧ l.length = N.places.length ∧ LabIn l :=
  ⟨fst_zero h 0 (by decide), place_both (fst_zero h 1 (by decide)), labErr_one (fst_zero h 2 (by decide))⟩

end Go.Proofs.YtndhpdjcpagghaaGreatDoor
/- Whether heights are accepted, as the reference tells it. Conditions: the net is right; the places are places. -/
namespace Go.Proofs.YtndhpdjcpagghaaGreatDoor
open Go.RowKit Fs

/-- What the reference says of heights. -/
def Fs.rHeights (N : Net) (x y : Nat) (l : List Int) : Int × Int := if l.length = N.places.length then (if LabIn l then chRes N x y l else (0, 2)) else (0, 10)
theorem Fs.rHeights_same {N : Net} {x y : Nat} {l : List Int} (hE : netErr N = 0) (hx : x < N.places.length) (hy : y < N.places.length) : chHeights N x y l = rHeights N x y l := by
  have hp : placesErr N [(x : Int), (y : Int)] = 0 := by
    refine fst_none fun j hj => ?_
    have hj : j < 2 := hj
    rcases (show j = 0 ∨ j = 1 by omega) with rfl | rfl
    · exact if_pos (Fs.within_iff.2 ⟨by show (0 : Int) ≤ (x : Int); omega, by show (x : Int) ≤ _; omega⟩)
    · exact if_pos (Fs.within_iff.2 ⟨by show (0 : Int) ≤ (y : Int); omega, by show (y : Int) ≤ _; omega⟩)
  have e : chErr N x y l = labErr N [l] := by
    unfold chErr
    rw [hE, hp]
    by_cases h : labErr N [l] = 0
    · rw [h]; rfl
    · exact (fst_hit (f := listI [0, 0, labErr N [l]]) (k := 2) (n := 3) (by decide) (fun j hj => by rcases (show j = 0 ∨ j = 1 by omega) with rfl | rfl <;> rfl) h).1
  unfold chHeights rHeights
  rw [e]
  have hf : LabFit N [l] ↔ l.length = N.places.length := ⟨fun h => h 0 (by show 0 < 1; decide), fun h i hi => by
    have hi : i < 1 := hi
    obtain rfl : i = 0 := by omega
    exact h⟩
  by_cases h1 : l.length = N.places.length
  · rw [if_pos h1]
    by_cases h2 : LabIn l
    · have : labErr N [l] = 0 := by unfold labErr; rw [if_pos (hf.2 h1)]; exact if_pos h2
      rw [if_pos this, if_pos h2, Int.toNat_natCast, Int.toNat_natCast]
    · have : labErr N [l] = 2 := by unfold labErr; rw [if_pos (hf.2 h1)]; exact if_neg h2
      rw [this, if_neg (by decide), if_neg h2]
  · have : labErr N [l] = 10 := if_neg (fun h => h1 (hf.1 h))
    rw [this, if_neg (by decide), if_neg h1]
theorem ret2_pair {a b : Int} {p : Int × Int} (h : p = (a, b)) : Ending.returned (.tuple #[.int .i64 a, .int .i64 b]) = .returned (.tuple #[.int .i64 p.1, .int .i64 p.2]) := by rw [h]

end Go.Proofs.YtndhpdjcpagghaaGreatDoor

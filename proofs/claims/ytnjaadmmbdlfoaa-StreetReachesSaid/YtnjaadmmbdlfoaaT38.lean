/- Ways: what is wrong with one, as the program and the reference tell it. Condition: the net can be read. -/
import Derived.Test.YtnjaadmmbdlfoaaT20
import Derived.Test.YtnjaadmmbdlfoaaWQ
namespace Go.Proofs.Ytnjaadmmbdlfoaa
open Go.RowKit Fs

def Fs.errHop (N : Net) (l : List Int) (i : Nat) : Int :=
  if isRoad N (listI l i) then (if 0 < i ∧ (listD N.roads (listI l (i - 1)).toNat).dst ≠ (listD N.roads (listI l i).toNat).src then 23 else 0) else 6
def Fs.wayErr (N : Net) (l : List Int) : Int := if 200 < l.length then 8 else fst (errHop N l) l.length
def Fs.wayAt (N : Net) (l : List Int) : Nat := if 200 < l.length then 0 else idx (errHop N l) l.length
def Fs.cwErr (N : Net) (l : List Int) : Int := if netErr N = 0 then wayErr N l else netErr N
def Fs.cwAt (N : Net) (l : List Int) : Nat := if netErr N = 0 then wayAt N l else 0
theorem Fs.isRoad_is {N : Net} {z : Int} (h : isRoad N z = true) : 0 ≤ z ∧ z < N.roads.length := by
  have h := Fs.within_iff.1 h; exact ⟨h.1, by omega⟩
theorem Fs.hop_ok {N : Net} {l : List Int} {i : Nat} (h : errHop N l i = 0) : (0 ≤ listI l i ∧ listI l i < N.roads.length) ∧ (0 < i → (listD N.roads (listI l (i - 1)).toNat).dst = (listD N.roads (listI l i).toNat).src) := by
  unfold errHop at h
  cases hr : isRoad N (listI l i) with
  | false => rw [hr, if_neg (by decide)] at h; exact absurd h (by decide)
  | true =>
    rw [hr, if_pos rfl] at h
    refine ⟨isRoad_is hr, fun hi => ?_⟩
    by_cases e : (listD N.roads (listI l (i - 1)).toNat).dst = (listD N.roads (listI l i).toNat).src
    · exact e
    · rw [if_pos ⟨hi, e⟩] at h; exact absurd h (by decide)
theorem Fs.hop_none {N : Net} {l : List Int} {i : Nat} (h : isRoad N (listI l i) = false) : errHop N l i = 6 := by unfold errHop; rw [h]; rfl
theorem Fs.hop_open {N : Net} {l : List Int} {i : Nat} (h : isRoad N (listI l i) = true) (h1 : 0 < i) (h2 : (listD N.roads (listI l (i - 1)).toNat).dst ≠ (listD N.roads (listI l i).toNat).src) : errHop N l i = 23 := by unfold errHop; rw [h, if_pos rfl, if_pos ⟨h1, h2⟩]
theorem Fs.hop_yes {N : Net} {l : List Int} {i : Nat} (h : isRoad N (listI l i) = true) (h2 : ¬ (0 < i ∧ (listD N.roads (listI l (i - 1)).toNat).dst ≠ (listD N.roads (listI l i).toNat).src)) : errHop N l i = 0 := by unfold errHop; rw [h, if_pos rfl, if_neg h2]
theorem Fs.way_hit {N : Net} {l : List Int} {k : Nat} (h : ¬ 200 < l.length) (hk : k < l.length) (h1 : ∀ j, j < k → errHop N l j = 0) (h2 : errHop N l k ≠ 0) : wayErr N l = errHop N l k ∧ wayAt N l = k := by
  unfold wayErr wayAt
  rw [if_neg h, if_neg h]
  exact fst_hit hk h1 h2
theorem Fs.way_none {N : Net} {l : List Int} (h : ¬ 200 < l.length) (h1 : ∀ j, j < l.length → errHop N l j = 0) : wayErr N l = 0 ∧ wayAt N l = 0 := by
  unfold wayErr wayAt
  rw [if_neg h, if_neg h]
  exact ⟨fst_none h1, idx_none h1⟩
theorem Fs.way_ok {N : Net} {l : List Int} (h : wayErr N l = 0) : l.length ≤ 200 ∧ ∀ j, j < l.length → (0 ≤ listI l j ∧ listI l j < N.roads.length) ∧ (0 < j → (listD N.roads (listI l (j - 1)).toNat).dst = (listD N.roads (listI l j).toNat).src) := by
  unfold wayErr at h
  by_cases h1 : 200 < l.length
  · rw [if_pos h1] at h; exact absurd h (by decide)
  · rw [if_neg h1] at h
    exact ⟨by omega, fun j hj => hop_ok (fst_zero h j hj)⟩
theorem ret2_int {a b : Int} {i j : Nat} (h : a = b) (h2 : i = j) : Ending.returned (.tuple #[.int .i64 (i : Int), .int .i64 a]) = .returned (.tuple #[.int .i64 (j : Int), .int .i64 b]) := by rw [h, h2]

end Go.Proofs.Ytnjaadmmbdlfoaa
/- The arrivals of a way, and its metres. Condition: the net can be read. -/
namespace Go.Proofs.Ytnjaadmmbdlfoaa
open Go.RowKit Fs

def Fs.arrivals (N : Net) (l : List Int) (a : Int) : Int × Int := (alongTo (soonest N) l.length l a, alongTo (latest N) l.length l a)
def Fs.avErr (N : Net) (l : List Int) (a : Int) : Int := fst (listI [cwErr N l, timeErr a]) 2
def Fs.arrOf (N : Net) (l : List Int) (a : Int) : (Int × Int) × Int := if avErr N l a = 0 then (arrivals N l a, 0) else ((0, 0), avErr N l a)
theorem Fs.cwErr_ok {N : Net} {l : List Int} (h : cwErr N l = 0) : netErr N = 0 ∧ wayErr N l = 0 := by
  unfold cwErr at h
  by_cases e : netErr N = 0
  · rw [if_pos e] at h; exact ⟨e, h⟩
  · rw [if_neg e] at h; exact absurd h e
theorem Fs.timeErr_ok {a : Int} (h : timeErr a = 0) : 0 ≤ a ∧ a ≤ 604800 := by
  unfold timeErr at h
  cases hp : within a 0 604800 with
  | true => exact Fs.within_iff.1 hp
  | false => rw [hp] at h; exact absurd h (by decide)
theorem Fs.avErr_ok {N : Net} {l : List Int} {a : Int} (h : avErr N l a = 0) : netErr N = 0 ∧ wayErr N l = 0 ∧ 0 ≤ a ∧ a ≤ 604800 :=
  ⟨(cwErr_ok (fst_zero h 0 (by decide))).1, (cwErr_ok (fst_zero h 0 (by decide))).2, timeErr_ok (fst_zero h 1 (by decide))⟩
theorem few_lens {N : Net} (h : fewN N = true) : N.places.length ≤ 1000000 ∧ N.roads.length ≤ 1000000 ∧ ∀ i, i < N.roads.length → (listD N.roads i).pts.length ≤ 1000000 := by
  obtain ⟨h1, h2, -, h4⟩ := fewN_is h
  exact ⟨by omega, by omega, fun i hi => by have := (h4 i hi).2; omega⟩
theorem MarkAt.keepB {w w' : World} {g : Nat} (m : MarkAt w g) (h : Below w.heap.size w w') : MarkAt w' g := m.below h m.lt

def Fs.metresTo (N : Net) (l : List Int) : Int := alongTo (further N) l.length l 0
def Fs.metOf (N : Net) (l : List Int) : Int × Int := if cwErr N l = 0 then (metresTo N l, 0) else (0, cwErr N l)
end Go.Proofs.Ytnjaadmmbdlfoaa
/- Ways and trips: what is wrong with one, as the reference tells it. Condition: the net can be read. -/
namespace Go.Proofs.Ytnjaadmmbdlfoaa
open Go.RowKit Fs

end Go.Proofs.Ytnjaadmmbdlfoaa

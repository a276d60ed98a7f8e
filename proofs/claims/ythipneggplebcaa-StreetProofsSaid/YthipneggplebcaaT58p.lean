/- Plain facts of two lists of labels. No condition. -/
import Derived.Test.YthipneggplebcaaT57
import Derived.Test.YthipneggplebcaaT49
namespace Go.Proofs.Ythipneggplebcaa
open Go.RowKit Fs

def two (A B : Option Addr) : Nat → Option Addr | 0 => A | _ => B
def twoN (c d : Nat) : Nat → Nat | 0 => c | _ => d
theorem arrL2New (w : World) (A B : Option Addr) (l m : List Int) (c d : Nat) (ty : TypeId) (h : ArrI (w.alloc (.cells #[.slice A l.length c, .slice B m.length d] ty)) A l c) (h2 : ArrI (w.alloc (.cells #[.slice A l.length c, .slice B m.length d] ty)) B m d) : ArrL (w.alloc (.cells #[.slice A l.length c, .slice B m.length d] ty)) (some ⟨w.heap.size, 0, none⟩) [l, m] 2 ⟨two A B, twoN c d⟩ := by
  refine ⟨⟨Nat.le_refl _, by decide, fun _ => ⟨w.heap.size, 0, rfl, fun i j hi hj => ?_⟩⟩, fun i hi => ?_⟩
  · have hj0 : j = 0 := by omega
    subst hj0
    have hi : i < 2 := hi
    match i, hi with
    | 0, _ => exact cellNew w _ _ 0
    | 1, _ => exact cellNew w _ _ 1
  · have hi : i < 2 := hi
    match i, hi with
    | 0, _ => exact h
    | 1, _ => exact h2
theorem two_le {l m : List Int} {B : Nat} (h : l.length ≤ B) (h2 : m.length ≤ B) : ∀ i, i < [l, m].length → (listL [l, m] i).length ≤ B := fun i hi => by
  have hi : i < 2 := hi
  match i, hi with
  | 0, _ => exact h
  | 1, _ => exact h2
theorem listI_tail {l m : List Int} {j : Nat} : listI (l ++ m) (l.length + j) = listI m j := by
  unfold listI
  rw [List.getD_eq_getElem?_getD, List.getD_eq_getElem?_getD, List.getElem?_append_right (Nat.le_add_right _ _), Nat.add_sub_cancel_left]
theorem Fs.labIn_app {l m : List Int} : LabIn (l ++ m) ↔ LabIn l ∧ LabIn m := by
  constructor
  · intro h
    refine ⟨fun j hj => ?_, fun j hj => ?_⟩
    · have := h j (by rw [List.length_append]; omega)
      rwa [listI_app1 hj] at this
    · have := h (l.length + j) (by rw [List.length_append]; omega)
      rwa [listI_tail] at this
  · rintro ⟨h1, h2⟩ j hj
    rw [List.length_append] at hj
    rcases Nat.lt_or_ge j l.length with h | h
    · rw [listI_app1 h]; exact h1 j h
    · obtain ⟨k, rfl⟩ : ∃ k, j = l.length + k := ⟨j - l.length, by omega⟩
      rw [listI_tail]; exact h2 k (by omega)
theorem Fs.flat_two (l m : List Int) : flatTo [l, m] [l, m].length = l ++ m := by show ([] ++ l) ++ m = _; rw [List.nil_append]
theorem Fs.labErr_two {N : Net} {l m : List Int} : labErr N [l, m] = 0 ↔ l.length = N.places.length ∧ m.length = N.places.length ∧ LabIn l ∧ LabIn m := by
  have hf : LabFit N [l, m] ↔ l.length = N.places.length ∧ m.length = N.places.length := by
    constructor
    · exact fun h => ⟨h 0 (by show 0 < 2; decide), h 1 (by show 1 < 2; decide)⟩
    · rintro ⟨h1, h2⟩ i hi
      have hi : i < 2 := hi
      match i, hi with
      | 0, _ => exact h1
      | 1, _ => exact h2
  unfold labErr
  rw [flat_two]
  by_cases h1 : LabFit N [l, m]
  · rw [if_pos h1]
    by_cases h2 : LabIn (l ++ m)
    · rw [if_pos h2]; exact ⟨fun _ => ⟨(hf.1 h1).1, (hf.1 h1).2, labIn_app.1 h2⟩, fun _ => rfl⟩
    · rw [if_neg h2]; exact ⟨fun h => absurd h (by decide), fun h => absurd (labIn_app.2 h.2.2) h2⟩
  · rw [if_neg h1]; exact ⟨fun h => absurd h (by decide), fun h => absurd (hf.2 ⟨h.1, h.2.1⟩) h1⟩
def Fs.clErr (N : Net) (f t a : Int) (l m : List Int) : Int := fst (listI [netErr N, tripErr N f t a, labErr N [l, m]]) 3
def Fs.clRes (N : Net) (f t : Nat) (a : Int) (l m : List Int) : (Int × Int) × Int :=
  if within (listI l f) 0 a = true ∧ within (listI m f) 0 a = true ∧ Proof N (soonest N) l N.roads.length ∧ Proof N (latest N) m N.roads.length then bound l m t else ((0, 0), 20)
def Fs.cl (N : Net) (f t a : Int) (l m : List Int) : (Int × Int) × Int := if clErr N f t a l m = 0 then clRes N f.toNat t.toNat a l m else ((0, 0), clErr N f t a l m)
theorem Fs.clErr_ok {N : Net} {f t a : Int} {l m : List Int} (h : clErr N f t a l m = 0) : netErr N = 0 ∧ tripErr N f t a = 0 ∧ l.length = N.places.length ∧ m.length = N.places.length ∧ LabIn l ∧ LabIn m :=
  ⟨fst_zero h 0 (by decide), fst_zero h 1 (by decide), labErr_two.1 (fst_zero h 2 (by decide))⟩
end Go.Proofs.Ythipneggplebcaa

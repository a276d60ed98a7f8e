/- Earliest, and labels copied. Condition: the net, or the labels, can be read. -/
import Derived.Test.YtjmaankkbdpikaaT50
import Derived.Test.YtjmaankkbdpikaaT45
import Derived.Deep.RegionHeld3
import Derived.Deep.CutRange
import Derived.Test.YtjmaankkbdpikaaT54
import Derived.Test.YtjmaankkbdpikaaT62
namespace Go.Proofs.Ytjmaankkbdpikaa
open Go.RowKit Fs

/-- A row of numbers is no box of slices: a store into the box leaves it. -/
theorem ArrI.off {w : World} {A : Option Addr} {l : List Int} {c : Nat} (h : ArrI w A l c) {p : Addr} {B : Option Addr} {n k : Nat} (hc : w.cell? p = some (.slice B n k)) (v : Value) : ArrI (w.setCell p v) A l c := by
  refine ⟨h.1, h.2.1, fun hn => ?_⟩
  obtain ⟨b, o, h1, h2⟩ := h.2.2 hn
  refine ⟨b, o, h1, fun i j hi hj => ?_⟩
  have h3 := h2 i j hi hj
  rw [World.cell?_setCell_other _ _ _ _ (fun e => by rw [← e, hc] at h3; cases h3)]
  exact h3
theorem ArrI.off2 {w : World} {A : Option Addr} {l : List Int} {c : Nat} (h : ArrI w A l c) {g : Nat} {B D : Option Addr} {n k m q : Nat} (hc : TreeAt w g (.slice B n k) (.slice D m q)) (u v : Value) : ArrI ((w.setCell ⟨g, 0, none⟩ u).setCell ⟨g, 1, none⟩ v) A l c :=
  (h.off hc.c0 u).off ((World.cell?_setCell_other _ _ _ _ (by simp)).trans hc.c1) v

def Fs.elErr (N : Net) (f a : Int) : Int := fst (listI [netErr N, placesErr N [f], timeErr a]) 3
def Fs.elS (N : Net) (f a : Int) : List Int := if elErr N f a = 0 then (search N f a (soonest N)).labels else []
def Fs.elL (N : Net) (f a : Int) : List Int := if elErr N f a = 0 then (search N f a (latest N)).labels else []
theorem Fs.timeErr_zero {a : Int} (h : timeErr a = 0) : 0 ≤ a ∧ a ≤ 604800 := by
  unfold timeErr at h
  cases hw : within a 0 604800 with
  | true => exact Fs.within_iff.1 hw
  | false => rw [hw] at h; cases h
theorem Fs.elErr_is (N : Net) (f a : Int) : elErr N f a = if netErr N = 0 then (if noPlace N f = 0 then timeErr a else noPlace N f) else netErr N := by
  unfold elErr; rw [fst3, place_one]; rfl
theorem Fs.elErr_ok {N : Net} {f a : Int} (h : elErr N f a = 0) : netErr N = 0 ∧ (0 ≤ f ∧ f < N.places.length) ∧ 0 ≤ a ∧ a ≤ 604800 :=
  ⟨fst_zero h 0 (by decide), place_in (fst_zero h 1 (by decide) : placesErr N [f] = 0) (k := 0) (by show 0 < 1; decide), timeErr_zero (fst_zero h 2 (by decide))⟩

end Go.Proofs.Ytjmaankkbdpikaa
/- Plain facts of two lists of labels. No condition. -/
namespace Go.Proofs.Ytjmaankkbdpikaa
open Go.RowKit Fs

def two (A B : Option Addr) : Nat → Option Addr | 0 => A | _ => B
def twoN (c d : Nat) : Nat → Nat | 0 => c | _ => d
theorem arrL2New (w : World) (A B : Option Addr) (l m : List Int) (c d : Nat) (ty : TypeId) (h : ArrI (w.alloc (.cells #[.slice A l.length c, .slice B m.length d] ty)) A l c) (h2 : ArrI (w.alloc (.cells #[.slice A l.length c, .slice B m.length d] ty)) B m d) : ArrL (w.alloc (.cells #[.slice A l.length c, .slice B m.length d] ty)) (some ⟨w.heap.size, 0, none⟩) [l, m] 2 ⟨two A B, twoN c d⟩ := by
  refine ⟨⟨Nat.le_refl _, by decide, fun _ => ⟨w.heap.size, 0, rfl, fun i j hi hj => ?_⟩⟩, fun i hi => ?_⟩
  · have hj0 : j = 0 := by omega
    subst hj0
    have hi : i < 2 := hi
    match i, hi with
    | 0, _ => exact cellNew w _ _ 0
    | 1, _ => exact cellNew w _ _ 1
  · have hi : i < 2 := hi
    match i, hi with
    | 0, _ => exact h
    | 1, _ => exact h2
theorem two_le {l m : List Int} {B : Nat} (h : l.length ≤ B) (h2 : m.length ≤ B) : ∀ i, i < [l, m].length → (listL [l, m] i).length ≤ B := fun i hi => by
  have hi : i < 2 := hi
  match i, hi with
  | 0, _ => exact h
  | 1, _ => exact h2
theorem listI_tail {l m : List Int} {j : Nat} : listI (l ++ m) (l.length + j) = listI m j := by
  unfold listI
  rw [List.getD_eq_getElem?_getD, List.getD_eq_getElem?_getD, List.getElem?_append_right (Nat.le_add_right _ _), Nat.add_sub_cancel_left]
theorem Fs.labIn_app {l m : List Int} : LabIn (l ++ m) ↔ LabIn l ∧ LabIn m := by
  constructor
  · intro h
    refine ⟨fun j hj => ?_, fun j hj => ?_⟩
    · have := h j (by rw [List.length_append]; omega)
      rwa [listI_app1 hj] at this
    · have := h (l.length + j) (by rw [List.length_append]; omega)
      rwa [listI_tail] at this
  · rintro ⟨h1, h2⟩ j hj
    rw [List.length_append] at hj
    rcases Nat.lt_or_ge j l.length with h | h
    · rw [listI_app1 h]; exact h1 j h
    · obtain ⟨k, rfl⟩ : ∃ k, j = l.length + k := ⟨j - l.length, by omega⟩
      rw [listI_tail]; exact h2 k (by omega)
theorem Fs.flat_two (l m : List Int) : flatTo [l, m] [l, m].length = l ++ m := by show ([] ++ l) ++ m = _; rw [List.nil_append]
theorem Fs.labErr_two {N : Net} {l m : List Int} : labErr N [l, m] = 0 ↔ l.length = N.places.length ∧ m.length = N.places.length ∧ LabIn l ∧ LabIn m := by
  have hf : LabFit N [l, m] ↔ l.length = N.places.length ∧ m.length = N.places.length := by
    constructor
    · exact fun h => ⟨h 0 (by show 0 < 2; decide), h 1 (by show 1 < 2; decide)⟩
    · rintro ⟨h1, h2⟩ i hi
      have hi : i < 2 := hi
      match i, hi with
      | 0, _ => exact h1
      | 1, _ => exact h2
  unfold labErr
  rw [flat_two]
  by_cases h1 : LabFit N [l, m]
  · rw [if_pos h1]
    by_cases h2 : LabIn (l ++ m)
    · rw [if_pos h2]; exact ⟨fun _ => ⟨(hf.1 h1).1, (hf.1 h1).2, labIn_app.1 h2⟩, fun _ => rfl⟩
    · rw [if_neg h2]; exact ⟨fun h => absurd h (by decide), fun h => absurd (labIn_app.2 h.2.2) h2⟩
  · rw [if_neg h1]; exact ⟨fun h => absurd h (by decide), fun h => absurd (hf.2 ⟨h.1, h.2.1⟩) h1⟩
def Fs.clErr (N : Net) (f t a : Int) (l m : List Int) : Int := fst (listI [netErr N, tripErr N f t a, labErr N [l, m]]) 3
def Fs.clRes (N : Net) (f t : Nat) (a : Int) (l m : List Int) : (Int × Int) × Int :=
  if within (listI l f) 0 a = true ∧ within (listI m f) 0 a = true ∧ Proof N (soonest N) l N.roads.length ∧ Proof N (latest N) m N.roads.length then bound l m t else ((0, 0), 20)
def Fs.cl (N : Net) (f t a : Int) (l m : List Int) : (Int × Int) × Int := if clErr N f t a l m = 0 then clRes N f.toNat t.toNat a l m else ((0, 0), clErr N f t a l m)
theorem Fs.clErr_ok {N : Net} {f t a : Int} {l m : List Int} (h : clErr N f t a l m = 0) : netErr N = 0 ∧ tripErr N f t a = 0 ∧ l.length = N.places.length ∧ m.length = N.places.length ∧ LabIn l ∧ LabIn m :=
  ⟨fst_zero h 0 (by decide), fst_zero h 1 (by decide), labErr_two.1 (fst_zero h 2 (by decide))⟩
end Go.Proofs.Ytjmaankkbdpikaa
/- Which labels are accepted, and their bound, as the reference tells it. Conditions: the net is right; the trip is right. -/
namespace Go.Proofs.Ytjmaankkbdpikaa
open Go.RowKit Fs

theorem Fs.labErr_shape {N : Net} {l m : List Int} (h : ¬ (l.length = N.places.length ∧ m.length = N.places.length)) : labErr N [l, m] = 10 := by
  unfold labErr
  refine if_neg (fun h1 => h ⟨h1 0 (by show 0 < 2; decide), h1 1 (by show 1 < 2; decide)⟩)
theorem Fs.labErr_range {N : Net} {l m : List Int} (h1 : l.length = N.places.length) (h2 : m.length = N.places.length) (h : ¬ (LabIn l ∧ LabIn m)) : labErr N [l, m] = 2 := by
  have hf : LabFit N [l, m] := fun i hi => by
    have hi : i < 2 := hi
    match i, hi with
    | 0, _ => exact h1
    | 1, _ => exact h2
  unfold labErr
  rw [if_pos hf, flat_two, if_neg (fun h' => h (labIn_app.1 h'))]
theorem Fs.labErr_fine {N : Net} {l m : List Int} (h1 : l.length = N.places.length) (h2 : m.length = N.places.length) (h3 : LabIn l) (h4 : LabIn m) : labErr N [l, m] = 0 := labErr_two.2 ⟨h1, h2, h3, h4⟩
theorem ret_i64 {a b : Int} (h : a = b) : Ending.returned (.int .i64 a) = .returned (.int .i64 b) := by rw [h]

/-- What the reference says of labels. -/
def Fs.rcl (N : Net) (X Y : Nat) (a : Int) (l m : List Int) : (Int × Int) × Int := if labErr N [l, m] = 0 then clRes N X Y a l m else ((0, 0), labErr N [l, m])
end Go.Proofs.Ytjmaankkbdpikaa

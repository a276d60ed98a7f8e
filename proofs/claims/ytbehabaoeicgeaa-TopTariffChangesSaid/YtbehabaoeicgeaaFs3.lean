/- The rules of a trip's segments as a list, and what an accepted trip is known to be. No condition. -/
import Derived.Test.YtbehabaoeicgeaaW8b
import Derived.Test.YtbehabaoeicgeaaW7e
import Derived.Deep.OwnRows
namespace Go.Proofs.Ytbehabaoeicgeaa.Fs
open Go.RowKit

def sRule (T : Tar) (X : Trip) (k : Nat) : Int × Int := rAt T (listG X.segs k).zone (begins X k).1 (begins X k).2
def sErr (T : Tar) (X : Trip) (k : Nat) : Int := if errMoment (begins X k).1 (begins X k).2 ≠ 0 then errMoment (begins X k).1 (begins X k).2 else (sRule T X k).2
def rulesErr (T : Tar) (X : Trip) : Int := if (checkTrip' T X).2 ≠ 0 then (checkTrip' T X).2 else fst (sErr T X) X.segs.length
def rulesL (T : Tar) (X : Trip) : List Int := (List.range X.segs.length).map fun k => (sRule T X k).1
theorem rulesL_length (T : Tar) (X : Trip) : (rulesL T X).length = X.segs.length := by simp [rulesL]
theorem rulesL_at {T : Tar} {X : Trip} {k : Nat} (h : k < X.segs.length) : listI (rulesL T X) k = (sRule T X k).1 := by
  unfold listI rulesL
  simp [List.getD_eq_getElem?_getD, h]

/-- What an accepted trip is. -/
theorem trip_ok {T : Tar} {X : Trip} (h : (checkTrip' T X).2 = 0) :
    errTar T = 0 ∧ errMoment X.date X.time = 0 ∧ (errExtras' T X.extras).2 = 0 ∧ (errSegs' T X.segs).2 = 0 := by
  unfold checkTrip' at h
  by_cases h1 : errTar T = 0
  · rw [if_neg (fun hh => hh h1)] at h
    by_cases h2 : errMoment X.date X.time = 0
    · rw [if_neg (fun hh => hh h2)] at h
      by_cases h3 : (errExtras' T X.extras).2 = 0
      · rw [if_neg (fun hh => hh h3)] at h
        exact ⟨h1, h2, h3, h⟩
      · rw [if_pos h3] at h
        exact absurd h h3
    · rw [if_pos h2] at h
      exact absurd h h2
  · rw [if_pos h1] at h
    exact absurd h h1
theorem within_true {n a b : Int} (h : within n a b = true) : a ≤ n ∧ n ≤ b := by
  unfold within at h
  simpa using h
theorem segs_ok {T : Tar} {l : List Seg} (h : (errSegs' T l).2 = 0) : 1 ≤ l.length ∧ l.length ≤ 60 ∧ ∀ k, k < l.length → (0 ≤ (listG l k).metres ∧ (listG l k).metres ≤ 100000) ∧ (1 ≤ (listG l k).seconds ∧ (listG l k).seconds ≤ 36000) := by
  unfold errSegs' at h
  by_cases h0 : l.length = 0
  · rw [if_pos h0] at h; simp at h
  · rw [if_neg h0] at h
    by_cases h1 : 60 < l.length
    · rw [if_pos h1] at h; simp at h
    · rw [if_neg h1] at h
      refine ⟨by omega, by omega, fun k hk => ?_⟩
      have hb : segBad T l k = 0 := fst_zero h k hk
      unfold segBad errSeg at hb
      split at hb
      · simp at hb
      · split at hb
        · rename_i hw
          simp only [Bool.and_eq_true] at hw
          exact ⟨within_true hw.1, within_true hw.2⟩
        · simp at hb
theorem moment_ok {d t : Int} (h : errMoment d t = 0) : (0 ≤ d ∧ d ≤ 100000) ∧ (0 ≤ t ∧ t ≤ 86399) := by
  unfold errMoment at h
  split at h
  · rename_i hw
    simp only [Bool.and_eq_true] at hw
    exact ⟨within_true hw.1, within_true hw.2⟩
  · simp at h
end Go.Proofs.Ytbehabaoeicgeaa.Fs
namespace Go.Proofs.Ytbehabaoeicgeaa
open Go.RowKit Fs

/-- A row of n cells at g that the call has made, a moment's two cells behind it, all below g as in w0. -/
structure LoopR (w0 w : World) (g : Nat) (ti n : Nat) (f : Nat → Value) (d t : Int) : Prop where
  row : w.rowIs g ti n f
  c0 : w.cell? ⟨g + 1, 0, none⟩ = some (.int .i64 d)
  c1 : w.cell? ⟨g + 1, 1, none⟩ = some (.int .i64 t)
  f0 : w.frozen? ⟨g + 1, 0, none⟩ = false
  f1 : w.frozen? ⟨g + 1, 1, none⟩ = false
  bel : Below g w0 w
theorem LoopR.lt {w0 w : World} {g ti n : Nat} {f : Nat → Value} {d t : Int} (h : LoopR w0 w g ti n f d t) : g + 1 < w.heap.size := World.block_lt_of_cell? w _ h.c0
theorem LoopR.below {w0 w w' : World} {g ti n : Nat} {f : Nat → Value} {d t : Int} (h : LoopR w0 w g ti n f d t) (hb : Below w.heap.size w w') : LoopR w0 w' g ti n f d t :=
  ⟨h.row.of_block (hb.block g (by have := h.lt; omega)), (hb.cell (p := ⟨g + 1, 0, none⟩) h.lt).trans h.c0, (hb.cell (p := ⟨g + 1, 1, none⟩) h.lt).trans h.c1,
    (hb.frozen (p := ⟨g + 1, 0, none⟩) h.lt).trans h.f0, (hb.frozen (p := ⟨g + 1, 1, none⟩) h.lt).trans h.f1, h.bel.trans (hb.mono (by have := h.lt; omega))⟩
theorem LoopR.alloc {w0 w : World} {g ti n : Nat} {f : Nat → Value} {d t : Int} (h : LoopR w0 w g ti n f d t) (o : Obj) : LoopR w0 (w.alloc o) g ti n f d t :=
  h.below ((Below.refl _ _).alloc (Nat.le_refl _) o)
theorem LoopR.put {w0 w : World} {g ti n : Nat} {f : Nat → Value} {d t : Int} (h : LoopR w0 w g ti n f d t) (i : Nat) (v : Value) :
    LoopR w0 (w.setCell ⟨g, i, none⟩ v) g ti n (fun j => if j = i then v else f j) d t :=
  ⟨h.row.set i v, (World.cell?_setCell_far _ _ _ _ (by simp)).trans h.c0, (World.cell?_setCell_far _ _ _ _ (by simp)).trans h.c1, (World.frozen?_setCell _ _ _ _).trans h.f0, (World.frozen?_setCell _ _ _ _).trans h.f1, h.bel.setCell (p := ⟨g, i, none⟩) (Nat.le_refl _) v⟩
theorem row_arr {w : World} {g ti : Nat} {l : List Int} {f : Nat → Value} (h : w.rowIs g ti l.length f) (hf : ∀ i, i < l.length → f i = .int .i64 (listI l i)) (hl : l.length ≤ 9223372036854775807) : ArrI w (some ⟨g, 0, none⟩) l l.length :=
  ⟨Nat.le_refl _, hl, fun _ => ⟨g, 0, rfl, fun i j hi hj => by
    have hj0 : j = 0 := by omega
    subst hj0
    have := h.cell hi
    rw [hf i hi] at this
    simpa using this⟩⟩
end Go.Proofs.Ytbehabaoeicgeaa

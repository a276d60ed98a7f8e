/- The reference's earliest arrivals and estimates. Conditions: the net is right; the places are places; the time is small. -/
import Derived.Test.YtndhpdjcpagghaaGreatDoorT43
import Derived.Test.YtndhpdjcpagghaaGreatDoorT38
import Derived.Test.YtndhpdjcpagghaaGreatDoorT36
namespace Go.Proofs.YtndhpdjcpagghaaGreatDoor
open Go.RowKit Fs

theorem ArrI.far {B : Nat} {w : World} {g : Nat} {l : List Int} {c : Nat} (h : ArrI w (some ⟨g, 0, none⟩) l c) (hg : B ≤ g) {p : Addr} (hp : p.block < B) (v : Value) : ArrI (w.setCell p v) (some ⟨g, 0, none⟩) l c :=
  Arr.far h (fun ad e => by injection e with e; subst e; exact hg) hp v

theorem cell_off2 {w : World} (g h i : Nat) (u v x : Value) (hc : w.cell? ⟨h, i, none⟩ = some x) (hne : g ≠ h) : ((w.setCell ⟨g, 0, none⟩ u).setCell ⟨g, 1, none⟩ v).cell? ⟨h, i, none⟩ = some x := by
  rw [World.cell?_setCell_far _ _ _ _ (by show g ≠ h; omega), World.cell?_setCell_far _ _ _ _ (by show g ≠ h; omega)]
  exact hc
/-- Both labels of a place, and whether there is a way. -/
abbrev estBack (x y : Int) : Value := .tuple #[.agg #[.int .i64 x, .int .i64 y], .bool (decide (0 ≤ x))]
theorem Fs.place_two (N : Net) (f t : Int) : placesErr N [f, t] = if isPlace N f = true ∧ isPlace N t = true then 0 else 6 := by
  unfold placesErr
  show fst _ 2 = _
  cases h1 : isPlace N f with
  | false =>
    rw [if_neg (fun h => by cases h.1)]
    exact (fst_hit (k := 0) (by decide) (fun j hj => absurd hj (Nat.not_lt_zero _)) (by show (if isPlace N f then (0 : Int) else 6) ≠ 0; rw [h1]; decide)).1.trans (by show (if isPlace N f then (0 : Int) else 6) = 6; rw [h1]; rfl)
  | true =>
    have z : ∀ j, j < 1 → (if isPlace N (listI [f, t] j) then (0 : Int) else 6) = 0 := fun j hj => by
      obtain rfl : j = 0 := by omega
      show (if isPlace N f then (0 : Int) else 6) = 0
      rw [h1]; rfl
    cases h2 : isPlace N t with
    | false =>
      rw [if_neg (fun h => by cases h.2)]
      exact (fst_hit (k := 1) (by decide) z (by show (if isPlace N t then (0 : Int) else 6) ≠ 0; rw [h2]; decide)).1.trans (by show (if isPlace N t then (0 : Int) else 6) = 6; rw [h2]; rfl)
    | true =>
      rw [if_pos ⟨rfl, rfl⟩]
      refine fst_none fun j hj => ?_
      rcases (show j = 0 ∨ j = 1 by omega) with rfl | rfl
      · exact z 0 (by decide)
      · show (if isPlace N t then (0 : Int) else 6) = 0
        rw [h2]; rfl
theorem Fs.fst2 (x y : Int) : fst (listI [x, y]) 2 = if x = 0 then y else x := by
  by_cases h : x = 0
  · rw [if_pos h]
    by_cases h2 : y = 0
    · rw [h, h2]; rfl
    · exact (fst_hit (f := listI [x, y]) (k := 1) (by decide) (fun j hj => by obtain rfl : j = 0 := (by omega); exact h) h2).1
  · rw [if_neg h]
    exact (fst_hit (f := listI [x, y]) (k := 0) (by decide) (fun j hj => absurd hj (Nat.not_lt_zero _)) h).1
theorem Fs.trip_is (N : Net) (f t a : Int) : tripErr N f t a = if isPlace N f = true ∧ isPlace N t = true then timeErr a else 6 := by
  unfold tripErr
  rw [fst2, place_two]
  by_cases h : isPlace N f = true ∧ isPlace N t = true
  · rw [if_pos h, if_pos h, if_pos rfl]
  · rw [if_neg h, if_neg h, if_neg (by decide)]
end Go.Proofs.YtndhpdjcpagghaaGreatDoor
/- The reference's latest time to set out. Conditions: the net is right; the places are places; the time is small. -/
namespace Go.Proofs.YtndhpdjcpagghaaGreatDoor
open Go.RowKit Fs

/-- Where one way leads, it leads at any time, by any steps. -/
theorem Fs.search_reach {N : Net} {nx nx' : Nat → Int → Int} (hN : Joined N) (hg : Good N nx) (hg' : Good N nx') {src : Nat} (hs : src < N.places.length) {a b : Int} (ha : 0 ≤ a) (hb : 0 ≤ b) :
    ∀ z, z < N.places.length → listI (search N src a nx).labels z ≠ -1 → listI (search N src b nx').labels z ≠ -1 := by
  have A := search_found hN hg hs ha
  have B := search_found hN hg' hs hb
  generalize search N src a nx = S at *
  generalize search N src b nx' = T at *
  obtain ⟨rk, ht⟩ := A.tree
  have key : ∀ n z, rk z ≤ n → z < N.places.length → listI S.labels z ≠ -1 → listI T.labels z ≠ -1 := by
    intro n
    induction n with
    | zero =>
      intro z hr hz hl
      by_cases e : listI S.last z = -1
      · rcases A.back z hz e with h1 | h1
        · subst h1; rw [B.own]; omega
        · exact absurd h1 hl
      · obtain ⟨-, i, -, -, -, -, -, h6⟩ := ht z hz e
        omega
    | succ n ih =>
      intro z hr hz hl
      by_cases e : listI S.last z = -1
      · rcases A.back z hz e with h1 | h1
        · subst h1; rw [B.own]; omega
        · exact absurd h1 hl
      · obtain ⟨-, i, h1, h2, h3, h4, h5, h6⟩ := ht z hz e
        have hj := hN i h1
        have k1 := ih (listD N.roads i).src.toNat (by omega) (by omega) h4
        have hst := B.step i h1 k1
        rw [h3, Int.toNat_natCast] at hst
        exact hst.1
  exact fun z => key (rk z) z (Nat.le_refl _)
def Fs.lateAt (N : Net) (f t : Nat) (m : Int) : Int := listI (search N f m (latest N)).labels t
def Fs.NoWay (N : Net) (f t : Nat) (a : Int) : Prop := listI (search N f 0 (soonest N)).labels t < 0 ∨ a < lateAt N f t 0
def Fs.LatestRef (N : Net) (f t : Nat) (a r : Int) : Prop :=
  (NoWay N f t a ∧ r = -1) ∨ (¬ NoWay N f t a ∧ 0 ≤ r ∧ r ≤ 604800 ∧ lateAt N f t r ≤ a ∧ ∀ m, r < m → m ≤ 604800 → a < lateAt N f t m)
theorem Fs.late_up {N : Net} (hE : netErr N = 0) {f t : Nat} (hf : f < N.places.length) (ht : t < N.places.length) (h : ¬ listI (search N f 0 (soonest N)).labels t < 0) {x y : Int} (hx : 0 ≤ x) (hxy : x ≤ y) :
    x ≤ lateAt N f t x ∧ lateAt N f t x ≤ lateAt N f t y := by
  have r := search_reach (net_joined hE) (soonest_good hE) (latest_good hE) hf (Int.le_refl 0) (show 0 ≤ y by omega) t ht (by omega)
  have r2 := search_reach (net_joined hE) (soonest_good hE) (latest_good hE) hf (Int.le_refl 0) hx t ht (by omega)
  have l := (search_found (net_joined hE) (latest_good hE) hf hx).least t ht
  have := (search_later (net_joined hE) (latest_good hE) hf hx hxy t ht r).2
  unfold lateAt
  omega

end Go.Proofs.YtndhpdjcpagghaaGreatDoor

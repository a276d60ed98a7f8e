/- A net without one of its roads: it is right where the net is, and no place is reached earlier. Lists and numbers alone. -/
import Derived.Test.YtnjaadmmbdlfoaaN2
namespace Go.Proofs.Ytnjaadmmbdlfoaa
open Fs

def Fs.withoutN (N : Net) (r : Nat) : Net := ⟨N.places, N.roads.eraseIdx r⟩
def Fs.upOf (r i : Nat) : Nat := if i < r then i else i + 1
theorem Fs.wo_len {N : Net} {r : Nat} (hr : r < N.roads.length) : (withoutN N r).roads.length = N.roads.length - 1 := by
  show (N.roads.eraseIdx r).length = _
  rw [List.length_eraseIdx, if_pos hr]
theorem Fs.wo_at (N : Net) (r i : Nat) : listD (withoutN N r).roads i = listD N.roads (upOf r i) := by
  show (N.roads.eraseIdx r).getD i d0 = N.roads.getD (upOf r i) d0
  rw [List.getD_eq_getElem?_getD, List.getD_eq_getElem?_getD, List.getElem?_eraseIdx]
  unfold upOf
  split <;> rfl
theorem Fs.upOf_lt {N : Net} {r i : Nat} (hr : r < N.roads.length) (hi : i < (withoutN N r).roads.length) : upOf r i < N.roads.length := by
  rw [wo_len hr] at hi
  unfold upOf
  split <;> omega
theorem Fs.errName_zero {f : Nat → ByteArray} {i : Nat} (h : errName f i = 0) : isName (f i) = true ∧ ∀ j, j < i → f j ≠ f i := by
  unfold errName at h
  cases hn : isName (f i) with
  | false => rw [hn] at h; cases h
  | true =>
    rw [hn, if_pos rfl] at h
    refine ⟨rfl, fun j hj e => ?_⟩
    have := fst_zero h j hj
    rw [if_pos e] at this
    cases this
theorem Fs.errName_none {f : Nat → ByteArray} {i : Nat} (h1 : isName (f i) = true) (h2 : ∀ j, j < i → f j ≠ f i) : errName f i = 0 := by
  unfold errName
  rw [h1, if_pos rfl]
  exact fst_none fun j hj => if_neg (h2 j hj)
theorem Fs.errRoad_parts {N : Net} {i : Nat} (h : (errRoad N i).2 = 0) : errName (fun j => (listD N.roads j).name) i = 0 ∧ errForm N (listD N.roads i) = 0 ∧ (errPoints (listD N.roads i).pts).2 = 0 := by
  unfold errRoad at h
  by_cases h0 : errName (fun j => (listD N.roads j).name) i = 0
  · rw [if_neg (Decidable.not_not.2 h0)] at h
    by_cases h1 : errForm N (listD N.roads i) = 0
    · rw [if_neg (Decidable.not_not.2 h1)] at h
      exact ⟨h0, h1, h⟩
    · rw [if_pos h1] at h; exact absurd h h1
  · rw [if_pos h0] at h; exact absurd h h0
theorem Fs.errRoad_of {N : Net} {i : Nat} (h0 : errName (fun j => (listD N.roads j).name) i = 0) (h1 : errForm N (listD N.roads i) = 0) (h2 : (errPoints (listD N.roads i).pts).2 = 0) : (errRoad N i).2 = 0 := by
  unfold errRoad
  rw [if_neg (Decidable.not_not.2 h0), if_neg (Decidable.not_not.2 h1)]
  exact h2
theorem Fs.upOf_mono {r i j : Nat} (h : i < j) : upOf r i < upOf r j := by
  unfold upOf
  split <;> split <;> omega
theorem Fs.wo_right {N : Net} {r : Nat} (hN : netErr N = 0) (hr : r < N.roads.length) : netErr (withoutN N r) = 0 := by
  obtain ⟨h0, h1, h2, h3⟩ := net_sound hN
  have hpl : fst (errName (listS N.places)) N.places.length = 0 := by
    unfold netErr checkNet at hN
    rw [if_neg h0, if_neg (by omega)] at hN
    by_cases h2 : fst (errName (listS N.places)) N.places.length = 0
    · exact h2
    · rw [if_pos h2] at hN; exact absurd hN h2
  have hl := wo_len hr
  unfold netErr checkNet
  rw [show (withoutN N r).places = N.places from rfl, if_neg h0, if_neg (by omega), if_neg (Decidable.not_not.2 hpl), if_neg (by omega), if_neg]
  refine Decidable.not_not.2 (fst_none fun i hi => ?_)
  obtain ⟨a, b, c⟩ := errRoad_parts (h3 (upOf r i) (upOf_lt hr hi))
  obtain ⟨a1, a2⟩ := errName_zero a
  refine errRoad_of (errName_none ?_ fun j hj => ?_) ?_ ?_
  · show isName (listD (withoutN N r).roads i).name = true
    rw [wo_at]; exact a1
  · show (listD (withoutN N r).roads j).name ≠ (listD (withoutN N r).roads i).name
    rw [wo_at, wo_at]; exact a2 _ (upOf_mono hj)
  · rw [wo_at]; exact b
  · rw [wo_at]; exact c
/-- Steps of the net without a road. -/
theorem Fs.wo_soonest (N : Net) (r : Nat) : soonest (withoutN N r) = fun i => soonest N (upOf r i) := by
  funext i a; unfold soonest; rw [wo_at]
theorem Fs.wo_latest (N : Net) (r : Nat) : latest (withoutN N r) = fun i => latest N (upOf r i) := by
  funext i a; unfold latest; rw [wo_at]
theorem Fs.wo_further (N : Net) (r : Nat) : further (withoutN N r) = fun i => further N (upOf r i) := by
  funext i a; unfold further; rw [wo_at]
/-- What a net reaches whose roads are among those of another one is reached there, and no later. -/
theorem Fs.found_less {N M : Net} {nx nx' : Nat → Int → Int} {up : Nat → Nat} {f : Nat} {L : Int} {s s' : St} (F : Found N nx f L s) (G : Found M nx' f L s') (hg : Good N nx) (hL : 0 ≤ L) (hp : M.places.length = N.places.length) (hM : Joined M)
    (hup : ∀ i, i < M.roads.length → up i < N.roads.length ∧ (listD N.roads (up i)).src = (listD M.roads i).src ∧ (listD N.roads (up i)).dst = (listD M.roads i).dst) (hnx : ∀ i x, i < M.roads.length → nx' i x = nx (up i) x) :
    ∀ z, z < N.places.length → listI s'.labels z ≠ -1 → listI s.labels z ≠ -1 ∧ listI s.labels z ≤ listI s'.labels z := by
  obtain ⟨rk, ht⟩ := G.tree
  have key : ∀ n z, rk z ≤ n → z < N.places.length → listI s'.labels z ≠ -1 → listI s.labels z ≠ -1 ∧ listI s.labels z ≤ listI s'.labels z := by
    intro n
    induction n with
    | zero =>
      intro z hr hz hl
      by_cases e : listI s'.last z = -1
      · rcases G.back z (by omega) e with h1 | h1
        · subst h1; rw [F.own, G.own]; exact ⟨by omega, Int.le_refl _⟩
        · exact absurd h1 hl
      · obtain ⟨-, i, -, -, -, -, -, h6⟩ := ht z (by omega) e
        omega
    | succ n ih =>
      intro z hr hz hl
      by_cases e : listI s'.last z = -1
      · rcases G.back z (by omega) e with h1 | h1
        · subst h1; rw [F.own, G.own]; exact ⟨by omega, Int.le_refl _⟩
        · exact absurd h1 hl
      · obtain ⟨-, i, h1, h2, h3, h4, h5, h6⟩ := ht z (by omega) e
        have hj := hM i h1
        obtain ⟨u1, u2, u3⟩ := hup i h1
        obtain ⟨k1, k2⟩ := ih (listD M.roads i).src.toNat (by omega) (by omega) h4
        have hst := F.step (up i) u1 (by rw [u2]; exact k1)
        rw [u2, u3, h3, Int.toNat_natCast] at hst
        have hS : 0 ≤ listI s.labels (listD M.roads i).src.toNat := by
          rcases F.least (listD M.roads i).src.toNat (by omega) with h | h
          · exact absurd h k1
          · omega
        have := hg.mono (up i) _ _ u1 hS k2
        rw [hnx i _ h1] at h5
        exact ⟨hst.1, by omega⟩
  exact fun z hz hl => key (rk z) z (Nat.le_refl _) hz hl
/-- Which places are reached does not depend on the steps. -/
theorem Fs.found_reach {N : Net} {nx nx' : Nat → Int → Int} {f : Nat} {L L' : Int} {s s' : St} (F : Found N nx f L s) (G : Found N nx' f L' s') (hN : Joined N) (hL : 0 ≤ L) :
    ∀ z, z < N.places.length → listI s'.labels z ≠ -1 → listI s.labels z ≠ -1 := by
  obtain ⟨rk, ht⟩ := G.tree
  have key : ∀ n z, rk z ≤ n → z < N.places.length → listI s'.labels z ≠ -1 → listI s.labels z ≠ -1 := by
    intro n
    induction n with
    | zero =>
      intro z hr hz hl
      by_cases e : listI s'.last z = -1
      · rcases G.back z hz e with h1 | h1
        · subst h1; rw [F.own]; omega
        · exact absurd h1 hl
      · obtain ⟨-, i, -, -, -, -, -, h6⟩ := ht z hz e
        omega
    | succ n ih =>
      intro z hr hz hl
      by_cases e : listI s'.last z = -1
      · rcases G.back z hz e with h1 | h1
        · subst h1; rw [F.own]; omega
        · exact absurd h1 hl
      · obtain ⟨-, i, h1, h2, h3, h4, h5, h6⟩ := ht z hz e
        have hj := hN i h1
        have k1 := ih (listD N.roads i).src.toNat (by omega) (by omega) h4
        have hst := F.step i h1 k1
        rw [h3, Int.toNat_natCast] at hst
        exact hst.1
  exact fun z hz hl => key (rk z) z (Nat.le_refl _) hz hl
theorem Fs.wo_less {N : Net} {r : Nat} (hE : netErr N = 0) (hr : r < N.roads.length) {nx nx' : Nat → Int → Int} (hg : Good N nx) (hg' : Good (withoutN N r) nx') (hnx : nx' = fun i => nx (upOf r i)) {f : Nat} (hf : f < N.places.length) {L : Int} (hL : 0 ≤ L) {z : Nat} (hz : z < N.places.length)
    (h : listI (search (withoutN N r) f L nx').labels z ≠ -1) : listI (search N f L nx).labels z ≠ -1 ∧ listI (search N f L nx).labels z ≤ listI (search (withoutN N r) f L nx').labels z :=
  found_less (up := upOf r) (search_found (net_joined hE) hg hf hL) (search_found (net_joined (wo_right hE hr)) hg' (by exact hf) hL) hg hL rfl (net_joined (wo_right hE hr))
    (fun i hi => ⟨upOf_lt hr hi, by rw [wo_at], by rw [wo_at]⟩) (fun i x _ => by rw [hnx]) z hz h
/-- Arrivals and metres are told of just the places that are reached. -/
theorem Fs.reach_same {N : Net} (hE : netErr N = 0) {nx nx' : Nat → Int → Int} (hg : Good N nx) (hg' : Good N nx') {f : Nat} (hf : f < N.places.length) {L L' : Int} (hL : 0 ≤ L) (hL' : 0 ≤ L') {z : Nat} (hz : z < N.places.length) :
    listI (search N f L nx).labels z = -1 ↔ listI (search N f L' nx').labels z = -1 := by
  have F := search_found (net_joined hE) hg hf hL
  have G := search_found (net_joined hE) hg' hf hL'
  constructor
  · intro h
    refine Decidable.byContradiction fun h2 => ?_
    exact found_reach F G (net_joined hE) hL z hz h2 h
  · intro h
    refine Decidable.byContradiction fun h2 => ?_
    exact found_reach G F (net_joined hE) hL' z hz h2 h
end Go.Proofs.Ytnjaadmmbdlfoaa

/- HeightsFrom; and what a shortest way is like. Condition: the net can be read. -/
import Derived.Test.YtjmaankkbdpikaaT53
import Derived.Test.YtjmaankkbdpikaaT52
import Derived.Deep.RegionHeld3
import Derived.Deep.CutRange
import Derived.Test.YtjmaankkbdpikaaT47
import Derived.Test.YtjmaankkbdpikaaT17
namespace Go.Proofs.Ytjmaankkbdpikaa
open Go.RowKit Fs

theorem arr1New (w : World) (x : Int) (ty : TypeId) : ArrI (w.alloc (.cells #[.int .i64 x] ty)) (some ⟨w.heap.size, 0, none⟩) [x] 1 := by
  refine ⟨Nat.le_refl _, by decide, fun _ => ⟨w.heap.size, 0, rfl, fun i j hi hj => ?_⟩⟩
  have hj0 : j = 0 := by omega
  have hi : i < 1 := hi
  have hi0 : i = 0 := by omega
  subst hj0; subst hi0
  exact cellNew w _ _ 0
theorem Fs.place_one (N : Net) (f : Int) : placesErr N [f] = if isPlace N f then 0 else 6 := by
  unfold placesErr
  show fst _ 1 = _
  cases h1 : isPlace N f with
  | false => exact (fst_hit (k := 0) (by decide) (fun j hj => absurd hj (Nat.not_lt_zero _)) (by show (if isPlace N f then (0 : Int) else 6) ≠ 0; rw [h1]; decide)).1.trans (by show (if isPlace N f then (0 : Int) else 6) = _; rw [h1])
  | true =>
    refine fst_none fun j hj => ?_
    obtain rfl : j = 0 := by omega
    show (if isPlace N f then (0 : Int) else 6) = 0
    rw [h1]
    rfl
def Fs.hfErr (N : Net) (f : Int) : Int := fst (listI [netErr N, placesErr N [f]]) 2
def Fs.hfList (N : Net) (f : Int) : List Int := if hfErr N f = 0 then heights N f else []
theorem Fs.hfErr_ok {N : Net} {f : Int} (h : hfErr N f = 0) : netErr N = 0 ∧ 0 ≤ f ∧ f < N.places.length :=
  ⟨fst_zero h 0 (by decide), place_in (fst_zero h 1 (by decide) : placesErr N [f] = 0) (k := 0) (by show 0 < 1; decide)⟩
theorem Fs.heights_len (N : Net) (f : Int) : (heights N f).length = N.places.length := search_len.1

/-! ### the way back is a way -/
theorem listI_app1 {l m : List Int} {i : Nat} (h : i < l.length) : listI (l ++ m) i = listI l i := by
  unfold listI
  rw [List.getD_eq_getElem?_getD, List.getD_eq_getElem?_getD, List.getElem?_append_left h]
theorem listI_app2 {l : List Int} {x : Int} : listI (l ++ [x]) l.length = x := by
  unfold listI
  rw [List.getD_eq_getElem?_getD, List.getElem?_append_right (Nat.le_refl _)]
  simp
theorem Fs.along_app (nx : Nat → Int → Int) (l m : List Int) (x : Int) : ∀ k, k ≤ l.length → alongTo nx k (l ++ m) x = alongTo nx k l x
  | 0, _ => rfl
  | k + 1, hk => by
    show nx (listI (l ++ m) k).toNat _ = nx (listI l k).toNat _
    rw [along_app nx l m x k (by omega), listI_app1 (by omega)]
theorem Fs.joins_none {N : Net} {l : List Int} {f t : Int} (h : l.length = 0) (h2 : f = t) : JoinsIs N l f t := by unfold JoinsIs; rw [if_pos h]; exact h2
theorem Fs.joins_some {N : Net} {l : List Int} {f t : Int} (h : l.length ≠ 0) (h2 : JoinsIs N l f t) : (listD N.roads (listI l 0).toNat).src = f ∧ (listD N.roads (listI l (l.length - 1)).toNat).dst = t := by unfold JoinsIs at h2; rwa [if_neg h] at h2
structure Fs.WayIs (N : Net) (nx : Nat → Int → Int) (src z : Nat) (L y : Int) (l : List Int) : Prop where
  inside : ∀ j, j < l.length → 0 ≤ listI l j ∧ listI l j < N.roads.length
  hops : ∀ j, 0 < j → j < l.length → (listD N.roads (listI l (j - 1)).toNat).dst = (listD N.roads (listI l j).toNat).src
  joins : JoinsIs N l src z
  along : alongTo nx l.length l L = y
theorem Fs.Found.chain {N : Net} {nx : Nat → Int → Int} {src : Nat} {L : Int} {s : St} (hs : src < N.places.length) (hF : Found N nx src L s) (hJ : Joined N) : ∃ rk : Nat → Nat, (∀ z, z < N.places.length → rk z ≤ N.places.length) ∧ ∀ z l, Chain N s.last z l → z < N.places.length → listI s.labels z ≠ -1 → l.length ≤ rk z ∧ WayIs N nx src z L (listI s.labels z) l.reverse := by
  obtain ⟨rk, ht⟩ := hF.tree
  refine ⟨fun z => if listI s.last z = -1 then 0 else rk z, fun z hz => ?_, fun z l hc => ?_⟩
  · dsimp only
    by_cases e : listI s.last z = -1
    · rw [if_pos e]; exact Nat.zero_le _
    · rw [if_neg e]; have := (ht z hz e).1; omega
  · induction hc with
    | stop z hl =>
      intro hz hy
      rcases hF.back z hz hl with h | h
      · subst h
        exact ⟨Nat.zero_le _, fun j hj => absurd hj (Nat.not_lt_zero _), fun j _ hj => absurd hj (Nat.not_lt_zero _), joins_none rfl rfl, hF.own.symm⟩
      · exact absurd h hy
    | go z i l hl hc ih =>
      intro hz hy
      have hne : listI s.last z ≠ -1 := by rw [hl]; omega
      obtain ⟨h1, i', h2, h3, h4, h5, h6, h7⟩ := ht z hz hne
      obtain rfl : i = i' := by rw [hl] at h3; omega
      obtain ⟨⟨s0, s1⟩, -⟩ := hJ i h2
      obtain ⟨k1, k2⟩ := ih (by omega) h5
      have hrl : (l.reverse).length = l.length := List.length_reverse
      have hrev : ((i : Int) :: l).reverse = l.reverse ++ [(i : Int)] := List.reverse_cons
      have hlen : (((i : Int) :: l).reverse).length = l.length + 1 := by simp
      refine ⟨?_, ⟨fun j hj => ?_, fun j hj0 hj => ?_, ?_, ?_⟩⟩
      · show l.length + 1 ≤ if listI s.last z = -1 then 0 else rk z
        rw [if_neg hne]
        dsimp only at k1
        by_cases e : listI s.last (listD N.roads i).src.toNat = -1
        · rw [if_pos e] at k1; omega
        · rw [if_neg e] at k1; omega
      · rw [hlen] at hj
        rw [hrev]
        by_cases e : j = l.length
        · subst e
          have := listI_app2 (l := l.reverse) (x := (i : Int))
          rw [hrl] at this
          rw [this]; omega
        · rw [listI_app1 (by rw [hrl]; omega)]
          exact k2.inside j (by rw [hrl]; omega)
      · rw [hlen] at hj
        rw [hrev]
        by_cases e : j = l.length
        · subst e
          have := listI_app2 (l := l.reverse) (x := (i : Int))
          rw [hrl] at this
          rw [this, listI_app1 (by rw [hrl]; omega), Int.toNat_natCast]
          have := (joins_some (by rw [hrl]; omega) k2.joins).2
          rw [hrl] at this
          rw [this]
          omega
        · rw [listI_app1 (by rw [hrl]; omega), listI_app1 (by rw [hrl]; omega)]
          exact k2.hops j hj0 (by rw [hrl]; omega)
      · have hlast := listI_app2 (l := l.reverse) (x := (i : Int))
        rw [hrl] at hlast
        unfold JoinsIs
        rw [hlen, if_neg (by omega), hrev, Nat.add_sub_cancel, hlast, Int.toNat_natCast]
        refine ⟨?_, h4⟩
        by_cases e : l.length = 0
        · have e0 := k2.joins
          unfold JoinsIs at e0
          rw [hrl, if_pos e] at e0
          rw [e] at hlast
          rw [hlast, Int.toNat_natCast]
          omega
        · rw [listI_app1 (by rw [hrl]; omega)]
          exact (joins_some (by rw [hrl]; omega) k2.joins).1
      · rw [hlen, hrev]
        show nx (listI (l.reverse ++ [(i : Int)]) l.length).toNat (alongTo nx l.length (l.reverse ++ [(i : Int)]) L) = _
        have := listI_app2 (l := l.reverse) (x := (i : Int))
        rw [hrl] at this
        rw [this, along_app nx _ _ _ _ (by rw [hrl]; exact Nat.le_refl _), Int.toNat_natCast, h6]
        have := k2.along
        rw [hrl] at this
        rw [this]
end Go.Proofs.Ytjmaankkbdpikaa
/- Lists of labels: what is wrong with them, and whether they prove. Conditions: the net can be read, or is right; at most ten lists. -/
namespace Go.Proofs.Ytjmaankkbdpikaa
open Go.RowKit Fs

def Fs.LabFit (N : Net) (ls : List (List Int)) : Prop := ∀ i, i < ls.length → (listL ls i).length = N.places.length
def Fs.LabIn (l : List Int) : Prop := ∀ j, j < l.length → within (listI l j) (-1) 1000000000000000 = true
instance (N : Net) (ls : List (List Int)) : Decidable (LabFit N ls) := inferInstanceAs (Decidable (∀ i, i < ls.length → _))
instance (l : List Int) : Decidable (LabIn l) := inferInstanceAs (Decidable (∀ i, i < l.length → _))
def Fs.labErr (N : Net) (ls : List (List Int)) : Int := if LabFit N ls then (if LabIn (flatTo ls ls.length) then 0 else 2) else 10

/-- Labels prove that no way leads to less. -/
def Fs.Proof (N : Net) (nx : Nat → Int → Int) (l : List Int) (k : Nat) : Prop :=
  ∀ i, i < k → listI l (listD N.roads i).src.toNat = -1 ∨ (listI l (listD N.roads i).dst.toNat ≠ -1 ∧ listI l (listD N.roads i).dst.toNat ≤ nx i (listI l (listD N.roads i).src.toNat))
instance (N : Net) (nx : Nat → Int → Int) (l : List Int) (k : Nat) : Decidable (Proof N nx l k) := inferInstanceAs (Decidable (∀ i, i < k → _))

end Go.Proofs.Ytjmaankkbdpikaa
/- Takes: how long a road takes at a time. Condition: the net can be read. -/
namespace Go.Proofs.Ytjmaankkbdpikaa
open Go.RowKit Fs

def Fs.noRoad (N : Net) (i : Int) : Int := if isRoad N i then 0 else 6
def Fs.tkErr (N : Net) (i a : Int) : Int := fst (listI [netErr N, noRoad N i, timeErr a]) 3
def Fs.takes (N : Net) (i a : Int) : (Int × Int) × Int :=
  if tkErr N i a = 0 then (takesAt (listD N.roads i.toNat).pts a, 0) else ((0, 0), tkErr N i a)
theorem Fs.tkErr_ok {N : Net} {i a : Int} (h : tkErr N i a = 0) : netErr N = 0 ∧ (0 ≤ i ∧ i < N.roads.length) ∧ 0 ≤ a ∧ a ≤ 604800 := by
  have h1 : noRoad N i = 0 := fst_zero h 1 (by decide)
  have h2 : timeErr a = 0 := fst_zero h 2 (by decide)
  refine ⟨fst_zero h 0 (by decide), ?_, ?_⟩
  · unfold noRoad at h1
    cases hp : isRoad N i with
    | true => have h := Fs.within_iff.1 hp; exact ⟨h.1, by omega⟩
    | false => rw [hp] at h1; exact absurd h1 (by decide)
  · unfold timeErr at h2
    cases hp : within a 0 604800 with
    | true => exact Fs.within_iff.1 hp
    | false => rw [hp] at h2; exact absurd h2 (by decide)

theorem arr3New (w : World) (x y z : Int) (ty : TypeId) : ArrI (w.alloc (.cells #[.int .i64 x, .int .i64 y, .int .i64 z] ty)) (some ⟨w.heap.size, 0, none⟩) [x, y, z] 3 := by
  refine ⟨Nat.le_refl _, by decide, fun _ => ⟨w.heap.size, 0, rfl, fun i j hi hj => ?_⟩⟩
  have hj0 : j = 0 := by omega
  subst hj0
  have hi : i < 3 := hi
  match i, hi with
  | 0, _ => exact cellNew w _ _ 0
  | 1, _ => exact cellNew w _ _ 1
  | 2, _ => exact cellNew w _ _ 2

end Go.Proofs.Ytjmaankkbdpikaa
/- CheckHeights: whether heights are accepted. Condition: the net can be read; at most a hundred thousand heights. -/
namespace Go.Proofs.Ytjmaankkbdpikaa
open Go.RowKit Fs

/-- Two numbers in a block. -/
structure PairAt (w : World) (g : Nat) (x y : Int) : Prop where
  c0 : w.cell? ⟨g, 0, none⟩ = some (.int .i64 x)
  c1 : w.cell? ⟨g, 1, none⟩ = some (.int .i64 y)
theorem PairAt.keep {w w' : World} (k : Keep w w') {g : Nat} {x y : Int} (h : PairAt w g x y) : PairAt w' g x y := ⟨k _ _ h.c0, k _ _ h.c1⟩
theorem PairAt.new1 (w : World) (B : Obj) (x y : Int) (ty : TypeId) : PairAt ((w.alloc B).alloc (.cells #[.int .i64 x, .int .i64 y] ty)) (w.heap.size + 1) x y := ⟨cellNew1 _ _ _ _ 0, cellNew1 _ _ _ _ 1⟩
theorem PairAt.arr {w : World} {g : Nat} {x y : Int} (h : PairAt w g x y) : ArrI w (some ⟨g, 0, none⟩) [x, y] 2 := by
  refine ⟨Nat.le_refl _, by decide, fun _ => ⟨g, 0, rfl, fun i j hi hj => ?_⟩⟩
  have hj0 : j = 0 := by omega
  subst hj0
  have hi : i < 2 := hi
  match i, hi with
  | 0, _ => exact h.c0
  | 1, _ => exact h.c1
theorem arrL1New (w : World) (A : Option Addr) (l : List Int) (c : Nat) (ty : TypeId) (h : ArrI (w.alloc (.cells #[.slice A l.length c] ty)) A l c) : ArrL (w.alloc (.cells #[.slice A l.length c] ty)) (some ⟨w.heap.size, 0, none⟩) [l] 1 ⟨fun _ => A, fun _ => c⟩ := by
  refine ⟨⟨Nat.le_refl _, by decide, fun _ => ⟨w.heap.size, 0, rfl, fun i j hi hj => ?_⟩⟩, fun i hi => ?_⟩
  · have hj0 : j = 0 := by omega
    have hi : i < 1 := hi
    have hi0 : i = 0 := by omega
    subst hj0; subst hi0
    exact cellNew w _ _ 0
  · have hi : i < 1 := hi
    have hi0 : i = 0 := by omega
    subst hi0
    exact h
theorem one_le {l : List Int} {B : Nat} (h : l.length ≤ B) : ∀ i, i < [l].length → (listL [l] i).length ≤ B := fun i hi => by
  have hi : i < 1 := hi
  obtain rfl : i = 0 := by omega
  exact h
def Fs.chErr (N : Net) (x y : Int) (l : List Int) : Int := fst (listI [netErr N, placesErr N [x, y], labErr N [l]]) 3
def Fs.chRes (N : Net) (x y : Nat) (l : List Int) : Int × Int :=
  if listI l x ≠ 0 ∨ ¬ Proof N (further N) l N.roads.length then (0, 20) else if listI l y = -1 then (0, 12) else (listI l y, 0)
def Fs.chHeights (N : Net) (x y : Int) (l : List Int) : Int × Int := if chErr N x y l = 0 then chRes N x.toNat y.toNat l else (0, chErr N x y l)
theorem Fs.labErr_one {N : Net} {l : List Int} (h : labErr N [l] = 0) : l.length = N.places.length ∧ LabIn l := by
  unfold labErr at h
  by_cases h1 : LabFit N [l]
  · rw [if_pos h1] at h
    by_cases h2 : LabIn (flatTo [l] [l].length)
    · exact ⟨h1 0 (by show 0 < 1; decide), h2⟩
    · rw [if_neg h2] at h; exact absurd h (by decide)
  · rw [if_neg h1] at h; exact absurd h (by decide)
theorem Fs.place_both {N : Net} {x y : Int} (h : placesErr N [x, y] = 0) : (0 ≤ x ∧ x < N.places.length) ∧ 0 ≤ y ∧ y < N.places.length :=
  ⟨place_in h (k := 0) (by show 0 < 2; decide), place_in h (k := 1) (by show 1 < 2; decide)⟩
theorem Fs.chErr_ok {N : Net} {x y : Int} {l : List Int} (h : chErr N x y l = 0) : netErr N = 0 ∧ ((0 ≤ x ∧ x < N.places.length) ∧ 0 ≤ y ∧ y < N.places.length) ∧ l.length = N.places.length ∧ LabIn l :=
  ⟨fst_zero h 0 (by decide), place_both (fst_zero h 1 (by decide)), labErr_one (fst_zero h 2 (by decide))⟩

end Go.Proofs.Ytjmaankkbdpikaa

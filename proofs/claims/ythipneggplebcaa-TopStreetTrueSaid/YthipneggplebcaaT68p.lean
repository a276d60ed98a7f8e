/- What a road truly takes, and what the earliest true arrivals are: plain. Condition: the net is right. -/
import Derived.Test.YthipneggplebcaaT64p
import Derived.Test.YthipneggplebcaaT60
import Derived.Test.YthipneggplebcaaT41
import Derived.Test.YthipneggplebcaaT42
namespace Go.Proofs.Ythipneggplebcaa
open Go.RowKit Fs

/-- Go's remainder brought up to 0 .. b - 1. -/
def Fs.pmod (n b : Int) : Int := if n.tmod b < 0 then n.tmod b + b else n.tmod b
theorem Fs.tmod_in (n : Int) {b : Int} (hb : 0 < b) : -b < n.tmod b ∧ n.tmod b < b := by
  have h1 := Int.tmod_lt_of_pos n hb
  have h2 := Int.tmod_lt_of_pos (-n) hb
  rw [Int.neg_tmod] at h2
  omega
theorem Fs.pmod_in (n : Int) {b : Int} (hb : 0 < b) : 0 ≤ pmod n b ∧ pmod n b < b := by
  have := tmod_in n hb
  unfold pmod
  by_cases h : n.tmod b < 0
  · rw [if_pos h]; omega
  · rw [if_neg h]; omega
def Fs.tt (N : Net) (i : Nat) (a p : Int) : Int := ((takesAt (listD N.roads i).pts a).1 * (1000 - p) + (takesAt (listD N.roads i).pts a).2 * p) / 1000
theorem Fs.mix_in {x y p : Int} (h1 : 0 ≤ x) (h2 : x ≤ y) (h3 : y ≤ 7200) (h4 : 0 ≤ p) (h5 : p ≤ 1000) : 1000 * x ≤ x * (1000 - p) + y * p ∧ x * (1000 - p) + y * p ≤ 1000 * y ∧ 0 ≤ x * (1000 - p) ∧ x * (1000 - p) ≤ 7200000 ∧ 0 ≤ y * p ∧ y * p ≤ 7200000 := by
  have e : x * (1000 - p) + y * p = 1000 * x + (y - x) * p := by
    rw [Int.mul_sub, Int.sub_mul]; omega
  have a := Int.mul_nonneg (show 0 ≤ y - x by omega) h4
  have b := Int.mul_le_mul_of_nonneg_left h5 (show 0 ≤ y - x by omega)
  have c := Int.mul_nonneg h1 (show 0 ≤ 1000 - p by omega)
  have d := Int.mul_le_mul_of_nonneg_left (show 1000 - p ≤ 1000 by omega) h1
  have f := Int.mul_nonneg (show 0 ≤ y by omega) h4
  have g := Int.mul_le_mul_of_nonneg_left h5 (show 0 ≤ y by omega)
  omega
theorem Fs.tt_in {N : Net} (hE : netErr N = 0) {i : Nat} (hi : i < N.roads.length) (a : Int) {p : Int} (h4 : 0 ≤ p) (h5 : p ≤ 1000) :
    (takesAt (listD N.roads i).pts a).1 ≤ tt N i a p ∧ tt N i a p ≤ (takesAt (listD N.roads i).pts a).2 := by
  have h := takesAt_is (net_roads_ok hE i hi).pts a
  have hm := mix_in h.1.1 (takes_ends (net_roads_ok hE i hi).pts a) h.2.2 h4 h5
  unfold tt
  omega
theorem Fs.tt_soon {N : Net} (hE : netErr N = 0) {i : Nat} (hi : i < N.roads.length) (a : Int) {p : Int} (h4 : 0 ≤ p) (h5 : p ≤ 1000) :
    soonest N i a ≤ a + tt N i a p ∧ a + tt N i a p ≤ latest N i a ∧ 0 ≤ tt N i a p ∧ tt N i a p ≤ 7200 := by
  have h := tt_in hE hi a h4 h5
  have h2 := takesAt_is (net_roads_ok hE i hi).pts a
  unfold soonest latest
  omega
/-- The times behind road i, of which the thousandth p is true. -/
def Fs.tstep (N : Net) (i : Nat) (p : Int) (l : List Int) : List Int :=
  if listI l (listD N.roads i).src.toNat < 0 ∨ 604800 < listI l (listD N.roads i).src.toNat then l
  else if listI l (listD N.roads i).dst.toNat < 0 ∨ listI l (listD N.roads i).src.toNat + tt N i (listI l (listD N.roads i).src.toNat) p < listI l (listD N.roads i).dst.toNat then
    l.set (listD N.roads i).dst.toNat (listI l (listD N.roads i).src.toNat + tt N i (listI l (listD N.roads i).src.toNat) p)
  else l
/-- What holds of the times: no place is reached ahead of its soonest label. -/
structure Fs.Low (N : Net) (S : List Int) (l : List Int) : Prop where
  len : l.length = N.places.length
  le : ∀ v, v < N.places.length → listI l v = -1 ∨ (listI S v ≠ -1 ∧ listI S v ≤ listI l v)
  big : ∀ v, v < N.places.length → -1 ≤ listI l v ∧ listI l v ≤ 700000
theorem Fs.tstep_len (N : Net) (i : Nat) (p : Int) (l : List Int) : (tstep N i p l).length = l.length := by
  unfold tstep
  split
  · rfl
  · split
    · exact List.length_set
    · rfl
theorem Fs.Low.step {N : Net} {S l : List Int} (h : Low N S l) (hE : netErr N = 0) (hF : ∀ i, i < N.roads.length → listI S (listD N.roads i).src.toNat ≠ -1 → listI S (listD N.roads i).dst.toNat ≠ -1 ∧ listI S (listD N.roads i).dst.toNat ≤ soonest N i (listI S (listD N.roads i).src.toNat)) (hS : LabIn S) (hSl : S.length = N.places.length)
    {i : Nat} (hi : i < N.roads.length) {p : Int} (h4 : 0 ≤ p) (h5 : p ≤ 1000) : Low N S (tstep N i p l) := by
  have hj := net_joined hE i hi
  have s1 : (listD N.roads i).src.toNat < N.places.length := by omega
  have d1 : (listD N.roads i).dst.toNat < N.places.length := by omega
  unfold tstep
  by_cases c1 : listI l (listD N.roads i).src.toNat < 0 ∨ 604800 < listI l (listD N.roads i).src.toNat
  · rw [if_pos c1]; exact h
  · rw [if_neg c1]
    by_cases c2 : listI l (listD N.roads i).dst.toNat < 0 ∨ listI l (listD N.roads i).src.toNat + tt N i (listI l (listD N.roads i).src.toNat) p < listI l (listD N.roads i).dst.toNat
    · rw [if_pos c2]
      have t := tt_soon hE hi (listI l (listD N.roads i).src.toNat) h4 h5
      have hs := (h.le _ s1).resolve_left (by omega)
      have hf := hF i hi hs.1
      have hsin := Fs.within_iff.1 (hS (listD N.roads i).src.toNat (by omega))
      have hm := (soonest_good hE).mono i _ _ hi (by have := hs.1; omega) hs.2
      refine ⟨by rw [List.length_set]; exact h.len, fun v hv => ?_, fun v hv => ?_⟩
      · rw [listI_set]
        by_cases e : (listD N.roads i).dst.toNat = v ∧ v < l.length
        · rw [if_pos e]
          obtain ⟨e1, -⟩ := e
          rw [← e1]
          right
          exact ⟨hf.1, by omega⟩
        · rw [if_neg e]; exact h.le v hv
      · rw [listI_set]
        by_cases e : (listD N.roads i).dst.toNat = v ∧ v < l.length
        · rw [if_pos e]; omega
        · rw [if_neg e]; exact h.big v hv
    · rw [if_neg c2]; exact h
/-- The places of rank less than r, and those of rank r over roads ahead of k, are reached in time. -/
def Fs.Upto (N : Net) (L last : List Int) (rk : Nat → Nat) (r k : Nat) (l : List Int) : Prop :=
  ∀ v, v < N.places.length → listI L v ≠ -1 → (listI last v = -1 ∨ rk v < r ∨ (rk v < r + 1 ∧ listI last v < k)) → listI l v ≠ -1 ∧ listI l v ≤ listI L v
theorem Fs.Upto.round {N : Net} {L last : List Int} {rk : Nat → Nat} {r : Nat} {l : List Int} (h : Upto N L last rk r N.roads.length l) (hl : ∀ v, v < N.places.length → listI last v ≠ -1 → 0 ≤ listI last v ∧ listI last v < N.roads.length) : Upto N L last rk (r + 1) 0 l := fun v hv h1 h2 => by
  by_cases e : listI last v = -1
  · exact h v hv h1 (.inl e)
  · have := hl v hv e
    refine h v hv h1 (.inr (.inr ⟨?_, this.2⟩))
    rcases h2 with h2 | h2 | ⟨h2, h3⟩
    · exact absurd h2 e
    · omega
    · omega
/-- What is known of the latest labels and their tree. -/
structure Fs.Tree (N : Net) (X : Nat) (a : Int) (L last : List Int) (rk : Nat → Nat) : Prop where
  own : listI L X = a
  back : ∀ v, v < N.places.length → listI last v = -1 → v = X ∨ listI L v = -1
  up : ∀ v, v < N.places.length → listI last v ≠ -1 → rk v < N.places.length ∧ listI last v < N.roads.length
  edge : ∀ v, v < N.places.length → listI last v ≠ -1 → ∃ i, i < N.roads.length ∧ listI last v = (i : Int) ∧ (listD N.roads i).dst = (v : Int) ∧ listI L (listD N.roads i).src.toNat ≠ -1 ∧ listI L v = latest N i (listI L (listD N.roads i).src.toNat) ∧ rk (listD N.roads i).src.toNat < rk v
  small : ∀ v, v < N.places.length → listI L v ≠ -1 → 0 ≤ listI L v ∧ listI L v ≤ a + 7200 * N.places.length
theorem Fs.tree_of {N : Net} (hE : netErr N = 0) {X : Nat} {a : Int} (hX : X < N.places.length) (h0 : 0 ≤ a) :
    ∃ rk, Tree N X a (search N X a (latest N)).labels (search N X a (latest N)).last rk := by
  have F := search_found (net_joined hE) (latest_good hE) hX h0
  have hJ := net_joined hE
  generalize search N X a (latest N) = s at *
  obtain ⟨rk, ht⟩ := F.tree
  have key : ∀ n z, rk z ≤ n → z < N.places.length → listI s.labels z ≠ -1 → 0 ≤ listI s.labels z ∧ (listI s.last z ≠ -1 → listI s.labels z ≤ a + 7200 * rk z) ∧ (listI s.last z = -1 → listI s.labels z ≤ a) := by
    intro n
    induction n with
    | zero =>
      intro z hr hz hl
      have hle := F.least z hz
      refine ⟨by omega, fun e => ?_, fun e => ?_⟩
      · obtain ⟨-, i, -, -, -, -, -, h6⟩ := ht z hz e
        omega
      · rcases F.back z hz e with h1 | h1
        · subst h1; rw [F.own]; exact Int.le_refl _
        · exact absurd h1 hl
    | succ n ih =>
      intro z hr hz hl
      have hle := F.least z hz
      refine ⟨by omega, fun e => ?_, fun e => ?_⟩
      · obtain ⟨-, i, h1, h2, h3, h4, h5, h6⟩ := ht z hz e
        have hj := hJ i h1
        obtain ⟨k0, k1, k2⟩ := ih (listD N.roads i).src.toNat (by omega) (by omega) h4
        have hsm := (takesAt_is (net_roads_ok hE i h1).pts (listI s.labels (listD N.roads i).src.toNat)).2
        unfold latest at h5
        by_cases e2 : listI s.last (listD N.roads i).src.toNat = -1
        · have := k2 e2; omega
        · have := k1 e2; omega
      · rcases F.back z hz e with h1 | h1
        · subst h1; rw [F.own]; exact Int.le_refl _
        · exact absurd h1 hl
  refine ⟨rk, F.own, F.back, fun v hv e => ?_, fun v hv e => ?_, fun v hv e => ?_⟩
  · obtain ⟨h1, i, h2, h3, -⟩ := ht v hv e
    exact ⟨h1, by omega⟩
  · obtain ⟨-, i, h1, h2, h3, h4, h5, h6⟩ := ht v hv e
    exact ⟨i, h1, h2, h3, h4, h5, h6⟩
  · obtain ⟨k0, k1, k2⟩ := key (rk v) v (Nat.le_refl _) hv e
    refine ⟨k0, ?_⟩
    by_cases e2 : listI s.last v = -1
    · have := k2 e2; omega
    · have := k1 e2
      have := (ht v hv e2).1
      omega
theorem Fs.Upto.step {N : Net} {X : Nat} {a : Int} {S L last : List Int} {rk : Nat → Nat} {r i : Nat} {l : List Int} (h : Upto N L last rk r i l) (hT : Tree N X a L last rk) (hl : Low N S l) (hE : netErr N = 0) (ha : a + 7200 * N.places.length ≤ 604800)
    (hi : i < N.roads.length) {p : Int} (h4 : 0 ≤ p) (h5 : p ≤ 1000) : Upto N L last rk r (i + 1) (tstep N i p l) := by
  have hj := net_joined hE i hi
  have s1 : (listD N.roads i).src.toNat < N.places.length := by omega
  have d1 : (listD N.roads i).dst.toNat < N.places.length := by omega
  have t := tt_soon hE hi (listI l (listD N.roads i).src.toNat) h4 h5
  have hll := hl.len
  -- times never rise
  have mono : ∀ v, v < N.places.length → listI l v ≠ -1 → listI (tstep N i p l) v ≠ -1 ∧ listI (tstep N i p l) v ≤ listI l v := by
    intro v hv hn
    unfold tstep
    by_cases c1 : listI l (listD N.roads i).src.toNat < 0 ∨ 604800 < listI l (listD N.roads i).src.toNat
    · rw [if_pos c1]; exact ⟨hn, Int.le_refl _⟩
    · rw [if_neg c1]
      by_cases c2 : listI l (listD N.roads i).dst.toNat < 0 ∨ listI l (listD N.roads i).src.toNat + tt N i (listI l (listD N.roads i).src.toNat) p < listI l (listD N.roads i).dst.toNat
      · rw [if_pos c2, listI_set]
        by_cases e : (listD N.roads i).dst.toNat = v ∧ v < l.length
        · rw [if_pos e]
          have := e.1
          subst this
          have := hl.big _ hv
          omega
        · rw [if_neg e]; exact ⟨hn, Int.le_refl _⟩
      · rw [if_neg c2]; exact ⟨hn, Int.le_refl _⟩
  intro v hv hL hc
  have old : (listI last v = -1 ∨ rk v < r ∨ (rk v < r + 1 ∧ listI last v < i)) → listI (tstep N i p l) v ≠ -1 ∧ listI (tstep N i p l) v ≤ listI L v := fun hc' => by
    have a1 := h v hv hL hc'
    have a2 := mono v hv a1.1
    exact ⟨a2.1, by omega⟩
  by_cases e1 : listI last v = -1
  · exact old (.inl e1)
  · by_cases e2 : rk v < r
    · exact old (.inr (.inl e2))
    · have e3 := (hc.resolve_left e1).resolve_left e2
      by_cases e4 : listI last v < i
      · exact old (.inr (.inr ⟨e3.1, e4⟩))
      · obtain ⟨j, j1, j2, j3, j4, j5, j6⟩ := hT.edge v hv e1
        have : j = i := by have := e3.2; omega
        subst this
        have b := h (listD N.roads j).src.toNat s1 j4 (.inr (.inl (by omega)))
        have hb := hT.small (listD N.roads j).src.toNat s1 j4
        have hb1 := hl.big (listD N.roads j).src.toNat s1
        have hm := (latest_good hE).mono j _ _ hi (by omega) b.2
        have hd : (listD N.roads j).dst.toNat = v := by omega
        unfold tstep
        rw [if_neg (by omega)]
        by_cases c2 : listI l (listD N.roads j).dst.toNat < 0 ∨ listI l (listD N.roads j).src.toNat + tt N j (listI l (listD N.roads j).src.toNat) p < listI l (listD N.roads j).dst.toNat
        · rw [if_pos c2, listI_set, if_pos ⟨hd, by omega⟩]
          omega
        · rw [if_neg c2]
          rw [hd] at c2
          omega
/-- At the end. -/
theorem Fs.Upto.done {N : Net} {X : Nat} {a : Int} {L last : List Int} {rk : Nat → Nat} {l : List Int} (h : Upto N L last rk N.places.length 0 l) (hT : Tree N X a L last rk) {v : Nat} (hv : v < N.places.length) (hL : listI L v ≠ -1) : listI l v ≠ -1 ∧ listI l v ≤ listI L v := by
  by_cases e : listI last v = -1
  · exact h v hv hL (.inl e)
  · exact h v hv hL (.inr (.inl (hT.up v hv e).1))
theorem listI_rep {n : Nat} {x : Int} {v : Nat} (hv : v < n) : listI (List.replicate n x) v = x := by
  unfold listI
  rw [List.getD_eq_getElem?_getD, List.getElem?_replicate, if_pos hv]
  rfl
theorem Fs.Upto.start {N : Net} {X : Nat} {a : Int} {L last : List Int} {rk : Nat → Nat} (hT : Tree N X a L last rk) (h0 : 0 ≤ a) : Upto N L last rk 0 0 ((List.replicate N.places.length (-1)).set X a) := by
  intro v hv hL hc
  have : v = X := by
    by_cases e : listI last v = -1
    · exact (hT.back v hv e).resolve_right hL
    · obtain ⟨i, -, h2, -⟩ := hT.edge v hv e
      rcases hc with h | h | h
      · exact absurd h e
      · omega
      · omega
  subst this
  rw [listI_set, if_pos ⟨rfl, by rw [List.length_replicate]; exact hv⟩, hT.own]
  exact ⟨by omega, Int.le_refl _⟩
theorem Fs.Low.start {N : Net} {S : List Int} {X : Nat} {a : Int} (h0 : 0 ≤ a) (h1 : a ≤ 500000) (hS : listI S X = a) : Low N S ((List.replicate N.places.length (-1)).set X a) := by
  have e : ∀ v, v < N.places.length → listI ((List.replicate N.places.length (-1)).set X a) v = if X = v then a else -1 := fun v hv => by
    rw [listI_set, List.length_replicate]
    by_cases h : X = v
    · rw [if_pos ⟨h, hv⟩, if_pos h]
    · rw [if_neg (fun h' => h h'.1), if_neg h, listI_rep hv]
  refine ⟨by rw [List.length_set, List.length_replicate], fun v hv => ?_, fun v hv => ?_⟩
  · rw [e v hv]
    by_cases h : X = v
    · rw [if_pos h]; subst h; right; rw [hS]; exact ⟨by omega, Int.le_refl _⟩
    · rw [if_neg h]; exact .inl rfl
  · rw [e v hv]
    by_cases h : X = v
    · rw [if_pos h]; omega
    · rw [if_neg h]; decide
end Go.Proofs.Ythipneggplebcaa
/- What a road truly takes, told by the program. Conditions: the net is right; a road; a time and a thousandth. -/
namespace Go.Proofs.Ythipneggplebcaa
open Go.RowKit Fs

theorem ret_ib {a b : Int} {p : Bool} (h : a = b) : Ending.returned (.tuple #[.int .i64 a, .bool p]) = .returned (.tuple #[.int .i64 b, .bool p]) := by rw [h]
set_option maxHeartbeats 1600000 in
theorem modAll_any (n : Int) (w : World) :
    Calls Try.prog 73 #[.int .i64 n, .int .i64 1001] w fun e w' => e = .returned (.int .i64 (pmod n 1001)) ∧ w = w' := by
  have ht := tmod_in n (show (0 : Int) < 1001 by decide)
  have HP := Lib.hid (show pmod n 1001 = if n.tmod 1001 < 0 then n.tmod 1001 + 1001 else n.tmod 1001 from rfl)
  have w2 : IntKind.i64.wrap (n.tmod 1001 + 1001) = n.tmod 1001 + 1001 := by rw [IntKind.wrap_i64]; omega
  by_cases hz : n.tmod 1001 < 0
  · have F := Lib.hid (HP.out.trans (if_pos hz))
    have e1 : decide (n.tmod 1001 < 0) = true := decide_eq_true hz
    clear hz
    go_enter Try.func73, Try.ntmps73
    go_wp2_with fail
    go_ret
    exact ⟨ret_int F.out.symm, rfl⟩
  · have F := Lib.hid (HP.out.trans (if_neg hz))
    have e1 : decide (n.tmod 1001 < 0) = false := decide_eq_false hz
    clear hz
    go_enter Try.func73, Try.ntmps73
    go_wp2_with fail
    go_ret
    exact ⟨ret_int F.out.symm, rfl⟩

set_option maxHeartbeats 3200000 in
set_option maxRecDepth 100000 in
theorem streetTrue_any (N : Net) (v : Value) (i : Nat) (a p : Int) (w : World) (hN : RdNet w v N) (hE : netErr N = 0) (hL : N.places.length ≤ 1000000 ∧ N.roads.length ≤ 1000000 ∧ ∀ i, i < N.roads.length → (listD N.roads i).pts.length ≤ 1000000) (hi : i < N.roads.length) (h0 : 0 ≤ a) (h1 : a ≤ 604800) (h2 : 0 ≤ p) (h3 : p ≤ 1000) :
    Calls Try.prog 72 #[v, .int .i64 i, .int .i64 a, .int .i64 p] w fun e w' => e = .returned (.tuple #[.int .i64 (tt N i a p), .bool true]) ∧ Below w.heap.size w w' := by
  have HL := Lib.hid hL
  clear hL
  have hN0 := Lib.hid hN
  obtain ⟨P, R, pc, rc, ar, rfl, mm⟩ := hN
  clear mm
  have hk : tkErr N i a = 0 := by
    have hr : noRoad N i = 0 := if_pos (Fs.within_iff.2 ⟨by omega, by omega⟩)
    rw [tkErr_time hE hr]
    exact if_pos (Fs.within_iff.2 ⟨h0, h1⟩)
  have HT := Lib.hid (show takes N i a = (takesAt (listD N.roads i).pts a, 0) from by
    have : takes N i a = _ := if_pos hk
    rwa [Int.toNat_natCast] at this)
  have hin := takesAt_is (net_roads_ok hE i hi).pts a
  have hord := takes_ends (net_roads_ok hE i hi).pts a
  have hmx := mix_in hin.1.1 hord hin.2.2 h2 h3
  have HTT := Lib.hid (show tt N i a p = ((takesAt (listD N.roads i).pts a).1 * (1000 - p) + (takesAt (listD N.roads i).pts a).2 * p) / 1000 from rfl)
  clear hk
  have BN := Lib.hid (BoxN.new w N P R pc rc 25)
  go_enter Try.func72, Try.ntmps72
  go_upto_region 1 with fail
  generalize hwb : w.alloc _ = wb at *
  have HW : Hid (Below w.heap.size w wb) := by rw [← hwb]; exact Lib.hid ((Below.refl _ _).alloc (Nat.le_refl _) _)
  clear hwb
  obtain ⟨n0, n1⟩ := BN.out
  go_wp2_with fail
  refine (copyNet_any N _ _ (hN0.out.keep (Keep.below HW.out)) HL.out.1 HL.out.2.1 HL.out.2.2).mono ?_
  rintro e' w1 ⟨v1, rfl, hv1, hb1⟩
  replace HW := Lib.hid (HW.out.trans (hb1.mono HW.out.size))
  clear hb1 n0 n1
  go_wp2_with fail
  refine (takes_any N _ i a _ hv1).mono ?_
  rintro e' w2 ⟨rfl, hb1⟩
  replace HW := Lib.hid (HW.out.trans (hb1.mono HW.out.size))
  rw [HT.out]
  clear hb1 hv1
  generalize (takesAt (listD N.roads i).pts a).1 = lo at *
  generalize (takesAt (listD N.roads i).pts a).2 = hi' at *
  have HB := Lib.hid (TreeAt.new w2 (.int .i64 lo) (.int .i64 hi') 35)
  have HX := Lib.hid (HW.out.alloc HW.out.size (.cells #[.int .i64 lo, .int .i64 hi'] 35))
  obtain ⟨t0, t1, -, -⟩ := HB.out
  have Z := Lib.hid (Fs.within_iff.2 (show 0 ≤ lo ∧ lo ≤ hi' by omega))
  have e1 : decide (hi' > 7200) = false := decide_eq_false (by omega)
  have e2 : decide (7200 < hi') = false := decide_eq_false (by omega)
  have w3 : IntKind.i64.wrap (1000 - p) = 1000 - p := by rw [IntKind.wrap_i64]; omega
  have w4 : IntKind.i64.wrap (lo * (1000 - p)) = lo * (1000 - p) := by rw [IntKind.wrap_i64]; omega
  have w5 : IntKind.i64.wrap (hi' * p) = hi' * p := by rw [IntKind.wrap_i64]; omega
  have w6 : IntKind.i64.wrap (lo * (1000 - p) + hi' * p) = lo * (1000 - p) + hi' * p := by rw [IntKind.wrap_i64]; omega
  go_wp2_with fail
  refine (bwithin_any _ _ _ _).mono ?_
  rintro e' wX ⟨rfl, rfl⟩
  rw [Z.out]
  go_wp2_with fail
  refine (floor_any _ 1000 _ (by omega) (by omega) (by decide) (by decide)).mono ?_
  rintro e' wX ⟨rfl, rfl⟩
  go_wp2_with fail
  go_ret2
  exact ⟨ret_ib HTT.out.symm, HX.out⟩
end Go.Proofs.Ythipneggplebcaa

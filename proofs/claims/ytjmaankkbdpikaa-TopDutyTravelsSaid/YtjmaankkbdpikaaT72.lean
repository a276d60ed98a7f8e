/- The reference's Detour. Conditions: the net and the way are right; the places are places; the time is small. -/
import Derived.Test.YtjmaankkbdpikaaT71
import Derived.Test.YtjmaankkbdpikaaT50
import Derived.Test.YtjmaankkbdpikaaT52
import Derived.Test.YtjmaankkbdpikaaX11
import Derived.Test.YtjmaankkbdpikaaD9
namespace Go.Proofs.Ytjmaankkbdpikaa
open Go.RowKit Fs

theorem Fs.fast_way {N : Net} (hE : netErr N = 0) {nx : Nat → Int → Int} (hg : Good N nx) {f t : Nat} (hf : f < N.places.length) (ht : t < N.places.length) {a : Int} (h0 : 0 ≤ a) {W : List Int} (hy : listI (search N f a nx).labels t ≠ -1) (hc : Chain N (search N f a nx).last t W.reverse) :
    wayErr N W = 0 ∧ JoinsIs N W f t ∧ alongTo nx W.length W a = listI (search N f a nx).labels t ∧ (∀ j, j < W.length → 0 ≤ listI W j ∧ listI W j < N.roads.length) ∧ W.length ≤ 200 := by
  obtain ⟨rk, h1, h2⟩ := (search_found (net_joined hE) hg hf h0).chain hf (net_joined hE)
  obtain ⟨k1, k2⟩ := h2 t _ hc ht hy
  rw [List.reverse_reverse] at k2
  rw [List.length_reverse] at k1
  have := h1 t ht
  have := (net_sound hE).2.1
  exact ⟨way_zero (by omega) k2.inside k2.hops, k2.joins, k2.along, k2.inside, by omega⟩
theorem Fs.estErr_net {N : Net} {f t a : Int} (h : netErr N ≠ 0) : estErr N f t a = netErr N :=
  (fst_hit (k := 0) (n := 2) (by decide) (fun j hj => absurd hj (Nat.not_lt_zero _)) h).1
theorem Fs.dtErr_net {N : Net} {f t a : Int} {l : List Int} (h : netErr N ≠ 0) : dtErr N f t a l = netErr N :=
  (fst_hit (k := 0) (n := 3) (by decide) (fun j hj => absurd hj (Nat.not_lt_zero _)) h).1
theorem Fs.estErr_trip {N : Net} {f t a : Int} (h0 : netErr N = 0) (h : tripErr N f t a ≠ 0) : estErr N f t a = tripErr N f t a :=
  (fst_hit (k := 1) (n := 2) (by decide) (fun j hj => by obtain rfl : j = 0 := by omega
                                                         exact h0) h).1
theorem Fs.dtErr_trip {N : Net} {f t a : Int} {l : List Int} (h0 : netErr N = 0) (h : tripErr N f t a ≠ 0) : dtErr N f t a l = tripErr N f t a :=
  (fst_hit (k := 1) (n := 3) (by decide) (fun j hj => by obtain rfl : j = 0 := by omega
                                                         exact h0) h).1
theorem Fs.dtErr_way {N : Net} {f t a : Int} {l : List Int} (h0 : netErr N = 0) (h1 : tripErr N f t a = 0) : dtErr N f t a l = wayErr N l := by
  have hc : cwErr N l = wayErr N l := by unfold cwErr; rw [if_pos h0]
  unfold dtErr
  rw [h0, h1, hc]
  by_cases h : wayErr N l = 0
  · rw [h]; rfl
  · exact (fst_hit (k := 2) (n := 3) (by decide) (fun j hj => by
      obtain rfl | rfl : j = 0 ∨ j = 1 := by omega
      · rfl
      · rfl) h).1
theorem Fs.estErr_zero {N : Net} {f t a : Int} (h0 : netErr N = 0) (h1 : tripErr N f t a = 0) : estErr N f t a = 0 := by
  unfold estErr
  rw [h0, h1]
  rfl

end Go.Proofs.Ytjmaankkbdpikaa
/- Journeys and the law, plainly: the earliest arrival is no later than the latest one; a trip behind no records. No condition. -/
namespace Go.Proofs.Ytjmaankkbdpikaa
open Go.RowKit Fs

theorem Fs.ends_one {N : Net} (hE : netErr N = 0) {i : Nat} (hi : i < N.roads.length) {x : Int} (h0 : 0 ≤ x) : soonest N i x ≤ latest N i x := by
  have h := along_ends hE (l := [(i : Int)]) (fun j hj => by
    have : j = 0 := by simpa using hj
    subst this
    show 0 ≤ (i : Int) ∧ (i : Int) < N.roads.length
    omega) h0 1 (by simp)
  exact h.2
theorem Fs.search_low {N : Net} (hE : netErr N = 0) {src : Nat} (hs : src < N.places.length) {a : Int} (ha : 0 ≤ a) :
    ∀ z, z < N.places.length → listI (search N src a (latest N)).labels z ≠ -1 → listI (search N src a (soonest N)).labels z ≠ -1 ∧ listI (search N src a (soonest N)).labels z ≤ listI (search N src a (latest N)).labels z ∧ listI (search N src a (latest N)).labels z ≤ a + 100000 * N.places.length := by
  have A := search_found (net_joined hE) (latest_good hE) hs ha
  have B := search_found (net_joined hE) (soonest_good hE) hs ha
  have hsm := latest_small hE
  have hgs := soonest_good hE
  generalize search N src a (latest N) = S at *
  generalize search N src a (soonest N) = T at *
  obtain ⟨rk, ht⟩ := A.tree
  have key : ∀ n z, rk z ≤ n → z < N.places.length → listI S.labels z ≠ -1 → listI T.labels z ≠ -1 ∧ listI T.labels z ≤ listI S.labels z ∧ listI S.labels z ≤ a + 100000 * n := by
    intro n
    induction n with
    | zero =>
      intro z hr hz hl
      by_cases e : listI S.last z = -1
      · rcases A.back z hz e with h1 | h1
        · subst h1; rw [B.own, A.own]; omega
        · exact absurd h1 hl
      · obtain ⟨-, i, -, -, -, -, -, h6⟩ := ht z hz e
        omega
    | succ n ih =>
      intro z hr hz hl
      by_cases e : listI S.last z = -1
      · rcases A.back z hz e with h1 | h1
        · subst h1; rw [B.own, A.own]; omega
        · exact absurd h1 hl
      · obtain ⟨-, i, h1, h2, h3, h4, h5, h6⟩ := ht z hz e
        have hj := (net_joined hE) i h1
        obtain ⟨k1, k2, k3⟩ := ih (listD N.roads i).src.toNat (by omega) (by omega) h4
        have hst := B.step i h1 k1
        rw [h3, Int.toNat_natCast] at hst
        have l1 := (B.least (listD N.roads i).src.toNat (by omega)).resolve_left k1
        have l2 := (A.least (listD N.roads i).src.toNat (by omega)).resolve_left h4
        have m1 := hgs.mono i _ _ h1 (by omega) k2
        have m2 := ends_one hE h1 (x := listI S.labels (listD N.roads i).src.toNat) (by omega)
        have m3 := (hsm i (listI S.labels (listD N.roads i).src.toNat) h1 (by omega)).2
        rw [h5]
        refine ⟨hst.1, by omega, ?_⟩
        have : (100000 * ((n + 1 : Nat) : Int)) = 100000 * (n : Int) + 100000 := by omega
        omega
  intro z hz hl
  by_cases e : listI S.last z = -1
  · rcases A.back z hz e with h1 | h1
    · subst h1; rw [B.own, A.own]; omega
    · exact absurd h1 hl
  · have hr := (ht z hz e).1
    have := key N.places.length z (by omega) hz hl
    exact this
/-- What Estimate tells of a right trip. -/
theorem Fs.travel_est {N : Net} (hE : netErr N = 0) {X Y : Nat} (hX : X < N.places.length) (hY : Y < N.places.length) {a : Int} (h0 : 0 ≤ a) (hz : estErr N X Y a = 0) :
    (estimate N X Y a = ((0, 0), 12)) ∨ ∃ x y, estimate N X Y a = ((x, y), 0) ∧ listI (search N X a (latest N)).labels Y = y ∧ y ≠ -1 ∧ a ≤ x ∧ x ≤ y ∧ y ≤ a + 100000 * N.places.length := by
  unfold estimate
  rw [if_neg (fun h => h hz), Int.toNat_natCast]
  unfold bound
  by_cases h : listI (search N X a (soonest N)).labels Y = -1 ∨ listI (search N X a (latest N)).labels Y = -1
  · rw [if_pos h]; exact .inl rfl
  · rw [if_neg h]
    refine .inr ⟨_, _, rfl, rfl, fun e => h (.inr e), ?_, ?_, ?_⟩
    · exact ((search_found (net_joined hE) (soonest_good hE) hX h0).least Y hY).resolve_left (fun e => h (.inl e))
    · exact (search_low hE hX h0 Y hY (fun e => h (.inr e))).2.1
    · exact (search_low hE hX h0 Y hY (fun e => h (.inr e))).2.2
/-- A trip behind no records: surely allowed just if its greatest length is no more than the longest one. -/
theorem bare_zero {R : DRules} (h : drulesErr R = 0) {s : Int} (h0 : 0 ≤ s) (h1 : s ≤ 8640000000) : lawTripErr R [] (bare s) = 0 := by
  refine lawTrip_zero (by unfold bothErr; rw [if_neg (fun hh => hh h)]; rfl) (dtrip_zero (t := bare s) ⟨by decide, h0, h1, by show (-1 : Int) ≤ -1; omega, by show (-1 : Int) ≤ 8640000000; omega, fun hh => absurd hh (by decide)⟩ (Int.le_refl _) (Int.le_refl _) (by show (0 : Int) ≤ 200000; omega) rfl)
theorem span_zero {R : DRules} (h : drulesErr R = 0) {s lo hi : Int} (h0 : 0 ≤ s) (h1 : s ≤ 8640000000) (h2 : 0 ≤ lo) (h3 : lo ≤ hi) (h4 : hi ≤ 200000) : lawTripErr R [] ⟨s, lo, hi, -1⟩ = 0 := by
  refine lawTrip_zero (by unfold bothErr; rw [if_neg (fun hh => hh h)]; rfl) (dtrip_zero (t := ⟨s, lo, hi, -1⟩) ⟨by decide, h0, h1, by show (-1 : Int) ≤ -1; omega, by show (-1 : Int) ≤ 8640000000; omega, fun hh => absurd hh (by decide)⟩ h2 h3 h4 rfl)
theorem span_yes {R : DRules} (h : drulesErr R = 0) {s lo hi n : Int} (h0 : 0 ≤ s) (h1 : s ≤ 8640000000) (h2 : 0 ≤ lo) (h3 : lo ≤ hi) (h4 : hi ≤ 200000) (hL : Longest R [] (bare s) n) : (allowedOut R [] ⟨s, lo, hi, -1⟩).1 = 2 ↔ hi ≤ n := by
  rw [allowed_good (span_zero h h0 h1 h2 h3 h4), allowed_two]
  show breaks R [] (bare s) hi = 0 ↔ hi ≤ n
  constructor
  · intro e
    by_cases hn : hi ≤ n
    · exact hn
    · exact absurd e (hL.no hi (by omega) h4)
  · intro e
    have hR : Right ([] : List WRec) := recs_right (one := true) (l := []) rfl
    have hB := (dtrip_ok (lawTrip_ok (bare_zero h h0 h1)).2).1
    exact breaks_mono hR hB e (by have := hL.n1; omega) hL.ok
end Go.Proofs.Ytjmaankkbdpikaa
/- The examples of chapter 7 are so. No condition. -/
namespace Go.Proofs.Ytjmaankkbdpikaa
open Go.RowKit Fs

set_option linter.unusedSimpArgs false in
set_option maxHeartbeats 3200000 in
theorem lawDutied_any (w : World) : Calls Try.prog 4 #[] w fun e w' => e = .returned (.bool true) ∧ Below w.heap.size w w' := by
  have F2 := Lib.hid ann_trip0
  have F3 := Lib.hid ann_out3
  go_enter Try.func4, Try.ntmps4
  go_wp2_with fail
  refine (lawRules_any _).mono ?_
  rintro e' w1 ⟨rfl, hb1⟩
  have HB := Lib.hid hb1
  clear hb1
  go_wp2_with fail
  refine (lawAnn_any _).mono ?_
  rintro e' w2 ⟨⟨A2, c2, rfl, h2⟩, hb1⟩
  replace HB := Lib.hid (HB.out.trans (hb1.mono HB.out.size))
  have H2 := Lib.hid h2
  clear h2
  clear hb1
  go_wp2_with fail
  refine (xLongest_any annRules annList A2 c2 20000 _ H2.out).mono ?_
  rintro e' w3 ⟨⟨n, rfl, hn⟩, hb1⟩
  replace HB := Lib.hid (HB.out.trans (hb1.mono HB.out.size))
  obtain rfl := ann_long hn
  rw [ann_bare0]
  clear hn H2
  clear hb1
  go_wp2_with fail
  refine (lawRules_any _).mono ?_
  rintro e' w1 ⟨rfl, hb1⟩
  replace HB := Lib.hid (HB.out.trans (hb1.mono HB.out.size))
  clear hb1
  go_wp2_with fail
  refine (lawAnn_any _).mono ?_
  rintro e' w2 ⟨⟨A2, c2, rfl, h2⟩, hb1⟩
  replace HB := Lib.hid (HB.out.trans (hb1.mono HB.out.size))
  have H2 := Lib.hid h2
  clear h2
  clear hb1
  go_wp2_with fail
  refine (xAllowed_any annRules annList A2 c2 annTrip _ H2.out).mono ?_
  rintro e' w3 ⟨rfl, hb1⟩
  replace HB := Lib.hid (HB.out.trans (hb1.mono HB.out.size))
  rw [F3.out, F2.out]
  clear H2
  clear hb1
  go_wp2_with fail
  go_ret
  exact ⟨rfl, HB.out⟩

end Go.Proofs.Ytjmaankkbdpikaa

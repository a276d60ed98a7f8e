/- Whether heights are accepted, as the reference tells it. Conditions: the net is right; the places are places. -/
import Derived.Test.YtjmaankkbdpikaaT54
import Derived.Test.YtjmaankkbdpikaaT2
import Derived.Test.YtjmaankkbdpikaaT43
import Derived.Test.YtjmaankkbdpikaaT53
namespace Go.Proofs.Ytjmaankkbdpikaa
open Go.RowKit Fs

/-- What the reference says of heights. -/
def Fs.rHeights (N : Net) (x y : Nat) (l : List Int) : Int × Int := if l.length = N.places.length then (if LabIn l then chRes N x y l else (0, 2)) else (0, 10)
theorem Fs.rHeights_same {N : Net} {x y : Nat} {l : List Int} (hE : netErr N = 0) (hx : x < N.places.length) (hy : y < N.places.length) : chHeights N x y l = rHeights N x y l := by
  have hp : placesErr N [(x : Int), (y : Int)] = 0 := by
    refine fst_none fun j hj => ?_
    have hj : j < 2 := hj
    rcases (show j = 0 ∨ j = 1 by omega) with rfl | rfl
    · exact if_pos (Fs.within_iff.2 ⟨by show (0 : Int) ≤ (x : Int); omega, by show (x : Int) ≤ _; omega⟩)
    · exact if_pos (Fs.within_iff.2 ⟨by show (0 : Int) ≤ (y : Int); omega, by show (y : Int) ≤ _; omega⟩)
  have e : chErr N x y l = labErr N [l] := by
    unfold chErr
    rw [hE, hp]
    by_cases h : labErr N [l] = 0
    · rw [h]; rfl
    · exact (fst_hit (f := listI [0, 0, labErr N [l]]) (k := 2) (n := 3) (by decide) (fun j hj => by rcases (show j = 0 ∨ j = 1 by omega) with rfl | rfl <;> rfl) h).1
  unfold chHeights rHeights
  rw [e]
  have hf : LabFit N [l] ↔ l.length = N.places.length := ⟨fun h => h 0 (by show 0 < 1; decide), fun h i hi => by
    have hi : i < 1 := hi
    obtain rfl : i = 0 := by omega
    exact h⟩
  by_cases h1 : l.length = N.places.length
  · rw [if_pos h1]
    by_cases h2 : LabIn l
    · have : labErr N [l] = 0 := by unfold labErr; rw [if_pos (hf.2 h1)]; exact if_pos h2
      rw [if_pos this, if_pos h2, Int.toNat_natCast, Int.toNat_natCast]
    · have : labErr N [l] = 2 := by unfold labErr; rw [if_pos (hf.2 h1)]; exact if_neg h2
      rw [this, if_neg (by decide), if_neg h2]
  · have : labErr N [l] = 10 := if_neg (fun h => h1 (hf.1 h))
    rw [this, if_neg (by decide), if_neg h1]
theorem ret2_pair {a b : Int} {p : Int × Int} (h : p = (a, b)) : Ending.returned (.tuple #[.int .i64 a, .int .i64 b]) = .returned (.tuple #[.int .i64 p.1, .int .i64 p.2]) := by rw [h]

end Go.Proofs.Ytjmaankkbdpikaa
/- The reference's earliest arrivals and estimates. Conditions: the net is right; the places are places; the time is small. -/
namespace Go.Proofs.Ytjmaankkbdpikaa
open Go.RowKit Fs

theorem ArrI.far {B : Nat} {w : World} {g : Nat} {l : List Int} {c : Nat} (h : ArrI w (some ⟨g, 0, none⟩) l c) (hg : B ≤ g) {p : Addr} (hp : p.block < B) (v : Value) : ArrI (w.setCell p v) (some ⟨g, 0, none⟩) l c :=
  Arr.far h (fun ad e => by injection e with e; subst e; exact hg) hp v

theorem cell_off2 {w : World} (g h i : Nat) (u v x : Value) (hc : w.cell? ⟨h, i, none⟩ = some x) (hne : g ≠ h) : ((w.setCell ⟨g, 0, none⟩ u).setCell ⟨g, 1, none⟩ v).cell? ⟨h, i, none⟩ = some x := by
  rw [World.cell?_setCell_far _ _ _ _ (by show g ≠ h; omega), World.cell?_setCell_far _ _ _ _ (by show g ≠ h; omega)]
  exact hc
/-- Both labels of a place, and whether there is a way. -/
abbrev estBack (x y : Int) : Value := .tuple #[.agg #[.int .i64 x, .int .i64 y], .bool (decide (0 ≤ x))]
theorem Fs.place_two (N : Net) (f t : Int) : placesErr N [f, t] = if isPlace N f = true ∧ isPlace N t = true then 0 else 6 := by
  unfold placesErr
  show fst _ 2 = _
  cases h1 : isPlace N f with
  | false =>
    rw [if_neg (fun h => by cases h.1)]
    exact (fst_hit (k := 0) (by decide) (fun j hj => absurd hj (Nat.not_lt_zero _)) (by show (if isPlace N f then (0 : Int) else 6) ≠ 0; rw [h1]; decide)).1.trans (by show (if isPlace N f then (0 : Int) else 6) = 6; rw [h1]; rfl)
  | true =>
    have z : ∀ j, j < 1 → (if isPlace N (listI [f, t] j) then (0 : Int) else 6) = 0 := fun j hj => by
      obtain rfl : j = 0 := by omega
      show (if isPlace N f then (0 : Int) else 6) = 0
      rw [h1]; rfl
    cases h2 : isPlace N t with
    | false =>
      rw [if_neg (fun h => by cases h.2)]
      exact (fst_hit (k := 1) (by decide) z (by show (if isPlace N t then (0 : Int) else 6) ≠ 0; rw [h2]; decide)).1.trans (by show (if isPlace N t then (0 : Int) else 6) = 6; rw [h2]; rfl)
    | true =>
      rw [if_pos ⟨rfl, rfl⟩]
      refine fst_none fun j hj => ?_
      rcases (show j = 0 ∨ j = 1 by omega) with rfl | rfl
      · exact z 0 (by decide)
      · show (if isPlace N t then (0 : Int) else 6) = 0
        rw [h2]; rfl
theorem Fs.fst2 (x y : Int) : fst (listI [x, y]) 2 = if x = 0 then y else x := by
  by_cases h : x = 0
  · rw [if_pos h]
    by_cases h2 : y = 0
    · rw [h, h2]; rfl
    · exact (fst_hit (f := listI [x, y]) (k := 1) (by decide) (fun j hj => by obtain rfl : j = 0 := (by omega); exact h) h2).1
  · rw [if_neg h]
    exact (fst_hit (f := listI [x, y]) (k := 0) (by decide) (fun j hj => absurd hj (Nat.not_lt_zero _)) h).1
theorem Fs.trip_is (N : Net) (f t a : Int) : tripErr N f t a = if isPlace N f = true ∧ isPlace N t = true then timeErr a else 6 := by
  unfold tripErr
  rw [fst2, place_two]
  by_cases h : isPlace N f = true ∧ isPlace N t = true
  · rw [if_pos h, if_pos h, if_pos rfl]
  · rw [if_neg h, if_neg h, if_neg (by decide)]
set_option maxHeartbeats 1600000 in
theorem rTripErr_any (N : Net) (v : Value) (f t a : Int) (w : World) (hN : RdNet w v N) :
    Calls Try.prog 7 #[v, stripV f t a] w fun e w' => e = .returned (.int .i64 (tripErr N f t a)) ∧ Below w.heap.size w w' := by
  have hN0 := Lib.hid hN
  obtain ⟨P, R, pc, rc, ar, rfl, m⟩ := hN
  clear m
  have BN := Lib.hid ((BoxN.new w N P R pc rc 25).keep (Keep.alloc _ (.cells #[.int .i64 f, .int .i64 t, .int .i64 a] 27)))
  have BT := Lib.hid (TripAt.new1 w (.cells #[.slice P N.places.length pc, .slice R N.roads.length rc] 25) f t a 27)
  go_enter Try.func7, Try.ntmps7
  go_upto_region 1 with fail
  generalize hwb : (w.alloc _).alloc _ = wb at *
  have HW : Hid (Below w.heap.size w wb) := by rw [← hwb]; exact Lib.hid (((Below.refl _ _).alloc (Nat.le_refl _) _).alloc (by simp) _)
  clear hwb
  obtain ⟨n0, n1⟩ := BN.out
  obtain ⟨k0, k1, k2⟩ := BT.out
  go_wp2_with fail
  refine (rIsPlace_any N _ f _ (hN0.out.keep (Keep.below HW.out))).mono ?_
  rintro e' w1 ⟨rfl, hb1⟩
  replace HW := Lib.hid (HW.out.trans (hb1.mono HW.out.size))
  replace n0 := Keep.below hb1 _ _ n0
  replace n1 := Keep.below hb1 _ _ n1
  replace k0 := Keep.below hb1 _ _ k0
  replace k1 := Keep.below hb1 _ _ k1
  replace k2 := Keep.below hb1 _ _ k2
  clear hb1
  have HP := Lib.hid (trip_is N f t a)
  cases h1 : isPlace N f with
  | false =>
    go_wp2_with fail
    go_ret
    exact ⟨ret_int (by rw [HP.out, h1]; rfl), HW.out⟩
  | true =>
    have H1 := Lib.hid h1
    clear h1
    go_wp2_with fail
    refine (rIsPlace_any N _ t _ (hN0.out.keep (Keep.below HW.out))).mono ?_
    rintro e' w2 ⟨rfl, hb2⟩
    replace HW := Lib.hid (HW.out.trans (hb2.mono HW.out.size))
    replace k2 := Keep.below hb2 _ _ k2
    clear hb2 n0 n1 k0 k1
    cases h2 : isPlace N t with
    | false =>
      go_wp2_with fail
      go_ret
      exact ⟨ret_int (by rw [HP.out, h2, if_neg (fun h => by cases h.2)]), HW.out⟩
    | true =>
      have H2 := Lib.hid h2
      clear h2
      go_wp2_with fail
      refine (rTimeErr_any a _).mono ?_
      rintro e' w3 ⟨rfl, rfl⟩
      go_wp2_with fail
      go_ret
      exact ⟨ret_int (by rw [HP.out, if_pos ⟨H1.out, H2.out⟩]), HW.out⟩
end Go.Proofs.Ytjmaankkbdpikaa
/- What holds of heights and shortest ways: plain. Conditions: the net is right; the places are places. -/
namespace Go.Proofs.Ytjmaankkbdpikaa
open Go.RowKit Fs

theorem Fs.found_bound {N : Net} {nx : Nat → Int → Int} {src : Nat} {L : Int} (hN : Joined N) (hg : Good N nx) (hm : Small N nx) (hs : src < N.places.length) (hL : 0 ≤ L) :
    ∀ z, z < N.places.length → listI (search N src L nx).labels z ≠ -1 → 0 ≤ listI (search N src L nx).labels z ∧ listI (search N src L nx).labels z ≤ L + 100000 * N.places.length := by
  have F := search_found hN hg hs hL
  generalize search N src L nx = S at *
  obtain ⟨rk, ht⟩ := F.tree
  have key : ∀ n z, rk z ≤ n → z < N.places.length → listI S.labels z ≠ -1 → 0 ≤ listI S.labels z ∧ (listI S.last z ≠ -1 → listI S.labels z ≤ L + 100000 * rk z) ∧ (listI S.last z = -1 → listI S.labels z ≤ L) := by
    intro n
    induction n with
    | zero =>
      intro z hr hz hl
      have hle := F.least z hz
      refine ⟨by omega, fun e => ?_, fun e => ?_⟩
      · obtain ⟨-, i, -, -, -, -, -, h6⟩ := ht z hz e
        omega
      · rcases F.back z hz e with h1 | h1
        · subst h1; rw [F.own]; exact Int.le_refl _
        · exact absurd h1 hl
    | succ n ih =>
      intro z hr hz hl
      have hle := F.least z hz
      refine ⟨by omega, fun e => ?_, fun e => ?_⟩
      · obtain ⟨-, i, h1, h2, h3, h4, h5, h6⟩ := ht z hz e
        have hj := hN i h1
        obtain ⟨k0, k1, k2⟩ := ih (listD N.roads i).src.toNat (by omega) (by omega) h4
        have hsm := hm i _ h1 k0
        by_cases e2 : listI S.last (listD N.roads i).src.toNat = -1
        · have := k2 e2; omega
        · have := k1 e2; omega
      · rcases F.back z hz e with h1 | h1
        · subst h1; rw [F.own]; exact Int.le_refl _
        · exact absurd h1 hl
  intro z hz hl
  obtain ⟨k0, k1, k2⟩ := key (rk z) z (Nat.le_refl _) hz hl
  refine ⟨k0, ?_⟩
  by_cases e : listI S.last z = -1
  · have := k2 e; omega
  · have := k1 e
    have := (ht z hz e).1
    omega
/-- No way is less than the labels. -/
theorem Fs.along_over {N : Net} {nx : Nat → Int → Int} {src : Nat} {L : Int} {s : St} (hF : Found N nx src L s) (hN : Joined N) (hg : Good N nx) (hs : src < N.places.length) (hL : 0 ≤ L) {l : List Int} (hw : wayErr N l = 0) (h0 : l.length ≠ 0 → (listD N.roads (listI l 0).toNat).src = (src : Int)) :
    ∀ k, k < l.length → listI s.labels (listD N.roads (listI l k).toNat).dst.toNat ≠ -1 ∧ listI s.labels (listD N.roads (listI l k).toNat).dst.toNat ≤ alongTo nx (k + 1) l L
  | 0, hk => by
    have hr := ((way_ok hw).2 0 hk).1
    have h := h0 (by omega)
    have st := hF.step (listI l 0).toNat (by omega)
    rw [h, Int.toNat_natCast, hF.own] at st
    exact st (by omega)
  | k + 1, hk => by
    have ih := along_over hF hN hg hs hL hw h0 k (by omega)
    have hr := ((way_ok hw).2 (k + 1) hk)
    have hj := hr.2 (by omega)
    rw [Nat.add_sub_cancel] at hj
    have hr := hr.1
    have st := hF.step (listI l (k + 1)).toNat (by omega)
    rw [← hj] at st
    have st := st ih.1
    have hjn := hN (listI l k).toNat (by have := ((way_ok hw).2 k (by omega)).1; omega)
    have hle : 0 ≤ listI s.labels (listD N.roads (listI l k).toNat).dst.toNat := by
      rcases hF.least (listD N.roads (listI l k).toNat).dst.toNat (by omega) with h | h
      · exact absurd h ih.1
      · omega
    have hm := hg.mono (listI l (k + 1)).toNat _ _ (by omega) hle ih.2
    refine ⟨st.1, ?_⟩
    show _ ≤ nx (listI l (k + 1)).toNat (alongTo nx (k + 1) l L)
    omega
theorem Fs.along_joins {N : Net} {nx : Nat → Int → Int} {src t : Nat} {L : Int} {s : St} (hF : Found N nx src L s) (hN : Joined N) (hg : Good N nx) (hs : src < N.places.length) (hL : 0 ≤ L) {l : List Int} (hw : wayErr N l = 0) (hj : JoinsIs N l src t) :
    listI s.labels t ≠ -1 ∧ listI s.labels t ≤ alongTo nx l.length l L := by
  by_cases e : l.length = 0
  · unfold JoinsIs at hj
    rw [if_pos e] at hj
    have : src = t := by omega
    subst this
    rw [e, hF.own]
    exact ⟨by omega, Int.le_refl _⟩
  · have j := joins_some e hj
    have := along_over hF hN hg hs hL hw (fun _ => j.1) (l.length - 1) (by omega)
    rw [j.2, Int.toNat_natCast, show l.length - 1 + 1 = l.length by omega] at this
    exact this
theorem Fs.further_found {N : Net} (hE : netErr N = 0) {f : Nat} (hf : f < N.places.length) : Found N (further N) f 0 (search N f 0 (further N)) := search_found (net_joined hE) (further_good hE) hf (Int.le_refl 0)
theorem Fs.way_zero {N : Net} {l : List Int} (h1 : l.length ≤ 200) (h2 : ∀ j, j < l.length → 0 ≤ listI l j ∧ listI l j < N.roads.length) (h3 : ∀ j, 0 < j → j < l.length → (listD N.roads (listI l (j - 1)).toNat).dst = (listD N.roads (listI l j).toNat).src) : wayErr N l = 0 := by
  refine (way_none (by omega) fun j hj => ?_).1
  refine hop_yes ?_ ?_
  · have := h2 j hj
    exact Fs.within_iff.2 ⟨this.1, by omega⟩
  · rintro ⟨hj0, hne⟩
    exact hne (h3 j hj0 hj)
theorem Fs.shortest_way {N : Net} (hE : netErr N = 0) {f t : Nat} (hf : f < N.places.length) (ht : t < N.places.length) {W : List Int} (hy : listI (heights N f) t ≠ -1) (hc : Chain N (search N f 0 (further N)).last t W.reverse) :
    wayErr N W = 0 ∧ JoinsIs N W f t ∧ metresTo N W = listI (heights N f) t ∧ (∀ j, j < W.length → 0 ≤ listI W j ∧ listI W j < N.roads.length) ∧ W.length ≤ 200 := by
  obtain ⟨rk, h1, h2⟩ := (further_found hE hf).chain hf (net_joined hE)
  obtain ⟨k1, k2⟩ := h2 t _ hc ht hy
  rw [List.reverse_reverse] at k2
  rw [List.length_reverse] at k1
  have := h1 t ht
  have := (net_sound hE).2.1
  exact ⟨way_zero (by omega) k2.inside k2.hops, k2.joins, k2.along, k2.inside, by omega⟩
theorem Fs.heights_proved {N : Net} (hE : netErr N = 0) {f t : Nat} (hf : f < N.places.length) (ht : t < N.places.length) (hy : listI (heights N f) t ≠ -1) : chHeights N f t (heights N f) = (listI (heights N f) t, 0) := by
  have F := further_found hE hf
  have hlen : (heights N f).length = N.places.length := heights_len N f
  have h20 := (net_sound hE).2.1
  rw [rHeights_same hE hf ht]
  unfold rHeights
  rw [if_pos hlen, if_pos (show LabIn (heights N f) from fun j hj => by
    rw [hlen] at hj
    by_cases e : listI (heights N f) j = -1
    · rw [e]; rfl
    · have := found_bound (net_joined hE) (further_good hE) (further_small hE) hf (Int.le_refl 0) j hj e
      exact Fs.within_iff.2 ⟨by have := this.1; show -1 ≤ listI (search N f 0 (further N)).labels j; omega, by have := this.2; show listI (search N f 0 (further N)).labels j ≤ _; omega⟩)]
  unfold chRes
  rw [if_neg, if_neg hy]
  rintro (h | h)
  · exact h F.own
  · refine h fun i hi => ?_
    by_cases e : listI (heights N f) (listD N.roads i).src.toNat = -1
    · exact .inl e
    · exact .inr (F.step i hi e)
theorem Fs.metOf_ok {N : Net} {l : List Int} (h1 : netErr N = 0) (h2 : wayErr N l = 0) : metOf N l = (metresTo N l, 0) := if_pos (by unfold cwErr; rw [if_pos h1, h2])
theorem Fs.way_longer {N : Net} (hE : netErr N = 0) {f t : Nat} (hf : f < N.places.length) {l : List Int} (hw : wayErr N l = 0) (hj : JoinsIs N l f t) : listI (heights N f) t ≤ metresTo N l :=
  (along_joins (further_found hE hf) (net_joined hE) (further_good hE) hf (Int.le_refl 0) hw hj).2
theorem Fs.hfErr_net {N : Net} {f : Int} (h : netErr N ≠ 0) : hfErr N f = netErr N ∧ hfList N f = [] := by
  have e : hfErr N f = netErr N := by unfold hfErr; rw [fst2, if_neg h]
  exact ⟨e, if_neg (by rw [e]; exact h)⟩
theorem Fs.hfErr_place {N : Net} {f : Int} (h : netErr N = 0) (h2 : isPlace N f = false) : hfErr N f = 6 ∧ hfList N f = [] := by
  have e : hfErr N f = 6 := by unfold hfErr; rw [fst2, if_pos h, place_one, h2]; rfl
  exact ⟨e, if_neg (by rw [e]; decide)⟩
theorem Fs.hfErr_fine {N : Net} {f : Int} (h : netErr N = 0) (h2 : isPlace N f = true) : hfErr N f = 0 ∧ hfList N f = heights N f := by
  have e : hfErr N f = 0 := by unfold hfErr; rw [fst2, if_pos h, place_one, h2]; rfl
  exact ⟨e, if_pos e⟩
theorem Fs.shErr_is (N : Net) (f t : Int) : shErr N f t = if netErr N = 0 then (if isPlace N f = true ∧ isPlace N t = true then 0 else 6) else netErr N := by
  unfold shErr; rw [fst2, place_two]
theorem Fs.shortest_bad {N : Net} {f t e : Int} (h : shErr N f t = e) (h2 : e ≠ 0) : shortest N f t = (0, e) := by
  unfold shortest; rw [if_neg (by rw [h]; exact h2), h]
end Go.Proofs.Ytjmaankkbdpikaa

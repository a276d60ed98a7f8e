/- Lists that are the same; ways that join places, and their metres, as the reference tells them. Conditions: the net can be read; a way is right. -/
import Derived.Test.YtndhpdjcpagghaaGreatDoorT38
import Derived.Test.YtndhpdjcpagghaaGreatDoorT43
import Derived.Test.YtndhpdjcpagghaaGreatDoorT25
import Derived.Deep.RegionHeld3
import Derived.Deep.CutRange
import Derived.Test.YtndhpdjcpagghaaGreatDoorT49
import Derived.Test.YtndhpdjcpagghaaGreatDoorT44
namespace Go.Proofs.YtndhpdjcpagghaaGreatDoor
open Go.RowKit Fs

set_option maxHeartbeats 800000 in
set_option maxRecDepth 100000 in
/-- Two rows that read as the same list are the same. -/
theorem ints_same (l : List Int) (A B : Option Addr) (c d : Nat) (w : World) (hA : ArrI w A l c) (hB : ArrI w B l d) :
    Calls Tryz.prog 14 #[.slice A l.length c, .slice B l.length d] w fun e w' => e = .returned (.bool true) ∧ Below w.heap.size w w' := by
  have b1 := hA.le.1
  have b2 := hA.le.2
  have b3 := hB.le.1
  have b4 := hB.le.2
  have HA := Lib.hid hA
  have HB := Lib.hid hB
  clear hA hB
  go_enter Tryz.func14, Tryz.ntmps14
  go_wp2_with fail
  go_loopw [5] (fun i wr => ∃ k : Nat, k ≤ l.length ∧ i = .int .i64 k ∧ Hid (Below w.heap.size w wr)) (fun i _ => l.length - (intOf i).toNat)
  case atStart => exact ⟨0, Nat.zero_le _, rfl, Lib.hid (Below.refl _ _)⟩
  case round =>
    obtain ⟨k, hk, rfl, HX⟩ := hrel
    by_cases hlt : k < l.length
    · have hkn : (k : Int) < (l.length : Int) := by omega
      obtain ⟨b1', o1, h1, c1⟩ := (HA.out.keep (Keep.below HX.out)).at_ hlt
      obtain ⟨b2', o2, h2, c2⟩ := (HB.out.keep (Keep.below HX.out)).at_ hlt
      subst h1; subst h2
      have e1 : (listI l k == listI l k) = true := by simp
      have e2 : (listI l k != listI l k) = false := by simp
      go_wp2_with fail
      go_quiet (fail)
      go_wp2_with fail
      go_roundw
      case rel => exact ⟨k + 1, by omega, by go_num, Lib.hid (bdrewN HX.out _)⟩
      case measure => simp [intOf]; omega
    · obtain rfl : k = l.length := by omega
      clear hlt hk
      go_wp2_with fail
      go_ret
      exact ⟨rfl, HX.out⟩

/-- A way joins two places. -/
def Fs.JoinsIs (N : Net) (l : List Int) (f t : Int) : Prop := if l.length = 0 then f = t else (listD N.roads (listI l 0).toNat).src = f ∧ (listD N.roads (listI l (l.length - 1)).toNat).dst = t
instance (N : Net) (l : List Int) (f t : Int) : Decidable (JoinsIs N l f t) := by unfold JoinsIs; infer_instance
end Go.Proofs.YtndhpdjcpagghaaGreatDoor
/- The reference's heights: going on along all roads as long as something becomes less. Condition: the net is right. -/
namespace Go.Proofs.YtndhpdjcpagghaaGreatDoor
open Go.RowKit Fs

end Go.Proofs.YtndhpdjcpagghaaGreatDoor
/- HeightsFrom; and what a shortest way is like. Condition: the net can be read. -/
namespace Go.Proofs.YtndhpdjcpagghaaGreatDoor
open Go.RowKit Fs

theorem arr1New (w : World) (x : Int) (ty : TypeId) : ArrI (w.alloc (.cells #[.int .i64 x] ty)) (some ⟨w.heap.size, 0, none⟩) [x] 1 := by
  refine ⟨Nat.le_refl _, by decide, fun _ => ⟨w.heap.size, 0, rfl, fun i j hi hj => ?_⟩⟩
  have hj0 : j = 0 := by omega
  have hi : i < 1 := hi
  have hi0 : i = 0 := by omega
  subst hj0; subst hi0
  exact cellNew w _ _ 0
theorem Fs.place_one (N : Net) (f : Int) : placesErr N [f] = if isPlace N f then 0 else 6 := by
  unfold placesErr
  show fst _ 1 = _
  cases h1 : isPlace N f with
  | false => exact (fst_hit (k := 0) (by decide) (fun j hj => absurd hj (Nat.not_lt_zero _)) (by show (if isPlace N f then (0 : Int) else 6) ≠ 0; rw [h1]; decide)).1.trans (by show (if isPlace N f then (0 : Int) else 6) = _; rw [h1])
  | true =>
    refine fst_none fun j hj => ?_
    obtain rfl : j = 0 := by omega
    show (if isPlace N f then (0 : Int) else 6) = 0
    rw [h1]
    rfl
def Fs.hfErr (N : Net) (f : Int) : Int := fst (listI [netErr N, placesErr N [f]]) 2
def Fs.hfList (N : Net) (f : Int) : List Int := if hfErr N f = 0 then heights N f else []
theorem Fs.hfErr_ok {N : Net} {f : Int} (h : hfErr N f = 0) : netErr N = 0 ∧ 0 ≤ f ∧ f < N.places.length :=
  ⟨fst_zero h 0 (by decide), place_in (fst_zero h 1 (by decide) : placesErr N [f] = 0) (k := 0) (by show 0 < 1; decide)⟩
theorem Fs.heights_len (N : Net) (f : Int) : (heights N f).length = N.places.length := search_len.1

/-! ### the way back is a way -/
theorem listI_app1 {l m : List Int} {i : Nat} (h : i < l.length) : listI (l ++ m) i = listI l i := by
  unfold listI
  rw [List.getD_eq_getElem?_getD, List.getD_eq_getElem?_getD, List.getElem?_append_left h]
theorem listI_app2 {l : List Int} {x : Int} : listI (l ++ [x]) l.length = x := by
  unfold listI
  rw [List.getD_eq_getElem?_getD, List.getElem?_append_right (Nat.le_refl _)]
  simp
theorem Fs.along_app (nx : Nat → Int → Int) (l m : List Int) (x : Int) : ∀ k, k ≤ l.length → alongTo nx k (l ++ m) x = alongTo nx k l x
  | 0, _ => rfl
  | k + 1, hk => by
    show nx (listI (l ++ m) k).toNat _ = nx (listI l k).toNat _
    rw [along_app nx l m x k (by omega), listI_app1 (by omega)]
theorem Fs.joins_none {N : Net} {l : List Int} {f t : Int} (h : l.length = 0) (h2 : f = t) : JoinsIs N l f t := by unfold JoinsIs; rw [if_pos h]; exact h2
theorem Fs.joins_some {N : Net} {l : List Int} {f t : Int} (h : l.length ≠ 0) (h2 : JoinsIs N l f t) : (listD N.roads (listI l 0).toNat).src = f ∧ (listD N.roads (listI l (l.length - 1)).toNat).dst = t := by unfold JoinsIs at h2; rwa [if_neg h] at h2
structure Fs.WayIs (N : Net) (nx : Nat → Int → Int) (src z : Nat) (L y : Int) (l : List Int) : Prop where
  inside : ∀ j, j < l.length → 0 ≤ listI l j ∧ listI l j < N.roads.length
  hops : ∀ j, 0 < j → j < l.length → (listD N.roads (listI l (j - 1)).toNat).dst = (listD N.roads (listI l j).toNat).src
  joins : JoinsIs N l src z
  along : alongTo nx l.length l L = y
theorem Fs.Found.chain {N : Net} {nx : Nat → Int → Int} {src : Nat} {L : Int} {s : St} (hs : src < N.places.length) (hF : Found N nx src L s) (hJ : Joined N) : ∃ rk : Nat → Nat, (∀ z, z < N.places.length → rk z ≤ N.places.length) ∧ ∀ z l, Chain N s.last z l → z < N.places.length → listI s.labels z ≠ -1 → l.length ≤ rk z ∧ WayIs N nx src z L (listI s.labels z) l.reverse := by
  obtain ⟨rk, ht⟩ := hF.tree
  refine ⟨fun z => if listI s.last z = -1 then 0 else rk z, fun z hz => ?_, fun z l hc => ?_⟩
  · dsimp only
    by_cases e : listI s.last z = -1
    · rw [if_pos e]; exact Nat.zero_le _
    · rw [if_neg e]; have := (ht z hz e).1; omega
  · induction hc with
    | stop z hl =>
      intro hz hy
      rcases hF.back z hz hl with h | h
      · subst h
        exact ⟨Nat.zero_le _, fun j hj => absurd hj (Nat.not_lt_zero _), fun j _ hj => absurd hj (Nat.not_lt_zero _), joins_none rfl rfl, hF.own.symm⟩
      · exact absurd h hy
    | go z i l hl hc ih =>
      intro hz hy
      have hne : listI s.last z ≠ -1 := by rw [hl]; omega
      obtain ⟨h1, i', h2, h3, h4, h5, h6, h7⟩ := ht z hz hne
      obtain rfl : i = i' := by rw [hl] at h3; omega
      obtain ⟨⟨s0, s1⟩, -⟩ := hJ i h2
      obtain ⟨k1, k2⟩ := ih (by omega) h5
      have hrl : (l.reverse).length = l.length := List.length_reverse
      have hrev : ((i : Int) :: l).reverse = l.reverse ++ [(i : Int)] := List.reverse_cons
      have hlen : (((i : Int) :: l).reverse).length = l.length + 1 := by simp
      refine ⟨?_, ⟨fun j hj => ?_, fun j hj0 hj => ?_, ?_, ?_⟩⟩
      · show l.length + 1 ≤ if listI s.last z = -1 then 0 else rk z
        rw [if_neg hne]
        dsimp only at k1
        by_cases e : listI s.last (listD N.roads i).src.toNat = -1
        · rw [if_pos e] at k1; omega
        · rw [if_neg e] at k1; omega
      · rw [hlen] at hj
        rw [hrev]
        by_cases e : j = l.length
        · subst e
          have := listI_app2 (l := l.reverse) (x := (i : Int))
          rw [hrl] at this
          rw [this]; omega
        · rw [listI_app1 (by rw [hrl]; omega)]
          exact k2.inside j (by rw [hrl]; omega)
      · rw [hlen] at hj
        rw [hrev]
        by_cases e : j = l.length
        · subst e
          have := listI_app2 (l := l.reverse) (x := (i : Int))
          rw [hrl] at this
          rw [this, listI_app1 (by rw [hrl]; omega), Int.toNat_natCast]
          have := (joins_some (by rw [hrl]; omega) k2.joins).2
          rw [hrl] at this
          rw [this]
          omega
        · rw [listI_app1 (by rw [hrl]; omega), listI_app1 (by rw [hrl]; omega)]
          exact k2.hops j hj0 (by rw [hrl]; omega)
      · have hlast := listI_app2 (l := l.reverse) (x := (i : Int))
        rw [hrl] at hlast
        unfold JoinsIs
        rw [hlen, if_neg (by omega), hrev, Nat.add_sub_cancel, hlast, Int.toNat_natCast]
        refine ⟨?_, h4⟩
        by_cases e : l.length = 0
        · have e0 := k2.joins
          unfold JoinsIs at e0
          rw [hrl, if_pos e] at e0
          rw [e] at hlast
          rw [hlast, Int.toNat_natCast]
          omega
        · rw [listI_app1 (by rw [hrl]; omega)]
          exact (joins_some (by rw [hrl]; omega) k2.joins).1
      · rw [hlen, hrev]
        show nx (listI (l.reverse ++ [(i : Int)]) l.length).toNat (alongTo nx l.length (l.reverse ++ [(i : Int)]) L) = _
        have := listI_app2 (l := l.reverse) (x := (i : Int))
        rw [hrl] at this
        rw [this, along_app nx _ _ _ _ (by rw [hrl]; exact Nat.le_refl _), Int.toNat_natCast, h6]
        have := k2.along
        rw [hrl] at this
        rw [this]
end Go.Proofs.YtndhpdjcpagghaaGreatDoor
/- What holds of heights and shortest ways: plain. Conditions: the net is right; the places are places. -/
namespace Go.Proofs.YtndhpdjcpagghaaGreatDoor
open Go.RowKit Fs

theorem Fs.found_bound {N : Net} {nx : Nat → Int → Int} {src : Nat} {L : Int} (hN : Joined N) (hg : Good N nx) (hm : Small N nx) (hs : src < N.places.length) (hL : 0 ≤ L) :
    ∀ z, z < N.places.length → listI (search N src L nx).labels z ≠ -1 → 0 ≤ listI (search N src L nx).labels z ∧ listI (search N src L nx).labels z ≤ L + 100000 * N.places.length := by
  have F := search_found hN hg hs hL
  generalize search N src L nx = S at *
  obtain ⟨rk, ht⟩ := F.tree
  have key : ∀ n z, rk z ≤ n → z < N.places.length → listI S.labels z ≠ -1 → 0 ≤ listI S.labels z ∧ (listI S.last z ≠ -1 → listI S.labels z ≤ L + 100000 * rk z) ∧ (listI S.last z = -1 → listI S.labels z ≤ L) := by
    intro n
    induction n with
    | zero =>
      intro z hr hz hl
      have hle := F.least z hz
      refine ⟨by omega, fun e => ?_, fun e => ?_⟩
      · obtain ⟨-, i, -, -, -, -, -, h6⟩ := ht z hz e
        omega
      · rcases F.back z hz e with h1 | h1
        · subst h1; rw [F.own]; exact Int.le_refl _
        · exact absurd h1 hl
    | succ n ih =>
      intro z hr hz hl
      have hle := F.least z hz
      refine ⟨by omega, fun e => ?_, fun e => ?_⟩
      · obtain ⟨-, i, h1, h2, h3, h4, h5, h6⟩ := ht z hz e
        have hj := hN i h1
        obtain ⟨k0, k1, k2⟩ := ih (listD N.roads i).src.toNat (by omega) (by omega) h4
        have hsm := hm i _ h1 k0
        by_cases e2 : listI S.last (listD N.roads i).src.toNat = -1
        · have := k2 e2; omega
        · have := k1 e2; omega
      · rcases F.back z hz e with h1 | h1
        · subst h1; rw [F.own]; exact Int.le_refl _
        · exact absurd h1 hl
  intro z hz hl
  obtain ⟨k0, k1, k2⟩ := key (rk z) z (Nat.le_refl _) hz hl
  refine ⟨k0, ?_⟩
  by_cases e : listI S.last z = -1
  · have := k2 e; omega
  · have := k1 e
    have := (ht z hz e).1
    omega
/-- No way is less than the labels. -/
theorem Fs.along_over {N : Net} {nx : Nat → Int → Int} {src : Nat} {L : Int} {s : St} (hF : Found N nx src L s) (hN : Joined N) (hg : Good N nx) (hs : src < N.places.length) (hL : 0 ≤ L) {l : List Int} (hw : wayErr N l = 0) (h0 : l.length ≠ 0 → (listD N.roads (listI l 0).toNat).src = (src : Int)) :
    ∀ k, k < l.length → listI s.labels (listD N.roads (listI l k).toNat).dst.toNat ≠ -1 ∧ listI s.labels (listD N.roads (listI l k).toNat).dst.toNat ≤ alongTo nx (k + 1) l L
  | 0, hk => by
    have hr := ((way_ok hw).2 0 hk).1
    have h := h0 (by omega)
    have st := hF.step (listI l 0).toNat (by omega)
    rw [h, Int.toNat_natCast, hF.own] at st
    exact st (by omega)
  | k + 1, hk => by
    have ih := along_over hF hN hg hs hL hw h0 k (by omega)
    have hr := ((way_ok hw).2 (k + 1) hk)
    have hj := hr.2 (by omega)
    rw [Nat.add_sub_cancel] at hj
    have hr := hr.1
    have st := hF.step (listI l (k + 1)).toNat (by omega)
    rw [← hj] at st
    have st := st ih.1
    have hjn := hN (listI l k).toNat (by have := ((way_ok hw).2 k (by omega)).1; omega)
    have hle : 0 ≤ listI s.labels (listD N.roads (listI l k).toNat).dst.toNat := by
      rcases hF.least (listD N.roads (listI l k).toNat).dst.toNat (by omega) with h | h
      · exact absurd h ih.1
      · omega
    have hm := hg.mono (listI l (k + 1)).toNat _ _ (by omega) hle ih.2
    refine ⟨st.1, ?_⟩
    show _ ≤ nx (listI l (k + 1)).toNat (alongTo nx (k + 1) l L)
    omega
theorem Fs.along_joins {N : Net} {nx : Nat → Int → Int} {src t : Nat} {L : Int} {s : St} (hF : Found N nx src L s) (hN : Joined N) (hg : Good N nx) (hs : src < N.places.length) (hL : 0 ≤ L) {l : List Int} (hw : wayErr N l = 0) (hj : JoinsIs N l src t) :
    listI s.labels t ≠ -1 ∧ listI s.labels t ≤ alongTo nx l.length l L := by
  by_cases e : l.length = 0
  · unfold JoinsIs at hj
    rw [if_pos e] at hj
    have : src = t := by omega
    subst this
    rw [e, hF.own]
    exact ⟨by omega, Int.le_refl _⟩
  · have j := joins_some e hj
    have := along_over hF hN hg hs hL hw (fun _ => j.1) (l.length - 1) (by omega)
    rw [j.2, Int.toNat_natCast, show l.length - 1 + 1 = l.length by omega] at this
    exact this
theorem Fs.further_found {N : Net} (hE : netErr N = 0) {f : Nat} (hf : f < N.places.length) : Found N (further N) f 0 (search N f 0 (further N)) := search_found (net_joined hE) (further_good hE) hf (Int.le_refl 0)
theorem Fs.way_zero {N : Net} {l : List Int} (h1 : l.length ≤ 200) (h2 : ∀ j, j < l.length → 0 ≤ listI l j ∧ listI l j < N.roads.length) (h3 : ∀ j, 0 < j → j < l.length → (listD N.roads (listI l (j - 1)).toNat).dst = (listD N.roads (listI l j).toNat).src) : wayErr N l = 0 := by
  refine (way_none (by omega) fun j hj => ?_).1
  refine hop_yes ?_ ?_
  · have := h2 j hj
    exact Fs.within_iff.2 ⟨this.1, by omega⟩
  · rintro ⟨hj0, hne⟩
    exact hne (h3 j hj0 hj)
theorem Fs.shortest_way {N : Net} (hE : netErr N = 0) {f t : Nat} (hf : f < N.places.length) (ht : t < N.places.length) {W : List Int} (hy : listI (heights N f) t ≠ -1) (hc : Chain N (search N f 0 (further N)).last t W.reverse) :
    wayErr N W = 0 ∧ JoinsIs N W f t ∧ metresTo N W = listI (heights N f) t ∧ (∀ j, j < W.length → 0 ≤ listI W j ∧ listI W j < N.roads.length) ∧ W.length ≤ 200 := by
  obtain ⟨rk, h1, h2⟩ := (further_found hE hf).chain hf (net_joined hE)
  obtain ⟨k1, k2⟩ := h2 t _ hc ht hy
  rw [List.reverse_reverse] at k2
  rw [List.length_reverse] at k1
  have := h1 t ht
  have := (net_sound hE).2.1
  exact ⟨way_zero (by omega) k2.inside k2.hops, k2.joins, k2.along, k2.inside, by omega⟩
theorem Fs.heights_proved {N : Net} (hE : netErr N = 0) {f t : Nat} (hf : f < N.places.length) (ht : t < N.places.length) (hy : listI (heights N f) t ≠ -1) : chHeights N f t (heights N f) = (listI (heights N f) t, 0) := by
  have F := further_found hE hf
  have hlen : (heights N f).length = N.places.length := heights_len N f
  have h20 := (net_sound hE).2.1
  rw [rHeights_same hE hf ht]
  unfold rHeights
  rw [if_pos hlen, if_pos (show LabIn (heights N f) from fun j hj => by
    rw [hlen] at hj
    by_cases e : listI (heights N f) j = -1
    · rw [e]; rfl
    · have := found_bound (net_joined hE) (further_good hE) (further_small hE) hf (Int.le_refl 0) j hj e
      exact Fs.within_iff.2 ⟨by have := this.1; show -1 ≤ listI (search N f 0 (further N)).labels j; omega, by have := this.2; show listI (search N f 0 (further N)).labels j ≤ _; omega⟩)]
  unfold chRes
  rw [if_neg, if_neg hy]
  rintro (h | h)
  · exact h F.own
  · refine h fun i hi => ?_
    by_cases e : listI (heights N f) (listD N.roads i).src.toNat = -1
    · exact .inl e
    · exact .inr (F.step i hi e)
theorem Fs.metOf_ok {N : Net} {l : List Int} (h1 : netErr N = 0) (h2 : wayErr N l = 0) : metOf N l = (metresTo N l, 0) := if_pos (by unfold cwErr; rw [if_pos h1, h2])
theorem Fs.way_longer {N : Net} (hE : netErr N = 0) {f t : Nat} (hf : f < N.places.length) {l : List Int} (hw : wayErr N l = 0) (hj : JoinsIs N l f t) : listI (heights N f) t ≤ metresTo N l :=
  (along_joins (further_found hE hf) (net_joined hE) (further_good hE) hf (Int.le_refl 0) hw hj).2
theorem Fs.hfErr_net {N : Net} {f : Int} (h : netErr N ≠ 0) : hfErr N f = netErr N ∧ hfList N f = [] := by
  have e : hfErr N f = netErr N := by unfold hfErr; rw [fst2, if_neg h]
  exact ⟨e, if_neg (by rw [e]; exact h)⟩
theorem Fs.hfErr_place {N : Net} {f : Int} (h : netErr N = 0) (h2 : isPlace N f = false) : hfErr N f = 6 ∧ hfList N f = [] := by
  have e : hfErr N f = 6 := by unfold hfErr; rw [fst2, if_pos h, place_one, h2]; rfl
  exact ⟨e, if_neg (by rw [e]; decide)⟩
theorem Fs.hfErr_fine {N : Net} {f : Int} (h : netErr N = 0) (h2 : isPlace N f = true) : hfErr N f = 0 ∧ hfList N f = heights N f := by
  have e : hfErr N f = 0 := by unfold hfErr; rw [fst2, if_pos h, place_one, h2]; rfl
  exact ⟨e, if_pos e⟩
theorem Fs.shErr_is (N : Net) (f t : Int) : shErr N f t = if netErr N = 0 then (if isPlace N f = true ∧ isPlace N t = true then 0 else 6) else netErr N := by
  unfold shErr; rw [fst2, place_two]
theorem Fs.shortest_bad {N : Net} {f t e : Int} (h : shErr N f t = e) (h2 : e ≠ 0) : shortest N f t = (0, e) := by
  unfold shortest; rw [if_neg (by rw [h]; exact h2), h]
end Go.Proofs.YtndhpdjcpagghaaGreatDoor

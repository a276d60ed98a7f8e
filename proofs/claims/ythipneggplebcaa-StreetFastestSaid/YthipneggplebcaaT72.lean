/- The reference's Detour. Conditions: the net and the way are right; the places are places; the time is small. -/
import Derived.Test.YthipneggplebcaaT71
import Derived.Test.YthipneggplebcaaT44
import Derived.Test.YthipneggplebcaaT52
namespace Go.Proofs.Ythipneggplebcaa
open Go.RowKit Fs

theorem Fs.fast_way {N : Net} (hE : netErr N = 0) {nx : Nat → Int → Int} (hg : Good N nx) {f t : Nat} (hf : f < N.places.length) (ht : t < N.places.length) {a : Int} (h0 : 0 ≤ a) {W : List Int} (hy : listI (search N f a nx).labels t ≠ -1) (hc : Chain N (search N f a nx).last t W.reverse) :
    wayErr N W = 0 ∧ JoinsIs N W f t ∧ alongTo nx W.length W a = listI (search N f a nx).labels t ∧ (∀ j, j < W.length → 0 ≤ listI W j ∧ listI W j < N.roads.length) ∧ W.length ≤ 200 := by
  obtain ⟨rk, h1, h2⟩ := (search_found (net_joined hE) hg hf h0).chain hf (net_joined hE)
  obtain ⟨k1, k2⟩ := h2 t _ hc ht hy
  rw [List.reverse_reverse] at k2
  rw [List.length_reverse] at k1
  have := h1 t ht
  have := (net_sound hE).2.1
  exact ⟨way_zero (by omega) k2.inside k2.hops, k2.joins, k2.along, k2.inside, by omega⟩
theorem Fs.estErr_net {N : Net} {f t a : Int} (h : netErr N ≠ 0) : estErr N f t a = netErr N :=
  (fst_hit (k := 0) (n := 2) (by decide) (fun j hj => absurd hj (Nat.not_lt_zero _)) h).1
theorem Fs.dtErr_net {N : Net} {f t a : Int} {l : List Int} (h : netErr N ≠ 0) : dtErr N f t a l = netErr N :=
  (fst_hit (k := 0) (n := 3) (by decide) (fun j hj => absurd hj (Nat.not_lt_zero _)) h).1
theorem Fs.estErr_trip {N : Net} {f t a : Int} (h0 : netErr N = 0) (h : tripErr N f t a ≠ 0) : estErr N f t a = tripErr N f t a :=
  (fst_hit (k := 1) (n := 2) (by decide) (fun j hj => by obtain rfl : j = 0 := by omega
                                                         exact h0) h).1
theorem Fs.dtErr_trip {N : Net} {f t a : Int} {l : List Int} (h0 : netErr N = 0) (h : tripErr N f t a ≠ 0) : dtErr N f t a l = tripErr N f t a :=
  (fst_hit (k := 1) (n := 3) (by decide) (fun j hj => by obtain rfl : j = 0 := by omega
                                                         exact h0) h).1
theorem Fs.dtErr_way {N : Net} {f t a : Int} {l : List Int} (h0 : netErr N = 0) (h1 : tripErr N f t a = 0) : dtErr N f t a l = wayErr N l := by
  have hc : cwErr N l = wayErr N l := by unfold cwErr; rw [if_pos h0]
  unfold dtErr
  rw [h0, h1, hc]
  by_cases h : wayErr N l = 0
  · rw [h]; rfl
  · exact (fst_hit (k := 2) (n := 3) (by decide) (fun j hj => by
      obtain rfl | rfl : j = 0 ∨ j = 1 := by omega
      · rfl
      · rfl) h).1
theorem Fs.estErr_zero {N : Net} {f t a : Int} (h0 : netErr N = 0) (h1 : tripErr N f t a = 0) : estErr N f t a = 0 := by
  unfold estErr
  rw [h0, h1]
  rfl

set_option linter.unusedSimpArgs false in
set_option maxHeartbeats 6400000 in
set_option maxRecDepth 100000 in
theorem rDetour_any (N : Net) (v : Value) (X Y : Nat) (a : Int) (l : List Int) (A : Option Addr) (c : Nat) (w : World) (hN : RdNet w v N) (hA : ArrI w A l c) (hE : netErr N = 0) (hQ : wayErr N l = 0) (hXl : X < N.places.length) (hYl : Y < N.places.length) (ha0 : 0 ≤ a) (ha1 : a ≤ 1000000) :
    Calls Try.prog 49 #[v, stripV X Y a, .slice A l.length c] w fun e w' => e = .returned (.tuple #[.agg #[.int .i64 (dtRes N X Y a l).1.1, .int .i64 (dtRes N X Y a l).1.2], .int .i64 (dtRes N X Y a l).2]) ∧ Below w.heap.size w w' := by
  have hN0 := Lib.hid hN
  obtain ⟨P, R, pc, rc, ar, rfl, m⟩ := hN
  clear m
  have HA := Lib.hid hA
  have HE := Lib.hid hE
  have HIN := Lib.hid (fun j hj => ((way_ok hQ).2 j hj).1)
  have hll := (way_ok hQ).1
  have HQ := Lib.hid hQ
  clear hA hE hQ
  have BN := Lib.hid ((BoxN.new w N P R pc rc 25).keep ((Keep.alloc _ (.cells #[.int .i64 X, .int .i64 Y, .int .i64 a] 63)).trans (Keep.alloc _ (.cells #[.int .i64 0, .int .i64 0] 35))))
  have BT := Lib.hid ((TripAt.new1 w (.cells #[.slice P N.places.length pc, .slice R N.roads.length rc] 25) X Y a 63).keep (Keep.alloc _ (.cells #[.int .i64 0, .int .i64 0] 35)))
  have BR := Lib.hid (show TreeAt (((w.alloc (.cells #[.slice P N.places.length pc, .slice R N.roads.length rc] 25)).alloc (.cells #[.int .i64 X, .int .i64 Y, .int .i64 a] 63)).alloc (.cells #[.int .i64 0, .int .i64 0] 35)) (w.heap.size + 1 + 1) (.int .i64 0) (.int .i64 0) from by
    have := TreeAt.new ((w.alloc (.cells #[.slice P N.places.length pc, .slice R N.roads.length rc] 25)).alloc (.cells #[.int .i64 X, .int .i64 Y, .int .i64 a] 63)) (.int .i64 0) (.int .i64 0) 35
    simpa using this)
  go_enter Try.func49, Try.ntmps49
  go_upto_region 1 with fail
  generalize hwb : ((w.alloc _).alloc _).alloc _ = wb at *
  have HW : Hid (Below w.heap.size w wb) := by rw [← hwb]; exact Lib.hid ((((Below.refl _ _).alloc (Nat.le_refl _) _).alloc (by simp) _).alloc (by simp; omega) _)
  clear hwb
  obtain ⟨n0, n1⟩ := BN.out
  obtain ⟨c0, c1, c2⟩ := BT.out
  go_wp2_with fail
  refine (rJoins_any N _ l A c X Y _ (hN0.out.keep (Keep.below HW.out)) (HA.out.keep (Keep.below HW.out)) HIN.out).mono ?_
  rintro e' w1 ⟨rfl, hb1⟩
  replace HW := Lib.hid (HW.out.trans (hb1.mono HW.out.size))
  replace BN := Lib.hid (BN.out.keep (Keep.below hb1))
  replace BT := Lib.hid (BT.out.keep (Keep.below hb1))
  replace BR := Lib.hid (BR.out.keep hb1)
  clear n0 n1 c0 c1 c2
  clear hb1
  by_cases hj : JoinsIs N l X Y
  · have F := Lib.hid (show dtRes N X Y a l = _ from if_pos hj)
    rw [show decide (JoinsIs N l X Y) = true from decide_eq_true hj]
    have HJ := Lib.hid hj
    clear hj
    obtain ⟨n0, n1⟩ := BN.out
    obtain ⟨c0, c1, c2⟩ := BT.out
    go_wp2_with fail
    refine (rEstimate_any N _ X Y a _ (hN0.out.keep (Keep.below HW.out)) HE.out hXl hYl ha0 ha1).mono ?_
    rintro e' w3 ⟨rfl, hb1⟩
    replace HW := Lib.hid (HW.out.trans (hb1.mono HW.out.size))
    replace BN := Lib.hid (BN.out.keep (Keep.below hb1))
    replace BT := Lib.hid (BT.out.keep (Keep.below hb1))
    replace BR := Lib.hid (BR.out.keep hb1)
    clear n0 n1 c0 c1 c2
    clear hb1
    have HU := Lib.hid (TreeAt.new w3 (.int .i64 (listI (search N X a (soonest N)).labels Y)) (.int .i64 (listI (search N X a (latest N)).labels Y)) 35)
    have hb8 : Below w3.heap.size w3 (w3.alloc (.cells #[.int .i64 (listI (search N X a (soonest N)).labels Y), .int .i64 (listI (search N X a (latest N)).labels Y)] 35)) := (Below.refl _ _).alloc (Nat.le_refl _) _
    replace HW := Lib.hid (HW.out.trans (hb8.mono HW.out.size))
    replace BN := Lib.hid (BN.out.keep (Keep.below hb8))
    replace BT := Lib.hid (BT.out.keep (Keep.below hb8))
    replace BR := Lib.hid (BR.out.keep hb8)
    clear hb8
    obtain ⟨n0, n1⟩ := BN.out
    obtain ⟨c0, c1, c2⟩ := BT.out
    go_wp2_with fail
    refine (rArrivalOf_any N _ l A c a _ (hN0.out.keep (Keep.below HW.out)) (HA.out.keep (Keep.below HW.out)) HE.out HIN.out (by omega) ha0 ha1).mono ?_
    rintro e' w4 ⟨rfl, hb1⟩
    replace HW := Lib.hid (HW.out.trans (hb1.mono HW.out.size))
    replace BN := Lib.hid (BN.out.keep (Keep.below hb1))
    replace BT := Lib.hid (BT.out.keep (Keep.below hb1))
    replace BR := Lib.hid (BR.out.keep hb1)
    replace HU := Lib.hid (HU.out.keep hb1)
    clear n0 n1 c0 c1 c2
    clear hb1
    have HV := Lib.hid (TreeAt.new w4 (.int .i64 (arrivals N l a).1) (.int .i64 (arrivals N l a).2) 35)
    have hb8 : Below w4.heap.size w4 (w4.alloc (.cells #[.int .i64 (arrivals N l a).1, .int .i64 (arrivals N l a).2] 35)) := (Below.refl _ _).alloc (Nat.le_refl _) _
    replace HW := Lib.hid (HW.out.trans (hb8.mono HW.out.size))
    replace BN := Lib.hid (BN.out.keep (Keep.below hb8))
    replace BT := Lib.hid (BT.out.keep (Keep.below hb8))
    replace BR := Lib.hid (BR.out.keep hb8)
    replace HU := Lib.hid (HU.out.keep hb8)
    clear hb8
    have hj := along_joins (search_found (net_joined HE.out) (latest_good HE.out) hXl ha0) (net_joined HE.out) (latest_good HE.out) hXl ha0 HQ.out HJ.out
    have hi := along_joins (search_found (net_joined HE.out) (soonest_good HE.out) hXl ha0) (net_joined HE.out) (soonest_good HE.out) hXl ha0 HQ.out HJ.out
    have hj1 := (search_found (net_joined HE.out) (latest_good HE.out) hXl ha0).least Y hYl
    have hi1 := (search_found (net_joined HE.out) (soonest_good HE.out) hXl ha0).least Y hYl
    have hz1 := alongTo_le (soonest_small HE.out) HIN.out ha0 l.length (Nat.le_refl _)
    have hz2 := alongTo_le (latest_small HE.out) HIN.out ha0 l.length (Nat.le_refl _)
    obtain ⟨u0, u1, -, -⟩ := HU.out
    obtain ⟨v0, v1, -, -⟩ := HV.out
    obtain ⟨r0, r1, rf0, rf1⟩ := BR.out
    have F' := Lib.hid (show dtRes N X Y a l = ((over (arrivals N l a).1 (listI (search N X a (latest N)).labels Y), over (arrivals N l a).2 (listI (search N X a (soonest N)).labels Y)), 0) from F.out)
    clear F HU HV HE HQ HJ HIN
    have hs4 := HW.out.size
    rw [show (arrivals N l a).1 = alongTo (soonest N) l.length l a from rfl, show (arrivals N l a).2 = alongTo (latest N) l.length l a from rfl] at *
    generalize alongTo (soonest N) l.length l a = x1 at *
    generalize alongTo (latest N) l.length l a = x2 at *
    generalize listI (search N X a (soonest N)).labels Y = y1 at *
    generalize listI (search N X a (latest N)).labels Y = y2 at *
    have hw1 : IntKind.i64.wrap (x1 - y2) = x1 - y2 := by rw [IntKind.wrap_i64]; omega
    have hw2 : IntKind.i64.wrap (x2 - y1) = x2 - y1 := by rw [IntKind.wrap_i64]; omega
    clear hj hi hj1 hi1 hz1 hz2
    go_wp2_with fail
    refine bodyPost_ret (v := .tuple #[.agg #[.int .i64 (over x1 y2), .int .i64 (over x2 y1)], .int .i64 0]) (by simp [results, Try.results49, go_sem, r0, r1, over]) rfl ⟨by rw [F'.out], ?_⟩
    exact (HW.out.setCell (p := ⟨w.heap.size + 1 + 1, 0, none⟩) (by dsimp only; omega) _).setCell (p := ⟨w.heap.size + 1 + 1, 1, none⟩) (by dsimp only; omega) _
  · have F := Lib.hid (show dtRes N X Y a l = ((0, 0), 13) from if_neg hj)
    rw [show decide (JoinsIs N l X Y) = false from decide_eq_false hj]
    clear hj
    obtain ⟨r0, r1, rf0, rf1⟩ := BR.out
    go_wp2_with fail
    refine bodyPost_ret (v := .tuple #[.agg #[.int .i64 0, .int .i64 0], .int .i64 13]) (by simp [results, Try.results49, go_sem, r0, r1, over]) rfl ⟨by rw [F.out], ?_⟩
    exact (HW.out.setCell (p := ⟨w.heap.size + 1 + 1, 0, none⟩) (by dsimp only; omega) _).setCell (p := ⟨w.heap.size + 1 + 1, 1, none⟩) (by dsimp only; omega) _
end Go.Proofs.Ythipneggplebcaa

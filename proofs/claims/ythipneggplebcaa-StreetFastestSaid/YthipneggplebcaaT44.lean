/- The reference's earliest arrivals and estimates. Conditions: the net is right; the places are places; the time is small. -/
import Derived.Test.YthipneggplebcaaT43
import Derived.Test.YthipneggplebcaaT38
import Derived.Test.YthipneggplebcaaT36
namespace Go.Proofs.Ythipneggplebcaa
open Go.RowKit Fs

theorem ArrI.far {B : Nat} {w : World} {g : Nat} {l : List Int} {c : Nat} (h : ArrI w (some ⟨g, 0, none⟩) l c) (hg : B ≤ g) {p : Addr} (hp : p.block < B) (v : Value) : ArrI (w.setCell p v) (some ⟨g, 0, none⟩) l c :=
  Arr.far h (fun ad e => by injection e with e; subst e; exact hg) hp v

theorem cell_off2 {w : World} (g h i : Nat) (u v x : Value) (hc : w.cell? ⟨h, i, none⟩ = some x) (hne : g ≠ h) : ((w.setCell ⟨g, 0, none⟩ u).setCell ⟨g, 1, none⟩ v).cell? ⟨h, i, none⟩ = some x := by
  rw [World.cell?_setCell_far _ _ _ _ (by show g ≠ h; omega), World.cell?_setCell_far _ _ _ _ (by show g ≠ h; omega)]
  exact hc
set_option maxHeartbeats 6400000 in
set_option maxRecDepth 100000 in
theorem rEarliest_any (N : Net) (v : Value) (src : Nat) (L : Int) (w : World) (hN : RdNet w v N) (hE : netErr N = 0) (hs : src < N.places.length) (hL0 : 0 ≤ L) (hL1 : L ≤ 1000000) :
    Calls Try.prog 39 #[v, .int .i64 src, .int .i64 L] w fun e w' => ∃ g1 c1 g2 c2, e = .returned (.agg #[.slice (some ⟨g1, 0, none⟩) N.places.length c1, .slice (some ⟨g2, 0, none⟩) N.places.length c2]) ∧
      w.heap.size ≤ g1 ∧ w.heap.size ≤ g2 ∧ ArrI w' (some ⟨g1, 0, none⟩) (search N src L (soonest N)).labels c1 ∧ ArrI w' (some ⟨g2, 0, none⟩) (search N src L (latest N)).labels c2 ∧ Below w.heap.size w w' := by
  have hN0 := Lib.hid hN
  obtain ⟨P, R, pc, rc, a, rfl, m⟩ := hN
  clear m
  have BN := Lib.hid ((BoxN.new w N P R pc rc 25).keep (Keep.alloc _ (.cells #[.slice none 0 0, .slice none 0 0] 65)))
  have RT := Lib.hid (show TreeAt ((w.alloc (.cells #[.slice P N.places.length pc, .slice R N.roads.length rc] 25)).alloc (.cells #[.slice none 0 0, .slice none 0 0] 65)) (w.heap.size + 1) (.slice none 0 0) (.slice none 0 0) from ⟨cellNew1 _ _ _ _ 0, cellNew1 _ _ _ _ 1, frozenNew1 _ _ _ _ 0, frozenNew1 _ _ _ _ 1⟩)
  go_enter Try.func39, Try.ntmps39
  go_upto_region 1 with fail
  generalize hwb : (w.alloc _).alloc _ = wb at *
  have HW : Hid (Below w.heap.size w wb) := by rw [← hwb]; exact Lib.hid (((Below.refl _ _).alloc (Nat.le_refl _) _).alloc (by simp) _)
  have HWS : Hid (w.heap.size + 2 = wb.heap.size) := by rw [← hwb]; exact Lib.hid (by simp)
  clear hwb
  obtain ⟨n0, n1⟩ := BN.out
  have HBd : Hid (Below (w.heap.size + 1) wb wb.drew) := Lib.hid (Below.refl _ _).drew
  have HWB := Lib.hid (show w.heap.size + 1 ≤ wb.heap.size by have := HWS.out; omega)
  have MK : Hid (∀ w', Below (w.heap.size + 1) wb w' → w'.cell? ⟨w.heap.size, 0, none⟩ = some (.slice P N.places.length pc) ∧ w'.cell? ⟨w.heap.size, 1, none⟩ = some (.slice R N.roads.length rc) ∧ Hid (Below (w.heap.size + 1) wb w')) :=
    Lib.hid fun w' hw => ⟨(hw.cell (p := ⟨w.heap.size, 0, none⟩) (Nat.lt_succ_self _)).trans n0, (hw.cell (p := ⟨w.heap.size, 1, none⟩) (Nat.lt_succ_self _)).trans n1, Lib.hid hw⟩
  go_cut [] from 7 to 15 (fun wx => ∃ g1 c1 g2 c2, w.heap.size ≤ g1 ∧ w.heap.size ≤ g2 ∧ Hid (TreeAt wx (w.heap.size + 1) (.slice (some ⟨g1, 0, none⟩) N.places.length c1) (.slice (some ⟨g2, 0, none⟩) N.places.length c2)) ∧ Hid (ArrI wx (some ⟨g1, 0, none⟩) (search N src L (soonest N)).labels c1) ∧
    Hid (ArrI wx (some ⟨g2, 0, none⟩) (search N src L (latest N)).labels c2) ∧ Hid (Below w.heap.size w wx))
  case first =>
    have HT : Hid (TreeAt wb.drew (w.heap.size + 1) (.slice none 0 0) (.slice none 0 0)) := Lib.hid ⟨RT.out.c0, RT.out.c1, RT.out.f0, RT.out.f1⟩
    go_region_held3 (fun w' => w'.cell? ⟨w.heap.size, 0, none⟩ = some (.slice P N.places.length pc) ∧ w'.cell? ⟨w.heap.size, 1, none⟩ = some (.slice R N.roads.length rc) ∧ Hid (Below (w.heap.size + 1) wb w'))
      (first
        | exact MK.out _ HBd.out
        | (go_split_ands; exact MK.out _ (Below.trans (Hid.out (by assumption)) (hb1.mono (Nat.le_trans HWB.out (Hid.out (by assumption) : Below (w.heap.size + 1) wb _).size))))
        | (go_split_ands; exact MK.out _ (Below.setCell (p := ⟨w.heap.size + 1, 1, none⟩) (Below.setCell (p := ⟨w.heap.size + 1, 0, none⟩) (Hid.out (by assumption)) (Nat.le_refl _) _) (Nat.le_refl _) _)))
      ((first
        | (go_at_call 97
           with_reducible show Calls _ _ #[_, _, _, .bool false] _ _
           go_split_ands
           refine (rSoon_any N _ src L _ (hN0.out.keep (Keep.below (HW.out.trans ((Hid.out (by assumption) : Below (w.heap.size + 1) wb _).mono (Nat.le_succ _))))) hE hs hL0 hL1).mono ?_
           rintro e' w2 ⟨g1, c1, rfl, hg1, hr1, hb1⟩
           have HG1 := Lib.hid (Nat.le_trans (Hid.out (by assumption) : Below (w.heap.size + 1) wb _).size hg1)
           clear hg1
           have HT := Lib.hid (TreeAt.keep (HT.out) hb1)
           have HR1 := Lib.hid hr1
           clear hr1
           try (have HR2 := Lib.hid (HR2.out.keep (Keep.below hb1)))
           obtain ⟨r0, r1, rf0, rf1⟩ := HT.out)
        | (go_at_call 97
           with_reducible show Calls _ _ #[_, _, _, .bool true] _ _
           go_split_ands
           refine (rLate_any N _ src L _ (hN0.out.keep (Keep.below (HW.out.trans ((Hid.out (by assumption) : Below (w.heap.size + 1) wb _).mono (Nat.le_succ _))))) hE hs hL0 hL1).mono ?_
           rintro e' w2 ⟨g2, c2, rfl, hg2, hr2, hb1⟩
           have HG2 := Lib.hid (Nat.le_trans (Hid.out (by assumption) : Below (w.heap.size + 1) wb _).size hg2)
           clear hg2
           have HT := Lib.hid (TreeAt.keep (HT.out) hb1)
           have HR2 := Lib.hid hr2
           clear hr2
           try (have HR1 := Lib.hid (HR1.out.keep (Keep.below hb1)))
           obtain ⟨r0, r1, rf0, rf1⟩ := HT.out)))
    all_goals
      rename_i hS
      obtain ⟨-, -, hbb⟩ := hS
      go_wp2_with fail
      go_meet
      have hne1 : w.heap.size + 2 ≤ g1 := by have := HWS.out; have := HG1.out; omega
      have hne2 : w.heap.size + 2 ≤ g2 := by have := HWS.out; have := HG2.out; omega
      exact ⟨g1, c1, g2, c2, by omega, by omega, Lib.hid (HT.out.set _ _), Lib.hid ((HR1.out.far (p := ⟨w.heap.size + 1, 0, none⟩) hne1 (Nat.lt_succ_self _) _).far (p := ⟨w.heap.size + 1, 1, none⟩) hne1 (Nat.lt_succ_self _) _), Lib.hid ((HR2.out.far (p := ⟨w.heap.size + 1, 0, none⟩) hne2 (Nat.lt_succ_self _) _).far (p := ⟨w.heap.size + 1, 1, none⟩) hne2 (Nat.lt_succ_self _) _), Lib.hid (HW.out.trans (hbb.out.mono (Nat.le_succ _)))⟩
  case rest =>
    obtain ⟨g1, c1, g2, c2, hg1, hg2, HT, H1, H2, HB⟩ := hcut
    obtain ⟨r0, r1, rf0, rf1⟩ := HT.out
    go_wp2_with fail
    refine bodyPost_ret (v := .agg #[.slice (some ⟨g1, 0, none⟩) N.places.length c1, .slice (some ⟨g2, 0, none⟩) N.places.length c2]) (by simp [results, Try.results39, go_sem, r0, r1]) rfl ⟨g1, c1, g2, c2, rfl, hg1, hg2, H1.out, H2.out, HB.out⟩

/-- Both labels of a place, and whether there is a way. -/
abbrev estBack (x y : Int) : Value := .tuple #[.agg #[.int .i64 x, .int .i64 y], .bool (decide (0 ≤ x))]
set_option maxHeartbeats 6400000 in
set_option maxRecDepth 100000 in
theorem rEstimate_any (N : Net) (v : Value) (f t : Nat) (a : Int) (w : World) (hN : RdNet w v N) (hE : netErr N = 0) (hf : f < N.places.length) (ht : t < N.places.length) (h0 : 0 ≤ a) (h1 : a ≤ 1000000) :
    Calls Try.prog 50 #[v, stripV f t a] w fun e w' => e = .returned (estBack (listI (search N f a (soonest N)).labels t) (listI (search N f a (latest N)).labels t)) ∧ Below w.heap.size w w' := by
  have hN0 := Lib.hid hN
  obtain ⟨P, R, pc, rc, ar, rfl, m⟩ := hN
  clear m
  have htn : (t : Int) < (N.places.length : Int) := by omega
  have BN := Lib.hid ((BoxN.new w N P R pc rc 25).keep ((Keep.alloc _ (.cells #[.int .i64 f, .int .i64 t, .int .i64 a] 63)).trans (Keep.alloc _ (.cells #[.int .i64 0, .int .i64 0] 35))))
  have BT := Lib.hid ((TripAt.new1 w (.cells #[.slice P N.places.length pc, .slice R N.roads.length rc] 25) f t a 63).keep (Keep.alloc _ (.cells #[.int .i64 0, .int .i64 0] 35)))
  have RT := Lib.hid (show MarkAt (((w.alloc (.cells #[.slice P N.places.length pc, .slice R N.roads.length rc] 25)).alloc (.cells #[.int .i64 f, .int .i64 t, .int .i64 a] 63)).alloc (.cells #[.int .i64 0, .int .i64 0] 35)) (w.heap.size + 1 + 1) from by
    have := MarkAt.new ((w.alloc (.cells #[.slice P N.places.length pc, .slice R N.roads.length rc] 25)).alloc (.cells #[.int .i64 f, .int .i64 t, .int .i64 a] 63)) 35
    simpa using this)
  go_enter Try.func50, Try.ntmps50
  go_upto_region 1 with fail
  generalize hwb : ((w.alloc _).alloc _).alloc _ = wb at *
  have HW : Hid (Below w.heap.size w wb) := by rw [← hwb]; exact Lib.hid ((((Below.refl _ _).alloc (Nat.le_refl _) _).alloc (by simp) _).alloc (by simp; omega) _)
  have hws : w.heap.size + 3 = wb.heap.size := by rw [← hwb]; simp
  clear hwb
  obtain ⟨n0, n1⟩ := BN.out
  obtain ⟨k0, k1, k2⟩ := BT.out
  go_wp2_with fail
  refine (rEarliest_any N _ f a _ (hN0.out.keep (Keep.below HW.out)) hE hf h0 h1).mono ?_
  rintro e' w1 ⟨g1, c1, g2, c2, rfl, hg1, hg2, ha1, ha2, hb1⟩
  have hw1s := hb1.size
  have HTA := Lib.hid (TreeAt.new w1 (.slice (some ⟨g1, 0, none⟩) N.places.length c1) (.slice (some ⟨g2, 0, none⟩) N.places.length c2) 65)
  have hl1 : (search N f a (soonest N)).labels.length = N.places.length := search_len.1
  have hl2 : (search N f a (latest N)).labels.length = N.places.length := search_len.1
  have b1 := ha1.le.1
  have b2 := ha2.le.1
  rw [hl1] at b1
  rw [hl2] at b2
  have b3 := ha1.le.2
  have b4 := ha2.le.2
  have q1 := ha1.cells (k := t) (by rw [hl1]; exact ht)
  have q2 := ha2.cells (k := t) (by rw [hl2]; exact ht)
  rw [Nat.zero_add] at q1 q2
  obtain ⟨x, hx⟩ : ∃ x, listI (search N f a (soonest N)).labels t = x := ⟨_, rfl⟩
  obtain ⟨y, hy⟩ : ∃ y, listI (search N f a (latest N)).labels t = y := ⟨_, rfl⟩
  rw [hx] at q1
  rw [hy] at q2
  have HXY := Lib.hid (And.intro hx hy)
  clear hx hy ha1 ha2 hl1 hl2 n0 n1 k0 k1 k2
  have hal : Below w1.heap.size w1 (w1.alloc (.cells #[.slice (some ⟨g1, 0, none⟩) N.places.length c1, .slice (some ⟨g2, 0, none⟩) N.places.length c2] 65)) := (Below.refl _ _).alloc (Nat.le_refl _) _
  have HB := Lib.hid (HW.out.trans ((hb1.trans (hal.mono hb1.size)).mono HW.out.size))
  obtain ⟨k0, k1, k2⟩ := (BT.out.keep (Keep.below hb1)).keep (Keep.below hal)
  obtain ⟨r0, r1, rf0, rf1⟩ := (RT.out.keepB hb1).keepB hal
  replace q1 := Keep.below hal _ _ q1
  replace q2 := Keep.below hal _ _ q2
  obtain ⟨t0, t1, -, -⟩ := HTA.out
  clear hb1 hal
  have q1s := fun u v => cell_off2 (w.heap.size + 1 + 1) g1 t u v _ q1 (by omega)
  have q2s := fun u v => cell_off2 (w.heap.size + 1 + 1) g2 t u v _ q2 (by omega)
  have t0s := fun u v => cell_off2 (w.heap.size + 1 + 1) w1.heap.size 0 u v _ t0 (by omega)
  have t1s := fun u v => cell_off2 (w.heap.size + 1 + 1) w1.heap.size 1 u v _ t1 (by omega)
  have k1s := fun u v => cell_off2 (w.heap.size + 1 + 1) (w.heap.size + 1) 1 u v _ k1 (by omega)
  clear hws hg1 hg2 hw1s
  go_upto_region 2 with fail
  go_region
  all_goals
    go_wp2_with fail
    refine bodyPost_ret (v := estBack x y) (by simp [results, Try.results50, go_sem, r0, r1]) rfl ⟨by rw [HXY.out.1, HXY.out.2], ?_⟩
    exact ((HB.out.setCell (p := ⟨w.heap.size + 1 + 1, 0, none⟩) (by dsimp only; omega) _).setCell (p := ⟨w.heap.size + 1 + 1, 1, none⟩) (by dsimp only; omega) _).drew

set_option maxHeartbeats 3200000 in
set_option maxRecDepth 100000 in
theorem rLateAt_any (N : Net) (v : Value) (f t : Nat) (z a : Int) (w : World) (hN : RdNet w v N) (hE : netErr N = 0) (hf : f < N.places.length) (ht : t < N.places.length) (h0 : 0 ≤ a) (h1 : a ≤ 1000000) :
    Calls Try.prog 112 #[v, stripV f t z, .int .i64 a] w fun e w' => e = .returned (.int .i64 (listI (search N f a (latest N)).labels t)) ∧ Below w.heap.size w w' := by
  have hN0 := Lib.hid hN
  obtain ⟨P, R, pc, rc, ar, rfl, m⟩ := hN
  clear m
  have BN := Lib.hid ((BoxN.new w N P R pc rc 25).keep (Keep.alloc _ (.cells #[.int .i64 f, .int .i64 t, .int .i64 z] 63)))
  have BT := Lib.hid (TripAt.new1 w (.cells #[.slice P N.places.length pc, .slice R N.roads.length rc] 25) f t z 63)
  go_enter Try.func112, Try.ntmps112
  go_upto_region 1 with fail
  generalize hwb : (w.alloc _).alloc _ = wb at *
  have HW : Hid (Below w.heap.size w wb) := by rw [← hwb]; exact Lib.hid (((Below.refl _ _).alloc (Nat.le_refl _) _).alloc (by simp) _)
  clear hwb
  obtain ⟨n0, n1⟩ := BN.out
  obtain ⟨k0, k1, k2⟩ := BT.out
  go_wp2_with fail
  refine (rEstimate_any N _ f t a _ (hN0.out.keep (Keep.below HW.out)) hE hf ht h0 h1).mono ?_
  rintro e' w1 ⟨rfl, hb1⟩
  go_wp2_with fail
  go_ret
  exact ⟨rfl, (HW.out.trans (hb1.mono HW.out.size)).alloc (HW.out.trans (hb1.mono HW.out.size)).size _⟩

theorem Fs.place_two (N : Net) (f t : Int) : placesErr N [f, t] = if isPlace N f = true ∧ isPlace N t = true then 0 else 6 := by
  unfold placesErr
  show fst _ 2 = _
  cases h1 : isPlace N f with
  | false =>
    rw [if_neg (fun h => by cases h.1)]
    exact (fst_hit (k := 0) (by decide) (fun j hj => absurd hj (Nat.not_lt_zero _)) (by show (if isPlace N f then (0 : Int) else 6) ≠ 0; rw [h1]; decide)).1.trans (by show (if isPlace N f then (0 : Int) else 6) = 6; rw [h1]; rfl)
  | true =>
    have z : ∀ j, j < 1 → (if isPlace N (listI [f, t] j) then (0 : Int) else 6) = 0 := fun j hj => by
      obtain rfl : j = 0 := by omega
      show (if isPlace N f then (0 : Int) else 6) = 0
      rw [h1]; rfl
    cases h2 : isPlace N t with
    | false =>
      rw [if_neg (fun h => by cases h.2)]
      exact (fst_hit (k := 1) (by decide) z (by show (if isPlace N t then (0 : Int) else 6) ≠ 0; rw [h2]; decide)).1.trans (by show (if isPlace N t then (0 : Int) else 6) = 6; rw [h2]; rfl)
    | true =>
      rw [if_pos ⟨rfl, rfl⟩]
      refine fst_none fun j hj => ?_
      rcases (show j = 0 ∨ j = 1 by omega) with rfl | rfl
      · exact z 0 (by decide)
      · show (if isPlace N t then (0 : Int) else 6) = 0
        rw [h2]; rfl
theorem Fs.fst2 (x y : Int) : fst (listI [x, y]) 2 = if x = 0 then y else x := by
  by_cases h : x = 0
  · rw [if_pos h]
    by_cases h2 : y = 0
    · rw [h, h2]; rfl
    · exact (fst_hit (f := listI [x, y]) (k := 1) (by decide) (fun j hj => by obtain rfl : j = 0 := (by omega); exact h) h2).1
  · rw [if_neg h]
    exact (fst_hit (f := listI [x, y]) (k := 0) (by decide) (fun j hj => absurd hj (Nat.not_lt_zero _)) h).1
theorem Fs.trip_is (N : Net) (f t a : Int) : tripErr N f t a = if isPlace N f = true ∧ isPlace N t = true then timeErr a else 6 := by
  unfold tripErr
  rw [fst2, place_two]
  by_cases h : isPlace N f = true ∧ isPlace N t = true
  · rw [if_pos h, if_pos h, if_pos rfl]
  · rw [if_neg h, if_neg h, if_neg (by decide)]
set_option maxHeartbeats 1600000 in
theorem rTripErr_any (N : Net) (v : Value) (f t a : Int) (w : World) (hN : RdNet w v N) :
    Calls Try.prog 45 #[v, stripV f t a] w fun e w' => e = .returned (.int .i64 (tripErr N f t a)) ∧ Below w.heap.size w w' := by
  have hN0 := Lib.hid hN
  obtain ⟨P, R, pc, rc, ar, rfl, m⟩ := hN
  clear m
  have BN := Lib.hid ((BoxN.new w N P R pc rc 25).keep (Keep.alloc _ (.cells #[.int .i64 f, .int .i64 t, .int .i64 a] 63)))
  have BT := Lib.hid (TripAt.new1 w (.cells #[.slice P N.places.length pc, .slice R N.roads.length rc] 25) f t a 63)
  go_enter Try.func45, Try.ntmps45
  go_upto_region 1 with fail
  generalize hwb : (w.alloc _).alloc _ = wb at *
  have HW : Hid (Below w.heap.size w wb) := by rw [← hwb]; exact Lib.hid (((Below.refl _ _).alloc (Nat.le_refl _) _).alloc (by simp) _)
  clear hwb
  obtain ⟨n0, n1⟩ := BN.out
  obtain ⟨k0, k1, k2⟩ := BT.out
  go_wp2_with fail
  refine (rIsPlace_any N _ f _ (hN0.out.keep (Keep.below HW.out))).mono ?_
  rintro e' w1 ⟨rfl, hb1⟩
  replace HW := Lib.hid (HW.out.trans (hb1.mono HW.out.size))
  replace n0 := Keep.below hb1 _ _ n0
  replace n1 := Keep.below hb1 _ _ n1
  replace k0 := Keep.below hb1 _ _ k0
  replace k1 := Keep.below hb1 _ _ k1
  replace k2 := Keep.below hb1 _ _ k2
  clear hb1
  have HP := Lib.hid (trip_is N f t a)
  cases h1 : isPlace N f with
  | false =>
    go_wp2_with fail
    go_ret
    exact ⟨ret_int (by rw [HP.out, h1]; rfl), HW.out⟩
  | true =>
    have H1 := Lib.hid h1
    clear h1
    go_wp2_with fail
    refine (rIsPlace_any N _ t _ (hN0.out.keep (Keep.below HW.out))).mono ?_
    rintro e' w2 ⟨rfl, hb2⟩
    replace HW := Lib.hid (HW.out.trans (hb2.mono HW.out.size))
    replace k2 := Keep.below hb2 _ _ k2
    clear hb2 n0 n1 k0 k1
    cases h2 : isPlace N t with
    | false =>
      go_wp2_with fail
      go_ret
      exact ⟨ret_int (by rw [HP.out, h2, if_neg (fun h => by cases h.2)]), HW.out⟩
    | true =>
      have H2 := Lib.hid h2
      clear h2
      go_wp2_with fail
      refine (rTimeErr_any a _).mono ?_
      rintro e' w3 ⟨rfl, rfl⟩
      go_wp2_with fail
      go_ret
      exact ⟨ret_int (by rw [HP.out, if_pos ⟨H1.out, H2.out⟩]), HW.out⟩
end Go.Proofs.Ythipneggplebcaa
/- The reference's latest time to set out. Conditions: the net is right; the places are places; the time is small. -/
namespace Go.Proofs.Ythipneggplebcaa
open Go.RowKit Fs

/-- Where one way leads, it leads at any time, by any steps. -/
theorem Fs.search_reach {N : Net} {nx nx' : Nat → Int → Int} (hN : Joined N) (hg : Good N nx) (hg' : Good N nx') {src : Nat} (hs : src < N.places.length) {a b : Int} (ha : 0 ≤ a) (hb : 0 ≤ b) :
    ∀ z, z < N.places.length → listI (search N src a nx).labels z ≠ -1 → listI (search N src b nx').labels z ≠ -1 := by
  have A := search_found hN hg hs ha
  have B := search_found hN hg' hs hb
  generalize search N src a nx = S at *
  generalize search N src b nx' = T at *
  obtain ⟨rk, ht⟩ := A.tree
  have key : ∀ n z, rk z ≤ n → z < N.places.length → listI S.labels z ≠ -1 → listI T.labels z ≠ -1 := by
    intro n
    induction n with
    | zero =>
      intro z hr hz hl
      by_cases e : listI S.last z = -1
      · rcases A.back z hz e with h1 | h1
        · subst h1; rw [B.own]; omega
        · exact absurd h1 hl
      · obtain ⟨-, i, -, -, -, -, -, h6⟩ := ht z hz e
        omega
    | succ n ih =>
      intro z hr hz hl
      by_cases e : listI S.last z = -1
      · rcases A.back z hz e with h1 | h1
        · subst h1; rw [B.own]; omega
        · exact absurd h1 hl
      · obtain ⟨-, i, h1, h2, h3, h4, h5, h6⟩ := ht z hz e
        have hj := hN i h1
        have k1 := ih (listD N.roads i).src.toNat (by omega) (by omega) h4
        have hst := B.step i h1 k1
        rw [h3, Int.toNat_natCast] at hst
        exact hst.1
  exact fun z => key (rk z) z (Nat.le_refl _)
def Fs.lateAt (N : Net) (f t : Nat) (m : Int) : Int := listI (search N f m (latest N)).labels t
def Fs.NoWay (N : Net) (f t : Nat) (a : Int) : Prop := listI (search N f 0 (soonest N)).labels t < 0 ∨ a < lateAt N f t 0
def Fs.LatestRef (N : Net) (f t : Nat) (a r : Int) : Prop :=
  (NoWay N f t a ∧ r = -1) ∨ (¬ NoWay N f t a ∧ 0 ≤ r ∧ r ≤ 604800 ∧ lateAt N f t r ≤ a ∧ ∀ m, r < m → m ≤ 604800 → a < lateAt N f t m)
theorem Fs.late_up {N : Net} (hE : netErr N = 0) {f t : Nat} (hf : f < N.places.length) (ht : t < N.places.length) (h : ¬ listI (search N f 0 (soonest N)).labels t < 0) {x y : Int} (hx : 0 ≤ x) (hxy : x ≤ y) :
    x ≤ lateAt N f t x ∧ lateAt N f t x ≤ lateAt N f t y := by
  have r := search_reach (net_joined hE) (soonest_good hE) (latest_good hE) hf (Int.le_refl 0) (show 0 ≤ y by omega) t ht (by omega)
  have r2 := search_reach (net_joined hE) (soonest_good hE) (latest_good hE) hf (Int.le_refl 0) hx t ht (by omega)
  have l := (search_found (net_joined hE) (latest_good hE) hf hx).least t ht
  have := (search_later (net_joined hE) (latest_good hE) hf hx hxy t ht r).2
  unfold lateAt
  omega

set_option maxHeartbeats 6400000 in
set_option maxRecDepth 100000 in
theorem rLatestFor_any (N : Net) (v : Value) (f t : Nat) (a : Int) (w : World) (hN : RdNet w v N) (hE : netErr N = 0) (hf : f < N.places.length) (ht : t < N.places.length) :
    Calls Try.prog 52 #[v, stripV f t a] w fun e w' => ∃ r, e = .returned (.int .i64 r) ∧ LatestRef N f t a r ∧ Below w.heap.size w w' := by
  have hN0 := Lib.hid hN
  obtain ⟨P, R, pc, rc, ar, rfl, m⟩ := hN
  clear m
  have BN := Lib.hid ((BoxN.new w N P R pc rc 25).keep (Keep.alloc _ (.cells #[.int .i64 f, .int .i64 t, .int .i64 a] 63)))
  have BT := Lib.hid (TripAt.new1 w (.cells #[.slice P N.places.length pc, .slice R N.roads.length rc] 25) f t a 63)
  have HL := Lib.hid (fun h {x y} => late_up (x := x) (y := y) hE hf ht h)
  go_enter Try.func52, Try.ntmps52
  go_upto_region 1 with fail
  generalize hwb : (w.alloc _).alloc _ = wb at *
  have HW : Hid (Below w.heap.size w wb) := by rw [← hwb]; exact Lib.hid (((Below.refl _ _).alloc (Nat.le_refl _) _).alloc (by simp) _)
  clear hwb
  obtain ⟨n0, n1⟩ := BN.out
  obtain ⟨k0, k1, k2⟩ := BT.out
  go_wp2_with fail
  refine (rEstimate_any N _ f t 0 _ (hN0.out.keep (Keep.below HW.out)) hE hf ht (by decide) (by decide)).mono ?_
  rintro e' w1 ⟨rfl, hb1⟩
  have hal : Below w1.heap.size w1 (w1.alloc (.cells #[.int .i64 (listI (search N f 0 (soonest N)).labels t), .int .i64 (listI (search N f 0 (latest N)).labels t)] 35)) := (Below.refl _ _).alloc (Nat.le_refl _) _
  have hb2 := hb1.trans (hal.mono hb1.size)
  have HB := Lib.hid (HW.out.trans (hb2.mono HW.out.size))
  replace BN := Lib.hid (BN.out.keep (Keep.below hb2))
  replace BT := Lib.hid (BT.out.keep (Keep.below hb2))
  clear n0 n1 k0 k1 k2 hb1 hal hb2 HW
  obtain ⟨sl, hsl⟩ : ∃ sl, listI (search N f 0 (soonest N)).labels t = sl := ⟨_, rfl⟩
  have HSL := Lib.hid hsl
  clear hsl
  obtain ⟨n0, n1⟩ := BN.out
  obtain ⟨k0, k1, k2⟩ := BT.out
  go_upto_region 2 with fail
  generalize hw2 : w1.alloc _ = w2 at *
  clear hw2
  rw [HSL.out]
  by_cases hr : sl < 0
  · have HNW := Lib.hid (show NoWay N f t a from .inl (by rw [HSL.out]; exact hr))
    have d1 : decide (0 ≤ sl) = false := decide_eq_false (by omega)
    clear hr
    go_quiet (fail)
    go_wp2_with fail
    go_ret
    exact ⟨-1, rfl, .inl ⟨HNW.out, rfl⟩, bdrewN HB.out _⟩
  · have d1 : decide (0 ≤ sl) = true := decide_eq_true (by omega)
    have HR := Lib.hid (show ¬ listI (search N f 0 (soonest N)).labels t < 0 by rw [HSL.out]; exact hr)
    clear hr
    obtain ⟨C, Ci, Co⟩ := classOf w2
    refine quietC (C := C) (by kernel_rfl) (by kernel_rfl) (Co.out _ (Below.refl _ _).drew) ?_
    repeat (first
      | go_big_quiet_skip
      | (go_big_quiet_want; go_big_quiet_op; go_big_quiet_on)
      | (refine quiet_yes (by rfl) ?_
         apply Exists.intro
         refine ⟨fun w' hC => ?_, ?_⟩
         · have hbb := Ci.out _ hC
           have y0 := Keep.below hbb _ _ n0
           have y1 := Keep.below hbb _ _ n1
           have y2 := Keep.below hbb _ _ k0
           have y3 := Keep.below hbb _ _ k1
           have y4 := Keep.below hbb _ _ k2
           go_simp
           first
             | done
             | rfl
             | (go_at_call 112
                refine (rLateAt_any N _ f t a 0 _ (hN0.out.keep (Keep.below (HB.out.trans (hbb.mono HB.out.size)))) hE hf ht (by decide) (by decide)).mono ?_
                rintro e' w1 ⟨rfl, hb1⟩
                exact ⟨rfl, Co.out _ (hbb.trans (hb1.mono hbb.size))⟩)
         simp only [Act.put, List.setIfInBounds_toArray, List.set_cons_zero, List.set_cons_succ]))
    refine wpQuiet_nil ?_
    intro w3 hC3
    have hb3 := Ci.out _ hC3
    replace HB := Lib.hid (HB.out.trans (hb3.mono HB.out.size))
    replace BN := Lib.hid (BN.out.keep (Keep.below hb3))
    replace BT := Lib.hid (BT.out.keep (Keep.below hb3))
    clear n0 n1 k0 k1 k2 hb3 hC3 Ci Co C
    obtain ⟨l0, hl0⟩ : ∃ l0, listI (search N f 0 (latest N)).labels t = l0 := ⟨_, rfl⟩
    rw [hl0]
    by_cases hla : a < l0
    · have HNW := Lib.hid (show NoWay N f t a from .inr (by unfold lateAt; rw [hl0]; exact hla))
      have d2 : decide (l0 > a) = true := decide_eq_true hla
      have d3 : decide (a < l0) = true := decide_eq_true hla
      have d5 : ¬ l0 ≤ a := by omega
      clear hl0 hla
      go_wp2_with fail
      go_ret
      exact ⟨-1, rfl, .inl ⟨HNW.out, rfl⟩, HB.out⟩
    · have HNW := Lib.hid (show ¬ NoWay N f t a from fun h => h.elim HR.out (fun h => by unfold lateAt at h; rw [hl0] at h; exact hla h))
      have HL0 := Lib.hid (show lateAt N f t 0 ≤ a by unfold lateAt; rw [hl0]; omega)
      have d2 : decide (l0 > a) = false := decide_eq_false hla
      have d3 : decide (a < l0) = false := decide_eq_false hla
      have d5 : l0 ≤ a := by omega
      clear hl0 hla
      go_wp2_with fail
      go_loopw [7, 8] (fun u x wr => ∃ lo hi : Nat, u = .int .i64 lo ∧ x = .int .i64 hi ∧ lo ≤ hi ∧ hi ≤ 604800 ∧ Hid (lateAt N f t lo ≤ a) ∧ Hid (∀ m : Int, hi < m → m ≤ 604800 → a < lateAt N f t m) ∧ Hid (Below w3.heap.size w3 wr)) (fun u x _ => (intOf x).toNat - (intOf u).toNat)
      case atStart => exact ⟨0, 604800, rfl, rfl, by decide, Nat.le_refl _, HL0, Lib.hid (fun m h1 h2 => absurd h1 (by omega)), Lib.hid (Below.refl _ _)⟩
      case round =>
        obtain ⟨lo, hi, rfl, rfl, hlh, hh, HLO, HHI, HBr⟩ := hrel
        have HX := Lib.hid (HB.out.trans (HBr.out.mono HB.out.size))
        by_cases hlt : lo < hi
        · obtain ⟨mid, hmid⟩ : ∃ mid : Nat, mid = (lo + hi + 1) / 2 := ⟨_, rfl⟩
          have hm1 : lo < mid := by omega
          have hm2 : mid ≤ hi := by omega
          have hme : -((-((lo : Int) + (hi : Int))) / 2) = (mid : Int) := by omega
          have hlti : (lo : Int) < (hi : Int) := by omega
          clear hmid
          obtain ⟨n0, n1⟩ := BN.out.keep (Keep.below HBr.out)
          obtain ⟨k0, k1, k2⟩ := BT.out.keep (Keep.below HBr.out)
          go_wp2_with fail
          refine (ceil_any _ 2 _ (by omega) (by omega) (by decide) (by decide)).mono ?_
          rintro e' w4 ⟨rfl, rfl⟩
          rw [hme]
          clear hme
          go_wp2_with fail
          obtain ⟨C, Ci, Co⟩ := classOf wr
          refine quietC (C := C) (by kernel_rfl) (by kernel_rfl) (Co.out _ (Below.refl _ _).drew) ?_
          repeat (first
            | go_big_quiet_skip
            | (go_big_quiet_want; go_big_quiet_op; go_big_quiet_on)
            | (refine quiet_yes (by rfl) ?_
               apply Exists.intro
               refine ⟨fun w' hC => ?_, ?_⟩
               · have hbb := Ci.out _ hC
                 have y0 := Keep.below hbb _ _ n0
                 have y1 := Keep.below hbb _ _ n1
                 have y2 := Keep.below hbb _ _ k0
                 have y3 := Keep.below hbb _ _ k1
                 have y4 := Keep.below hbb _ _ k2
                 go_simp
                 first
                   | done
                   | rfl
                   | (go_at_call 112
                      refine (rLateAt_any N _ f t a mid _ (hN0.out.keep (Keep.below (HX.out.trans (hbb.mono HX.out.size)))) hE hf ht (by omega) (by omega)).mono ?_
                      rintro e' w1 ⟨rfl, hb1⟩
                      exact ⟨rfl, Co.out _ (hbb.trans (hb1.mono hbb.size))⟩)
               simp only [Act.put, List.setIfInBounds_toArray, List.set_cons_zero, List.set_cons_succ]))
          refine wpQuiet_nil ?_
          intro w5 hC5
          have hb5 := Ci.out _ hC5
          have HBq := Lib.hid (HBr.out.trans (hb5.mono HBr.out.size))
          clear n0 n1 k0 k1 k2 hb5 hC5 Ci Co C
          have HLM := Lib.hid (show lateAt N f t mid = listI (search N f mid (latest N)).labels t from rfl)
          rw [← HLM.out]
          by_cases hc : lateAt N f t mid ≤ a
          · have d4 : decide (lateAt N f t mid ≤ a) = true := decide_eq_true hc
            have HC := Lib.hid hc
            go_wp2_with fail
            go_roundw
            case rel => exact ⟨mid, hi, rfl, rfl, hm2, hh, HC, HHI, HBq⟩
            case measure => simp [intOf]; omega
          · have d4 : decide (lateAt N f t mid ≤ a) = false := decide_eq_false hc
            have HC := Lib.hid (show ∀ m : Int, (mid : Int) - 1 < m → m ≤ 604800 → a < lateAt N f t m from fun m h1 h2 => by
              have := (HL.out HR.out (x := mid) (y := m) (by omega) (by omega)).2
              omega)
            have hmm : (mid : Int) - 1 = ((mid - 1 : Nat) : Int) := by omega
            rw [hmm] at HC
            go_wp2_with fail
            go_roundw
            case rel => exact ⟨lo, mid - 1, rfl, by first | rfl | exact congrArg _ hmm | rw [hmm], by omega, by omega, HLO, HC, HBq⟩
            case measure => simp [intOf]; omega
        · obtain rfl : lo = hi := by omega
          clear hlt
          go_wp2_with fail
          go_ret
          exact ⟨lo, rfl, .inr ⟨HNW.out, by omega, by omega, HLO.out, HHI.out⟩, HX.out⟩
end Go.Proofs.Ythipneggplebcaa

/- Heights from a place, and the earliest arrivals. Conditions: the net is right, the time is small. -/
import Derived.Test.YtndhpdjcpagghaaGreatDoorT16
namespace Go.Proofs.YtndhpdjcpagghaaGreatDoor
open Go.RowKit Fs

def treeField0 : Prop := ∀ (gl ga n : Nat) (w : World), (Instr.field 121 (.agg #[.slice (some ⟨gl, 0, none⟩) n n, .slice (some ⟨ga, 0, none⟩) n n]) 0).run Tryz.prog w = .ok (.slice (some ⟨gl, 0, none⟩) n n) w
theorem treeField0_is : treeField0 := fun _ _ _ _ => by kernel_rfl

set_option maxHeartbeats 6400000 in
set_option maxRecDepth 100000 in
theorem earliest_any (N : Net) (v : Value) (src : Nat) (L : Int) (w : World) (hN : RdNet w v N) (hE : netErr N = 0) (hs : src < N.places.length) (hL0 : 0 ≤ L) (hL1 : L ≤ 1000000) :
    Calls Tryz.prog 57 #[v, .int .i64 src, .int .i64 L] w fun e w' => ∃ g1 g2, e = .returned (.agg #[.slice (some ⟨g1, 0, none⟩) N.places.length N.places.length, .slice (some ⟨g2, 0, none⟩) N.places.length N.places.length]) ∧
      RowV w' g1 3 ((search N src L (soonest N)).labels.map (Value.int .i64)) ∧ RowV w' g2 3 ((search N src L (latest N)).labels.map (Value.int .i64)) ∧ Below w.heap.size w w' := by
  have hN0 := Lib.hid hN
  obtain ⟨P, R, pc, rc, a, rfl, m⟩ := hN
  clear m
  have BN := Lib.hid ((BoxN.new w N P R pc rc 25).keep (Keep.alloc _ (.cells #[.slice none 0 0, .slice none 0 0] 117)))
  have RT := Lib.hid (show TreeAt ((w.alloc (.cells #[.slice P N.places.length pc, .slice R N.roads.length rc] 25)).alloc (.cells #[.slice none 0 0, .slice none 0 0] 117)) (w.heap.size + 1) (.slice none 0 0) (.slice none 0 0) from ⟨cellNew1 _ _ _ _ 0, cellNew1 _ _ _ _ 1, frozenNew1 _ _ _ _ 0, frozenNew1 _ _ _ _ 1⟩)
  go_enter Tryz.func57, Tryz.ntmps57
  go_upto_region 1 with fail
  generalize hwb : (w.alloc _).alloc _ = wb at *
  have HW : Hid (Below w.heap.size w wb) := by rw [← hwb]; exact Lib.hid (((Below.refl _ _).alloc (Nat.le_refl _) _).alloc (by simp) _)
  have HWS : Hid (w.heap.size + 2 = wb.heap.size) := by rw [← hwb]; exact Lib.hid (by simp)
  clear hwb
  obtain ⟨n0, n1⟩ := BN.out
  obtain ⟨r0, r1, rf0, rf1⟩ := RT.out
  have HBd : Hid (Below (w.heap.size + 1) wb wb.drew) := Lib.hid (Below.refl _ _).drew
  have HWB := Lib.hid (show w.heap.size + 1 ≤ wb.heap.size by have := HWS.out; omega)
  have MK : Hid (∀ w', Below (w.heap.size + 1) wb w' → w'.cell? ⟨w.heap.size, 0, none⟩ = some (.slice P N.places.length pc) ∧ w'.cell? ⟨w.heap.size, 1, none⟩ = some (.slice R N.roads.length rc) ∧ Hid (Below (w.heap.size + 1) wb w')) :=
    Lib.hid fun w' hw => ⟨(hw.cell (p := ⟨w.heap.size, 0, none⟩) (Nat.lt_succ_self _)).trans n0, (hw.cell (p := ⟨w.heap.size, 1, none⟩) (Nat.lt_succ_self _)).trans n1, Lib.hid hw⟩
  have hfd : treeField0 := treeField0_is
  unfold treeField0 at hfd
  clear r0 r1 rf0 rf1
  go_cut [] from 7 to 21 (fun wx => ∃ g1 g2, Hid (TreeAt wx (w.heap.size + 1) (.slice (some ⟨g1, 0, none⟩) N.places.length N.places.length) (.slice (some ⟨g2, 0, none⟩) N.places.length N.places.length)) ∧ Hid (RowV wx g1 3 ((search N src L (soonest N)).labels.map (Value.int .i64))) ∧
    Hid (RowV wx g2 3 ((search N src L (latest N)).labels.map (Value.int .i64))) ∧ Hid (Below w.heap.size w wx))
  case first =>
    have HT : Hid (TreeAt wb.drew (w.heap.size + 1) (.slice none 0 0) (.slice none 0 0)) := Lib.hid ⟨RT.out.c0, RT.out.c1, RT.out.f0, RT.out.f1⟩
    go_region_held3 (fun w' => w'.cell? ⟨w.heap.size, 0, none⟩ = some (.slice P N.places.length pc) ∧ w'.cell? ⟨w.heap.size, 1, none⟩ = some (.slice R N.roads.length rc) ∧ Hid (Below (w.heap.size + 1) wb w'))
      (first
        | exact MK.out _ HBd.out
        | (go_split_ands; exact MK.out _ (Below.trans (Hid.out (by assumption)) (hb1.mono (Nat.le_trans HWB.out (Hid.out (by assumption) : Below (w.heap.size + 1) wb _).size))))
        | (go_split_ands; exact MK.out _ (Below.setCell (p := ⟨w.heap.size + 1, 1, none⟩) (Below.setCell (p := ⟨w.heap.size + 1, 0, none⟩) (Hid.out (by assumption)) (Nat.le_refl _) _) (Nat.le_refl _) _)))
      ((first
        | (go_at_call 89
           go_split_ands
           refine (soonest_any N _ _ (hN0.out.keep (Keep.below (HW.out.trans ((Hid.out (by assumption) : Below (w.heap.size + 1) wb _).mono (Nat.le_succ _))))) hE).mono ?_
           rintro e' w1 ⟨f1, rfl, hf1, hb1⟩
           have HT := Lib.hid (TreeAt.keep (HT.out) hb1)
           have HF1 := Lib.hid hf1
           clear hf1
           try (have HF2 := Lib.hid (HF2.out.below hb1))
           try (have HR2 := Lib.hid (HR2.out.keep hb1))
           obtain ⟨r0, r1, rf0, rf1⟩ := HT.out)
        | (go_at_call 64
           go_split_ands
           refine (latest_any N _ _ (hN0.out.keep (Keep.below (HW.out.trans ((Hid.out (by assumption) : Below (w.heap.size + 1) wb _).mono (Nat.le_succ _))))) hE).mono ?_
           rintro e' w1 ⟨f2, rfl, hf2, hb1⟩
           have HT := Lib.hid (TreeAt.keep (HT.out) hb1)
           have HF2 := Lib.hid hf2
           clear hf2
           try (have HF1 := Lib.hid (HF1.out.below hb1))
           try (have HR1 := Lib.hid (HR1.out.keep hb1))
           obtain ⟨r0, r1, rf0, rf1⟩ := HT.out)
        | (go_at_call 59
           with_reducible show Calls _ _ #[_, _, _, f1] _ _
           go_split_ands
           refine (search_any N (soonest N) _ f1 src L _ (hN0.out.keep (Keep.below (HW.out.trans ((Hid.out (by assumption) : Below (w.heap.size + 1) wb _).mono (Nat.le_succ _))))) hE HF1.out (soonest_small hE) hs hL0 hL1).mono ?_
           rintro e' w2 ⟨gs, ga, rfl, hr1, -, hgs, -, hb1⟩
           have HG1 := Lib.hid (Nat.le_trans (Hid.out (by assumption) : Below (w.heap.size + 1) wb _).size hgs)
           clear hgs
           have HT := Lib.hid (TreeAt.keep (HT.out) hb1)
           have HR1 := Lib.hid hr1
           clear hr1
           try (have HF2 := Lib.hid (HF2.out.below hb1))
           try (have HR2 := Lib.hid (HR2.out.keep hb1))
           obtain ⟨r0, r1, rf0, rf1⟩ := HT.out)
        | (go_at_call 59
           with_reducible show Calls _ _ #[_, _, _, f2] _ _
           go_split_ands
           refine (search_any N (latest N) _ f2 src L _ (hN0.out.keep (Keep.below (HW.out.trans ((Hid.out (by assumption) : Below (w.heap.size + 1) wb _).mono (Nat.le_succ _))))) hE HF2.out (latest_small hE) hs hL0 hL1).mono ?_
           rintro e' w2 ⟨gt, gb, rfl, hr2, -, hgt, -, hb1⟩
           have HG2 := Lib.hid (Nat.le_trans (Hid.out (by assumption) : Below (w.heap.size + 1) wb _).size hgt)
           clear hgt
           have HT := Lib.hid (TreeAt.keep (HT.out) hb1)
           have HR2 := Lib.hid hr2
           clear hr2
           try (have HF1 := Lib.hid (HF1.out.below hb1))
           try (have HR1 := Lib.hid (HR1.out.keep hb1))
           obtain ⟨r0, r1, rf0, rf1⟩ := HT.out)))
    all_goals
      rename_i hS
      obtain ⟨-, -, hbb⟩ := hS
      go_wp2_with fail
      go_meet
      have hne1 : w.heap.size + 1 ≠ gs := by have := HWS.out; have := HG1.out; omega
      have hne2 : w.heap.size + 1 ≠ gt := by have := HWS.out; have := HG2.out; omega
      exact ⟨gs, gt, Lib.hid (HT.out.set _ _), Lib.hid ((HR1.out.far (p := ⟨w.heap.size + 1, 0, none⟩) hne1 _).far (p := ⟨w.heap.size + 1, 1, none⟩) hne1 _), Lib.hid ((HR2.out.far (p := ⟨w.heap.size + 1, 0, none⟩) hne2 _).far (p := ⟨w.heap.size + 1, 1, none⟩) hne2 _), Lib.hid (HW.out.trans (hbb.out.mono (Nat.le_succ _)))⟩
  case rest =>
    obtain ⟨g1, g2, HT, H1, H2, HB⟩ := hcut
    obtain ⟨r0, r1, rf0, rf1⟩ := HT.out
    go_wp2_with fail
    refine bodyPost_ret (v := .agg #[.slice (some ⟨g1, 0, none⟩) N.places.length N.places.length, .slice (some ⟨g2, 0, none⟩) N.places.length N.places.length]) (by simp [results, Tryz.results57, go_sem, r0, r1]) rfl ⟨g1, g2, rfl, H1.out, H2.out, HB.out⟩
end Go.Proofs.YtndhpdjcpagghaaGreatDoor
/- The error of a trip; the bound of two lists of labels. No condition. -/
namespace Go.Proofs.YtndhpdjcpagghaaGreatDoor
open Go.RowKit Fs

abbrev stripV (f t a : Int) : Value := .agg #[.int .i64 f, .int .i64 t, .int .i64 a]
/-- A trip's cells in the block g. -/
structure TripAt (w : World) (g : Nat) (f t a : Int) : Prop where
  c0 : w.cell? ⟨g, 0, none⟩ = some (.int .i64 f)
  c1 : w.cell? ⟨g, 1, none⟩ = some (.int .i64 t)
  c2 : w.cell? ⟨g, 2, none⟩ = some (.int .i64 a)
theorem TripAt.keep {w w' : World} (k : Keep w w') {g : Nat} {f t a : Int} (m : TripAt w g f t a) : TripAt w' g f t a := ⟨k _ _ m.c0, k _ _ m.c1, k _ _ m.c2⟩
theorem TripAt.new1 (w : World) (A : Obj) (f t a : Int) (ty : TypeId) : TripAt ((w.alloc A).alloc (.cells #[.int .i64 f, .int .i64 t, .int .i64 a] ty)) (w.heap.size + 1) f t a := ⟨cellNew1 _ _ _ _ 0, cellNew1 _ _ _ _ 1, cellNew1 _ _ _ _ 2⟩
theorem arr2New (w : World) (x y : Int) (ty : TypeId) : ArrI (w.alloc (.cells #[.int .i64 x, .int .i64 y] ty)) (some ⟨w.heap.size, 0, none⟩) [x, y] 2 := by
  refine ⟨Nat.le_refl _, by decide, fun _ => ⟨_, _, rfl, fun i j hi hj => ?_⟩⟩
  have hj0 : j = 0 := by omega
  subst hj0
  match i, hi with
  | 0, _ => exact cellNew w _ _ 0
  | 1, _ => exact cellNew w _ _ 1
def Fs.tripErr (N : Net) (f t a : Int) : Int := fst (listI [placesErr N [f, t], timeErr a]) 2
theorem Fs.tripErr_ok {N : Net} {f t a : Int} (h : tripErr N f t a = 0) : isPlace N f = true ∧ isPlace N t = true ∧ timeErr a = 0 := by
  have h0 := fst_zero h 0 (by decide)
  have h1 := fst_zero h 1 (by decide)
  have h0 : placesErr N [f, t] = 0 := h0
  have h1 : timeErr a = 0 := h1
  have p0 := fst_zero h0 0 (by show 0 < 2; decide)
  have p1 := fst_zero h0 1 (by show 1 < 2; decide)
  refine ⟨?_, ?_, h1⟩
  · cases hp : isPlace N (listI [f, t] 0) with
    | true => exact hp
    | false => rw [hp] at p0; cases p0
  · cases hp : isPlace N (listI [f, t] 1) with
    | true => exact hp
    | false => rw [hp] at p1; cases p1

set_option maxHeartbeats 3200000 in
set_option maxRecDepth 100000 in
theorem tripErr_any (N : Net) (v : Value) (f t a : Int) (w : World) (hN : RdNet w v N) :
    Calls Tryz.prog 55 #[v, stripV f t a] w fun e w' => e = .returned (.int .i64 (tripErr N f t a)) ∧ Below w.heap.size w w' := by
  have hN0 := Lib.hid hN
  obtain ⟨P, R, pc, rc, ar, rfl, m⟩ := hN
  clear m
  have BN := Lib.hid ((BoxN.new w N P R pc rc 25).keep (Keep.alloc _ (.cells #[.int .i64 f, .int .i64 t, .int .i64 a] 60)))
  have BT := Lib.hid (TripAt.new1 w (.cells #[.slice P N.places.length pc, .slice R N.roads.length rc] 25) f t a 60)
  go_enter Tryz.func55, Tryz.ntmps55
  go_upto_region 1 with fail
  generalize hwb : (w.alloc _).alloc _ = wb at *
  have HW : Hid (Below w.heap.size w wb) := by rw [← hwb]; exact Lib.hid (((Below.refl _ _).alloc (Nat.le_refl _) _).alloc (by simp) _)
  clear hwb
  obtain ⟨n0, n1⟩ := BN.out
  obtain ⟨c0, c1, c2⟩ := BT.out
  have HBd : Hid (Below wb.heap.size wb wb.drew) := Lib.hid (Below.refl _ _).drew
  have MK : Hid (∀ w', Below wb.heap.size wb w' → w'.cell? ⟨w.heap.size, 0, none⟩ = some (.slice P N.places.length pc) ∧ w'.cell? ⟨w.heap.size, 1, none⟩ = some (.slice R N.roads.length rc) ∧ w'.cell? ⟨w.heap.size + 1, 0, none⟩ = some (.int .i64 f) ∧ w'.cell? ⟨w.heap.size + 1, 1, none⟩ = some (.int .i64 t) ∧ w'.cell? ⟨w.heap.size + 1, 2, none⟩ = some (.int .i64 a) ∧ Hid (Below wb.heap.size wb w')) :=
    Lib.hid fun w' hw => ⟨Keep.below hw _ _ n0, Keep.below hw _ _ n1, Keep.below hw _ _ c0, Keep.below hw _ _ c1, Keep.below hw _ _ c2, Lib.hid hw⟩
  go_region_held3 (fun w' => w'.cell? ⟨w.heap.size, 0, none⟩ = some (.slice P N.places.length pc) ∧ w'.cell? ⟨w.heap.size, 1, none⟩ = some (.slice R N.roads.length rc) ∧ w'.cell? ⟨w.heap.size + 1, 0, none⟩ = some (.int .i64 f) ∧ w'.cell? ⟨w.heap.size + 1, 1, none⟩ = some (.int .i64 t) ∧ w'.cell? ⟨w.heap.size + 1, 2, none⟩ = some (.int .i64 a) ∧ Hid (Below wb.heap.size wb w'))
    (first
      | exact MK.out _ HBd.out
      | (go_split_ands; exact ⟨by assumption, by assumption, by assumption, by assumption, by assumption, by assumption⟩)
      | (go_split_ands; exact MK.out _ (Below.trans (Hid.out (by assumption)) (hb1.mono (Hid.out (by assumption) : Below wb.heap.size wb _).size)))
      | (go_split_ands; exact MK.out _ (Below.alloc (Hid.out (by assumption)) (Hid.out (by assumption) : Below wb.heap.size wb _).size _)))
    ((first
        | (go_at_call 58
           go_split_ands
           refine (placesErr_any N _ [f, t] _ _ _ (hN0.out.keep (Keep.below (HW.out.trans ((Hid.out (by assumption) : Below wb.heap.size wb _).mono HW.out.size)))) (by first | exact arr2New _ f t _ | exact ArrI.keep (Keep.drew _) (arr2New _ f t _))).mono ?_
           rintro e' w1 ⟨rfl, hb1⟩)
        | (go_at_call 53
           refine (timeErr_any a _).mono ?_
           rintro e' w1 ⟨rfl, rfl⟩)
        | (go_at_call 51
           refine (firstError_any [placesErr N [f, t], timeErr a] _ _ _ (by first | exact arr2New _ _ _ _ | exact ArrI.keep (Keep.drew _) (arr2New _ _ _ _))).mono ?_
           rintro e' w1 ⟨rfl, rfl⟩)))
  all_goals
    rename_i hS
    obtain ⟨-, -, -, -, -, hbb⟩ := hS
    have HX := Lib.hid (HW.out.trans (hbb.out.mono HW.out.size))
    go_wp2_with fail
    go_ret
    exact ⟨rfl, HX.out⟩

/-- Both labels of a place, or the error that there is none. -/
def Fs.bound (l m : List Int) (t : Nat) : (Int × Int) × Int := if listI l t = -1 ∨ listI m t = -1 then ((0, 0), 12) else ((listI l t, listI m t), 0)
theorem RowV.int {w : World} {g : Nat} {l : List Int} (h : RowV w g 3 (l.map (Value.int .i64))) {i : Nat} (hi : i < l.length) : w.cell? ⟨g, i, none⟩ = some (.int .i64 (listI l i)) := by
  rw [h.cell, List.getElem?_map, List.getElem?_eq_getElem hi]
  unfold listI
  rw [List.getD_eq_getElem?_getD, List.getElem?_eq_getElem hi]
  rfl
theorem BoxL.new (w : World) (u v : Value) (A B : Obj) (t : TypeId) : (((w.alloc (.cells #[u, v] t)).alloc A).alloc B).cell? ⟨w.heap.size, 0, none⟩ = some u ∧ (((w.alloc (.cells #[u, v] t)).alloc A).alloc B).cell? ⟨w.heap.size, 1, none⟩ = some v :=
  ⟨Keep.alloc _ _ _ _ (Keep.alloc _ _ _ _ (cellNew w _ _ 0)), Keep.alloc _ _ _ _ (Keep.alloc _ _ _ _ (cellNew w _ _ 1))⟩

set_option maxHeartbeats 3200000 in
set_option maxRecDepth 100000 in
theorem boundOf_any (l m : List Int) (g1 g2 n t : Nat) (f a : Int) (w : World) (h1 : RowV w g1 3 (l.map (Value.int .i64))) (h2 : RowV w g2 3 (m.map (Value.int .i64))) (hl : l.length = n) (hm : m.length = n) (ht : t < n) :
    Calls Tryz.prog 56 #[.agg #[.slice (some ⟨g1, 0, none⟩) n n, .slice (some ⟨g2, 0, none⟩) n n], stripV f t a] w fun e w' => e = .returned (.tuple #[.agg #[.int .i64 (bound l m t).1.1, .int .i64 (bound l m t).1.2], .int .i64 (bound l m t).2]) ∧ Below w.heap.size w w' := by
  have q1 := h1.int (i := t) (by omega)
  have q2 := h2.int (i := t) (by omega)
  have htn : (t : Int) < (n : Int) := by omega
  have BL := Lib.hid (BoxL.new w (.slice (some ⟨g1, 0, none⟩) n n) (.slice (some ⟨g2, 0, none⟩) n n) (.cells #[.int .i64 f, .int .i64 t, .int .i64 a] 60) (.cells #[.int .i64 0, .int .i64 0] 54) 117)
  have BT := Lib.hid ((TripAt.new1 w (.cells #[.slice (some ⟨g1, 0, none⟩) n n, .slice (some ⟨g2, 0, none⟩) n n] 117) f t a 60).keep (Keep.alloc _ (.cells #[.int .i64 0, .int .i64 0] 54)))
  have RT := Lib.hid (show MarkAt (((w.alloc (.cells #[.slice (some ⟨g1, 0, none⟩) n n, .slice (some ⟨g2, 0, none⟩) n n] 117)).alloc (.cells #[.int .i64 f, .int .i64 t, .int .i64 a] 60)).alloc (.cells #[.int .i64 0, .int .i64 0] 54)) (w.heap.size + 1 + 1) from by
    have := MarkAt.new ((w.alloc (.cells #[.slice (some ⟨g1, 0, none⟩) n n, .slice (some ⟨g2, 0, none⟩) n n] 117)).alloc (.cells #[.int .i64 f, .int .i64 t, .int .i64 a] 60)) 54
    simpa using this)
  go_enter Tryz.func56, Tryz.ntmps56
  go_upto_region 1 with fail
  generalize hwb : ((w.alloc _).alloc _).alloc _ = wb at *
  have HW : Hid (Below w.heap.size w wb) := by rw [← hwb]; exact Lib.hid ((((Below.refl _ _).alloc (Nat.le_refl _) _).alloc (by simp) _).alloc (by simp; omega) _)
  clear hwb
  obtain ⟨b0, b1⟩ := BL.out
  obtain ⟨c0, c1, c2⟩ := BT.out
  obtain ⟨r0, r1, rf0, rf1⟩ := RT.out
  replace q1 := Keep.below HW.out _ _ q1
  replace q2 := Keep.below HW.out _ _ q2
  by_cases e1 : listI l t = -1
  · have F := Lib.hid (show bound l m t = ((0, 0), 12) from if_pos (.inl e1))
    have d1 : (listI l t == -1) = true := by simpa using e1
    clear e1
    go_wp2_with fail
    refine bodyPost_ret (v := .tuple #[.agg #[.int .i64 0, .int .i64 0], .int .i64 12]) (by simp [results, Tryz.results56, go_sem, r0, r1]) rfl ⟨by rw [F.out], ?_⟩
    exact ((HW.out.setCell (p := ⟨w.heap.size + 1 + 1, 0, none⟩) (by dsimp only; omega) _).setCell (p := ⟨w.heap.size + 1 + 1, 1, none⟩) (by dsimp only; omega) _)
  · have d1 : (listI l t == -1) = false := by simpa using e1
    by_cases e2 : listI m t = -1
    · have F := Lib.hid (show bound l m t = ((0, 0), 12) from if_pos (.inr e2))
      have d2 : (listI m t == -1) = true := by simpa using e2
      clear e1 e2
      go_wp2_with fail
      refine bodyPost_ret (v := .tuple #[.agg #[.int .i64 0, .int .i64 0], .int .i64 12]) (by simp [results, Tryz.results56, go_sem, r0, r1]) rfl ⟨by rw [F.out], ?_⟩
      exact ((HW.out.setCell (p := ⟨w.heap.size + 1 + 1, 0, none⟩) (by dsimp only; omega) _).setCell (p := ⟨w.heap.size + 1 + 1, 1, none⟩) (by dsimp only; omega) _)
    · have F := Lib.hid (show bound l m t = ((listI l t, listI m t), 0) from if_neg (fun h => h.elim e1 e2))
      have d2 : (listI m t == -1) = false := by simpa using e2
      clear e1 e2
      go_wp2_with fail
      go_region
      all_goals
        go_wp2_with fail
        refine bodyPost_ret (v := .tuple #[.agg #[.int .i64 (listI l t), .int .i64 (listI m t)], .int .i64 0]) (by simp [results, Tryz.results56, go_sem, r0, r1]) rfl ⟨by rw [F.out], ?_⟩
        exact ((HW.out.setCell (p := ⟨w.heap.size + 1 + 1, 0, none⟩) (by dsimp only; omega) _).setCell (p := ⟨w.heap.size + 1 + 1, 1, none⟩) (by dsimp only; omega) _).drew
end Go.Proofs.YtndhpdjcpagghaaGreatDoor

/- Heights from a place, and the earliest arrivals. Conditions: the net is right, the time is small. -/
import Derived.Test.YtjmaankkbdpikaaT16
namespace Go.Proofs.Ytjmaankkbdpikaa
open Go.RowKit Fs

def treeField0 : Prop := ∀ (gl ga n : Nat) (w : World), (Instr.field 84 (.agg #[.slice (some ⟨gl, 0, none⟩) n n, .slice (some ⟨ga, 0, none⟩) n n]) 0).run Try.prog w = .ok (.slice (some ⟨gl, 0, none⟩) n n) w
theorem treeField0_is : treeField0 := fun _ _ _ _ => by kernel_rfl

set_option maxHeartbeats 6400000 in
set_option maxRecDepth 100000 in
theorem earliest_any (N : Net) (v : Value) (src : Nat) (L : Int) (w : World) (hN : RdNet w v N) (hE : netErr N = 0) (hs : src < N.places.length) (hL0 : 0 ≤ L) (hL1 : L ≤ 1000000) :
    Calls Try.prog 25 #[v, .int .i64 src, .int .i64 L] w fun e w' => ∃ g1 g2, e = .returned (.agg #[.slice (some ⟨g1, 0, none⟩) N.places.length N.places.length, .slice (some ⟨g2, 0, none⟩) N.places.length N.places.length]) ∧
      RowV w' g1 3 ((search N src L (soonest N)).labels.map (Value.int .i64)) ∧ RowV w' g2 3 ((search N src L (latest N)).labels.map (Value.int .i64)) ∧ Below w.heap.size w w' := by
  have hN0 := Lib.hid hN
  obtain ⟨P, R, pc, rc, a, rfl, m⟩ := hN
  clear m
  have BN := Lib.hid ((BoxN.new w N P R pc rc 25).keep (Keep.alloc _ (.cells #[.slice none 0 0, .slice none 0 0] 70)))
  have RT := Lib.hid (show TreeAt ((w.alloc (.cells #[.slice P N.places.length pc, .slice R N.roads.length rc] 25)).alloc (.cells #[.slice none 0 0, .slice none 0 0] 70)) (w.heap.size + 1) (.slice none 0 0) (.slice none 0 0) from ⟨cellNew1 _ _ _ _ 0, cellNew1 _ _ _ _ 1, frozenNew1 _ _ _ _ 0, frozenNew1 _ _ _ _ 1⟩)
  go_enter Try.func25, Try.ntmps25
  go_upto_region 1 with fail
  generalize hwb : (w.alloc _).alloc _ = wb at *
  have HW : Hid (Below w.heap.size w wb) := by rw [← hwb]; exact Lib.hid (((Below.refl _ _).alloc (Nat.le_refl _) _).alloc (by simp) _)
  have HWS : Hid (w.heap.size + 2 = wb.heap.size) := by rw [← hwb]; exact Lib.hid (by simp)
  clear hwb
  obtain ⟨n0, n1⟩ := BN.out
  obtain ⟨r0, r1, rf0, rf1⟩ := RT.out
  have HBd : Hid (Below (w.heap.size + 1) wb wb.drew) := Lib.hid (Below.refl _ _).drew
  have HWB := Lib.hid (show w.heap.size + 1 ≤ wb.heap.size by have := HWS.out; omega)
  have MK : Hid (∀ w', Below (w.heap.size + 1) wb w' → w'.cell? ⟨w.heap.size, 0, none⟩ = some (.slice P N.places.length pc) ∧ w'.cell? ⟨w.heap.size, 1, none⟩ = some (.slice R N.roads.length rc) ∧ Hid (Below (w.heap.size + 1) wb w')) :=
    Lib.hid fun w' hw => ⟨(hw.cell (p := ⟨w.heap.size, 0, none⟩) (Nat.lt_succ_self _)).trans n0, (hw.cell (p := ⟨w.heap.size, 1, none⟩) (Nat.lt_succ_self _)).trans n1, Lib.hid hw⟩
  have hfd : treeField0 := treeField0_is
  unfold treeField0 at hfd
  clear r0 r1 rf0 rf1
  go_cut [] from 7 to 21 (fun wx => ∃ g1 g2, Hid (TreeAt wx (w.heap.size + 1) (.slice (some ⟨g1, 0, none⟩) N.places.length N.places.length) (.slice (some ⟨g2, 0, none⟩) N.places.length N.places.length)) ∧ Hid (RowV wx g1 3 ((search N src L (soonest N)).labels.map (Value.int .i64))) ∧
    Hid (RowV wx g2 3 ((search N src L (latest N)).labels.map (Value.int .i64))) ∧ Hid (Below w.heap.size w wx))
  case first =>
    have HT : Hid (TreeAt wb.drew (w.heap.size + 1) (.slice none 0 0) (.slice none 0 0)) := Lib.hid ⟨RT.out.c0, RT.out.c1, RT.out.f0, RT.out.f1⟩
    go_region_held3 (fun w' => w'.cell? ⟨w.heap.size, 0, none⟩ = some (.slice P N.places.length pc) ∧ w'.cell? ⟨w.heap.size, 1, none⟩ = some (.slice R N.roads.length rc) ∧ Hid (Below (w.heap.size + 1) wb w'))
      (first
        | exact MK.out _ HBd.out
        | (go_split_ands; exact MK.out _ (Below.trans (Hid.out (by assumption)) (hb1.mono (Nat.le_trans HWB.out (Hid.out (by assumption) : Below (w.heap.size + 1) wb _).size))))
        | (go_split_ands; exact MK.out _ (Below.setCell (p := ⟨w.heap.size + 1, 1, none⟩) (Below.setCell (p := ⟨w.heap.size + 1, 0, none⟩) (Hid.out (by assumption)) (Nat.le_refl _) _) (Nat.le_refl _) _)))
      ((first
        | (go_at_call 31
           go_split_ands
           refine (soonest_any N _ _ (hN0.out.keep (Keep.below (HW.out.trans ((Hid.out (by assumption) : Below (w.heap.size + 1) wb _).mono (Nat.le_succ _))))) hE).mono ?_
           rintro e' w1 ⟨f1, rfl, hf1, hb1⟩
           have HT := Lib.hid (TreeAt.keep (HT.out) hb1)
           have HF1 := Lib.hid hf1
           clear hf1
           try (have HF2 := Lib.hid (HF2.out.below hb1))
           try (have HR2 := Lib.hid (HR2.out.keep hb1))
           obtain ⟨r0, r1, rf0, rf1⟩ := HT.out)
        | (go_at_call 32
           go_split_ands
           refine (latest_any N _ _ (hN0.out.keep (Keep.below (HW.out.trans ((Hid.out (by assumption) : Below (w.heap.size + 1) wb _).mono (Nat.le_succ _))))) hE).mono ?_
           rintro e' w1 ⟨f2, rfl, hf2, hb1⟩
           have HT := Lib.hid (TreeAt.keep (HT.out) hb1)
           have HF2 := Lib.hid hf2
           clear hf2
           try (have HF1 := Lib.hid (HF1.out.below hb1))
           try (have HR1 := Lib.hid (HR1.out.keep hb1))
           obtain ⟨r0, r1, rf0, rf1⟩ := HT.out)
        | (go_at_call 33
           with_reducible show Calls _ _ #[_, _, _, f1] _ _
           go_split_ands
           refine (search_any N (soonest N) _ f1 src L _ (hN0.out.keep (Keep.below (HW.out.trans ((Hid.out (by assumption) : Below (w.heap.size + 1) wb _).mono (Nat.le_succ _))))) hE HF1.out (soonest_small hE) hs hL0 hL1).mono ?_
           rintro e' w2 ⟨gs, ga, rfl, hr1, -, hgs, -, hb1⟩
           have HG1 := Lib.hid (Nat.le_trans (Hid.out (by assumption) : Below (w.heap.size + 1) wb _).size hgs)
           clear hgs
           have HT := Lib.hid (TreeAt.keep (HT.out) hb1)
           have HR1 := Lib.hid hr1
           clear hr1
           try (have HF2 := Lib.hid (HF2.out.below hb1))
           try (have HR2 := Lib.hid (HR2.out.keep hb1))
           obtain ⟨r0, r1, rf0, rf1⟩ := HT.out)
        | (go_at_call 33
           with_reducible show Calls _ _ #[_, _, _, f2] _ _
           go_split_ands
           refine (search_any N (latest N) _ f2 src L _ (hN0.out.keep (Keep.below (HW.out.trans ((Hid.out (by assumption) : Below (w.heap.size + 1) wb _).mono (Nat.le_succ _))))) hE HF2.out (latest_small hE) hs hL0 hL1).mono ?_
           rintro e' w2 ⟨gt, gb, rfl, hr2, -, hgt, -, hb1⟩
           have HG2 := Lib.hid (Nat.le_trans (Hid.out (by assumption) : Below (w.heap.size + 1) wb _).size hgt)
           clear hgt
           have HT := Lib.hid (TreeAt.keep (HT.out) hb1)
           have HR2 := Lib.hid hr2
           clear hr2
           try (have HF1 := Lib.hid (HF1.out.below hb1))
           try (have HR1 := Lib.hid (HR1.out.keep hb1))
           obtain ⟨r0, r1, rf0, rf1⟩ := HT.out)))
    all_goals
      rename_i hS
      obtain ⟨-, -, hbb⟩ := hS
      go_wp2_with fail
      go_meet
      have hne1 : w.heap.size + 1 ≠ gs := by have := HWS.out; have := HG1.out; omega
      have hne2 : w.heap.size + 1 ≠ gt := by have := HWS.out; have := HG2.out; omega
      exact ⟨gs, gt, Lib.hid (HT.out.set _ _), Lib.hid ((HR1.out.far (p := ⟨w.heap.size + 1, 0, none⟩) hne1 _).far (p := ⟨w.heap.size + 1, 1, none⟩) hne1 _), Lib.hid ((HR2.out.far (p := ⟨w.heap.size + 1, 0, none⟩) hne2 _).far (p := ⟨w.heap.size + 1, 1, none⟩) hne2 _), Lib.hid (HW.out.trans (hbb.out.mono (Nat.le_succ _)))⟩
  case rest =>
    obtain ⟨g1, g2, HT, H1, H2, HB⟩ := hcut
    obtain ⟨r0, r1, rf0, rf1⟩ := HT.out
    go_wp2_with fail
    refine bodyPost_ret (v := .agg #[.slice (some ⟨g1, 0, none⟩) N.places.length N.places.length, .slice (some ⟨g2, 0, none⟩) N.places.length N.places.length]) (by simp [results, Try.results25, go_sem, r0, r1]) rfl ⟨g1, g2, rfl, H1.out, H2.out, HB.out⟩
end Go.Proofs.Ytjmaankkbdpikaa
/- The error of a trip; the bound of two lists of labels. No condition. -/
namespace Go.Proofs.Ytjmaankkbdpikaa
open Go.RowKit Fs

abbrev stripV (f t a : Int) : Value := .agg #[.int .i64 f, .int .i64 t, .int .i64 a]
/-- A trip's cells in the block g. -/
structure TripAt (w : World) (g : Nat) (f t a : Int) : Prop where
  c0 : w.cell? ⟨g, 0, none⟩ = some (.int .i64 f)
  c1 : w.cell? ⟨g, 1, none⟩ = some (.int .i64 t)
  c2 : w.cell? ⟨g, 2, none⟩ = some (.int .i64 a)
theorem TripAt.keep {w w' : World} (k : Keep w w') {g : Nat} {f t a : Int} (m : TripAt w g f t a) : TripAt w' g f t a := ⟨k _ _ m.c0, k _ _ m.c1, k _ _ m.c2⟩
theorem TripAt.new1 (w : World) (A : Obj) (f t a : Int) (ty : TypeId) : TripAt ((w.alloc A).alloc (.cells #[.int .i64 f, .int .i64 t, .int .i64 a] ty)) (w.heap.size + 1) f t a := ⟨cellNew1 _ _ _ _ 0, cellNew1 _ _ _ _ 1, cellNew1 _ _ _ _ 2⟩
theorem arr2New (w : World) (x y : Int) (ty : TypeId) : ArrI (w.alloc (.cells #[.int .i64 x, .int .i64 y] ty)) (some ⟨w.heap.size, 0, none⟩) [x, y] 2 := by
  refine ⟨Nat.le_refl _, by decide, fun _ => ⟨_, _, rfl, fun i j hi hj => ?_⟩⟩
  have hj0 : j = 0 := by omega
  subst hj0
  match i, hi with
  | 0, _ => exact cellNew w _ _ 0
  | 1, _ => exact cellNew w _ _ 1
def Fs.tripErr (N : Net) (f t a : Int) : Int := fst (listI [placesErr N [f, t], timeErr a]) 2
theorem Fs.tripErr_ok {N : Net} {f t a : Int} (h : tripErr N f t a = 0) : isPlace N f = true ∧ isPlace N t = true ∧ timeErr a = 0 := by
  have h0 := fst_zero h 0 (by decide)
  have h1 := fst_zero h 1 (by decide)
  have h0 : placesErr N [f, t] = 0 := h0
  have h1 : timeErr a = 0 := h1
  have p0 := fst_zero h0 0 (by show 0 < 2; decide)
  have p1 := fst_zero h0 1 (by show 1 < 2; decide)
  refine ⟨?_, ?_, h1⟩
  · cases hp : isPlace N (listI [f, t] 0) with
    | true => exact hp
    | false => rw [hp] at p0; cases p0
  · cases hp : isPlace N (listI [f, t] 1) with
    | true => exact hp
    | false => rw [hp] at p1; cases p1

set_option maxHeartbeats 3200000 in
set_option maxRecDepth 100000 in
theorem tripErr_any (N : Net) (v : Value) (f t a : Int) (w : World) (hN : RdNet w v N) :
    Calls Try.prog 23 #[v, stripV f t a] w fun e w' => e = .returned (.int .i64 (tripErr N f t a)) ∧ Below w.heap.size w w' := by
  have hN0 := Lib.hid hN
  obtain ⟨P, R, pc, rc, ar, rfl, m⟩ := hN
  clear m
  have BN := Lib.hid ((BoxN.new w N P R pc rc 25).keep (Keep.alloc _ (.cells #[.int .i64 f, .int .i64 t, .int .i64 a] 27)))
  have BT := Lib.hid (TripAt.new1 w (.cells #[.slice P N.places.length pc, .slice R N.roads.length rc] 25) f t a 27)
  go_enter Try.func23, Try.ntmps23
  go_upto_region 1 with fail
  generalize hwb : (w.alloc _).alloc _ = wb at *
  have HW : Hid (Below w.heap.size w wb) := by rw [← hwb]; exact Lib.hid (((Below.refl _ _).alloc (Nat.le_refl _) _).alloc (by simp) _)
  clear hwb
  obtain ⟨n0, n1⟩ := BN.out
  obtain ⟨c0, c1, c2⟩ := BT.out
  have HBd : Hid (Below wb.heap.size wb wb.drew) := Lib.hid (Below.refl _ _).drew
  have MK : Hid (∀ w', Below wb.heap.size wb w' → w'.cell? ⟨w.heap.size, 0, none⟩ = some (.slice P N.places.length pc) ∧ w'.cell? ⟨w.heap.size, 1, none⟩ = some (.slice R N.roads.length rc) ∧ w'.cell? ⟨w.heap.size + 1, 0, none⟩ = some (.int .i64 f) ∧ w'.cell? ⟨w.heap.size + 1, 1, none⟩ = some (.int .i64 t) ∧ w'.cell? ⟨w.heap.size + 1, 2, none⟩ = some (.int .i64 a) ∧ Hid (Below wb.heap.size wb w')) :=
    Lib.hid fun w' hw => ⟨Keep.below hw _ _ n0, Keep.below hw _ _ n1, Keep.below hw _ _ c0, Keep.below hw _ _ c1, Keep.below hw _ _ c2, Lib.hid hw⟩
  go_region_held3 (fun w' => w'.cell? ⟨w.heap.size, 0, none⟩ = some (.slice P N.places.length pc) ∧ w'.cell? ⟨w.heap.size, 1, none⟩ = some (.slice R N.roads.length rc) ∧ w'.cell? ⟨w.heap.size + 1, 0, none⟩ = some (.int .i64 f) ∧ w'.cell? ⟨w.heap.size + 1, 1, none⟩ = some (.int .i64 t) ∧ w'.cell? ⟨w.heap.size + 1, 2, none⟩ = some (.int .i64 a) ∧ Hid (Below wb.heap.size wb w'))
    (first
      | exact MK.out _ HBd.out
      | (go_split_ands; exact ⟨by assumption, by assumption, by assumption, by assumption, by assumption, by assumption⟩)
      | (go_split_ands; exact MK.out _ (Below.trans (Hid.out (by assumption)) (hb1.mono (Hid.out (by assumption) : Below wb.heap.size wb _).size)))
      | (go_split_ands; exact MK.out _ (Below.alloc (Hid.out (by assumption)) (Hid.out (by assumption) : Below wb.heap.size wb _).size _)))
    ((first
        | (go_at_call 42
           go_split_ands
           refine (placesErr_any N _ [f, t] _ _ _ (hN0.out.keep (Keep.below (HW.out.trans ((Hid.out (by assumption) : Below wb.heap.size wb _).mono HW.out.size)))) (by first | exact arr2New _ f t _ | exact ArrI.keep (Keep.drew _) (arr2New _ f t _))).mono ?_
           rintro e' w1 ⟨rfl, hb1⟩)
        | (go_at_call 36
           refine (timeErr_any a _).mono ?_
           rintro e' w1 ⟨rfl, rfl⟩)
        | (go_at_call 21
           refine (firstError_any [placesErr N [f, t], timeErr a] _ _ _ (by first | exact arr2New _ _ _ _ | exact ArrI.keep (Keep.drew _) (arr2New _ _ _ _))).mono ?_
           rintro e' w1 ⟨rfl, rfl⟩)))
  all_goals
    rename_i hS
    obtain ⟨-, -, -, -, -, hbb⟩ := hS
    have HX := Lib.hid (HW.out.trans (hbb.out.mono HW.out.size))
    go_wp2_with fail
    go_ret
    exact ⟨rfl, HX.out⟩

/-- Both labels of a place, or the error that there is none. -/
def Fs.bound (l m : List Int) (t : Nat) : (Int × Int) × Int := if listI l t = -1 ∨ listI m t = -1 then ((0, 0), 12) else ((listI l t, listI m t), 0)
theorem RowV.int {w : World} {g : Nat} {l : List Int} (h : RowV w g 3 (l.map (Value.int .i64))) {i : Nat} (hi : i < l.length) : w.cell? ⟨g, i, none⟩ = some (.int .i64 (listI l i)) := by
  rw [h.cell, List.getElem?_map, List.getElem?_eq_getElem hi]
  unfold listI
  rw [List.getD_eq_getElem?_getD, List.getElem?_eq_getElem hi]
  rfl
theorem BoxL.new (w : World) (u v : Value) (A B : Obj) (t : TypeId) : (((w.alloc (.cells #[u, v] t)).alloc A).alloc B).cell? ⟨w.heap.size, 0, none⟩ = some u ∧ (((w.alloc (.cells #[u, v] t)).alloc A).alloc B).cell? ⟨w.heap.size, 1, none⟩ = some v :=
  ⟨Keep.alloc _ _ _ _ (Keep.alloc _ _ _ _ (cellNew w _ _ 0)), Keep.alloc _ _ _ _ (Keep.alloc _ _ _ _ (cellNew w _ _ 1))⟩

set_option maxHeartbeats 3200000 in
set_option maxRecDepth 100000 in
theorem boundOf_any (l m : List Int) (g1 g2 n t : Nat) (f a : Int) (w : World) (h1 : RowV w g1 3 (l.map (Value.int .i64))) (h2 : RowV w g2 3 (m.map (Value.int .i64))) (hl : l.length = n) (hm : m.length = n) (ht : t < n) :
    Calls Try.prog 24 #[.agg #[.slice (some ⟨g1, 0, none⟩) n n, .slice (some ⟨g2, 0, none⟩) n n], stripV f t a] w fun e w' => e = .returned (.tuple #[.agg #[.int .i64 (bound l m t).1.1, .int .i64 (bound l m t).1.2], .int .i64 (bound l m t).2]) ∧ Below w.heap.size w w' := by
  have q1 := h1.int (i := t) (by omega)
  have q2 := h2.int (i := t) (by omega)
  have htn : (t : Int) < (n : Int) := by omega
  have BL := Lib.hid (BoxL.new w (.slice (some ⟨g1, 0, none⟩) n n) (.slice (some ⟨g2, 0, none⟩) n n) (.cells #[.int .i64 f, .int .i64 t, .int .i64 a] 27) (.cells #[.int .i64 0, .int .i64 0] 36) 70)
  have BT := Lib.hid ((TripAt.new1 w (.cells #[.slice (some ⟨g1, 0, none⟩) n n, .slice (some ⟨g2, 0, none⟩) n n] 70) f t a 27).keep (Keep.alloc _ (.cells #[.int .i64 0, .int .i64 0] 36)))
  have RT := Lib.hid (show MarkAt (((w.alloc (.cells #[.slice (some ⟨g1, 0, none⟩) n n, .slice (some ⟨g2, 0, none⟩) n n] 70)).alloc (.cells #[.int .i64 f, .int .i64 t, .int .i64 a] 27)).alloc (.cells #[.int .i64 0, .int .i64 0] 36)) (w.heap.size + 1 + 1) from by
    have := MarkAt.new ((w.alloc (.cells #[.slice (some ⟨g1, 0, none⟩) n n, .slice (some ⟨g2, 0, none⟩) n n] 70)).alloc (.cells #[.int .i64 f, .int .i64 t, .int .i64 a] 27)) 36
    simpa using this)
  go_enter Try.func24, Try.ntmps24
  go_upto_region 1 with fail
  generalize hwb : ((w.alloc _).alloc _).alloc _ = wb at *
  have HW : Hid (Below w.heap.size w wb) := by rw [← hwb]; exact Lib.hid ((((Below.refl _ _).alloc (Nat.le_refl _) _).alloc (by simp) _).alloc (by simp; omega) _)
  clear hwb
  obtain ⟨b0, b1⟩ := BL.out
  obtain ⟨c0, c1, c2⟩ := BT.out
  obtain ⟨r0, r1, rf0, rf1⟩ := RT.out
  replace q1 := Keep.below HW.out _ _ q1
  replace q2 := Keep.below HW.out _ _ q2
  by_cases e1 : listI l t = -1
  · have F := Lib.hid (show bound l m t = ((0, 0), 12) from if_pos (.inl e1))
    have d1 : (listI l t == -1) = true := by simpa using e1
    clear e1
    go_wp2_with fail
    refine bodyPost_ret (v := .tuple #[.agg #[.int .i64 0, .int .i64 0], .int .i64 12]) (by simp [results, Try.results24, go_sem, r0, r1]) rfl ⟨by rw [F.out], ?_⟩
    exact ((HW.out.setCell (p := ⟨w.heap.size + 1 + 1, 0, none⟩) (by dsimp only; omega) _).setCell (p := ⟨w.heap.size + 1 + 1, 1, none⟩) (by dsimp only; omega) _)
  · have d1 : (listI l t == -1) = false := by simpa using e1
    by_cases e2 : listI m t = -1
    · have F := Lib.hid (show bound l m t = ((0, 0), 12) from if_pos (.inr e2))
      have d2 : (listI m t == -1) = true := by simpa using e2
      clear e1 e2
      go_wp2_with fail
      refine bodyPost_ret (v := .tuple #[.agg #[.int .i64 0, .int .i64 0], .int .i64 12]) (by simp [results, Try.results24, go_sem, r0, r1]) rfl ⟨by rw [F.out], ?_⟩
      exact ((HW.out.setCell (p := ⟨w.heap.size + 1 + 1, 0, none⟩) (by dsimp only; omega) _).setCell (p := ⟨w.heap.size + 1 + 1, 1, none⟩) (by dsimp only; omega) _)
    · have F := Lib.hid (show bound l m t = ((listI l t, listI m t), 0) from if_neg (fun h => h.elim e1 e2))
      have d2 : (listI m t == -1) = false := by simpa using e2
      clear e1 e2
      go_wp2_with fail
      go_region
      all_goals
        go_wp2_with fail
        refine bodyPost_ret (v := .tuple #[.agg #[.int .i64 (listI l t), .int .i64 (listI m t)], .int .i64 0]) (by simp [results, Try.results24, go_sem, r0, r1]) rfl ⟨by rw [F.out], ?_⟩
        exact ((HW.out.setCell (p := ⟨w.heap.size + 1 + 1, 0, none⟩) (by dsimp only; omega) _).setCell (p := ⟨w.heap.size + 1 + 1, 1, none⟩) (by dsimp only; omega) _).drew
end Go.Proofs.Ytjmaankkbdpikaa
/- The estimate of a trip. No condition. -/
namespace Go.Proofs.Ytjmaankkbdpikaa
open Go.RowKit Fs

def Fs.estErr (N : Net) (f t a : Int) : Int := fst (listI [netErr N, tripErr N f t a]) 2
def Fs.estimate (N : Net) (f t a : Int) : (Int × Int) × Int :=
  if estErr N f t a ≠ 0 then ((0, 0), estErr N f t a) else bound (search N f a (soonest N)).labels (search N f a (latest N)).labels t.toNat
theorem Fs.estErr_ok {N : Net} {f t a : Int} (h : estErr N f t a = 0) : netErr N = 0 ∧ tripErr N f t a = 0 := ⟨fst_zero h 0 (by decide), fst_zero h 1 (by decide)⟩
theorem Fs.search_len {N : Net} {nx : Nat → Int → Int} {s L : Int} : ((search N s L nx).labels.length = N.places.length) ∧ (search N s L nx).last.length = N.places.length := by
  have one : ∀ p st i, (relax N nx p st i).labels.length = st.labels.length ∧ (relax N nx p st i).last.length = st.last.length := fun p st i => by
    unfold relax
    split
    · exact ⟨rfl, rfl⟩
    · split
      · exact ⟨List.length_set, List.length_set⟩
      · exact ⟨rfl, rfl⟩
  have many : ∀ p st k, (relaxTo N nx p st k).labels.length = st.labels.length ∧ (relaxTo N nx p st k).last.length = st.last.length := fun p st k => by
    induction k with
    | zero => exact ⟨rfl, rfl⟩
    | succ k ih => rw [relaxTo, (one _ _ _).1, (one _ _ _).2]; exact ih
  have all : ∀ f st, (rounds N nx f st).labels.length = st.labels.length ∧ (rounds N nx f st).last.length = st.last.length := fun f => by
    induction f with
    | zero => exact fun st => ⟨rfl, rfl⟩
    | succ f ih =>
      intro st
      rw [rounds]
      split
      · exact ⟨rfl, rfl⟩
      · rw [(ih _).1, (ih _).2]
        unfold oneRound
        rw [(many _ _ _).1, (many _ _ _).2]
        exact ⟨rfl, rfl⟩
  unfold search
  rw [(all _ _).1, (all _ _).2]
  simp [Fs.start]

set_option maxHeartbeats 6400000 in
set_option maxRecDepth 100000 in
theorem estimate_any (N : Net) (v : Value) (f t a : Int) (w : World) (hN : RdNet w v N) :
    Calls Try.prog 9 #[v, stripV f t a] w fun e w' => e = .returned (.tuple #[.agg #[.int .i64 (estimate N f t a).1.1, .int .i64 (estimate N f t a).1.2], .int .i64 (estimate N f t a).2]) ∧ Below w.heap.size w w' := by
  have hN0 := Lib.hid hN
  obtain ⟨P, R, pc, rc, ar, rfl, m⟩ := hN
  clear m
  have BN := Lib.hid ((BoxN.new w N P R pc rc 25).keep ((Keep.alloc _ (.cells #[.int .i64 f, .int .i64 t, .int .i64 a] 27)).trans (Keep.alloc _ (.cells #[.int .i64 0, .int .i64 0] 36))))
  have BT := Lib.hid ((TripAt.new1 w (.cells #[.slice P N.places.length pc, .slice R N.roads.length rc] 25) f t a 27).keep (Keep.alloc _ (.cells #[.int .i64 0, .int .i64 0] 36)))
  have RT := Lib.hid (show MarkAt (((w.alloc (.cells #[.slice P N.places.length pc, .slice R N.roads.length rc] 25)).alloc (.cells #[.int .i64 f, .int .i64 t, .int .i64 a] 27)).alloc (.cells #[.int .i64 0, .int .i64 0] 36)) (w.heap.size + 1 + 1) from by
    have := MarkAt.new ((w.alloc (.cells #[.slice P N.places.length pc, .slice R N.roads.length rc] 25)).alloc (.cells #[.int .i64 f, .int .i64 t, .int .i64 a] 27)) 36
    simpa using this)
  go_enter Try.func9, Try.ntmps9
  go_upto_region 1 with fail
  generalize hwb : ((w.alloc _).alloc _).alloc _ = wb at *
  have HW : Hid (Below w.heap.size w wb) := by rw [← hwb]; exact Lib.hid ((((Below.refl _ _).alloc (Nat.le_refl _) _).alloc (by simp) _).alloc (by simp; omega) _)
  have HWS : Hid (w.heap.size + 3 = wb.heap.size) := by rw [← hwb]; exact Lib.hid (by simp)
  clear hwb
  obtain ⟨n0, n1⟩ := BN.out
  obtain ⟨c0, c1, c2⟩ := BT.out
  go_cut [6] from 7 to 13 (fun s wx => s = .int .i64 (estErr N f t a) ∧ Hid (Below wb.heap.size wb wx))
  case first =>
    have HBd : Hid (Below wb.heap.size wb wb.drew) := Lib.hid (Below.refl _ _).drew
    have MK : Hid (∀ w', Below wb.heap.size wb w' → w'.cell? ⟨w.heap.size, 0, none⟩ = some (.slice P N.places.length pc) ∧ w'.cell? ⟨w.heap.size, 1, none⟩ = some (.slice R N.roads.length rc) ∧ w'.cell? ⟨w.heap.size + 1, 0, none⟩ = some (.int .i64 f) ∧ w'.cell? ⟨w.heap.size + 1, 1, none⟩ = some (.int .i64 t) ∧ w'.cell? ⟨w.heap.size + 1, 2, none⟩ = some (.int .i64 a) ∧ Hid (Below wb.heap.size wb w')) :=
      Lib.hid fun w' hw => ⟨Keep.below hw _ _ n0, Keep.below hw _ _ n1, Keep.below hw _ _ c0, Keep.below hw _ _ c1, Keep.below hw _ _ c2, Lib.hid hw⟩
    go_region_held3 (fun w' => w'.cell? ⟨w.heap.size, 0, none⟩ = some (.slice P N.places.length pc) ∧ w'.cell? ⟨w.heap.size, 1, none⟩ = some (.slice R N.roads.length rc) ∧ w'.cell? ⟨w.heap.size + 1, 0, none⟩ = some (.int .i64 f) ∧ w'.cell? ⟨w.heap.size + 1, 1, none⟩ = some (.int .i64 t) ∧ w'.cell? ⟨w.heap.size + 1, 2, none⟩ = some (.int .i64 a) ∧ Hid (Below wb.heap.size wb w'))
      (first
        | exact MK.out _ HBd.out
        | (go_split_ands; exact ⟨by assumption, by assumption, by assumption, by assumption, by assumption, by assumption⟩)
        | (go_split_ands; exact MK.out _ (Below.trans (Hid.out (by assumption)) (hb1.mono (Hid.out (by assumption) : Below wb.heap.size wb _).size)))
        | (go_split_ands; exact MK.out _ (Below.alloc (Hid.out (by assumption)) (Hid.out (by assumption) : Below wb.heap.size wb _).size _)))
      ((first
          | (go_at_call 22
             go_split_ands
             refine (errNet_any N _ _ (hN0.out.keep (Keep.below (HW.out.trans ((Hid.out (by assumption) : Below wb.heap.size wb _).mono HW.out.size))))).mono ?_
             rintro e' w1 ⟨rfl, hb1⟩)
          | (go_at_call 23
             go_split_ands
             refine (tripErr_any N _ f t a _ (hN0.out.keep (Keep.below (HW.out.trans ((Hid.out (by assumption) : Below wb.heap.size wb _).mono HW.out.size))))).mono ?_
             rintro e' w1 ⟨rfl, hb1⟩)
          | (go_at_call 21
             refine (firstError_any [netErr N, tripErr N f t a] _ _ _ (by first | exact arr2New _ _ _ _ | exact ArrI.keep (Keep.drew _) (arr2New _ _ _ _))).mono ?_
             rintro e' w1 ⟨rfl, rfl⟩)))
    all_goals
      rename_i hS
      obtain ⟨-, -, -, -, -, hbb⟩ := hS
      go_wp2_with fail
      go_meet
      exact ⟨rfl, hbb⟩
  case rest =>
    obtain ⟨rfl, HB⟩ := hcut
    obtain ⟨wp, hwp⟩ : ∃ wp, wp = wc := ⟨_, rfl⟩
    subst hwp
    clear n0 n1 c0 c1 c2
    have HX := Lib.hid (HW.out.trans (HB.out.mono HW.out.size))
    obtain ⟨r0, r1, rf0, rf1⟩ := RT.out.below HB.out RT.out.lt
    by_cases he : estErr N f t a = 0
    · have hEE := Lib.hid (estErr_ok he)
      have hPP := Lib.hid (tripErr_ok hEE.out.2)
      have HF := Lib.hid (show estimate N f t a = bound (search N f a (soonest N)).labels (search N f a (latest N)).labels t.toNat from if_neg (by rw [he]; decide))
      have HZ := Lib.hid he
      rw [he]
      clear he
      obtain ⟨s, hs⟩ : ∃ s : Nat, f = s := ⟨_, (Int.toNat_of_nonneg (Fs.within_iff.1 hPP.out.1).1).symm⟩
      obtain ⟨u, hu⟩ : ∃ u : Nat, t = u := ⟨_, (Int.toNat_of_nonneg (Fs.within_iff.1 hPP.out.2.1).1).symm⟩
      have hsl : s < N.places.length := by have := (Fs.within_iff.1 hPP.out.1).2; omega
      have hul : u < N.places.length := by have := (Fs.within_iff.1 hPP.out.2.1).2; omega
      have hta : 0 ≤ a ∧ a ≤ 604800 := by
        have h := hPP.out.2.2
        unfold timeErr at h
        cases hw : within a 0 604800 with
        | true => exact Fs.within_iff.1 hw
        | false => rw [hw] at h; cases h
      subst hs
      subst hu
      obtain ⟨n0, n1⟩ := BN.out.keep (Keep.below HB.out)
      obtain ⟨c0, c1, c2⟩ := BT.out.keep (Keep.below HB.out)
      go_wp2_with fail
      go_cut [5] from 18 to 27 (fun x wx => x = .int .i64 (estimate N (s : Int) (u : Int) a).2 ∧ Hid (wx.cell? ⟨w.heap.size + 1 + 1, 0, none⟩ = some (.int .i64 (estimate N (s : Int) (u : Int) a).1.1)) ∧ Hid (wx.cell? ⟨w.heap.size + 1 + 1, 1, none⟩ = some (.int .i64 (estimate N (s : Int) (u : Int) a).1.2)) ∧ Hid (Below w.heap.size w wx))
      case first =>
        have HWB := Lib.hid (show w.heap.size + 2 ≤ wp.heap.size by have := HWS.out; have := HB.out.size; omega)
        have HBd : Hid (Below (w.heap.size + 2) wp wp.drew) := Lib.hid (Below.refl _ _).drew
        have MK : Hid (∀ w', Below (w.heap.size + 2) wp w' → w'.cell? ⟨w.heap.size, 0, none⟩ = some (.slice P N.places.length pc) ∧ w'.cell? ⟨w.heap.size, 1, none⟩ = some (.slice R N.roads.length rc) ∧ w'.cell? ⟨w.heap.size + 1, 0, none⟩ = some (.int .i64 (s : Int)) ∧ w'.cell? ⟨w.heap.size + 1, 1, none⟩ = some (.int .i64 (u : Int)) ∧ w'.cell? ⟨w.heap.size + 1, 2, none⟩ = some (.int .i64 a) ∧ Hid (Below (w.heap.size + 2) wp w')) :=
          Lib.hid fun w' hw => ⟨(hw.cell (p := ⟨w.heap.size, 0, none⟩) (by dsimp only; omega)).trans n0, (hw.cell (p := ⟨w.heap.size, 1, none⟩) (by dsimp only; omega)).trans n1, (hw.cell (p := ⟨w.heap.size + 1, 0, none⟩) (by dsimp only; omega)).trans c0, (hw.cell (p := ⟨w.heap.size + 1, 1, none⟩) (by dsimp only; omega)).trans c1, (hw.cell (p := ⟨w.heap.size + 1, 2, none⟩) (by dsimp only; omega)).trans c2, Lib.hid hw⟩
        have RTn : Hid (MarkAt wp.drew (w.heap.size + 1 + 1)) := Lib.hid ⟨r0, r1, rf0, rf1⟩
        have HE2 := hEE.out.1
        have hta0 := hta.1
        have hta2 : a ≤ 1000000 := Int.le_trans hta.2 (by decide)
        have KN : Hid (∀ w', Below (w.heap.size + 2) wp w' → RdNet w' (netV N P R pc rc) N) := Lib.hid fun w' hw => (hN0.out.keep (Keep.below (HX.out.trans (hw.mono (Nat.le_add_right _ _)))))
        go_region_held3 (fun w' => w'.cell? ⟨w.heap.size, 0, none⟩ = some (.slice P N.places.length pc) ∧ w'.cell? ⟨w.heap.size, 1, none⟩ = some (.slice R N.roads.length rc) ∧ w'.cell? ⟨w.heap.size + 1, 0, none⟩ = some (.int .i64 (s : Int)) ∧ w'.cell? ⟨w.heap.size + 1, 1, none⟩ = some (.int .i64 (u : Int)) ∧ w'.cell? ⟨w.heap.size + 1, 2, none⟩ = some (.int .i64 a) ∧ Hid (Below (w.heap.size + 2) wp w'))
          (first
            | exact MK.out _ HBd.out
            | (go_split_ands; exact MK.out _ (Below.trans (Hid.out (by assumption)) (hb1.mono (Nat.le_trans HWB.out (Hid.out (by assumption) : Below (w.heap.size + 2) wp _).size))))
            | (go_split_ands; exact MK.out _ (Below.setCell (p := ⟨w.heap.size + 1 + 1, 1, none⟩) (Below.setCell (p := ⟨w.heap.size + 1 + 1, 0, none⟩) (Hid.out (by assumption)) (Nat.le_refl _) _) (Nat.le_refl _) _)))
          ((first
              | (go_at_call 25
                 go_split_ands
                 refine (earliest_any N _ s a _ (KN.out _ (Hid.out (by assumption))) HE2 hsl hta0 hta2).mono ?_
                 rintro e' w1 ⟨g1, g2, rfl, h1, h2, hb1⟩
                 have H1 := Lib.hid h1
                 have H2 := Lib.hid h2
                 have RTn := Lib.hid (MarkAt.below (RTn.out) hb1 (MarkAt.lt (RTn.out)))
                 clear h1 h2
                 obtain ⟨r0, r1, rf0, rf1⟩ := RTn.out)
              | (go_at_call 24
                 go_split_ands
                 refine (boundOf_any (search N s a (soonest N)).labels (search N s a (latest N)).labels g1 g2 N.places.length u s a _ H1.out H2.out search_len.1 search_len.1 hul).mono ?_
                 rintro e' w1 ⟨rfl, hb1⟩
                 have RTn := Lib.hid (MarkAt.below (RTn.out) hb1 (MarkAt.lt (RTn.out)))
                 obtain ⟨r0, r1, rf0, rf1⟩ := RTn.out)))
        all_goals
          rename_i hS
          obtain ⟨-, -, -, -, -, hbb⟩ := hS
          have HFF := HF.out
          rw [Int.toNat_natCast] at HFF
          go_wp2_with fail
          go_meet
          rw [HFF]
          exact ⟨rfl, Lib.hid ((World.cell?_setCell_other _ _ _ _ (by simp)).trans (World.cell?_setCell_same _ _ _ RTn.out.c0)), Lib.hid (World.cell?_setCell_same _ _ _ ((World.cell?_setCell_other _ _ _ _ (by simp)).trans RTn.out.c1)), Lib.hid (HX.out.trans (hbb.out.mono (Nat.le_add_right _ _)))⟩
      case rest =>
        obtain ⟨rfl, R0, R1, HBF⟩ := hcut
        have q0 := R0.out
        have q1 := R1.out
        go_wp2_with fail
        exact bodyPost_ret (v := .tuple #[.agg #[.int .i64 (estimate N (s : Int) (u : Int) a).1.1, .int .i64 (estimate N (s : Int) (u : Int) a).1.2], .int .i64 (estimate N (s : Int) (u : Int) a).2]) (by simp [results, Try.results9, go_sem, q0, q1]) rfl ⟨rfl, HBF.out⟩
    · have hz : (estErr N f t a == 0) = false := by simpa using he
      have HF := Lib.hid (show estimate N f t a = ((0, 0), estErr N f t a) from if_pos he)
      clear he
      go_wp2_with fail
      refine bodyPost_ret (v := .tuple #[.agg #[.int .i64 0, .int .i64 0], .int .i64 (estErr N f t a)]) (by simp [results, Try.results9, go_sem, r0, r1]) rfl ⟨by rw [HF.out], ?_⟩
      exact ((HX.out.setCell (p := ⟨w.heap.size + 1 + 1, 0, none⟩) (by dsimp only; omega) _).setCell (p := ⟨w.heap.size + 1 + 1, 1, none⟩) (by dsimp only; omega) _)
end Go.Proofs.Ytjmaankkbdpikaa
/- The way back from a place along the last roads of a search. Condition: the roads lead back. -/
namespace Go.Proofs.Ytjmaankkbdpikaa
open Go.RowKit Fs

/-- The roads back from a place, as long as there is one. -/
inductive Fs.Chain (N : Net) (last : List Int) : Nat → List Int → Prop
  | stop (z : Nat) : listI last z = -1 → Chain N last z []
  | go (z i : Nat) (l : List Int) : listI last z = (i : Int) → Chain N last (listD N.roads i).src.toNat l → Chain N last z ((i : Int) :: l)
/-- The last roads lead back, by a rank that falls. -/
structure Fs.Back (N : Net) (last : List Int) (rk : Nat → Nat) : Prop where
  len : last.length = N.places.length
  step : ∀ z, z < N.places.length → listI last z ≠ -1 → rk z < N.places.length ∧ ∃ i : Nat, i < N.roads.length ∧ listI last z = (i : Int) ∧ (listD N.roads i).dst = (z : Int) ∧ rk (listD N.roads i).src.toNat < rk z
theorem Fs.Found.back' {N : Net} {nx : Nat → Int → Int} {src : Nat} {L : Int} {s : St} (h : Found N nx src L s) : ∃ rk, Back N s.last rk := by
  obtain ⟨rk, ht⟩ := h.tree
  exact ⟨rk, h.n2, fun z hz hl => by
    obtain ⟨h1, i, a, b, c, -, -, d⟩ := ht z hz hl
    exact ⟨h1, i, a, b, c, d⟩⟩
/-- A row of the call's own of numbers, as the reversal asks for it. -/
theorem own_holds {w : World} {base : Nat} {e : TypeId} {v : Value} {l : List Int} (h : w.ownsRow base e 1 v l.length (intVals l)) (hn : l ≠ []) :
    ∃ g c, v = .slice (some ⟨g, 0, none⟩) l.length c ∧ base ≤ g ∧ g < w.heap.size ∧ l.length ≤ c ∧ c ≤ maxLen ∧ Go.Sort.Holds (Value.int .i64) w g 0 l.toArray := by
  rcases h.2 with ⟨hv, hn0⟩ | ⟨g, cap, cur, hv, hb, hh, h1, h2, h3, h4⟩
  · exact absurd (List.eq_nil_of_length_eq_zero hn0) hn
  · subst hv
    refine ⟨g, cap, rfl, hb, (Array.getElem?_eq_some_iff.1 hh).1, h1, h2, fun j hj => ?_⟩
    have hj' : j < l.length := by simpa using hj
    refine ⟨?_, by rw [Nat.zero_add]; exact h.frozenAt j⟩
    rw [Nat.zero_add, h.cellAt j (by omega)]
    unfold intVals
    simp [hj']
theorem holds_arr {w : World} {g : Nat} {l : List Int} {c : Nat} (h : Go.Sort.Holds (Value.int .i64) w g 0 l.toArray) (h1 : l.length ≤ c) (h2 : c ≤ maxLen) : ArrI w (some ⟨g, 0, none⟩) l c := by
  refine ⟨h1, h2, fun _ => ⟨g, 0, rfl, fun i j hi hj => ?_⟩⟩
  have hj0 : j = 0 := by omega
  subst hj0
  have := (h i (by simpa using hi)).1
  rw [Nat.zero_add] at this
  rw [show 0 + i * 1 + 0 = i by omega, this]
  unfold listI
  simp [hi]
theorem putRow_below {w0 w : World} {g : Nat} {d : Array Int} {B : Nat} (h : Below B w0 w) (n : Nat) (hg : B ≤ g) : Below B w0 (Go.Sort.putRow (Value.int .i64) (Go.Sort.ahead w n) g 0 d) := by
  refine ⟨h.os, h.tape, h.output, by unfold Go.Sort.putRow Go.Sort.mapBlock Go.Sort.ahead; simpa using h.size, fun k hk => ?_⟩
  rw [← h.block k hk]
  unfold Go.Sort.putRow Go.Sort.mapBlock Go.Sort.ahead
  simp only [Array.getElem?_modify]
  rw [if_neg (by omega)]

theorem own_below {w w' : World} {base : Nat} {e : TypeId} {size : Nat} {v : Value} {n : Nat} {xs : List Value} (h : w.ownsRow base e size v n xs) (hb : Below w.heap.size w w') : w'.ownsRow base e size v n xs := by
  obtain ⟨h0, h1⟩ := h
  refine ⟨h0, ?_⟩
  rcases h1 with h1 | ⟨g, cap, cur, hv, hg, hh, hr⟩
  · exact .inl h1
  · refine .inr ⟨g, cap, cur, hv, hg, ?_, hr⟩
    have hlt : g < w.heap.size := by
      rcases Nat.lt_or_ge g w.heap.size with hlt | hge
      · exact hlt
      · rw [Array.getElem?_eq_none hge] at hh; cases hh
    rw [hb.block g hlt]
    exact hh

set_option maxHeartbeats 3200000 in
set_option maxRecDepth 100000 in
theorem wayTo_any (N : Net) (v : Value) (last : List Int) (rk : Nat → Nat) (gl ga z0 : Nat) (w : World) (hN : RdNet w v N) (hE : netErr N = 0) (ha : RowV w ga 3 (last.map (Value.int .i64))) (hB : Back N last rk) (hz : z0 < N.places.length) :
    Calls Try.prog 34 #[.agg #[.slice (some ⟨gl, 0, none⟩) N.places.length N.places.length, .slice (some ⟨ga, 0, none⟩) N.places.length N.places.length], v, .int .i64 z0] w fun e w' =>
      ∃ l A c, Chain N last z0 l ∧ e = .returned (.slice A l.length c) ∧ ArrI w' A l.reverse c ∧ Below w.heap.size w w' := by
  have hN0 := Lib.hid hN
  obtain ⟨P, R, pc, rc, ar, rfl, m⟩ := hN
  have M := Lib.hid m
  have rb1 := m.roads.le.1
  have rb2 := m.roads.le.2
  clear m
  obtain ⟨i0, hi, hz0, hz1, hz2⟩ := info_parts Try.infoInt
  have hn20 := (net_sound hE).2.1
  have HBK := Lib.hid hB
  have HRD := Lib.hid (net_roads_ok hE)
  clear hB
  have BT := Lib.hid (show ((w.alloc (.cells #[.slice (some ⟨gl, 0, none⟩) N.places.length N.places.length, .slice (some ⟨ga, 0, none⟩) N.places.length N.places.length] 84)).alloc (.cells #[.slice P N.places.length pc, .slice R N.roads.length rc] 25)).cell? ⟨w.heap.size, 1, none⟩ = some (.slice (some ⟨ga, 0, none⟩) N.places.length N.places.length) from Keep.alloc _ _ _ _ (cellNew w _ _ 1))
  have BN := Lib.hid (show ((w.alloc (.cells #[.slice (some ⟨gl, 0, none⟩) N.places.length N.places.length, .slice (some ⟨ga, 0, none⟩) N.places.length N.places.length] 84)).alloc (.cells #[.slice P N.places.length pc, .slice R N.roads.length rc] 25)).cell? ⟨w.heap.size + 1, 1, none⟩ = some (.slice R N.roads.length rc) from cellNew1 _ _ _ _ 1)
  go_enter Try.func34, Try.ntmps34
  go_upto_region 2 with fail
  generalize hwb : (w.alloc _).alloc _ = wb at *
  have HW : Hid (Below w.heap.size w wb) := by rw [← hwb]; exact Lib.hid (((Below.refl _ _).alloc (Nat.le_refl _) _).alloc (by simp) _)
  clear hwb
  have t1 := BT.out
  have c0 := (ha.keep HW.out).int (i := z0) (by rw [HBK.out.len]; exact hz)
  have hzn : (z0 : Int) < (N.places.length : Int) := by omega
  go_wp2_with fail
  clear t1 c0
  go_loopw [7, 8] (fun u x wr => ∃ (d : List Int) (z : Nat), z < N.places.length ∧ x = .int .i64 (listI last z) ∧ Hid (wr.ownsRow wb.heap.size 3 1 u d.length (intVals d)) ∧ Hid (∀ l, Chain N last z l → Chain N last z0 (d ++ l)) ∧
    Hid ((listI last z = -1 ∧ d.length ≤ N.places.length) ∨ (listI last z ≠ -1 ∧ d.length + rk z + 1 ≤ N.places.length)) ∧ Hid (Below wb.heap.size wb wr)) (fun _ x _ => if intOf x = -1 then 0 else rk (listD N.roads (intOf x).toNat).dst.toNat + 1)
  case atStart =>
    refine ⟨[], z0, hz, rfl, Lib.hid (World.ownsRow_nil _ _ _ _), Lib.hid fun l h => h, Lib.hid ?_, Lib.hid (Below.refl _ _)⟩
    by_cases h : listI last z0 = -1
    · exact .inl ⟨h, Nat.zero_le _⟩
    · have := (HBK.out.step z0 hz h).1
      exact .inr ⟨h, by simp; omega⟩
  case round =>
    obtain ⟨d, z, hzl, rfl, HO, HC, HL, HB⟩ := hrel
    have HX := Lib.hid (HW.out.trans (HB.out.mono HW.out.size))
    by_cases hl : listI last z = -1
    · have e1 : (listI last z == -1) = true := by simpa using hl
      have e1' : (listI last z != -1) = false := by simpa using hl
      have HCC := Lib.hid (HC.out [] (.stop z hl))
      rw [List.append_nil] at HCC
      clear hl HL HC
      by_cases hd : d = []
      · subst hd
        obtain ⟨A, c, hv, harr⟩ := own_arr HO.out
        subst hv
        have HA := Lib.hid harr
        clear harr
        go_wp2_with (go_at_call 54; refine (reverse_empty _ _ _).mono ?_; rintro e w1 ⟨rfl, hw1⟩; obtain rfl : wr = w1 := hw1.symm)
        go_ret
        exact ⟨[], A, c, HCC.out, rfl, HA.out, HX.out⟩
      · obtain ⟨g, c, hv, hg1, hg2, hg3, hg4, hH⟩ := own_holds HO.out hd
        subst hv
        have HH := Lib.hid hH
        have hwg : w.heap.size ≤ g := Nat.le_trans HW.out.size hg1
        clear hH
        go_wp2_with (go_at_call 54; refine (reverse_any _ _ _ d _ HH.out (by unfold maxLen at hg4; omega)).mono ?_; rintro e w1 ⟨rfl, q, hw1⟩)
        have HB1 : Hid (Below w.heap.size w w1) := by rw [hw1]; exact Lib.hid (putRow_below HX.out q hwg)
        have HA1 : Hid (ArrI w1 (some ⟨g, 0, none⟩) d.reverse c) := by
          rw [hw1]
          exact Lib.hid (holds_arr (Go.Sort.holds_putRow _ _ _ _ _ _ (Go.Sort.holds_ahead _ _ _ _ _ _ HH.out) (by simp)) (by simpa using hg3) hg4)
        have hw1 := Lib.hid hw1
        go_ret
        exact ⟨d, _, c, HCC.out, rfl, hw1.out ▸ HA1.out, hw1.out ▸ HB1.out⟩
    · obtain ⟨hr1, i, hi1, hi2, hi3, hi4⟩ := HBK.out.step z hzl hl
      have hlen : d.length + rk z + 1 ≤ N.places.length := by
        rcases HL.out with ⟨h, -⟩ | ⟨-, h⟩
        · exact absurd h hl
        · exact h
      have HOK := Lib.hid (HRD.out i hi1)
      have e1 : ((i : Int) == -1) = false := by simp
      have e1' : ((i : Int) != -1) = true := by simp
      rw [hi2]
      have HI2 := Lib.hid hi2
      have HI3 := Lib.hid hi3
      clear hl HL hi2 hi3
      have hsz1 : w.heap.size ≤ wr.heap.size := HX.out.size
      have hsz2 : wb.heap.size ≤ wr.heap.size := HB.out.size
      go_wp2_with (at_builtin; refine wpList_append_own _ rfl (.tmp 26) (.tmp 28) 48 rfl wb.heap.size 3 i0 (.int .i64 0) 1 8 Try.underlying48 hi hz0 hz1 hz2 rfl (by decide) _ _ _ rfl (HO.out.alloc _) ⟨wr.heap.size, 0, none⟩ 1 1 [.int .i64 (i : Int)] rfl rfl ?c1 ?c2 ?c3 ?c4 ?c5 ?_)
      case c1 => exact news0 _ _ _
      case c2 => exact oneInt _
      case c3 => unfold maxLen; omega
      case c4 => omega
      case c5 => simp; omega
      intro v2 w2 hown2 hg2 _
      have HB2 := Lib.hid ((HB.out.alloc hsz2 _).grown hg2 (by simp; omega) (fun j hj => (HO.out.lt j hj).1))
      have HO2 : Hid (w2.ownsRow wb.heap.size 3 1 v2 (d ++ [(i : Int)]).length (intVals (d ++ [(i : Int)]))) := by
        rw [intVals_snoc, List.length_append]
        exact Lib.hid hown2
      clear hown2 hg2
      have HX2 := Lib.hid (HW.out.trans (HB2.out.mono HW.out.size))
      have hrr := M.out.roads.keep (Keep.below HX2.out)
      obtain ⟨b, o, hRa, q⟩ := hrr.at_ hi1
      subst hRa
      have q1 := q.c1
      have hw2s : (listD N.roads i).src < (N.places.length : Int) := HOK.out.src.2
      have hw2t : 0 ≤ (listD N.roads i).src := HOK.out.src.1
      obtain ⟨y, hy⟩ : ∃ y : Nat, (listD N.roads i).src = y := ⟨_, (Int.toNat_of_nonneg hw2t).symm⟩
      rw [hy] at q1 hw2s hi4
      have HY := Lib.hid hy
      clear q hrr hy hw2t
      have hyl : y < N.places.length := by omega
      have c0 := (ha.keep HX2.out).int (i := y) (by rw [HBK.out.len]; exact hyl)
      have t1 := (BT.out : wb.cell? _ = _)
      have t1 := Keep.below HB2.out _ _ t1
      have t2 := Keep.below HB2.out _ _ BN.out
      have hin : (i : Int) < (N.roads.length : Int) := by omega
      go_wp2_with fail
      go_quiet (fail)
      go_roundw
      case rel =>
        refine ⟨v2, .int .i64 (listI last y), _, _, _, _, _, _, _, _, _, _, _, _, _, _, _, _, ⟨d ++ [(i : Int)], y, hyl, rfl, Lib.hid (own_below HO2.out (bdrewN (Below.refl _ _) _)), Lib.hid fun l h => ?_, Lib.hid ?_, Lib.hid (bdrewN HB2.out _)⟩, rfl⟩
        · rw [List.append_assoc]
          exact HC.out _ (.go z i l HI2.out (by rw [HY.out]; exact h))
        · simp only [Int.toNat_natCast] at hi4
          by_cases h : listI last y = -1
          · exact .inl ⟨h, by simp; omega⟩
          · exact .inr ⟨h, by simp; omega⟩
      case measure =>
        show (if listI last y = -1 then 0 else rk (listD N.roads (listI last y).toNat).dst.toNat + 1) < (if (i : Int) = -1 then 0 else rk (listD N.roads (i : Int).toNat).dst.toNat + 1)
        rw [if_neg (show ¬ (i : Int) = -1 by omega), Int.toNat_natCast, HI3.out, Int.toNat_natCast]
        simp only [Int.toNat_natCast] at hi4
        by_cases h : listI last y = -1
        · rw [if_pos h]; omega
        · obtain ⟨-, i2, -, h2, h3, -⟩ := HBK.out.step y hyl h
          rw [if_neg h, h2, Int.toNat_natCast, h3, Int.toNat_natCast]
          omega
end Go.Proofs.Ytjmaankkbdpikaa

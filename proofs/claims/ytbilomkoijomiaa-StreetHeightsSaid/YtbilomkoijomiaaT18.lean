/- The error of a trip; the bound of two lists of labels. No condition. -/
import Derived.Test.YtbilomkoijomiaaT17
namespace Go.Proofs.Ytbilomkoijomiaa
open Go.RowKit Fs

abbrev stripV (f t a : Int) : Value := .agg #[.int .i64 f, .int .i64 t, .int .i64 a]
/-- A trip's cells in the block g. -/
structure TripAt (w : World) (g : Nat) (f t a : Int) : Prop where
  c0 : w.cell? ⟨g, 0, none⟩ = some (.int .i64 f)
  c1 : w.cell? ⟨g, 1, none⟩ = some (.int .i64 t)
  c2 : w.cell? ⟨g, 2, none⟩ = some (.int .i64 a)
theorem TripAt.keep {w w' : World} (k : Keep w w') {g : Nat} {f t a : Int} (m : TripAt w g f t a) : TripAt w' g f t a := ⟨k _ _ m.c0, k _ _ m.c1, k _ _ m.c2⟩
theorem TripAt.new1 (w : World) (A : Obj) (f t a : Int) (ty : TypeId) : TripAt ((w.alloc A).alloc (.cells #[.int .i64 f, .int .i64 t, .int .i64 a] ty)) (w.heap.size + 1) f t a := ⟨cellNew1 _ _ _ _ 0, cellNew1 _ _ _ _ 1, cellNew1 _ _ _ _ 2⟩
theorem arr2New (w : World) (x y : Int) (ty : TypeId) : ArrI (w.alloc (.cells #[.int .i64 x, .int .i64 y] ty)) (some ⟨w.heap.size, 0, none⟩) [x, y] 2 := by
  refine ⟨Nat.le_refl _, by decide, fun _ => ⟨_, _, rfl, fun i j hi hj => ?_⟩⟩
  have hj0 : j = 0 := by omega
  subst hj0
  match i, hi with
  | 0, _ => exact cellNew w _ _ 0
  | 1, _ => exact cellNew w _ _ 1
def Fs.tripErr (N : Net) (f t a : Int) : Int := fst (listI [placesErr N [f, t], timeErr a]) 2
theorem Fs.tripErr_ok {N : Net} {f t a : Int} (h : tripErr N f t a = 0) : isPlace N f = true ∧ isPlace N t = true ∧ timeErr a = 0 := by
  have h0 := fst_zero h 0 (by decide)
  have h1 := fst_zero h 1 (by decide)
  have h0 : placesErr N [f, t] = 0 := h0
  have h1 : timeErr a = 0 := h1
  have p0 := fst_zero h0 0 (by show 0 < 2; decide)
  have p1 := fst_zero h0 1 (by show 1 < 2; decide)
  refine ⟨?_, ?_, h1⟩
  · cases hp : isPlace N (listI [f, t] 0) with
    | true => exact hp
    | false => rw [hp] at p0; cases p0
  · cases hp : isPlace N (listI [f, t] 1) with
    | true => exact hp
    | false => rw [hp] at p1; cases p1

set_option maxHeartbeats 3200000 in
set_option maxRecDepth 100000 in
theorem tripErr_any (N : Net) (v : Value) (f t a : Int) (w : World) (hN : RdNet w v N) :
    Calls Try.prog 84 #[v, stripV f t a] w fun e w' => e = .returned (.int .i64 (tripErr N f t a)) ∧ Below w.heap.size w w' := by
  have hN0 := Lib.hid hN
  obtain ⟨P, R, pc, rc, ar, rfl, m⟩ := hN
  clear m
  have BN := Lib.hid ((BoxN.new w N P R pc rc 25).keep (Keep.alloc _ (.cells #[.int .i64 f, .int .i64 t, .int .i64 a] 63)))
  have BT := Lib.hid (TripAt.new1 w (.cells #[.slice P N.places.length pc, .slice R N.roads.length rc] 25) f t a 63)
  go_enter Try.func84, Try.ntmps84
  go_upto_region 1 with fail
  generalize hwb : (w.alloc _).alloc _ = wb at *
  have HW : Hid (Below w.heap.size w wb) := by rw [← hwb]; exact Lib.hid (((Below.refl _ _).alloc (Nat.le_refl _) _).alloc (by simp) _)
  clear hwb
  obtain ⟨n0, n1⟩ := BN.out
  obtain ⟨c0, c1, c2⟩ := BT.out
  have HBd : Hid (Below wb.heap.size wb wb.drew) := Lib.hid (Below.refl _ _).drew
  have MK : Hid (∀ w', Below wb.heap.size wb w' → w'.cell? ⟨w.heap.size, 0, none⟩ = some (.slice P N.places.length pc) ∧ w'.cell? ⟨w.heap.size, 1, none⟩ = some (.slice R N.roads.length rc) ∧ w'.cell? ⟨w.heap.size + 1, 0, none⟩ = some (.int .i64 f) ∧ w'.cell? ⟨w.heap.size + 1, 1, none⟩ = some (.int .i64 t) ∧ w'.cell? ⟨w.heap.size + 1, 2, none⟩ = some (.int .i64 a) ∧ Hid (Below wb.heap.size wb w')) :=
    Lib.hid fun w' hw => ⟨Keep.below hw _ _ n0, Keep.below hw _ _ n1, Keep.below hw _ _ c0, Keep.below hw _ _ c1, Keep.below hw _ _ c2, Lib.hid hw⟩
  go_region_held3 (fun w' => w'.cell? ⟨w.heap.size, 0, none⟩ = some (.slice P N.places.length pc) ∧ w'.cell? ⟨w.heap.size, 1, none⟩ = some (.slice R N.roads.length rc) ∧ w'.cell? ⟨w.heap.size + 1, 0, none⟩ = some (.int .i64 f) ∧ w'.cell? ⟨w.heap.size + 1, 1, none⟩ = some (.int .i64 t) ∧ w'.cell? ⟨w.heap.size + 1, 2, none⟩ = some (.int .i64 a) ∧ Hid (Below wb.heap.size wb w'))
    (first
      | exact MK.out _ HBd.out
      | (go_split_ands; exact ⟨by assumption, by assumption, by assumption, by assumption, by assumption, by assumption⟩)
      | (go_split_ands; exact MK.out _ (Below.trans (Hid.out (by assumption)) (hb1.mono (Hid.out (by assumption) : Below wb.heap.size wb _).size)))
      | (go_split_ands; exact MK.out _ (Below.alloc (Hid.out (by assumption)) (Hid.out (by assumption) : Below wb.heap.size wb _).size _)))
    ((first
        | (go_at_call 80
           go_split_ands
           refine (placesErr_any N _ [f, t] _ _ _ (hN0.out.keep (Keep.below (HW.out.trans ((Hid.out (by assumption) : Below wb.heap.size wb _).mono HW.out.size)))) (by first | exact arr2New _ f t _ | exact ArrI.keep (Keep.drew _) (arr2New _ f t _))).mono ?_
           rintro e' w1 ⟨rfl, hb1⟩)
        | (go_at_call 68
           refine (timeErr_any a _).mono ?_
           rintro e' w1 ⟨rfl, rfl⟩)
        | (go_at_call 65
           refine (firstError_any [placesErr N [f, t], timeErr a] _ _ _ (by first | exact arr2New _ _ _ _ | exact ArrI.keep (Keep.drew _) (arr2New _ _ _ _))).mono ?_
           rintro e' w1 ⟨rfl, rfl⟩)))
  all_goals
    rename_i hS
    obtain ⟨-, -, -, -, -, hbb⟩ := hS
    have HX := Lib.hid (HW.out.trans (hbb.out.mono HW.out.size))
    go_wp2_with fail
    go_ret
    exact ⟨rfl, HX.out⟩

/-- Both labels of a place, or the error that there is none. -/
def Fs.bound (l m : List Int) (t : Nat) : (Int × Int) × Int := if listI l t = -1 ∨ listI m t = -1 then ((0, 0), 12) else ((listI l t, listI m t), 0)
theorem RowV.int {w : World} {g : Nat} {l : List Int} (h : RowV w g 3 (l.map (Value.int .i64))) {i : Nat} (hi : i < l.length) : w.cell? ⟨g, i, none⟩ = some (.int .i64 (listI l i)) := by
  rw [h.cell, List.getElem?_map, List.getElem?_eq_getElem hi]
  unfold listI
  rw [List.getD_eq_getElem?_getD, List.getElem?_eq_getElem hi]
  rfl
theorem BoxL.new (w : World) (u v : Value) (A B : Obj) (t : TypeId) : (((w.alloc (.cells #[u, v] t)).alloc A).alloc B).cell? ⟨w.heap.size, 0, none⟩ = some u ∧ (((w.alloc (.cells #[u, v] t)).alloc A).alloc B).cell? ⟨w.heap.size, 1, none⟩ = some v :=
  ⟨Keep.alloc _ _ _ _ (Keep.alloc _ _ _ _ (cellNew w _ _ 0)), Keep.alloc _ _ _ _ (Keep.alloc _ _ _ _ (cellNew w _ _ 1))⟩

set_option maxHeartbeats 3200000 in
set_option maxRecDepth 100000 in
theorem boundOf_any (l m : List Int) (g1 g2 n t : Nat) (f a : Int) (w : World) (h1 : RowV w g1 3 (l.map (Value.int .i64))) (h2 : RowV w g2 3 (m.map (Value.int .i64))) (hl : l.length = n) (hm : m.length = n) (ht : t < n) :
    Calls Try.prog 90 #[.agg #[.slice (some ⟨g1, 0, none⟩) n n, .slice (some ⟨g2, 0, none⟩) n n], stripV f t a] w fun e w' => e = .returned (.tuple #[.agg #[.int .i64 (bound l m t).1.1, .int .i64 (bound l m t).1.2], .int .i64 (bound l m t).2]) ∧ Below w.heap.size w w' := by
  have q1 := h1.int (i := t) (by omega)
  have q2 := h2.int (i := t) (by omega)
  have htn : (t : Int) < (n : Int) := by omega
  have BL := Lib.hid (BoxL.new w (.slice (some ⟨g1, 0, none⟩) n n) (.slice (some ⟨g2, 0, none⟩) n n) (.cells #[.int .i64 f, .int .i64 t, .int .i64 a] 63) (.cells #[.int .i64 0, .int .i64 0] 35) 65)
  have BT := Lib.hid ((TripAt.new1 w (.cells #[.slice (some ⟨g1, 0, none⟩) n n, .slice (some ⟨g2, 0, none⟩) n n] 65) f t a 63).keep (Keep.alloc _ (.cells #[.int .i64 0, .int .i64 0] 35)))
  have RT := Lib.hid (show MarkAt (((w.alloc (.cells #[.slice (some ⟨g1, 0, none⟩) n n, .slice (some ⟨g2, 0, none⟩) n n] 65)).alloc (.cells #[.int .i64 f, .int .i64 t, .int .i64 a] 63)).alloc (.cells #[.int .i64 0, .int .i64 0] 35)) (w.heap.size + 1 + 1) from by
    have := MarkAt.new ((w.alloc (.cells #[.slice (some ⟨g1, 0, none⟩) n n, .slice (some ⟨g2, 0, none⟩) n n] 65)).alloc (.cells #[.int .i64 f, .int .i64 t, .int .i64 a] 63)) 35
    simpa using this)
  go_enter Try.func90, Try.ntmps90
  go_upto_region 1 with fail
  generalize hwb : ((w.alloc _).alloc _).alloc _ = wb at *
  have HW : Hid (Below w.heap.size w wb) := by rw [← hwb]; exact Lib.hid ((((Below.refl _ _).alloc (Nat.le_refl _) _).alloc (by simp) _).alloc (by simp; omega) _)
  clear hwb
  obtain ⟨b0, b1⟩ := BL.out
  obtain ⟨c0, c1, c2⟩ := BT.out
  obtain ⟨r0, r1, rf0, rf1⟩ := RT.out
  replace q1 := Keep.below HW.out _ _ q1
  replace q2 := Keep.below HW.out _ _ q2
  by_cases e1 : listI l t = -1
  · have F := Lib.hid (show bound l m t = ((0, 0), 12) from if_pos (.inl e1))
    have d1 : (listI l t == -1) = true := by simpa using e1
    clear e1
    go_wp2_with fail
    refine bodyPost_ret (v := .tuple #[.agg #[.int .i64 0, .int .i64 0], .int .i64 12]) (by simp [results, Try.results90, go_sem, r0, r1]) rfl ⟨by rw [F.out], ?_⟩
    exact ((HW.out.setCell (p := ⟨w.heap.size + 1 + 1, 0, none⟩) (by dsimp only; omega) _).setCell (p := ⟨w.heap.size + 1 + 1, 1, none⟩) (by dsimp only; omega) _)
  · have d1 : (listI l t == -1) = false := by simpa using e1
    by_cases e2 : listI m t = -1
    · have F := Lib.hid (show bound l m t = ((0, 0), 12) from if_pos (.inr e2))
      have d2 : (listI m t == -1) = true := by simpa using e2
      clear e1 e2
      go_wp2_with fail
      refine bodyPost_ret (v := .tuple #[.agg #[.int .i64 0, .int .i64 0], .int .i64 12]) (by simp [results, Try.results90, go_sem, r0, r1]) rfl ⟨by rw [F.out], ?_⟩
      exact ((HW.out.setCell (p := ⟨w.heap.size + 1 + 1, 0, none⟩) (by dsimp only; omega) _).setCell (p := ⟨w.heap.size + 1 + 1, 1, none⟩) (by dsimp only; omega) _)
    · have F := Lib.hid (show bound l m t = ((listI l t, listI m t), 0) from if_neg (fun h => h.elim e1 e2))
      have d2 : (listI m t == -1) = false := by simpa using e2
      clear e1 e2
      go_wp2_with fail
      go_region
      all_goals
        go_wp2_with fail
        refine bodyPost_ret (v := .tuple #[.agg #[.int .i64 (listI l t), .int .i64 (listI m t)], .int .i64 0]) (by simp [results, Try.results90, go_sem, r0, r1]) rfl ⟨by rw [F.out], ?_⟩
        exact ((HW.out.setCell (p := ⟨w.heap.size + 1 + 1, 0, none⟩) (by dsimp only; omega) _).setCell (p := ⟨w.heap.size + 1 + 1, 1, none⟩) (by dsimp only; omega) _).drew
end Go.Proofs.Ytbilomkoijomiaa

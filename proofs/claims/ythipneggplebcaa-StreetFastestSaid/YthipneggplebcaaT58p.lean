/- Plain facts of two lists of labels. No condition. -/
import Derived.Test.YthipneggplebcaaT57
import Derived.Test.YthipneggplebcaaT49
import Derived.Deep.RegionHeld3
import Derived.Deep.CutRange
namespace Go.Proofs.Ythipneggplebcaa
open Go.RowKit Fs

def two (A B : Option Addr) : Nat → Option Addr | 0 => A | _ => B
def twoN (c d : Nat) : Nat → Nat | 0 => c | _ => d
theorem arrL2New (w : World) (A B : Option Addr) (l m : List Int) (c d : Nat) (ty : TypeId) (h : ArrI (w.alloc (.cells #[.slice A l.length c, .slice B m.length d] ty)) A l c) (h2 : ArrI (w.alloc (.cells #[.slice A l.length c, .slice B m.length d] ty)) B m d) : ArrL (w.alloc (.cells #[.slice A l.length c, .slice B m.length d] ty)) (some ⟨w.heap.size, 0, none⟩) [l, m] 2 ⟨two A B, twoN c d⟩ := by
  refine ⟨⟨Nat.le_refl _, by decide, fun _ => ⟨w.heap.size, 0, rfl, fun i j hi hj => ?_⟩⟩, fun i hi => ?_⟩
  · have hj0 : j = 0 := by omega
    subst hj0
    have hi : i < 2 := hi
    match i, hi with
    | 0, _ => exact cellNew w _ _ 0
    | 1, _ => exact cellNew w _ _ 1
  · have hi : i < 2 := hi
    match i, hi with
    | 0, _ => exact h
    | 1, _ => exact h2
theorem two_le {l m : List Int} {B : Nat} (h : l.length ≤ B) (h2 : m.length ≤ B) : ∀ i, i < [l, m].length → (listL [l, m] i).length ≤ B := fun i hi => by
  have hi : i < 2 := hi
  match i, hi with
  | 0, _ => exact h
  | 1, _ => exact h2
theorem listI_tail {l m : List Int} {j : Nat} : listI (l ++ m) (l.length + j) = listI m j := by
  unfold listI
  rw [List.getD_eq_getElem?_getD, List.getD_eq_getElem?_getD, List.getElem?_append_right (Nat.le_add_right _ _), Nat.add_sub_cancel_left]
theorem Fs.labIn_app {l m : List Int} : LabIn (l ++ m) ↔ LabIn l ∧ LabIn m := by
  constructor
  · intro h
    refine ⟨fun j hj => ?_, fun j hj => ?_⟩
    · have := h j (by rw [List.length_append]; omega)
      rwa [listI_app1 hj] at this
    · have := h (l.length + j) (by rw [List.length_append]; omega)
      rwa [listI_tail] at this
  · rintro ⟨h1, h2⟩ j hj
    rw [List.length_append] at hj
    rcases Nat.lt_or_ge j l.length with h | h
    · rw [listI_app1 h]; exact h1 j h
    · obtain ⟨k, rfl⟩ : ∃ k, j = l.length + k := ⟨j - l.length, by omega⟩
      rw [listI_tail]; exact h2 k (by omega)
theorem Fs.flat_two (l m : List Int) : flatTo [l, m] [l, m].length = l ++ m := by show ([] ++ l) ++ m = _; rw [List.nil_append]
theorem Fs.labErr_two {N : Net} {l m : List Int} : labErr N [l, m] = 0 ↔ l.length = N.places.length ∧ m.length = N.places.length ∧ LabIn l ∧ LabIn m := by
  have hf : LabFit N [l, m] ↔ l.length = N.places.length ∧ m.length = N.places.length := by
    constructor
    · exact fun h => ⟨h 0 (by show 0 < 2; decide), h 1 (by show 1 < 2; decide)⟩
    · rintro ⟨h1, h2⟩ i hi
      have hi : i < 2 := hi
      match i, hi with
      | 0, _ => exact h1
      | 1, _ => exact h2
  unfold labErr
  rw [flat_two]
  by_cases h1 : LabFit N [l, m]
  · rw [if_pos h1]
    by_cases h2 : LabIn (l ++ m)
    · rw [if_pos h2]; exact ⟨fun _ => ⟨(hf.1 h1).1, (hf.1 h1).2, labIn_app.1 h2⟩, fun _ => rfl⟩
    · rw [if_neg h2]; exact ⟨fun h => absurd h (by decide), fun h => absurd (labIn_app.2 h.2.2) h2⟩
  · rw [if_neg h1]; exact ⟨fun h => absurd h (by decide), fun h => absurd (hf.2 ⟨h.1, h.2.1⟩) h1⟩
def Fs.clErr (N : Net) (f t a : Int) (l m : List Int) : Int := fst (listI [netErr N, tripErr N f t a, labErr N [l, m]]) 3
def Fs.clRes (N : Net) (f t : Nat) (a : Int) (l m : List Int) : (Int × Int) × Int :=
  if within (listI l f) 0 a = true ∧ within (listI m f) 0 a = true ∧ Proof N (soonest N) l N.roads.length ∧ Proof N (latest N) m N.roads.length then bound l m t else ((0, 0), 20)
def Fs.cl (N : Net) (f t a : Int) (l m : List Int) : (Int × Int) × Int := if clErr N f t a l m = 0 then clRes N f.toNat t.toNat a l m else ((0, 0), clErr N f t a l m)
theorem Fs.clErr_ok {N : Net} {f t a : Int} {l m : List Int} (h : clErr N f t a l m = 0) : netErr N = 0 ∧ tripErr N f t a = 0 ∧ l.length = N.places.length ∧ m.length = N.places.length ∧ LabIn l ∧ LabIn m :=
  ⟨fst_zero h 0 (by decide), fst_zero h 1 (by decide), labErr_two.1 (fst_zero h 2 (by decide))⟩
end Go.Proofs.Ythipneggplebcaa
/- CheckLabels: which labels are accepted, and their bound. Conditions: the net can be read; at most a hundred thousand labels. -/
namespace Go.Proofs.Ythipneggplebcaa
open Go.RowKit Fs

set_option maxHeartbeats 3200000 in
set_option maxRecDepth 100000 in
theorem boundA_any (l m : List Int) (b1 o1 k1 b2 o2 k2 t : Nat) (f a : Int) (w : World) (q1 : w.cell? ⟨b1, o1 + t, none⟩ = some (.int .i64 (listI l t))) (q2 : w.cell? ⟨b2, o2 + t, none⟩ = some (.int .i64 (listI m t))) (ht : t < l.length) (ht2 : t < m.length) (hk1 : l.length ≤ k1 ∧ k1 ≤ 9223372036854775807) (hk2 : m.length ≤ k2 ∧ k2 ≤ 9223372036854775807) :
    Calls Try.prog 104 #[.agg #[.slice (some ⟨b1, o1, none⟩) l.length k1, .slice (some ⟨b2, o2, none⟩) m.length k2], stripV f t a] w fun e w' => e = .returned (.tuple #[.agg #[.int .i64 (bound l m t).1.1, .int .i64 (bound l m t).1.2], .int .i64 (bound l m t).2]) ∧ Below w.heap.size w w' := by
  obtain ⟨hk1, hk1'⟩ := hk1
  obtain ⟨hk2, hk2'⟩ := hk2
  have htn : (t : Int) < (l.length : Int) := by omega
  have htm : (t : Int) < (m.length : Int) := by omega
  have BL := Lib.hid (BoxL.new w (.slice (some ⟨b1, o1, none⟩) l.length k1) (.slice (some ⟨b2, o2, none⟩) m.length k2) (.cells #[.int .i64 f, .int .i64 t, .int .i64 a] 63) (.cells #[.int .i64 0, .int .i64 0] 35) 65)
  have BT := Lib.hid ((TripAt.new1 w (.cells #[.slice (some ⟨b1, o1, none⟩) l.length k1, .slice (some ⟨b2, o2, none⟩) m.length k2] 65) f t a 63).keep (Keep.alloc _ (.cells #[.int .i64 0, .int .i64 0] 35)))
  have RT := Lib.hid (show MarkAt (((w.alloc (.cells #[.slice (some ⟨b1, o1, none⟩) l.length k1, .slice (some ⟨b2, o2, none⟩) m.length k2] 65)).alloc (.cells #[.int .i64 f, .int .i64 t, .int .i64 a] 63)).alloc (.cells #[.int .i64 0, .int .i64 0] 35)) (w.heap.size + 1 + 1) from by
    have := MarkAt.new ((w.alloc (.cells #[.slice (some ⟨b1, o1, none⟩) l.length k1, .slice (some ⟨b2, o2, none⟩) m.length k2] 65)).alloc (.cells #[.int .i64 f, .int .i64 t, .int .i64 a] 63)) 35
    simpa using this)
  go_enter Try.func104, Try.ntmps104
  go_upto_region 1 with fail
  generalize hwb : ((w.alloc _).alloc _).alloc _ = wb at *
  have HW : Hid (Below w.heap.size w wb) := by rw [← hwb]; exact Lib.hid ((((Below.refl _ _).alloc (Nat.le_refl _) _).alloc (by simp) _).alloc (by simp; omega) _)
  clear hwb
  obtain ⟨bl0, bl1⟩ := BL.out
  obtain ⟨c0, c1, c2⟩ := BT.out
  obtain ⟨r0, r1, rf0, rf1⟩ := RT.out
  replace q1 := Keep.below HW.out _ _ q1
  replace q2 := Keep.below HW.out _ _ q2
  by_cases e1 : listI l t = -1
  · have F := Lib.hid (show bound l m t = ((0, 0), 12) from if_pos (.inl e1))
    have d1 : (listI l t == -1) = true := by simpa using e1
    clear e1
    go_wp2_with fail
    refine bodyPost_ret (v := .tuple #[.agg #[.int .i64 0, .int .i64 0], .int .i64 12]) (by simp [results, Try.results104, go_sem, r0, r1]) rfl ⟨by rw [F.out], ?_⟩
    exact ((HW.out.setCell (p := ⟨w.heap.size + 1 + 1, 0, none⟩) (by dsimp only; omega) _).setCell (p := ⟨w.heap.size + 1 + 1, 1, none⟩) (by dsimp only; omega) _)
  · have d1 : (listI l t == -1) = false := by simpa using e1
    by_cases e2 : listI m t = -1
    · have F := Lib.hid (show bound l m t = ((0, 0), 12) from if_pos (.inr e2))
      have d2 : (listI m t == -1) = true := by simpa using e2
      clear e1 e2
      go_wp2_with fail
      refine bodyPost_ret (v := .tuple #[.agg #[.int .i64 0, .int .i64 0], .int .i64 12]) (by simp [results, Try.results104, go_sem, r0, r1]) rfl ⟨by rw [F.out], ?_⟩
      exact ((HW.out.setCell (p := ⟨w.heap.size + 1 + 1, 0, none⟩) (by dsimp only; omega) _).setCell (p := ⟨w.heap.size + 1 + 1, 1, none⟩) (by dsimp only; omega) _)
    · have F := Lib.hid (show bound l m t = ((listI l t, listI m t), 0) from if_neg (fun h => h.elim e1 e2))
      have d2 : (listI m t == -1) = false := by simpa using e2
      clear e1 e2
      go_wp2_with fail
      go_region
      all_goals
        go_wp2_with fail
        refine bodyPost_ret (v := .tuple #[.agg #[.int .i64 (listI l t), .int .i64 (listI m t)], .int .i64 0]) (by simp [results, Try.results104, go_sem, r0, r1]) rfl ⟨by rw [F.out], ?_⟩
        exact ((HW.out.setCell (p := ⟨w.heap.size + 1 + 1, 0, none⟩) (by dsimp only; omega) _).setCell (p := ⟨w.heap.size + 1 + 1, 1, none⟩) (by dsimp only; omega) _).drew


set_option linter.unusedSimpArgs false in
set_option maxHeartbeats 25600000 in
set_option maxRecDepth 100000 in
theorem checkLabels_any (N : Net) (v : Value) (f t a : Int) (l m : List Int) (A B : Option Addr) (c d : Nat) (w : World) (hN : RdNet w v N) (hA : ArrI w A l c) (hB : ArrI w B m d) (hl : l.length ≤ 100000) (hm : m.length ≤ 100000) :
    Calls Try.prog 41 #[v, stripV f t a, .agg #[.slice A l.length c, .slice B m.length d]] w fun e w' => e = .returned (.tuple #[.agg #[.int .i64 (cl N f t a l m).1.1, .int .i64 (cl N f t a l m).1.2], .int .i64 (cl N f t a l m).2]) ∧ Below w.heap.size w w' := by
  have hN0 := Lib.hid hN
  obtain ⟨P, R, pc, rc, ar, rfl, mm⟩ := hN
  clear mm
  have b1 := hA.le.1
  have b2 := hA.le.2
  have b3 := hB.le.1
  have b4 := hB.le.2
  have HA := Lib.hid hA
  have HBB := Lib.hid hB
  clear hA hB
  have BN := Lib.hid ((BoxN.new w N P R pc rc 25).keep ((Keep.alloc _ (.cells #[.int .i64 f, .int .i64 t, .int .i64 a] 63)).trans ((Keep.alloc _ (.cells #[.slice A l.length c, .slice B m.length d] 65)).trans (Keep.alloc _ (.cells #[.int .i64 0, .int .i64 0] 35)))))
  have BT := Lib.hid ((TripAt.new1 w (.cells #[.slice P N.places.length pc, .slice R N.roads.length rc] 25) f t a 63).keep ((Keep.alloc _ (.cells #[.slice A l.length c, .slice B m.length d] 65)).trans (Keep.alloc _ (.cells #[.int .i64 0, .int .i64 0] 35))))
  have BL := Lib.hid (show TreeAt ((((w.alloc (.cells #[.slice P N.places.length pc, .slice R N.roads.length rc] 25)).alloc (.cells #[.int .i64 f, .int .i64 t, .int .i64 a] 63)).alloc (.cells #[.slice A l.length c, .slice B m.length d] 65)).alloc (.cells #[.int .i64 0, .int .i64 0] 35)) (w.heap.size + 1 + 1) (.slice A l.length c) (.slice B m.length d) from by
    have := (TreeAt.new ((w.alloc (.cells #[.slice P N.places.length pc, .slice R N.roads.length rc] 25)).alloc (.cells #[.int .i64 f, .int .i64 t, .int .i64 a] 63)) (.slice A l.length c) (.slice B m.length d) 65).alloc (.cells #[.int .i64 0, .int .i64 0] 35)
    simpa using this)
  have RT := Lib.hid (show MarkAt ((((w.alloc (.cells #[.slice P N.places.length pc, .slice R N.roads.length rc] 25)).alloc (.cells #[.int .i64 f, .int .i64 t, .int .i64 a] 63)).alloc (.cells #[.slice A l.length c, .slice B m.length d] 65)).alloc (.cells #[.int .i64 0, .int .i64 0] 35)) (w.heap.size + 1 + 1 + 1) from by
    have := MarkAt.new (((w.alloc (.cells #[.slice P N.places.length pc, .slice R N.roads.length rc] 25)).alloc (.cells #[.int .i64 f, .int .i64 t, .int .i64 a] 63)).alloc (.cells #[.slice A l.length c, .slice B m.length d] 65)) 35
    simpa using this)
  go_enter Try.func41, Try.ntmps41
  go_upto_region 1 with fail
  generalize hwb : (((w.alloc _).alloc _).alloc _).alloc _ = wb at *
  have HW : Hid (Below w.heap.size w wb) := by rw [← hwb]; exact Lib.hid (((((Below.refl _ _).alloc (Nat.le_refl _) _).alloc (by simp) _).alloc (by simp; omega) _).alloc (by simp; omega) _)
  clear hwb
  obtain ⟨n0, n1⟩ := BN.out
  obtain ⟨c0, c1, c2⟩ := BT.out
  obtain ⟨l0, l1, -, -⟩ := BL.out
  go_cut [8] from 10 to 24 (fun s wx => s = .int .i64 (clErr N f t a l m) ∧ Hid (Below wb.heap.size wb wx))
  case first =>
    have HTWO := Lib.hid (two_le hl hm)
    have HBd : Hid (Below wb.heap.size wb wb.drew) := Lib.hid (Below.refl _ _).drew
    have MK : Hid (∀ w', Below wb.heap.size wb w' → w'.cell? ⟨w.heap.size, 0, none⟩ = some (.slice P N.places.length pc) ∧ w'.cell? ⟨w.heap.size, 1, none⟩ = some (.slice R N.roads.length rc) ∧ w'.cell? ⟨w.heap.size + 1, 0, none⟩ = some (.int .i64 f) ∧ w'.cell? ⟨w.heap.size + 1, 1, none⟩ = some (.int .i64 t) ∧ w'.cell? ⟨w.heap.size + 1, 2, none⟩ = some (.int .i64 a) ∧ w'.cell? ⟨w.heap.size + 1 + 1, 0, none⟩ = some (.slice A l.length c) ∧ w'.cell? ⟨w.heap.size + 1 + 1, 1, none⟩ = some (.slice B m.length d) ∧ Hid (Below wb.heap.size wb w')) :=
      Lib.hid fun w' hw => ⟨Keep.below hw _ _ n0, Keep.below hw _ _ n1, Keep.below hw _ _ c0, Keep.below hw _ _ c1, Keep.below hw _ _ c2, Keep.below hw _ _ l0, Keep.below hw _ _ l1, Lib.hid hw⟩
    have KN : Hid (∀ w', Below wb.heap.size wb w' → RdNet w' (netV N P R pc rc) N) := Lib.hid fun w' hw => (hN0.out.keep (Keep.below (HW.out.trans (hw.mono HW.out.size))))
    have KA : Hid (∀ w', Below wb.heap.size wb w' → ArrI w' A l c) := Lib.hid fun w' hw => (HA.out.keep (Keep.below (HW.out.trans (hw.mono HW.out.size))))
    have KB : Hid (∀ w', Below wb.heap.size wb w' → ArrI w' B m d) := Lib.hid fun w' hw => (HBB.out.keep (Keep.below (HW.out.trans (hw.mono HW.out.size))))
    go_region_held3 (fun w' => w'.cell? ⟨w.heap.size, 0, none⟩ = some (.slice P N.places.length pc) ∧ w'.cell? ⟨w.heap.size, 1, none⟩ = some (.slice R N.roads.length rc) ∧ w'.cell? ⟨w.heap.size + 1, 0, none⟩ = some (.int .i64 f) ∧ w'.cell? ⟨w.heap.size + 1, 1, none⟩ = some (.int .i64 t) ∧ w'.cell? ⟨w.heap.size + 1, 2, none⟩ = some (.int .i64 a) ∧ w'.cell? ⟨w.heap.size + 1 + 1, 0, none⟩ = some (.slice A l.length c) ∧ w'.cell? ⟨w.heap.size + 1 + 1, 1, none⟩ = some (.slice B m.length d) ∧ Hid (Below wb.heap.size wb w'))
      (first
        | exact MK.out _ HBd.out
        | (go_split_ands; exact ⟨by assumption, by assumption, by assumption, by assumption, by assumption, by assumption, by assumption, by assumption⟩)
        | (go_split_ands; exact MK.out _ (Below.trans (Hid.out (by assumption)) (hb1.mono (Hid.out (by assumption) : Below wb.heap.size wb _).size)))
        | (go_split_ands; exact MK.out _ (Below.alloc (Hid.out (by assumption)) (Hid.out (by assumption) : Below wb.heap.size wb _).size _)))
      ((first
          | (go_at_call 80
             go_split_ands
             refine (errNet_any N _ _ (KN.out _ (Hid.out (by assumption)))).mono ?_
             rintro e' w1 ⟨rfl, hb1⟩
             try (first
               | (have HQ0 := HQ.out.keep (Keep.below hb1); have HQ := Lib.hid HQ0; clear HQ0)
               | (have HQ0 := ArrL.keep (Keep.below hb1) (arrL2New _ A B l m c d _ (KA.out _ (Hid.out (by assumption))) (KB.out _ (Hid.out (by assumption)))); (try simp only [size_drew] at HQ0); have HQ := Lib.hid HQ0; clear HQ0)
               | (have HQ0 := ArrL.keep ((Keep.drew _).trans (Keep.below hb1)) (arrL2New wb A B l m c d _ ((HA.out.keep (Keep.below HW.out)).keep (Keep.alloc _ _)) ((HBB.out.keep (Keep.below HW.out)).keep (Keep.alloc _ _))); have HQ := Lib.hid HQ0; clear HQ0)))
          | (go_at_call 98
             go_split_ands
             refine (tripErr_any N _ f t a _ (KN.out _ (Hid.out (by assumption)))).mono ?_
             rintro e' w1 ⟨rfl, hb1⟩
             try (first
               | (have HQ0 := HQ.out.keep (Keep.below hb1); have HQ := Lib.hid HQ0; clear HQ0)
               | (have HQ0 := ArrL.keep (Keep.below hb1) (arrL2New _ A B l m c d _ (KA.out _ (Hid.out (by assumption))) (KB.out _ (Hid.out (by assumption)))); (try simp only [size_drew] at HQ0); have HQ := Lib.hid HQ0; clear HQ0)
               | (have HQ0 := ArrL.keep ((Keep.drew _).trans (Keep.below hb1)) (arrL2New wb A B l m c d _ ((HA.out.keep (Keep.below HW.out)).keep (Keep.alloc _ _)) ((HBB.out.keep (Keep.below HW.out)).keep (Keep.alloc _ _))); have HQ := Lib.hid HQ0; clear HQ0)))
          | (go_at_call 79
             refine (firstError_any [netErr N, tripErr N f t a, labErr N [l, m]] _ _ _ (by first | exact arr3New _ _ _ _ _ | exact ArrI.keep (Keep.drew _) (arr3New _ _ _ _ _))).mono ?_
             rintro e' w1 ⟨rfl, rfl⟩)
          | (go_at_call 99
             go_split_ands
             refine (labErr_any N _ [l, m] _ 2 ⟨two A B, twoN c d⟩ _ (KN.out _ (Hid.out (by assumption))) (by first | exact HQ.out | exact arrL2New _ A B l m c d _ (KA.out _ (Hid.out (by assumption))) (KB.out _ (Hid.out (by assumption))) | exact ArrL.keep (Keep.drew _) (arrL2New wb A B l m c d _ ((HA.out.keep (Keep.below HW.out)).keep (Keep.alloc _ _)) ((HBB.out.keep (Keep.below HW.out)).keep (Keep.alloc _ _)))) (Nat.le_of_ble_eq_true rfl) HTWO.out).mono ?_
             rintro e' w1 ⟨rfl, hb1⟩)))
    all_goals
      rename_i hS
      obtain ⟨-, -, -, -, -, -, -, hbb⟩ := hS
      go_wp2_with fail
      go_meet
      exact ⟨rfl, hbb⟩
  case rest =>
    obtain ⟨rfl, HB⟩ := hcut
    obtain ⟨wp, hwp⟩ : ∃ wp, wp = wc := ⟨_, rfl⟩
    subst hwp
    clear n0 n1 c0 c1 c2 l0 l1
    have HX := Lib.hid (HW.out.trans (HB.out.mono HW.out.size))
    replace BN := Lib.hid (BN.out.keep (Keep.below HB.out))
    replace BT := Lib.hid (BT.out.keep (Keep.below HB.out))
    replace BL := Lib.hid (BL.out.keep HB.out)
    replace RT := Lib.hid (RT.out.keepB HB.out)
    obtain ⟨r0, r1, rf0, rf1⟩ := RT.out
    by_cases he : clErr N f t a l m = 0
    · obtain ⟨hE, hT, hll, hml, hin, hin2⟩ := clErr_ok he
      obtain ⟨hpf, hpt, hta⟩ := tripErr_ok hT
      have HF := Lib.hid (show cl N f t a l m = clRes N f.toNat t.toNat a l m from if_pos he)
      rw [he]
      clear he hT hta
      obtain ⟨f0, f1⟩ := isPlace_in hpf
      obtain ⟨t0, t1⟩ := isPlace_in hpt
      obtain ⟨X, hX⟩ : ∃ X : Nat, f = X := ⟨_, (Int.toNat_of_nonneg f0).symm⟩
      obtain ⟨Y, hY⟩ : ∃ Y : Nat, t = Y := ⟨_, (Int.toNat_of_nonneg t0).symm⟩
      subst hX; subst hY
      clear hpf hpt
      have hXl : X < l.length := by omega
      have hYl : Y < l.length := by omega
      have hXm : X < m.length := by omega
      have hYm : Y < m.length := by omega
      have hXn : (X : Int) < (l.length : Int) := by omega
      have hXk : (X : Int) < (m.length : Int) := by omega
      have HLL := Lib.hid hll
      have HML := Lib.hid hml
      have HIN := Lib.hid hin
      have HIN2 := Lib.hid hin2
      simp only [Int.toNat_natCast] at HF
      obtain ⟨n0, n1⟩ := BN.out
      obtain ⟨c0, c1, c2⟩ := BT.out
      obtain ⟨p, o, hAe, q0⟩ := (HA.out.keep (Keep.below HX.out)).at_ hXl
      obtain ⟨p', o', hBe, q1⟩ := (HBB.out.keep (Keep.below HX.out)).at_ hXm
      have q2 := HA.out.keep (Keep.below HX.out)
      have q3 := HBB.out.keep (Keep.below HX.out)
      rw [hAe] at q2
      rw [hBe] at q3
      have q2 := q2.cells hYl
      have q3 := q3.cells hYm
      subst hAe; subst hBe
      obtain ⟨l0, l1, -, -⟩ := BL.out
      clear hll hml hin hin2 f0 f1 t0 t1
      by_cases hx1 : within (listI l X) 0 a = true
      · have X1 := Lib.hid hx1
        by_cases hx2 : within (listI m X) 0 a = true
        · have X2 := Lib.hid hx2
          by_cases hp1 : Proof N (soonest N) l N.roads.length
          · have P1 := Lib.hid (decide_eq_true hp1)
            by_cases hp2 : Proof N (latest N) m N.roads.length
            · have P2 := Lib.hid (decide_eq_true hp2)
              have F := Lib.hid (HF.out.trans (if_pos ⟨hx1, hx2, hp1, hp2⟩ : clRes N X Y a l m = bound l m Y))
              clear hx1 hx2 hp1 hp2
              go_wp2_with fail
              obtain ⟨C, Ci, Co⟩ := classOf wp
              refine quietC (C := C) (by kernel_rfl) (by kernel_rfl) (Co.out _ (Below.refl _ _).drew) ?_
              repeat (first
                | go_big_quiet_skip
                | (go_big_quiet_want; go_big_quiet_op; go_big_quiet_on)
                | (refine quiet_yes (by rfl) ?_
                   apply Exists.intro
                   refine ⟨fun w' hC => ?_, ?_⟩
                   · have hbb := Ci.out _ hC
                     have y0 := Keep.below hbb _ _ l0
                     have y1 := Keep.below hbb _ _ l1
                     have y2 := Keep.below hbb _ _ c0
                     have y3 := Keep.below hbb _ _ c2
                     have y4 := Keep.below hbb _ _ q0
                     have y5 := Keep.below hbb _ _ q1
                     go_simp
                     first
                       | done
                       | rfl
                       | (refine (within_any _ _ _ _).mono ?_
                          rintro e' w1 ⟨rfl, rfl⟩
                          first
                            | (rw [X1.out]; exact ⟨rfl, hC⟩)
                            | (rw [X2.out]; exact ⟨rfl, hC⟩))
                   simp only [Act.put, List.setIfInBounds_toArray, List.set_cons_zero, List.set_cons_succ]))
              refine wpQuiet_nil ?_
              intro wq hCq
              have hbq := Ci.out _ hCq
              have HY := Lib.hid (HX.out.trans (hbq.mono HX.out.size))
              replace n0 := Keep.below hbq _ _ n0
              replace n1 := Keep.below hbq _ _ n1
              replace c0 := Keep.below hbq _ _ c0
              replace c1 := Keep.below hbq _ _ c1
              replace c2 := Keep.below hbq _ _ c2
              replace l0 := Keep.below hbq _ _ l0
              replace l1 := Keep.below hbq _ _ l1
              replace q0 := Keep.below hbq _ _ q0
              replace q1 := Keep.below hbq _ _ q1
              replace q2 := Keep.below hbq _ _ q2
              replace q3 := Keep.below hbq _ _ q3
              obtain ⟨r0, r1, rf0, rf1⟩ := RT.out.keepB hbq
              have RQ := Lib.hid (RT.out.keepB hbq)
              clear hbq hCq Ci Co C
              go_wp2_with fail
              go_cut [67] from 48 to 67 (fun s wx => s = .bool false ∧ Hid (Below wq.heap.size wq wx))
              case first =>
                have HBd : Hid (Below wq.heap.size wq wq.drew) := Lib.hid (Below.refl _ _).drew
                have MK : Hid (∀ w', Below wq.heap.size wq w' → w'.cell? ⟨w.heap.size, 0, none⟩ = some (.slice P N.places.length pc) ∧ w'.cell? ⟨w.heap.size, 1, none⟩ = some (.slice R N.roads.length rc) ∧ w'.cell? ⟨w.heap.size + 1, 0, none⟩ = some (.int .i64 X) ∧ w'.cell? ⟨w.heap.size + 1, 1, none⟩ = some (.int .i64 Y) ∧ w'.cell? ⟨w.heap.size + 1, 2, none⟩ = some (.int .i64 a) ∧ w'.cell? ⟨w.heap.size + 1 + 1, 0, none⟩ = some (.slice (some ⟨p, o, none⟩) l.length c) ∧ w'.cell? ⟨w.heap.size + 1 + 1, 1, none⟩ = some (.slice (some ⟨p', o', none⟩) m.length d) ∧ Hid (Below wq.heap.size wq w')) :=
                  Lib.hid fun w' hw => ⟨Keep.below hw _ _ n0, Keep.below hw _ _ n1, Keep.below hw _ _ c0, Keep.below hw _ _ c1, Keep.below hw _ _ c2, Keep.below hw _ _ l0, Keep.below hw _ _ l1, Lib.hid hw⟩
                have KN : Hid (∀ w', Below wq.heap.size wq w' → RdNet w' (netV N P R pc rc) N) := Lib.hid fun w' hw => (hN0.out.keep (Keep.below (HY.out.trans (hw.mono HY.out.size))))
                have KA : Hid (∀ w', Below wq.heap.size wq w' → ArrI w' (some ⟨p, o, none⟩) l c) := Lib.hid fun w' hw => (HA.out.keep (Keep.below (HY.out.trans (hw.mono HY.out.size))))
                have KB : Hid (∀ w', Below wq.heap.size wq w' → ArrI w' (some ⟨p', o', none⟩) m d) := Lib.hid fun w' hw => (HBB.out.keep (Keep.below (HY.out.trans (hw.mono HY.out.size))))
                go_region_held3 (fun w' => w'.cell? ⟨w.heap.size, 0, none⟩ = some (.slice P N.places.length pc) ∧ w'.cell? ⟨w.heap.size, 1, none⟩ = some (.slice R N.roads.length rc) ∧ w'.cell? ⟨w.heap.size + 1, 0, none⟩ = some (.int .i64 X) ∧ w'.cell? ⟨w.heap.size + 1, 1, none⟩ = some (.int .i64 Y) ∧ w'.cell? ⟨w.heap.size + 1, 2, none⟩ = some (.int .i64 a) ∧ w'.cell? ⟨w.heap.size + 1 + 1, 0, none⟩ = some (.slice (some ⟨p, o, none⟩) l.length c) ∧ w'.cell? ⟨w.heap.size + 1 + 1, 1, none⟩ = some (.slice (some ⟨p', o', none⟩) m.length d) ∧ Hid (Below wq.heap.size wq w'))
                  (first
                    | exact MK.out _ HBd.out
                    | (go_split_ands; exact ⟨by assumption, by assumption, by assumption, by assumption, by assumption, by assumption, by assumption, by assumption⟩)
                    | (go_split_ands; exact MK.out _ (Below.trans (Hid.out (by assumption)) (hb1.mono (Hid.out (by assumption) : Below wq.heap.size wq _).size)))
                    | (go_split_ands; exact MK.out _ (Below.alloc (Hid.out (by assumption)) (Hid.out (by assumption) : Below wq.heap.size wq _).size _)))
                  ((first
                      | (go_at_call 102
                         go_split_ands
                         refine (soonest_any N _ _ (KN.out _ (Hid.out (by assumption))) hE).mono ?_
                         rintro e' w1 ⟨f1, rfl, hf1, hb1⟩
                         have HF1 := Lib.hid hf1
                         clear hf1)
                      | (go_at_call 101
                         with_reducible show Calls _ _ #[_, _, f1] _ _
                         go_split_ands
                         refine (prove_any N (soonest N) _ f1 l _ c _ (KN.out _ (Hid.out (by assumption))) hE (by first | exact HF1.out | exact HF1.out.below (Below.refl _ _).drew) (KA.out _ (Hid.out (by assumption))) HLL.out HIN.out).mono ?_
                         rintro e' w1 ⟨rfl, hb1⟩
                         rw [P1.out])
                      | (go_at_call 103
                         go_split_ands
                         refine (latest_any N _ _ (KN.out _ (Hid.out (by assumption))) hE).mono ?_
                         rintro e' w1 ⟨f2, rfl, hf2, hb1⟩
                         have HF2 := Lib.hid hf2
                         clear hf2)
                      | (go_at_call 101
                         with_reducible show Calls _ _ #[_, _, f2] _ _
                         go_split_ands
                         refine (prove_any N (latest N) _ f2 m _ d _ (KN.out _ (Hid.out (by assumption))) hE (by first | exact HF2.out | exact HF2.out.below (Below.refl _ _).drew) (KB.out _ (Hid.out (by assumption))) HML.out HIN2.out).mono ?_
                         rintro e' w1 ⟨rfl, hb1⟩
                         rw [P2.out])))
                all_goals
                  rename_i hS
                  obtain ⟨-, -, -, -, -, -, -, hbb⟩ := hS
                  go_wp2_with fail
                  go_meet
                  exact ⟨rfl, hbb⟩
              case rest =>
                obtain ⟨rfl, HB2⟩ := hcut
                obtain ⟨wr, hwr⟩ : ∃ wr, wr = wc := ⟨_, rfl⟩
                subst hwr
                have HZ := Lib.hid (HY.out.trans (HB2.out.mono HY.out.size))
                obtain ⟨r0, r1, rf0, rf1⟩ := RQ.out.keepB HB2.out
                replace c0 := Keep.below HB2.out _ _ c0
                replace c1 := Keep.below HB2.out _ _ c1
                replace c2 := Keep.below HB2.out _ _ c2
                replace l0 := Keep.below HB2.out _ _ l0
                replace l1 := Keep.below HB2.out _ _ l1
                replace q2 := Keep.below HB2.out _ _ q2
                replace q3 := Keep.below HB2.out _ _ q3
                have RZ := Lib.hid (RQ.out.keepB HB2.out)
                clear n0 n1 q0 q1
                go_wp2_with fail
                refine (boundA_any l m p o c p' o' d Y X a _ q2 q3 hYl hYm ⟨b1, b2⟩ ⟨b3, b4⟩).mono ?_
                rintro e' ws ⟨rfl, hbs⟩
                obtain ⟨r0, r1, rf0, rf1⟩ := RZ.out.keepB hbs
                have HZ2 := Lib.hid (HZ.out.trans (hbs.mono HZ.out.size))
                clear hbs c0 c1 c2 l0 l1 q2 q3
                go_wp2_with fail
                refine bodyPost_ret (v := .tuple #[.agg #[.int .i64 (bound l m Y).1.1, .int .i64 (bound l m Y).1.2], .int .i64 (bound l m Y).2]) (by simp [results, Try.results41, go_sem, r0, r1]) rfl ⟨by rw [F.out], ?_⟩
                exact (HZ2.out.setCell (p := ⟨w.heap.size + 1 + 1 + 1, 0, none⟩) (by dsimp only; omega) _).setCell (p := ⟨w.heap.size + 1 + 1 + 1, 1, none⟩) (by dsimp only; omega) _
            · have P2 := Lib.hid (decide_eq_false hp2)
              have F := Lib.hid (HF.out.trans (if_neg (fun h => hp2 h.2.2.2) : clRes N X Y a l m = ((0, 0), 20)))
              clear hx1 hx2 hp1 hp2
              go_wp2_with fail
              obtain ⟨C, Ci, Co⟩ := classOf wp
              refine quietC (C := C) (by kernel_rfl) (by kernel_rfl) (Co.out _ (Below.refl _ _).drew) ?_
              repeat (first
                | go_big_quiet_skip
                | (go_big_quiet_want; go_big_quiet_op; go_big_quiet_on)
                | (refine quiet_yes (by rfl) ?_
                   apply Exists.intro
                   refine ⟨fun w' hC => ?_, ?_⟩
                   · have hbb := Ci.out _ hC
                     have y0 := Keep.below hbb _ _ l0
                     have y1 := Keep.below hbb _ _ l1
                     have y2 := Keep.below hbb _ _ c0
                     have y3 := Keep.below hbb _ _ c2
                     have y4 := Keep.below hbb _ _ q0
                     have y5 := Keep.below hbb _ _ q1
                     go_simp
                     first
                       | done
                       | rfl
                       | (refine (within_any _ _ _ _).mono ?_
                          rintro e' w1 ⟨rfl, rfl⟩
                          first
                            | (rw [X1.out]; exact ⟨rfl, hC⟩)
                            | (rw [X2.out]; exact ⟨rfl, hC⟩))
                   simp only [Act.put, List.setIfInBounds_toArray, List.set_cons_zero, List.set_cons_succ]))
              refine wpQuiet_nil ?_
              intro wq hCq
              have hbq := Ci.out _ hCq
              have HY := Lib.hid (HX.out.trans (hbq.mono HX.out.size))
              replace n0 := Keep.below hbq _ _ n0
              replace n1 := Keep.below hbq _ _ n1
              replace c0 := Keep.below hbq _ _ c0
              replace c1 := Keep.below hbq _ _ c1
              replace c2 := Keep.below hbq _ _ c2
              replace l0 := Keep.below hbq _ _ l0
              replace l1 := Keep.below hbq _ _ l1
              replace q0 := Keep.below hbq _ _ q0
              replace q1 := Keep.below hbq _ _ q1
              replace q2 := Keep.below hbq _ _ q2
              replace q3 := Keep.below hbq _ _ q3
              obtain ⟨r0, r1, rf0, rf1⟩ := RT.out.keepB hbq
              have RQ := Lib.hid (RT.out.keepB hbq)
              clear hbq hCq Ci Co C
              go_wp2_with fail
              go_cut [67] from 48 to 67 (fun s wx => s = .bool true ∧ Hid (Below wq.heap.size wq wx))
              case first =>
                have HBd : Hid (Below wq.heap.size wq wq.drew) := Lib.hid (Below.refl _ _).drew
                have MK : Hid (∀ w', Below wq.heap.size wq w' → w'.cell? ⟨w.heap.size, 0, none⟩ = some (.slice P N.places.length pc) ∧ w'.cell? ⟨w.heap.size, 1, none⟩ = some (.slice R N.roads.length rc) ∧ w'.cell? ⟨w.heap.size + 1, 0, none⟩ = some (.int .i64 X) ∧ w'.cell? ⟨w.heap.size + 1, 1, none⟩ = some (.int .i64 Y) ∧ w'.cell? ⟨w.heap.size + 1, 2, none⟩ = some (.int .i64 a) ∧ w'.cell? ⟨w.heap.size + 1 + 1, 0, none⟩ = some (.slice (some ⟨p, o, none⟩) l.length c) ∧ w'.cell? ⟨w.heap.size + 1 + 1, 1, none⟩ = some (.slice (some ⟨p', o', none⟩) m.length d) ∧ Hid (Below wq.heap.size wq w')) :=
                  Lib.hid fun w' hw => ⟨Keep.below hw _ _ n0, Keep.below hw _ _ n1, Keep.below hw _ _ c0, Keep.below hw _ _ c1, Keep.below hw _ _ c2, Keep.below hw _ _ l0, Keep.below hw _ _ l1, Lib.hid hw⟩
                have KN : Hid (∀ w', Below wq.heap.size wq w' → RdNet w' (netV N P R pc rc) N) := Lib.hid fun w' hw => (hN0.out.keep (Keep.below (HY.out.trans (hw.mono HY.out.size))))
                have KA : Hid (∀ w', Below wq.heap.size wq w' → ArrI w' (some ⟨p, o, none⟩) l c) := Lib.hid fun w' hw => (HA.out.keep (Keep.below (HY.out.trans (hw.mono HY.out.size))))
                have KB : Hid (∀ w', Below wq.heap.size wq w' → ArrI w' (some ⟨p', o', none⟩) m d) := Lib.hid fun w' hw => (HBB.out.keep (Keep.below (HY.out.trans (hw.mono HY.out.size))))
                go_region_held3 (fun w' => w'.cell? ⟨w.heap.size, 0, none⟩ = some (.slice P N.places.length pc) ∧ w'.cell? ⟨w.heap.size, 1, none⟩ = some (.slice R N.roads.length rc) ∧ w'.cell? ⟨w.heap.size + 1, 0, none⟩ = some (.int .i64 X) ∧ w'.cell? ⟨w.heap.size + 1, 1, none⟩ = some (.int .i64 Y) ∧ w'.cell? ⟨w.heap.size + 1, 2, none⟩ = some (.int .i64 a) ∧ w'.cell? ⟨w.heap.size + 1 + 1, 0, none⟩ = some (.slice (some ⟨p, o, none⟩) l.length c) ∧ w'.cell? ⟨w.heap.size + 1 + 1, 1, none⟩ = some (.slice (some ⟨p', o', none⟩) m.length d) ∧ Hid (Below wq.heap.size wq w'))
                  (first
                    | exact MK.out _ HBd.out
                    | (go_split_ands; exact ⟨by assumption, by assumption, by assumption, by assumption, by assumption, by assumption, by assumption, by assumption⟩)
                    | (go_split_ands; exact MK.out _ (Below.trans (Hid.out (by assumption)) (hb1.mono (Hid.out (by assumption) : Below wq.heap.size wq _).size)))
                    | (go_split_ands; exact MK.out _ (Below.alloc (Hid.out (by assumption)) (Hid.out (by assumption) : Below wq.heap.size wq _).size _)))
                  ((first
                      | (go_at_call 102
                         go_split_ands
                         refine (soonest_any N _ _ (KN.out _ (Hid.out (by assumption))) hE).mono ?_
                         rintro e' w1 ⟨f1, rfl, hf1, hb1⟩
                         have HF1 := Lib.hid hf1
                         clear hf1)
                      | (go_at_call 101
                         with_reducible show Calls _ _ #[_, _, f1] _ _
                         go_split_ands
                         refine (prove_any N (soonest N) _ f1 l _ c _ (KN.out _ (Hid.out (by assumption))) hE (by first | exact HF1.out | exact HF1.out.below (Below.refl _ _).drew) (KA.out _ (Hid.out (by assumption))) HLL.out HIN.out).mono ?_
                         rintro e' w1 ⟨rfl, hb1⟩
                         rw [P1.out])
                      | (go_at_call 103
                         go_split_ands
                         refine (latest_any N _ _ (KN.out _ (Hid.out (by assumption))) hE).mono ?_
                         rintro e' w1 ⟨f2, rfl, hf2, hb1⟩
                         have HF2 := Lib.hid hf2
                         clear hf2)
                      | (go_at_call 101
                         with_reducible show Calls _ _ #[_, _, f2] _ _
                         go_split_ands
                         refine (prove_any N (latest N) _ f2 m _ d _ (KN.out _ (Hid.out (by assumption))) hE (by first | exact HF2.out | exact HF2.out.below (Below.refl _ _).drew) (KB.out _ (Hid.out (by assumption))) HML.out HIN2.out).mono ?_
                         rintro e' w1 ⟨rfl, hb1⟩
                         rw [P2.out])))
                all_goals
                  rename_i hS
                  obtain ⟨-, -, -, -, -, -, -, hbb⟩ := hS
                  go_wp2_with fail
                  go_meet
                  exact ⟨rfl, hbb⟩
              case rest =>
                obtain ⟨rfl, HB2⟩ := hcut
                obtain ⟨wr, hwr⟩ : ∃ wr, wr = wc := ⟨_, rfl⟩
                subst hwr
                have HZ := Lib.hid (HY.out.trans (HB2.out.mono HY.out.size))
                obtain ⟨r0, r1, rf0, rf1⟩ := RQ.out.keepB HB2.out
                go_wp2_with fail
                refine bodyPost_ret (v := .tuple #[.agg #[.int .i64 0, .int .i64 0], .int .i64 20]) (by simp [results, Try.results41, go_sem, r0, r1]) rfl ⟨by rw [F.out], ?_⟩
                exact (HZ.out.setCell (p := ⟨w.heap.size + 1 + 1 + 1, 0, none⟩) (by dsimp only; omega) _).setCell (p := ⟨w.heap.size + 1 + 1 + 1, 1, none⟩) (by dsimp only; omega) _
          · have P1 := Lib.hid (decide_eq_false hp1)
            have F := Lib.hid (HF.out.trans (if_neg (fun h => hp1 h.2.2.1) : clRes N X Y a l m = ((0, 0), 20)))
            clear hx1 hx2 hp1
            go_wp2_with fail
            obtain ⟨C, Ci, Co⟩ := classOf wp
            refine quietC (C := C) (by kernel_rfl) (by kernel_rfl) (Co.out _ (Below.refl _ _).drew) ?_
            repeat (first
              | go_big_quiet_skip
              | (go_big_quiet_want; go_big_quiet_op; go_big_quiet_on)
              | (refine quiet_yes (by rfl) ?_
                 apply Exists.intro
                 refine ⟨fun w' hC => ?_, ?_⟩
                 · have hbb := Ci.out _ hC
                   have y0 := Keep.below hbb _ _ l0
                   have y1 := Keep.below hbb _ _ l1
                   have y2 := Keep.below hbb _ _ c0
                   have y3 := Keep.below hbb _ _ c2
                   have y4 := Keep.below hbb _ _ q0
                   have y5 := Keep.below hbb _ _ q1
                   go_simp
                   first
                     | done
                     | rfl
                     | (refine (within_any _ _ _ _).mono ?_
                        rintro e' w1 ⟨rfl, rfl⟩
                        first
                          | (rw [X1.out]; exact ⟨rfl, hC⟩)
                          | (rw [X2.out]; exact ⟨rfl, hC⟩))
                 simp only [Act.put, List.setIfInBounds_toArray, List.set_cons_zero, List.set_cons_succ]))
            refine wpQuiet_nil ?_
            intro wq hCq
            have hbq := Ci.out _ hCq
            have HY := Lib.hid (HX.out.trans (hbq.mono HX.out.size))
            replace n0 := Keep.below hbq _ _ n0
            replace n1 := Keep.below hbq _ _ n1
            replace c0 := Keep.below hbq _ _ c0
            replace c1 := Keep.below hbq _ _ c1
            replace c2 := Keep.below hbq _ _ c2
            replace l0 := Keep.below hbq _ _ l0
            replace l1 := Keep.below hbq _ _ l1
            replace q0 := Keep.below hbq _ _ q0
            replace q1 := Keep.below hbq _ _ q1
            replace q2 := Keep.below hbq _ _ q2
            replace q3 := Keep.below hbq _ _ q3
            obtain ⟨r0, r1, rf0, rf1⟩ := RT.out.keepB hbq
            have RQ := Lib.hid (RT.out.keepB hbq)
            clear hbq hCq Ci Co C
            go_wp2_with fail
            go_cut [67] from 48 to 67 (fun s wx => s = .bool true ∧ Hid (Below wq.heap.size wq wx))
            case first =>
              have HBd : Hid (Below wq.heap.size wq wq.drew) := Lib.hid (Below.refl _ _).drew
              have MK : Hid (∀ w', Below wq.heap.size wq w' → w'.cell? ⟨w.heap.size, 0, none⟩ = some (.slice P N.places.length pc) ∧ w'.cell? ⟨w.heap.size, 1, none⟩ = some (.slice R N.roads.length rc) ∧ w'.cell? ⟨w.heap.size + 1, 0, none⟩ = some (.int .i64 X) ∧ w'.cell? ⟨w.heap.size + 1, 1, none⟩ = some (.int .i64 Y) ∧ w'.cell? ⟨w.heap.size + 1, 2, none⟩ = some (.int .i64 a) ∧ w'.cell? ⟨w.heap.size + 1 + 1, 0, none⟩ = some (.slice (some ⟨p, o, none⟩) l.length c) ∧ w'.cell? ⟨w.heap.size + 1 + 1, 1, none⟩ = some (.slice (some ⟨p', o', none⟩) m.length d) ∧ Hid (Below wq.heap.size wq w')) :=
                Lib.hid fun w' hw => ⟨Keep.below hw _ _ n0, Keep.below hw _ _ n1, Keep.below hw _ _ c0, Keep.below hw _ _ c1, Keep.below hw _ _ c2, Keep.below hw _ _ l0, Keep.below hw _ _ l1, Lib.hid hw⟩
              have KN : Hid (∀ w', Below wq.heap.size wq w' → RdNet w' (netV N P R pc rc) N) := Lib.hid fun w' hw => (hN0.out.keep (Keep.below (HY.out.trans (hw.mono HY.out.size))))
              have KA : Hid (∀ w', Below wq.heap.size wq w' → ArrI w' (some ⟨p, o, none⟩) l c) := Lib.hid fun w' hw => (HA.out.keep (Keep.below (HY.out.trans (hw.mono HY.out.size))))
              have KB : Hid (∀ w', Below wq.heap.size wq w' → ArrI w' (some ⟨p', o', none⟩) m d) := Lib.hid fun w' hw => (HBB.out.keep (Keep.below (HY.out.trans (hw.mono HY.out.size))))
              refine wp_region_held_drew (S := (fun w' => w'.cell? ⟨w.heap.size, 0, none⟩ = some (.slice P N.places.length pc) ∧ w'.cell? ⟨w.heap.size, 1, none⟩ = some (.slice R N.roads.length rc) ∧ w'.cell? ⟨w.heap.size + 1, 0, none⟩ = some (.int .i64 X) ∧ w'.cell? ⟨w.heap.size + 1, 1, none⟩ = some (.int .i64 Y) ∧ w'.cell? ⟨w.heap.size + 1, 2, none⟩ = some (.int .i64 a) ∧ w'.cell? ⟨w.heap.size + 1 + 1, 0, none⟩ = some (.slice (some ⟨p, o, none⟩) l.length c) ∧ w'.cell? ⟨w.heap.size + 1 + 1, 1, none⟩ = some (.slice (some ⟨p', o', none⟩) m.length d) ∧ Hid (Below wq.heap.size wq w'))) (by kernel_rfl) (MK.out _ HBd.out) (fun hHeld => ?_)
              refine wpAnyH_take (i := 0) (v := ?val0) rfl (by kernel_rfl) (by kernel_rfl) (by kernel_rfl) (fun _ _ _ h => h) (Or.inl ⟨by rfl, fun w9 hS9 => ?yields0⟩) (by assumption) ?later0
              case yields0 =>
                dsimp only at hS9
                go_simp
                try with_reducible rfl
              try simp only [Act.put, List.getElem_toArray, List.getElem_cons_succ, List.getElem_cons_zero, List.setIfInBounds_toArray, List.set_cons_zero, List.set_cons_succ]
              refine wpAnyH_take (i := 1) (v := ?val1) rfl (by kernel_rfl) (by kernel_rfl) (by kernel_rfl) (fun _ _ _ h => h) (Or.inl ⟨by rfl, fun w9 hS9 => ?yields1⟩) (by assumption) ?later1
              case yields1 =>
                dsimp only at hS9
                go_simp
                try with_reducible rfl
              try simp only [Act.put, List.getElem_toArray, List.getElem_cons_succ, List.getElem_cons_zero, List.setIfInBounds_toArray, List.set_cons_zero, List.set_cons_succ]
              refine wpAnyH_take (i := 2) (v := ?val2) rfl (by kernel_rfl) (by kernel_rfl) (by kernel_rfl) (fun _ _ _ h => h) (Or.inl ⟨by rfl, fun w9 hS9 => ?yields2⟩) (by assumption) ?later2
              case yields2 =>
                dsimp only at hS9
                go_simp
                try with_reducible rfl
              try simp only [Act.put, List.getElem_toArray, List.getElem_cons_succ, List.getElem_cons_zero, List.setIfInBounds_toArray, List.set_cons_zero, List.set_cons_succ]
              refine wpAnyH_take (i := 3) (v := ?val3) rfl (by kernel_rfl) (by kernel_rfl) (by kernel_rfl) (fun _ _ _ h => h) (Or.inl ⟨by rfl, fun w9 hS9 => ?yields3⟩) (by assumption) ?later3
              case yields3 =>
                dsimp only at hS9
                go_simp
                try with_reducible rfl
              try simp only [Act.put, List.getElem_toArray, List.getElem_cons_succ, List.getElem_cons_zero, List.setIfInBounds_toArray, List.set_cons_zero, List.set_cons_succ]
              refine wpAnyH_take (i := 4) (v := ?val4) rfl (by kernel_rfl) (by kernel_rfl) (by kernel_rfl) (fun _ _ _ h => h) (Or.inl ⟨by rfl, fun w9 hS9 => ?yields4⟩) (by assumption) ?later4
              case yields4 =>
                dsimp only at hS9
                go_simp
                try with_reducible rfl
              try simp only [Act.put, List.getElem_toArray, List.getElem_cons_succ, List.getElem_cons_zero, List.setIfInBounds_toArray, List.set_cons_zero, List.set_cons_succ]
              refine wpAnyH_take (i := 5) (v := ?val5) rfl (by kernel_rfl) (by kernel_rfl) (by kernel_rfl) (fun _ _ _ h => h) (Or.inl ⟨by rfl, fun w9 hS9 => ?yields5⟩) (by assumption) ?later5
              case yields5 =>
                dsimp only at hS9
                go_simp
                try with_reducible rfl
              try simp only [Act.put, List.getElem_toArray, List.getElem_cons_succ, List.getElem_cons_zero, List.setIfInBounds_toArray, List.set_cons_zero, List.set_cons_succ]
              refine wpAnyH_take (i := 6) (v := ?val6) rfl (by kernel_rfl) (by kernel_rfl) (by kernel_rfl) (fun _ _ _ h => h) (Or.inl ⟨by rfl, fun w9 hS9 => ?yields6⟩) (by assumption) ?later6
              case yields6 =>
                dsimp only at hS9
                go_simp
                try with_reducible rfl
              try simp only [Act.put, List.getElem_toArray, List.getElem_cons_succ, List.getElem_cons_zero, List.setIfInBounds_toArray, List.set_cons_zero, List.set_cons_succ]
              refine wpAnyH_ready (rs := [7]) (by kernel_rfl) (by simp) ?_
              refine AllReadyH.cons rfl (fun K hK => ?_) AllReadyH.nil
              go_simp
              go_at_call 102
              go_split_ands
              refine (soonest_any N _ _ (KN.out _ (Hid.out (by assumption))) hE).mono ?_
              rintro e' w1 ⟨f1, rfl, hf1, hb1⟩
              have HF1 := Lib.hid hf1
              clear hf1
              go_wp2_with fail
              refine hK.out _ _ ?_ (fun hHeld => ?_)
              · (try dsimp only)
                (first
                  | exact MK.out _ HBd.out
                  | (go_split_ands; exact ⟨by assumption, by assumption, by assumption, by assumption, by assumption, by assumption, by assumption, by assumption⟩)
                  | (go_split_ands; exact MK.out _ (Below.trans (Hid.out (by assumption)) (hb1.mono (Hid.out (by assumption) : Below wq.heap.size wq _).size)))
                  | (go_split_ands; exact MK.out _ (Below.alloc (Hid.out (by assumption)) (Hid.out (by assumption) : Below wq.heap.size wq _).size _)))
              clear hK K
              try simp only [Act.put, List.setIfInBounds_toArray, List.set_cons_zero, List.set_cons_succ]
              refine wpAnyH_ready (rs := [8]) (by kernel_rfl) (by simp) ?_
              refine AllReadyH.cons rfl (fun K hK => ?_) AllReadyH.nil
              go_simp
              go_at_call 101
              go_split_ands
              refine (prove_any N (soonest N) _ f1 l _ c _ (KN.out _ (Hid.out (by assumption))) hE (by first | exact HF1.out | exact HF1.out.below (Below.refl _ _).drew) (KA.out _ (Hid.out (by assumption))) HLL.out HIN.out).mono ?_
              rintro e' w1 ⟨rfl, hb1⟩
              rw [P1.out]
              go_wp2_with fail
              refine hK.out _ _ ?_ (fun hHeld => ?_)
              · (try dsimp only)
                (first
                  | exact MK.out _ HBd.out
                  | (go_split_ands; exact ⟨by assumption, by assumption, by assumption, by assumption, by assumption, by assumption, by assumption, by assumption⟩)
                  | (go_split_ands; exact MK.out _ (Below.trans (Hid.out (by assumption)) (hb1.mono (Hid.out (by assumption) : Below wq.heap.size wq _).size)))
                  | (go_split_ands; exact MK.out _ (Below.alloc (Hid.out (by assumption)) (Hid.out (by assumption) : Below wq.heap.size wq _).size _)))
              clear hK K
              try simp only [Act.put, List.setIfInBounds_toArray, List.set_cons_zero, List.set_cons_succ]
              refine wpAnyH_take (i := 9) (v := ?val9) rfl (by kernel_rfl) (by kernel_rfl) (by kernel_rfl) (fun _ _ _ h => h) (Or.inl ⟨by rfl, fun w9 hS9 => ?yields9⟩) (by assumption) ?later9
              case yields9 =>
                dsimp only at hS9
                go_simp
                try with_reducible rfl
              try simp only [Act.put, List.getElem_toArray, List.getElem_cons_succ, List.getElem_cons_zero, List.setIfInBounds_toArray, List.set_cons_zero, List.set_cons_succ]
              refine wpAnyH_take (i := 10) (v := ?val10) rfl (by kernel_rfl) (by kernel_rfl) (by kernel_rfl) (fun _ _ _ h => h) (Or.inl ⟨by rfl, fun w9 hS9 => ?yields10⟩) (by assumption) ?later10
              case yields10 =>
                dsimp only at hS9
                go_simp
                try with_reducible rfl
              try simp only [Act.put, List.getElem_toArray, List.getElem_cons_succ, List.getElem_cons_zero, List.setIfInBounds_toArray, List.set_cons_zero, List.set_cons_succ]
              refine wpAnyH_take (i := 11) (v := ?val11) rfl (by kernel_rfl) (by kernel_rfl) (by kernel_rfl) (fun _ _ _ h => h) (Or.inl ⟨by rfl, fun w9 hS9 => ?yields11⟩) (by assumption) ?later11
              case yields11 =>
                dsimp only at hS9
                go_simp
                try with_reducible rfl
              try simp only [Act.put, List.getElem_toArray, List.getElem_cons_succ, List.getElem_cons_zero, List.setIfInBounds_toArray, List.set_cons_zero, List.set_cons_succ]
              refine wpAnyH_take (i := 12) (v := undef) rfl (by kernel_rfl) (by kernel_rfl) (by kernel_rfl) (fun _ _ _ h => h) (Or.inr (And.intro (by kernel_rfl) rfl)) (by assumption) ?_
              try simp only [Act.put, List.getElem_toArray, List.getElem_cons_succ, List.getElem_cons_zero, List.setIfInBounds_toArray, List.set_cons_zero, List.set_cons_succ]
              refine wpAnyH_take (i := 13) (v := undef) rfl (by kernel_rfl) (by kernel_rfl) (by kernel_rfl) (fun _ _ _ h => h) (Or.inr (And.intro (by kernel_rfl) rfl)) (by assumption) ?_
              try simp only [Act.put, List.getElem_toArray, List.getElem_cons_succ, List.getElem_cons_zero, List.setIfInBounds_toArray, List.set_cons_zero, List.set_cons_succ]
              refine wpAnyH_take (i := 14) (v := undef) rfl (by kernel_rfl) (by kernel_rfl) (by kernel_rfl) (fun _ _ _ h => h) (Or.inr (And.intro (by kernel_rfl) rfl)) (by assumption) ?_
              try simp only [Act.put, List.getElem_toArray, List.getElem_cons_succ, List.getElem_cons_zero, List.setIfInBounds_toArray, List.set_cons_zero, List.set_cons_succ]
              refine wpAnyH_take (i := 15) (v := undef) rfl (by kernel_rfl) (by kernel_rfl) (by kernel_rfl) (fun _ _ _ h => h) (Or.inr (And.intro (by kernel_rfl) rfl)) (by assumption) ?_
              try simp only [Act.put, List.getElem_toArray, List.getElem_cons_succ, List.getElem_cons_zero, List.setIfInBounds_toArray, List.set_cons_zero, List.set_cons_succ]
              refine wpAnyH_take (i := 16) (v := undef) rfl (by kernel_rfl) (by kernel_rfl) (by kernel_rfl) (fun _ _ _ h => h) (Or.inr (And.intro (by kernel_rfl) rfl)) (by assumption) ?_
              try simp only [Act.put, List.getElem_toArray, List.getElem_cons_succ, List.getElem_cons_zero, List.setIfInBounds_toArray, List.set_cons_zero, List.set_cons_succ]
              refine wpAnyH_take (i := 17) (v := undef) rfl (by kernel_rfl) (by kernel_rfl) (by kernel_rfl) (fun _ _ _ h => h) (Or.inr (And.intro (by kernel_rfl) rfl)) (by assumption) ?_
              try simp only [Act.put, List.getElem_toArray, List.getElem_cons_succ, List.getElem_cons_zero, List.setIfInBounds_toArray, List.set_cons_zero, List.set_cons_succ]
              refine wpAnyH_take (i := 18) (v := undef) rfl (by kernel_rfl) (by kernel_rfl) (by kernel_rfl) (fun _ _ _ h => h) (Or.inr (And.intro (by kernel_rfl) rfl)) (by assumption) ?_
              try simp only [Act.put, List.getElem_toArray, List.getElem_cons_succ, List.getElem_cons_zero, List.setIfInBounds_toArray, List.set_cons_zero, List.set_cons_succ]
              refine wpAnyH_take (i := 19) (v := ?val19) rfl (by kernel_rfl) (by kernel_rfl) (by kernel_rfl) (fun _ _ _ h => h) (Or.inl ⟨by rfl, fun w9 hS9 => ?yields19⟩) (by assumption) ?later19
              case yields19 =>
                dsimp only at hS9
                go_simp
                try with_reducible rfl
              try simp only [Act.put, List.getElem_toArray, List.getElem_cons_succ, List.getElem_cons_zero, List.setIfInBounds_toArray, List.set_cons_zero, List.set_cons_succ]
              refine wpAnyH_done (by kernel_rfl) ?_ _
              obtain ⟨-, -, -, -, -, -, -, hbb⟩ := hHeld
              go_wp2_with fail
              go_meet
              exact ⟨rfl, hbb⟩
            case rest =>
              obtain ⟨rfl, HB2⟩ := hcut
              obtain ⟨wr, hwr⟩ : ∃ wr, wr = wc := ⟨_, rfl⟩
              subst hwr
              have HZ := Lib.hid (HY.out.trans (HB2.out.mono HY.out.size))
              obtain ⟨r0, r1, rf0, rf1⟩ := RQ.out.keepB HB2.out
              go_wp2_with fail
              refine bodyPost_ret (v := .tuple #[.agg #[.int .i64 0, .int .i64 0], .int .i64 20]) (by simp [results, Try.results41, go_sem, r0, r1]) rfl ⟨by rw [F.out], ?_⟩
              exact (HZ.out.setCell (p := ⟨w.heap.size + 1 + 1 + 1, 0, none⟩) (by dsimp only; omega) _).setCell (p := ⟨w.heap.size + 1 + 1 + 1, 1, none⟩) (by dsimp only; omega) _
        · have F := Lib.hid (HF.out.trans (if_neg (fun h => hx2 h.2.1) : clRes N X Y a l m = ((0, 0), 20)))
          have X2 := Lib.hid (show within (listI m X) 0 a = false by simpa using hx2)
          clear hx1 hx2
          go_wp2_with fail
          obtain ⟨C, Ci, Co⟩ := classOf wp
          refine quietC (C := C) (by kernel_rfl) (by kernel_rfl) (Co.out _ (Below.refl _ _).drew) ?_
          repeat (first
            | go_big_quiet_skip
            | (go_big_quiet_want; go_big_quiet_op; go_big_quiet_on)
            | (refine quiet_yes (by rfl) ?_
               apply Exists.intro
               refine ⟨fun w' hC => ?_, ?_⟩
               · have hbb := Ci.out _ hC
                 have y0 := Keep.below hbb _ _ l0
                 have y1 := Keep.below hbb _ _ l1
                 have y2 := Keep.below hbb _ _ c0
                 have y3 := Keep.below hbb _ _ c2
                 have y4 := Keep.below hbb _ _ q0
                 have y5 := Keep.below hbb _ _ q1
                 go_simp
                 first
                   | done
                   | rfl
                   | (refine (within_any _ _ _ _).mono ?_
                      rintro e' w1 ⟨rfl, rfl⟩
                      first
                        | (rw [X1.out]; exact ⟨rfl, hC⟩)
                        | (rw [X2.out]; exact ⟨rfl, hC⟩))
               simp only [Act.put, List.setIfInBounds_toArray, List.set_cons_zero, List.set_cons_succ]))
          refine wpQuiet_nil ?_
          intro wq hCq
          have hbq := Ci.out _ hCq
          have HY := Lib.hid (HX.out.trans (hbq.mono HX.out.size))
          replace n0 := Keep.below hbq _ _ n0
          replace n1 := Keep.below hbq _ _ n1
          replace c0 := Keep.below hbq _ _ c0
          replace c1 := Keep.below hbq _ _ c1
          replace c2 := Keep.below hbq _ _ c2
          replace l0 := Keep.below hbq _ _ l0
          replace l1 := Keep.below hbq _ _ l1
          replace q0 := Keep.below hbq _ _ q0
          replace q1 := Keep.below hbq _ _ q1
          replace q2 := Keep.below hbq _ _ q2
          replace q3 := Keep.below hbq _ _ q3
          obtain ⟨r0, r1, rf0, rf1⟩ := RT.out.keepB hbq
          have RQ := Lib.hid (RT.out.keepB hbq)
          clear hbq hCq Ci Co C
          go_wp2_with fail
          go_quiet (fail)
          go_wp2_with fail
          refine bodyPost_ret (v := .tuple #[.agg #[.int .i64 0, .int .i64 0], .int .i64 20]) (by simp [results, Try.results41, go_sem, r0, r1]) rfl ⟨by rw [F.out], ?_⟩
          exact ((bdrewN HY.out _).setCell (p := ⟨w.heap.size + 1 + 1 + 1, 0, none⟩) (by dsimp only; omega) _).setCell (p := ⟨w.heap.size + 1 + 1 + 1, 1, none⟩) (by dsimp only; omega) _
      · have F := Lib.hid (HF.out.trans (if_neg (fun h => hx1 h.1) : clRes N X Y a l m = ((0, 0), 20)))
        have X1 := Lib.hid (show within (listI l X) 0 a = false by simpa using hx1)
        have X2 := X1
        clear hx1
        go_wp2_with fail
        obtain ⟨C, Ci, Co⟩ := classOf wp
        refine quietC (C := C) (by kernel_rfl) (by kernel_rfl) (Co.out _ (Below.refl _ _).drew) ?_
        repeat (first
          | go_big_quiet_skip
          | (go_big_quiet_want; go_big_quiet_op; go_big_quiet_on)
          | (refine quiet_yes (by rfl) ?_
             apply Exists.intro
             refine ⟨fun w' hC => ?_, ?_⟩
             · have hbb := Ci.out _ hC
               have y0 := Keep.below hbb _ _ l0
               have y1 := Keep.below hbb _ _ l1
               have y2 := Keep.below hbb _ _ c0
               have y3 := Keep.below hbb _ _ c2
               have y4 := Keep.below hbb _ _ q0
               have y5 := Keep.below hbb _ _ q1
               go_simp
               first
                 | done
                 | rfl
                 | (refine (within_any _ _ _ _).mono ?_
                    rintro e' w1 ⟨rfl, rfl⟩
                    first
                      | (rw [X1.out]; exact ⟨rfl, hC⟩)
                      | (rw [X2.out]; exact ⟨rfl, hC⟩))
             simp only [Act.put, List.setIfInBounds_toArray, List.set_cons_zero, List.set_cons_succ]))
        refine wpQuiet_nil ?_
        intro wq hCq
        have hbq := Ci.out _ hCq
        have HY := Lib.hid (HX.out.trans (hbq.mono HX.out.size))
        replace n0 := Keep.below hbq _ _ n0
        replace n1 := Keep.below hbq _ _ n1
        replace c0 := Keep.below hbq _ _ c0
        replace c1 := Keep.below hbq _ _ c1
        replace c2 := Keep.below hbq _ _ c2
        replace l0 := Keep.below hbq _ _ l0
        replace l1 := Keep.below hbq _ _ l1
        replace q0 := Keep.below hbq _ _ q0
        replace q1 := Keep.below hbq _ _ q1
        replace q2 := Keep.below hbq _ _ q2
        replace q3 := Keep.below hbq _ _ q3
        obtain ⟨r0, r1, rf0, rf1⟩ := RT.out.keepB hbq
        have RQ := Lib.hid (RT.out.keepB hbq)
        clear hbq hCq Ci Co C
        go_wp2_with fail
        go_quiet (fail)
        go_wp2_with fail
        refine bodyPost_ret (v := .tuple #[.agg #[.int .i64 0, .int .i64 0], .int .i64 20]) (by simp [results, Try.results41, go_sem, r0, r1]) rfl ⟨by rw [F.out], ?_⟩
        exact ((bdrewN HY.out _).setCell (p := ⟨w.heap.size + 1 + 1 + 1, 0, none⟩) (by dsimp only; omega) _).setCell (p := ⟨w.heap.size + 1 + 1 + 1, 1, none⟩) (by dsimp only; omega) _
    · have F := Lib.hid (show cl N f t a l m = ((0, 0), clErr N f t a l m) from if_neg he)
      have e1 : (clErr N f t a l m == 0) = false := by simpa using he
      have e2 : (clErr N f t a l m != 0) = true := by simpa using he
      clear he
      go_wp2_with fail
      refine bodyPost_ret (v := .tuple #[.agg #[.int .i64 0, .int .i64 0], .int .i64 (clErr N f t a l m)]) (by simp [results, Try.results41, go_sem, r0, r1]) rfl ⟨by rw [F.out], ?_⟩
      exact (HX.out.setCell (p := ⟨w.heap.size + 1 + 1 + 1, 0, none⟩) (by dsimp only; omega) _).setCell (p := ⟨w.heap.size + 1 + 1 + 1, 1, none⟩) (by dsimp only; omega) _
end Go.Proofs.Ythipneggplebcaa

/- CheckHeights: whether heights are accepted. Condition: the net can be read; at most a hundred thousand heights. -/
import Derived.Test.YthipneggplebcaaT47
import Derived.Test.YthipneggplebcaaT29
import Derived.Test.YthipneggplebcaaT24
import Derived.Deep.RegionHeld3
import Derived.Deep.CutRange
import Derived.Test.YthipneggplebcaaWQ
namespace Go.Proofs.Ythipneggplebcaa
open Go.RowKit Fs

/-- Two numbers in a block. -/
structure PairAt (w : World) (g : Nat) (x y : Int) : Prop where
  c0 : w.cell? ⟨g, 0, none⟩ = some (.int .i64 x)
  c1 : w.cell? ⟨g, 1, none⟩ = some (.int .i64 y)
theorem PairAt.keep {w w' : World} (k : Keep w w') {g : Nat} {x y : Int} (h : PairAt w g x y) : PairAt w' g x y := ⟨k _ _ h.c0, k _ _ h.c1⟩
theorem PairAt.new1 (w : World) (B : Obj) (x y : Int) (ty : TypeId) : PairAt ((w.alloc B).alloc (.cells #[.int .i64 x, .int .i64 y] ty)) (w.heap.size + 1) x y := ⟨cellNew1 _ _ _ _ 0, cellNew1 _ _ _ _ 1⟩
theorem PairAt.arr {w : World} {g : Nat} {x y : Int} (h : PairAt w g x y) : ArrI w (some ⟨g, 0, none⟩) [x, y] 2 := by
  refine ⟨Nat.le_refl _, by decide, fun _ => ⟨g, 0, rfl, fun i j hi hj => ?_⟩⟩
  have hj0 : j = 0 := by omega
  subst hj0
  have hi : i < 2 := hi
  match i, hi with
  | 0, _ => exact h.c0
  | 1, _ => exact h.c1
theorem arrL1New (w : World) (A : Option Addr) (l : List Int) (c : Nat) (ty : TypeId) (h : ArrI (w.alloc (.cells #[.slice A l.length c] ty)) A l c) : ArrL (w.alloc (.cells #[.slice A l.length c] ty)) (some ⟨w.heap.size, 0, none⟩) [l] 1 ⟨fun _ => A, fun _ => c⟩ := by
  refine ⟨⟨Nat.le_refl _, by decide, fun _ => ⟨w.heap.size, 0, rfl, fun i j hi hj => ?_⟩⟩, fun i hi => ?_⟩
  · have hj0 : j = 0 := by omega
    have hi : i < 1 := hi
    have hi0 : i = 0 := by omega
    subst hj0; subst hi0
    exact cellNew w _ _ 0
  · have hi : i < 1 := hi
    have hi0 : i = 0 := by omega
    subst hi0
    exact h
theorem one_le {l : List Int} {B : Nat} (h : l.length ≤ B) : ∀ i, i < [l].length → (listL [l] i).length ≤ B := fun i hi => by
  have hi : i < 1 := hi
  obtain rfl : i = 0 := by omega
  exact h
def Fs.chErr (N : Net) (x y : Int) (l : List Int) : Int := fst (listI [netErr N, placesErr N [x, y], labErr N [l]]) 3
def Fs.chRes (N : Net) (x y : Nat) (l : List Int) : Int × Int :=
  if listI l x ≠ 0 ∨ ¬ Proof N (further N) l N.roads.length then (0, 20) else if listI l y = -1 then (0, 12) else (listI l y, 0)
def Fs.chHeights (N : Net) (x y : Int) (l : List Int) : Int × Int := if chErr N x y l = 0 then chRes N x.toNat y.toNat l else (0, chErr N x y l)
theorem Fs.labErr_one {N : Net} {l : List Int} (h : labErr N [l] = 0) : l.length = N.places.length ∧ LabIn l := by
  unfold labErr at h
  by_cases h1 : LabFit N [l]
  · rw [if_pos h1] at h
    by_cases h2 : LabIn (flatTo [l] [l].length)
    · exact ⟨h1 0 (by show 0 < 1; decide), h2⟩
    · rw [if_neg h2] at h; exact absurd h (by decide)
  · rw [if_neg h1] at h; exact absurd h (by decide)
theorem Fs.place_both {N : Net} {x y : Int} (h : placesErr N [x, y] = 0) : (0 ≤ x ∧ x < N.places.length) ∧ 0 ≤ y ∧ y < N.places.length :=
  ⟨place_in h (k := 0) (by show 0 < 2; decide), place_in h (k := 1) (by show 1 < 2; decide)⟩
theorem Fs.chErr_ok {N : Net} {x y : Int} {l : List Int} (h : chErr N x y l = 0) : netErr N = 0 ∧ ((0 ≤ x ∧ x < N.places.length) ∧ 0 ≤ y ∧ y < N.places.length) ∧ l.length = N.places.length ∧ LabIn l :=
  ⟨fst_zero h 0 (by decide), place_both (fst_zero h 1 (by decide)), labErr_one (fst_zero h 2 (by decide))⟩

set_option maxHeartbeats 6400000 in
set_option maxRecDepth 100000 in
theorem chHeights_any (N : Net) (v : Value) (x y : Int) (l : List Int) (A : Option Addr) (c : Nat) (w : World) (hN : RdNet w v N) (hA : ArrI w A l c) (hl : l.length ≤ 100000) :
    Calls Try.prog 56 #[v, .agg #[.int .i64 x, .int .i64 y], .slice A l.length c] w fun e w' => e = .returned (.tuple #[.int .i64 (chHeights N x y l).1, .int .i64 (chHeights N x y l).2]) ∧ Below w.heap.size w w' := by
  have hN0 := Lib.hid hN
  obtain ⟨P, R, pc, rc, ar, rfl, m⟩ := hN
  clear m
  have b1 := hA.le.1
  have b2 := hA.le.2
  have HA := Lib.hid hA
  clear hA
  have BN := Lib.hid ((BoxN.new w N P R pc rc 25).keep (Keep.alloc _ (.cells #[.int .i64 x, .int .i64 y] 59)))
  have BT := Lib.hid (PairAt.new1 w (.cells #[.slice P N.places.length pc, .slice R N.roads.length rc] 25) x y 59)
  go_enter Try.func56, Try.ntmps56
  go_upto_region 1 with fail
  generalize hwb : (w.alloc _).alloc _ = wb at *
  have HW : Hid (Below w.heap.size w wb) := by rw [← hwb]; exact Lib.hid (((Below.refl _ _).alloc (Nat.le_refl _) _).alloc (by simp) _)
  clear hwb
  obtain ⟨n0, n1⟩ := BN.out
  obtain ⟨c0, c1⟩ := BT.out
  go_cut [8] from 9 to 19 (fun s wx => s = .int .i64 (chErr N x y l) ∧ Hid (Below wb.heap.size wb wx))
  case first =>
    have HBd : Hid (Below wb.heap.size wb wb.drew) := Lib.hid (Below.refl _ _).drew
    have HONE := Lib.hid (one_le hl)
    have MK : Hid (∀ w', Below wb.heap.size wb w' → w'.cell? ⟨w.heap.size, 0, none⟩ = some (.slice P N.places.length pc) ∧ w'.cell? ⟨w.heap.size, 1, none⟩ = some (.slice R N.roads.length rc) ∧ Hid (Below wb.heap.size wb w')) :=
      Lib.hid fun w' hw => ⟨Keep.below hw _ _ n0, Keep.below hw _ _ n1, Lib.hid hw⟩
    have KN : Hid (∀ w', Below wb.heap.size wb w' → RdNet w' (netV N P R pc rc) N) := Lib.hid fun w' hw => (hN0.out.keep (Keep.below (HW.out.trans (hw.mono HW.out.size))))
    have KA : Hid (∀ w', Below wb.heap.size wb w' → ArrI w' A l c) := Lib.hid fun w' hw => (HA.out.keep (Keep.below (HW.out.trans (hw.mono HW.out.size))))
    have KP : Hid (∀ w', Below wb.heap.size wb w' → ArrI w' (some ⟨w.heap.size + 1, 0, none⟩) [x, y] 2) := Lib.hid fun w' hw => (BT.out.keep (Keep.below hw)).arr
    go_region_held3 (fun w' => w'.cell? ⟨w.heap.size, 0, none⟩ = some (.slice P N.places.length pc) ∧ w'.cell? ⟨w.heap.size, 1, none⟩ = some (.slice R N.roads.length rc) ∧ Hid (Below wb.heap.size wb w'))
      (first
        | exact MK.out _ HBd.out
        | (go_split_ands; exact ⟨by assumption, by assumption, by assumption⟩)
        | (go_split_ands; exact MK.out _ (Below.trans (Hid.out (by assumption)) (hb1.mono (Hid.out (by assumption) : Below wb.heap.size wb _).size)))
        | (go_split_ands; exact MK.out _ (Below.alloc (Hid.out (by assumption)) (Hid.out (by assumption) : Below wb.heap.size wb _).size _)))
      ((first
          | (go_at_call 80
             go_split_ands
             refine (errNet_any N _ _ (KN.out _ (Hid.out (by assumption)))).mono ?_
             rintro e' w1 ⟨rfl, hb1⟩
             try (first
               | (have HQ0 := HQ.out.keep (Keep.below hb1); have HQ := Lib.hid HQ0; clear HQ0)
               | (have HQ0 := ArrL.keep (Keep.below hb1) (arrL1New _ A l c _ (KA.out _ (Hid.out (by assumption)))); (try simp only [size_drew] at HQ0); have HQ := Lib.hid HQ0; clear HQ0)
               | (have HQ0 := ArrL.keep ((Keep.drew _).trans (Keep.below hb1)) (arrL1New wb A l c _ ((HA.out.keep (Keep.below HW.out)).keep (Keep.alloc _ _))); have HQ := Lib.hid HQ0; clear HQ0)))
          | (go_at_call 94
             go_split_ands
             refine (placesErr_any N _ [x, y] _ _ _ (KN.out _ (Hid.out (by assumption))) (KP.out _ (Hid.out (by assumption)))).mono ?_
             rintro e' w1 ⟨rfl, hb1⟩
             try (first
               | (have HQ0 := HQ.out.keep (Keep.below hb1); have HQ := Lib.hid HQ0; clear HQ0)
               | (have HQ0 := ArrL.keep (Keep.below hb1) (arrL1New _ A l c _ (KA.out _ (Hid.out (by assumption)))); (try simp only [size_drew] at HQ0); have HQ := Lib.hid HQ0; clear HQ0)
               | (have HQ0 := ArrL.keep ((Keep.drew _).trans (Keep.below hb1)) (arrL1New wb A l c _ ((HA.out.keep (Keep.below HW.out)).keep (Keep.alloc _ _))); have HQ := Lib.hid HQ0; clear HQ0)))
          | (go_at_call 79
             refine (firstError_any [netErr N, placesErr N [x, y], labErr N [l]] _ _ _ (by first | exact arr3New _ _ _ _ _ | exact ArrI.keep (Keep.drew _) (arr3New _ _ _ _ _))).mono ?_
             rintro e' w1 ⟨rfl, rfl⟩)
          | (go_at_call 99
             go_split_ands
             refine (labErr_any N _ [l] _ 1 ⟨fun _ => A, fun _ => c⟩ _ (KN.out _ (Hid.out (by assumption))) (by first | exact HQ.out | exact arrL1New _ A l c _ (KA.out _ (Hid.out (by assumption))) | exact ArrL.keep (Keep.drew _) (arrL1New wb A l c _ ((HA.out.keep (Keep.below HW.out)).keep (Keep.alloc _ _)))) (Nat.le_of_ble_eq_true rfl) HONE.out).mono ?_
             rintro e' w1 ⟨rfl, hb1⟩)))
    all_goals
      rename_i hS
      obtain ⟨-, -, hbb⟩ := hS
      go_wp2_with fail
      go_meet
      exact ⟨rfl, hbb⟩
  case rest =>
    obtain ⟨rfl, HB⟩ := hcut
    obtain ⟨wp, hwp⟩ : ∃ wp, wp = wc := ⟨_, rfl⟩
    subst hwp
    clear n0 n1 c0 c1
    have HX := Lib.hid (HW.out.trans (HB.out.mono HW.out.size))
    replace BN := Lib.hid (BN.out.keep (Keep.below HB.out))
    replace BT := Lib.hid (BT.out.keep (Keep.below HB.out))
    by_cases he : chErr N x y l = 0
    · obtain ⟨hE, ⟨⟨x0, x1⟩, y0, y1⟩, hll, hin⟩ := chErr_ok he
      have HF := Lib.hid (show chHeights N x y l = chRes N x.toNat y.toNat l from if_pos he)
      rw [he]
      clear he
      obtain ⟨X, hX⟩ : ∃ X : Nat, x = X := ⟨_, (Int.toNat_of_nonneg x0).symm⟩
      obtain ⟨Y, hY⟩ : ∃ Y : Nat, y = Y := ⟨_, (Int.toNat_of_nonneg y0).symm⟩
      subst hX; subst hY
      have hXl : X < l.length := by omega
      have hYl : Y < l.length := by omega
      have hXn : (X : Int) < (l.length : Int) := by omega
      have hYn : (Y : Int) < (l.length : Int) := by omega
      have HLL := Lib.hid hll
      have HIN := Lib.hid hin
      simp only [Int.toNat_natCast] at HF
      obtain ⟨c0, c1⟩ := BT.out
      obtain ⟨n0, n1⟩ := BN.out
      obtain ⟨b, o, hAe, q0⟩ := (HA.out.keep (Keep.below HX.out)).at_ hXl
      have q1 := HA.out.keep (Keep.below HX.out)
      rw [hAe] at q1
      have q1 := q1.cells hYl
      subst hAe
      clear hll hin x0 x1 y0 y1
      by_cases h0 : listI l X = 0
      · have e0 : (listI l X == 0) = true := by simpa using h0
        have e0' : (listI l X != 0) = false := by simpa using h0
        have H0 := Lib.hid h0
        clear h0
        go_wp2_with fail
        go_cut [23] from 24 to 37 (fun s wx => s = .bool (!decide (Proof N (further N) l N.roads.length)) ∧ Hid (Below wp.heap.size wp wx))
        case first =>
          have HBd : Hid (Below wp.heap.size wp wp.drew) := Lib.hid (Below.refl _ _).drew
          have MK : Hid (∀ w', Below wp.heap.size wp w' → w'.cell? ⟨w.heap.size, 0, none⟩ = some (.slice P N.places.length pc) ∧ w'.cell? ⟨w.heap.size, 1, none⟩ = some (.slice R N.roads.length rc) ∧ w'.cell? ⟨w.heap.size + 1, 0, none⟩ = some (.int .i64 X) ∧ w'.cell? ⟨b, o + X, none⟩ = some (.int .i64 (listI l X)) ∧ Hid (Below wp.heap.size wp w')) :=
            Lib.hid fun w' hw => ⟨Keep.below hw _ _ n0, Keep.below hw _ _ n1, Keep.below hw _ _ c0, Keep.below hw _ _ q0, Lib.hid hw⟩
          have KN : Hid (∀ w', Below wp.heap.size wp w' → RdNet w' (netV N P R pc rc) N) := Lib.hid fun w' hw => (hN0.out.keep (Keep.below (HX.out.trans (hw.mono HX.out.size))))
          have KA : Hid (∀ w', Below wp.heap.size wp w' → ArrI w' (some ⟨b, o, none⟩) l c) := Lib.hid fun w' hw => (HA.out.keep (Keep.below (HX.out.trans (hw.mono HX.out.size))))
          go_region_held3 (fun w' => w'.cell? ⟨w.heap.size, 0, none⟩ = some (.slice P N.places.length pc) ∧ w'.cell? ⟨w.heap.size, 1, none⟩ = some (.slice R N.roads.length rc) ∧ w'.cell? ⟨w.heap.size + 1, 0, none⟩ = some (.int .i64 X) ∧ w'.cell? ⟨b, o + X, none⟩ = some (.int .i64 (listI l X)) ∧ Hid (Below wp.heap.size wp w'))
            (first
              | exact MK.out _ HBd.out
              | (go_split_ands; exact ⟨by assumption, by assumption, by assumption, by assumption, by assumption⟩)
              | (go_split_ands; exact MK.out _ (Below.trans (Hid.out (by assumption)) (hb1.mono (Hid.out (by assumption) : Below wp.heap.size wp _).size))))
            ((first
                | (go_at_call 93
                   go_split_ands
                   refine (further_any N _ _ (KN.out _ (Hid.out (by assumption))) hE).mono ?_
                   rintro e' w1 ⟨f1, rfl, hf1, hb1⟩
                   have HF1 := Lib.hid hf1
                   clear hf1)
                | (go_at_call 101
                   go_split_ands
                   refine (prove_any N (further N) _ f1 l _ c _ (KN.out _ (Hid.out (by assumption))) hE (by first | exact HF1.out | exact HF1.out.below (Below.refl _ _).drew) (KA.out _ (Hid.out (by assumption))) HLL.out HIN.out).mono ?_
                   rintro e' w1 ⟨rfl, hb1⟩)))
          all_goals
            rename_i hS
            obtain ⟨-, -, -, -, hbb⟩ := hS
            go_wp2_with fail
            go_meet
            exact ⟨rfl, hbb⟩
        case rest =>
          obtain ⟨rfl, HB2⟩ := hcut
          obtain ⟨wq, hwq⟩ : ∃ wq, wq = wc := ⟨_, rfl⟩
          subst hwq
          replace c1 := Keep.below HB2.out _ _ c1
          replace q1 := Keep.below HB2.out _ _ q1
          have HY := Lib.hid (HX.out.trans (HB2.out.mono HX.out.size))
          clear n0 n1 c0 q0 HB2
          by_cases hp : Proof N (further N) l N.roads.length
          · have e1 : decide (Proof N (further N) l N.roads.length) = true := decide_eq_true hp
            rw [e1]
            clear e1
            by_cases hy : listI l Y = -1
            · have F := Lib.hid (HF.out.trans (show chRes N X Y l = (0, 12) by unfold chRes; rw [if_neg (fun h => h.elim (fun h => h H0.out) (fun h => h hp)), if_pos hy]))
              have e2 : (listI l Y == -1) = true := by simpa using hy
              clear hy hp
              go_wp2_with fail
              go_ret2
              exact ⟨by rw [F.out]; rfl, HY.out⟩
            · have F := Lib.hid (HF.out.trans (show chRes N X Y l = (listI l Y, 0) by unfold chRes; rw [if_neg (fun h => h.elim (fun h => h H0.out) (fun h => h hp)), if_neg hy]))
              have e2 : (listI l Y == -1) = false := by simpa using hy
              clear hy hp
              go_wp2_with fail
              go_ret2
              exact ⟨by rw [F.out]; rfl, HY.out⟩
          · have F := Lib.hid (HF.out.trans (show chRes N X Y l = (0, 20) from if_pos (.inr hp)))
            have e1 : decide (Proof N (further N) l N.roads.length) = false := decide_eq_false hp
            rw [e1]
            clear hp e1
            go_wp2_with fail
            go_ret2
            exact ⟨by rw [F.out]; rfl, HY.out⟩
      · have F := Lib.hid (HF.out.trans (show chRes N X Y l = (0, 20) from if_pos (.inl h0)))
        have e0 : (listI l X == 0) = false := by simpa using h0
        have e0' : (listI l X != 0) = true := by simpa using h0
        clear h0
        go_wp2_with fail
        go_quiet (fail)
        go_wp2_with fail
        go_ret2
        exact ⟨by rw [F.out]; rfl, bdrewN HX.out _⟩
    · have F := Lib.hid (show chHeights N x y l = (0, chErr N x y l) from if_neg he)
      have e1 : (chErr N x y l == 0) = false := by simpa using he
      have e2 : (chErr N x y l != 0) = true := by simpa using he
      clear he
      go_wp2_with fail
      go_ret2
      exact ⟨by rw [F.out]; rfl, HX.out⟩
end Go.Proofs.Ythipneggplebcaa
/- Whether heights are accepted, as the reference tells it. Conditions: the net is right; the places are places. -/
namespace Go.Proofs.Ythipneggplebcaa
open Go.RowKit Fs

/-- What the reference says of heights. -/
def Fs.rHeights (N : Net) (x y : Nat) (l : List Int) : Int × Int := if l.length = N.places.length then (if LabIn l then chRes N x y l else (0, 2)) else (0, 10)
theorem Fs.rHeights_same {N : Net} {x y : Nat} {l : List Int} (hE : netErr N = 0) (hx : x < N.places.length) (hy : y < N.places.length) : chHeights N x y l = rHeights N x y l := by
  have hp : placesErr N [(x : Int), (y : Int)] = 0 := by
    refine fst_none fun j hj => ?_
    have hj : j < 2 := hj
    rcases (show j = 0 ∨ j = 1 by omega) with rfl | rfl
    · exact if_pos (Fs.within_iff.2 ⟨by show (0 : Int) ≤ (x : Int); omega, by show (x : Int) ≤ _; omega⟩)
    · exact if_pos (Fs.within_iff.2 ⟨by show (0 : Int) ≤ (y : Int); omega, by show (y : Int) ≤ _; omega⟩)
  have e : chErr N x y l = labErr N [l] := by
    unfold chErr
    rw [hE, hp]
    by_cases h : labErr N [l] = 0
    · rw [h]; rfl
    · exact (fst_hit (f := listI [0, 0, labErr N [l]]) (k := 2) (n := 3) (by decide) (fun j hj => by rcases (show j = 0 ∨ j = 1 by omega) with rfl | rfl <;> rfl) h).1
  unfold chHeights rHeights
  rw [e]
  have hf : LabFit N [l] ↔ l.length = N.places.length := ⟨fun h => h 0 (by show 0 < 1; decide), fun h i hi => by
    have hi : i < 1 := hi
    obtain rfl : i = 0 := by omega
    exact h⟩
  by_cases h1 : l.length = N.places.length
  · rw [if_pos h1]
    by_cases h2 : LabIn l
    · have : labErr N [l] = 0 := by unfold labErr; rw [if_pos (hf.2 h1)]; exact if_pos h2
      rw [if_pos this, if_pos h2, Int.toNat_natCast, Int.toNat_natCast]
    · have : labErr N [l] = 2 := by unfold labErr; rw [if_pos (hf.2 h1)]; exact if_neg h2
      rw [this, if_neg (by decide), if_neg h2]
  · have : labErr N [l] = 10 := if_neg (fun h => h1 (hf.1 h))
    rw [this, if_neg (by decide), if_neg h1]
theorem ret2_pair {a b : Int} {p : Int × Int} (h : p = (a, b)) : Ending.returned (.tuple #[.int .i64 a, .int .i64 b]) = .returned (.tuple #[.int .i64 p.1, .int .i64 p.2]) := by rw [h]

set_option maxHeartbeats 6400000 in
set_option maxRecDepth 100000 in
theorem rCheckHeights_any (N : Net) (v : Value) (X Y : Nat) (l : List Int) (A : Option Addr) (c : Nat) (w : World) (hN : RdNet w v N) (hA : ArrI w A l c) (hE : netErr N = 0) (hX : X < N.places.length) (hY : Y < N.places.length) :
    Calls Try.prog 57 #[v, .agg #[.int .i64 X, .int .i64 Y], .slice A l.length c] w fun e w' => e = .returned (.tuple #[.int .i64 (rHeights N X Y l).1, .int .i64 (rHeights N X Y l).2]) ∧ Below w.heap.size w w' := by
  obtain ⟨P, R, pc, rc, ar, rfl, m⟩ := hN
  have M := Lib.hid m
  have rb1 := m.roads.le.1
  have rb2 := m.roads.le.2
  have pb1 := m.places.le.1
  have pb2 := m.places.le.2
  clear m
  have b1 := hA.le.1
  have b2 := hA.le.2
  have HA := Lib.hid hA
  have HJ := Lib.hid (net_joined hE)
  have HOK := Lib.hid (net_roads_ok hE)
  clear hA
  have BN := Lib.hid ((BoxN.new w N P R pc rc 25).keep (Keep.alloc _ (.cells #[.int .i64 X, .int .i64 Y] 59)))
  have BT := Lib.hid (PairAt.new1 w (.cells #[.slice P N.places.length pc, .slice R N.roads.length rc] 25) X Y 59)
  go_enter Try.func57, Try.ntmps57
  go_upto_region 1 with fail
  generalize hwb : (w.alloc _).alloc _ = wb at *
  have HW : Hid (Below w.heap.size w wb) := by rw [← hwb]; exact Lib.hid (((Below.refl _ _).alloc (Nat.le_refl _) _).alloc (by simp) _)
  clear hwb
  obtain ⟨n0, n1⟩ := BN.out
  obtain ⟨c0, c1⟩ := BT.out
  have HB := Lib.hid (HA.out.keep (Keep.below HW.out))
  by_cases hl : l.length = N.places.length
  · have F1 := Lib.hid (show rHeights N X Y l = if LabIn l then chRes N X Y l else (0, 2) from if_pos hl)
    have HLL := Lib.hid hl
    have e1 : ((l.length : Int) == (N.places.length : Int)) = true := by rw [hl]; simp
    have e2 : ((l.length : Int) != (N.places.length : Int)) = false := by rw [hl]; simp
    have hXl : X < l.length := by omega
    have hYl : Y < l.length := by omega
    clear hl
    go_wp2_with fail
    go_loop [8] (fun i => ∃ k : Nat, k ≤ l.length ∧ i = .int .i64 k ∧ Hid (∀ j, j < k → within (listI l j) (-1) 1000000000000000 = true)) (fun i => l.length - (intOf i).toNat)
    case atStart => exact ⟨0, Nat.zero_le _, rfl, Lib.hid (fun j hj => absurd hj (Nat.not_lt_zero _))⟩
    case round =>
      obtain ⟨k, hk, rfl, Hn⟩ := hrel
      by_cases hlt : k < l.length
      · obtain ⟨b, o, rfl, hc⟩ := HB.out.at_ hlt
        have hkn : (k : Int) < (l.length : Int) := by omega
        cases hp : within (listI l k) (-1) 1000000000000000 with
        | true =>
          have F : Hid (∀ j, j < k + 1 → within (listI l j) (-1) 1000000000000000 = true) := Lib.hid fun j hj => by
            by_cases e : j = k
            · subst e; exact hp
            · exact Hn.out j (by omega)
          have Z := Lib.hid hp
          clear hp
          go_wp2_with (go_at_call 36; refine (bwithin_any _ _ _ _).mono ?_; rintro e w' ⟨rfl, rfl⟩; rw [Z.out])
          go_round
          case rel => exact ⟨k + 1, by omega, by go_num, F⟩
          case measure => simp [intOf]; omega
        | false =>
          have F := Lib.hid (F1.out.trans (if_neg (fun h => by have := h k hlt; rw [hp] at this; cases this)))
          have Z := Lib.hid hp
          clear hp
          go_wp2_with (go_at_call 36; refine (bwithin_any _ _ _ _).mono ?_; rintro e w' ⟨rfl, rfl⟩; rw [Z.out])
          go_ret2
          exact ⟨ret2_pair F.out, HW.out⟩
      · obtain rfl : k = l.length := by omega
        have HIN := Lib.hid (show LabIn l from Hn.out)
        have F2 := Lib.hid (F1.out.trans (if_pos HIN.out))
        clear hlt hk Hn
        obtain ⟨b, o, hAe, q0⟩ := HB.out.at_ hXl
        have q1 := HB.out
        rw [hAe] at q1
        have q1 := q1.cells hYl
        subst hAe
        have hXn : (X : Int) < (l.length : Int) := by omega
        have hYn : (Y : Int) < (l.length : Int) := by omega
        by_cases h0 : listI l X = 0
        · have e0 : (listI l X == 0) = true := by simpa using h0
          have e0' : (listI l X != 0) = false := by simpa using h0
          have H0 := Lib.hid h0
          clear h0
          go_wp2_with fail
          clear n0 n1 c0 c1 q0 q1
          go_loopw [9] (fun i wr => ∃ k : Nat, k ≤ N.roads.length ∧ i = .int .i64 k ∧ Hid (Proof N (further N) l k) ∧ Hid (Below wb.heap.size wb wr)) (fun i _ => N.roads.length - (intOf i).toNat)
          case atStart => exact ⟨0, Nat.zero_le _, rfl, Lib.hid (fun j hj => absurd hj (Nat.not_lt_zero _)), Lib.hid (Below.refl _ _)⟩
          case round =>
            obtain ⟨k, hk, rfl, HG, HBk⟩ := hrel
            have HX := Lib.hid (HW.out.trans (HBk.out.mono HW.out.size))
            obtain ⟨n0, n1⟩ := BN.out.keep (Keep.below HBk.out)
            by_cases hlt : k < N.roads.length
            · have hkn : (k : Int) < (N.roads.length : Int) := by omega
              have hrr := M.out.roads.keep (Keep.below HX.out)
              obtain ⟨rb, ro, hRa, qq⟩ := hrr.at_ hlt
              subst hRa
              obtain ⟨x0, x1, x2, x3, x4⟩ := qq
              have BX := Lib.hid (BoxD.new wr (listD N.roads k) (ar.p k) (ar.pc k) 45)
              obtain ⟨⟨j0, s1⟩, j1, d1⟩ := HJ.out k hlt
              have hme := (HOK.out k hlt).metres
              obtain ⟨s, hs1⟩ : ∃ s : Nat, (listD N.roads k).src = s := ⟨_, (Int.toNat_of_nonneg j0).symm⟩
              obtain ⟨d, hd1⟩ : ∃ d : Nat, (listD N.roads k).dst = d := ⟨_, (Int.toNat_of_nonneg j1).symm⟩
              have HSD := Lib.hid (And.intro hs1 hd1)
              have sl : s < l.length := by have := HLL.out; omega
              have dl : d < l.length := by have := HLL.out; omega
              have HSN := Lib.hid (show (listD N.roads k).src.toNat = s ∧ (listD N.roads k).dst.toNat = d by omega)
              have hR1 := Fs.within_iff.1 (HIN.out s sl)
              have hR2 := Fs.within_iff.1 (HIN.out d dl)
              clear hrr hs1 hd1 j0 j1 s1 d1
              go_upto_region 14 with fail
              generalize hw6 : wr.alloc _ = w6 at *
              have hB6 : Below wr.heap.size wr w6 := by rw [← hw6]; exact (Below.refl _ _).alloc (Nat.le_refl _) _
              clear hw6 x0 x1 x2 x3 x4
              have HB6 := Lib.hid (HBk.out.trans (hB6.mono HBk.out.size))
              have HX6 := Lib.hid (HX.out.trans (hB6.mono HX.out.size))
              clear hB6
              obtain ⟨x0, x1, x2, x3, x4⟩ := BX.out
              rw [HSD.out.1] at x1
              rw [HSD.out.2] at x2
              have sn : (s : Int) < (l.length : Int) := by omega
              have dn : (d : Int) < (l.length : Int) := by omega
              have ls := (HA.out.keep (Keep.below HX6.out)).cells sl
              have ld := (HA.out.keep (Keep.below HX6.out)).cells dl
              have HFU := Lib.hid (show further N k (listI l s) = listI l s + (listD N.roads k).metres from rfl)
              by_cases hz : listI l s = -1
              · have F : Hid (Proof N (further N) l (k + 1)) := Lib.hid fun i hi => by
                  by_cases e : i = k
                  · subst e; left; rw [HSN.out.1]; exact hz
                  · exact HG.out i (by omega)
                have e3 : decide (listI l s ≥ 0) = false := decide_eq_false (by omega)
                have e4 : decide (0 ≤ listI l s) = false := decide_eq_false (by omega)
                have e5 : ¬ 0 ≤ listI l s := by omega
                clear hz
                go_quiet (fail)
                go_wp2_with fail
                go_roundw
                case rel => exact ⟨k + 1, by omega, by go_num, F, Lib.hid (bdrewN HB6.out _)⟩
                case measure => simp [intOf]; omega
              · have e3 : decide (listI l s ≥ 0) = true := decide_eq_true (by omega)
                have e4 : decide (0 ≤ listI l s) = true := decide_eq_true (by omega)
                have e5 : 0 ≤ listI l s := by omega
                have hwr : IntKind.i64.wrap (listI l s + (listD N.roads k).metres) = listI l s + (listD N.roads k).metres := by rw [IntKind.wrap_i64]; omega
                cases hp : within (listI l d) 0 (listI l s + (listD N.roads k).metres) with
                | true =>
                  have F : Hid (Proof N (further N) l (k + 1)) := Lib.hid fun i hi => by
                    by_cases e : i = k
                    · subst e; right; rw [HSN.out.1, HSN.out.2, HFU.out]
                      have := Fs.within_iff.1 hp
                      exact ⟨by omega, this.2⟩
                    · exact HG.out i (by omega)
                  have Z := Lib.hid hp
                  clear hp hz
                  obtain ⟨C, Ci, Co⟩ := classOf w6
                  refine quietC (C := C) (by kernel_rfl) (by kernel_rfl) (Co.out _ (Below.refl _ _).drew) ?_
                  repeat (first
                    | go_big_quiet_skip
                    | (go_big_quiet_want; go_big_quiet_op; go_big_quiet_on)
                    | (refine quiet_yes (by rfl) ?_
                       apply Exists.intro
                       refine ⟨fun w' hC => ?_, ?_⟩
                       · have hbb := Ci.out _ hC
                         have y1 := Keep.below hbb _ _ x1
                         have y2 := Keep.below hbb _ _ x2
                         have y3 := Keep.below hbb _ _ x3
                         have y5 := Keep.below hbb _ _ ls
                         have y6 := Keep.below hbb _ _ ld
                         go_simp
                         first
                           | done
                           | rfl
                           | (go_at_call 36
                              refine (bwithin_any _ _ _ _).mono ?_
                              rintro e' w1 ⟨rfl, rfl⟩
                              rw [Z.out]
                              exact ⟨rfl, hC⟩)
                       simp only [Act.put, List.setIfInBounds_toArray, List.set_cons_zero, List.set_cons_succ]))
                  refine wpQuiet_nil ?_
                  intro w7 hC7
                  have hb7 := Ci.out _ hC7
                  replace HB6 := Lib.hid (HB6.out.trans (hb7.mono HB6.out.size))
                  clear hb7 hC7 Ci Co C
                  go_wp2_with fail
                  go_roundw
                  case rel => exact ⟨k + 1, by omega, by go_num, F, HB6⟩
                  case measure => simp [intOf]; omega
                | false =>
                  have F := Lib.hid (F2.out.trans (show chRes N X Y l = (0, 20) from if_pos (.inr (fun h => by
                    rcases h k hlt with h1 | h1
                    · rw [HSN.out.1] at h1; exact hz h1
                    · rw [HSN.out.1, HSN.out.2, HFU.out] at h1
                      rw [Fs.within_iff.2 ⟨by omega, h1.2⟩] at hp
                      cases hp))))
                  have Z := Lib.hid hp
                  clear hp hz
                  obtain ⟨C, Ci, Co⟩ := classOf w6
                  refine quietC (C := C) (by kernel_rfl) (by kernel_rfl) (Co.out _ (Below.refl _ _).drew) ?_
                  repeat (first
                    | go_big_quiet_skip
                    | (go_big_quiet_want; go_big_quiet_op; go_big_quiet_on)
                    | (refine quiet_yes (by rfl) ?_
                       apply Exists.intro
                       refine ⟨fun w' hC => ?_, ?_⟩
                       · have hbb := Ci.out _ hC
                         have y1 := Keep.below hbb _ _ x1
                         have y2 := Keep.below hbb _ _ x2
                         have y3 := Keep.below hbb _ _ x3
                         have y5 := Keep.below hbb _ _ ls
                         have y6 := Keep.below hbb _ _ ld
                         go_simp
                         first
                           | done
                           | rfl
                           | (go_at_call 36
                              refine (bwithin_any _ _ _ _).mono ?_
                              rintro e' w1 ⟨rfl, rfl⟩
                              rw [Z.out]
                              exact ⟨rfl, hC⟩)
                       simp only [Act.put, List.setIfInBounds_toArray, List.set_cons_zero, List.set_cons_succ]))
                  refine wpQuiet_nil ?_
                  intro w7 hC7
                  have hb7 := Ci.out _ hC7
                  replace HX6 := Lib.hid (HX6.out.trans (hb7.mono HX6.out.size))
                  clear hb7 hC7 Ci Co C
                  go_wp2_with fail
                  go_ret2
                  exact ⟨ret2_pair F.out, HX6.out⟩
            · obtain rfl : k = N.roads.length := by omega
              clear hlt hk
              obtain ⟨c0, c1⟩ := BT.out.keep (Keep.below HBk.out)
              have q1 := (HA.out.keep (Keep.below HX.out)).cells hYl
              have hR2 := Fs.within_iff.1 (HIN.out Y hYl)
              by_cases hy : listI l Y = -1
              · have F := Lib.hid (F2.out.trans (show chRes N X Y l = (0, 12) by unfold chRes; rw [if_neg (fun h => h.elim (fun h => h H0.out) (fun h => h HG.out)), if_pos hy]))
                have e3 : decide (listI l Y < 0) = true := decide_eq_true (by omega)
                clear hy
                go_wp2_with fail
                go_ret2
                exact ⟨ret2_pair F.out, HX.out⟩
              · have F := Lib.hid (F2.out.trans (show chRes N X Y l = (listI l Y, 0) by unfold chRes; rw [if_neg (fun h => h.elim (fun h => h H0.out) (fun h => h HG.out)), if_neg hy]))
                have e3 : decide (listI l Y < 0) = false := decide_eq_false (by omega)
                clear hy
                go_wp2_with fail
                go_ret2
                exact ⟨ret2_pair F.out, HX.out⟩
        · have F := Lib.hid (F2.out.trans (show chRes N X Y l = (0, 20) from if_pos (.inl h0)))
          have e0 : (listI l X == 0) = false := by simpa using h0
          have e0' : (listI l X != 0) = true := by simpa using h0
          clear h0
          go_wp2_with fail
          go_ret2
          exact ⟨ret2_pair F.out, HW.out⟩
  · have F := Lib.hid (show rHeights N X Y l = (0, 10) from if_neg hl)
    have hl' : ¬ (l.length : Int) = (N.places.length : Int) := by omega
    have e1 : ((l.length : Int) == (N.places.length : Int)) = false := by simpa using hl'
    have e2 : ((l.length : Int) != (N.places.length : Int)) = true := by simpa using hl'
    clear hl hl'
    go_wp2_with fail
    go_ret2
    exact ⟨ret2_pair F.out, HW.out⟩
end Go.Proofs.Ythipneggplebcaa

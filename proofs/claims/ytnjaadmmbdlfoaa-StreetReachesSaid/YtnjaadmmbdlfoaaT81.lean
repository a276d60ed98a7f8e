/- Which roads are needed. Condition: the net can be read. -/
import Derived.Test.YtnjaadmmbdlfoaaT78
import Derived.Test.YtnjaadmmbdlfoaaT49
import Derived.Test.YtnjaadmmbdlfoaaT25
import Derived.Test.YtnjaadmmbdlfoaaT52
import Derived.Test.YtnjaadmmbdlfoaaT20
import Derived.Deep.CutBlock
namespace Go.Proofs.Ytnjaadmmbdlfoaa
open Go.RowKit Fs

abbrev pairV (x y : Int) : Value := .agg #[.int .i64 x, .int .i64 y]
theorem wo_rd (N : Net) (v : Value) (r : Nat) (w : World) (hN : RdNet w v N) (hr : r < N.roads.length) (hn : N.roads.length ≤ 1000) :
    Calls Try.prog 37 #[v, .int .i64 r] w fun e w' => ∃ v', e = .returned v' ∧ RdNet w' v' (withoutN N r) ∧ Below w.heap.size w w' := by
  obtain ⟨P, R, pc, rc, ar, rfl, m⟩ := hN
  refine (wo_any N P R pc rc ar r w m hr hn).mono ?_
  rintro e w' ⟨R', rc', rfl, ho, hb⟩
  refine ⟨_, rfl, ⟨P, R', pc, rc', ar.wo r, rfl, m.places.keep (Keep.below hb), own_arrN (show w'.ownsRow w.heap.size 68 5 _ _ (flat _ 5 _) from ho), fun i hi => ?_⟩, hb⟩
  rw [wo_at]
  exact (m.roads.2 (upOf r i) (upOf_lt hr hi)).keep (Keep.below hb)

set_option linter.unusedSimpArgs false in
set_option maxHeartbeats 3200000 in
set_option maxRecDepth 100000 in
theorem leads_any (N : Net) (v : Value) (X Y : Nat) (w : World) (hN : RdNet w v N) (hE : netErr N = 0) (hX : X < N.places.length) (hY : Y < N.places.length) :
    Calls Try.prog 36 #[v, pairV X Y] w fun e w' => e = .returned (.bool (listI (heights N X) Y != -1)) ∧ Below w.heap.size w w' := by
  have hN0 := Lib.hid hN
  obtain ⟨P, R, pc, rc, ar, rfl, m⟩ := hN
  clear m
  have BN := Lib.hid ((BoxN.new w N P R pc rc 25).keep (Keep.alloc _ (.cells #[.int .i64 X, .int .i64 Y] 26)))
  have BT := Lib.hid (PairAt.new1 w (.cells #[.slice P N.places.length pc, .slice R N.roads.length rc] 25) X Y 26)
  go_enter Try.func36, Try.ntmps36
  go_upto_region 1 with fail
  generalize hwb : (w.alloc _).alloc _ = wb at *
  have HW : Hid (Below w.heap.size w wb) := by rw [← hwb]; exact Lib.hid (((Below.refl _ _).alloc (Nat.le_refl _) _).alloc (by simp) _)
  clear hwb
  obtain ⟨n0, n1⟩ := BN.out
  obtain ⟨c0, c1⟩ := BT.out
  have hYn : (Y : Int) < (N.places.length : Int) := by omega
  have HBd : Hid (Below wb.heap.size wb wb.drew) := Lib.hid (Below.refl _ _).drew
  have HLN := Lib.hid (heights_len N X)
  have MK : Hid (∀ w', Below wb.heap.size wb w' → w'.cell? ⟨w.heap.size, 0, none⟩ = some (.slice P N.places.length pc) ∧ w'.cell? ⟨w.heap.size, 1, none⟩ = some (.slice R N.roads.length rc) ∧ w'.cell? ⟨w.heap.size + 1, 0, none⟩ = some (.int .i64 X) ∧ w'.cell? ⟨w.heap.size + 1, 1, none⟩ = some (.int .i64 Y) ∧ Hid (Below wb.heap.size wb w')) :=
    Lib.hid fun w' hw => ⟨Keep.below hw _ _ n0, Keep.below hw _ _ n1, Keep.below hw _ _ c0, Keep.below hw _ _ c1, Lib.hid hw⟩
  refine wp_region_held_drew (S := fun w' => w'.cell? ⟨w.heap.size, 0, none⟩ = some (.slice P N.places.length pc) ∧ w'.cell? ⟨w.heap.size, 1, none⟩ = some (.slice R N.roads.length rc) ∧ w'.cell? ⟨w.heap.size + 1, 0, none⟩ = some (.int .i64 X) ∧ w'.cell? ⟨w.heap.size + 1, 1, none⟩ = some (.int .i64 Y) ∧ Hid (Below wb.heap.size wb w')) (by kernel_rfl) (MK.out _ HBd.out) (fun hHeld => ?_)
  refine wpAnyH_take (i := 0) (v := ?val0x1) rfl (by kernel_rfl) (by kernel_rfl) (by kernel_rfl) (fun _ _ _ h => h) (Or.inl ⟨by rfl, fun w9 hS9 => ?yields0x1⟩) (by assumption) ?later0x1
  case yields0x1 =>
    dsimp only at hS9
    go_simp
    try with_reducible rfl
  try simp only [Act.put, List.getElem_toArray, List.getElem_cons_succ, List.getElem_cons_zero, List.setIfInBounds_toArray, List.set_cons_zero, List.set_cons_succ]
  refine wpAnyH_take (i := 1) (v := ?val1x2) rfl (by kernel_rfl) (by kernel_rfl) (by kernel_rfl) (fun _ _ _ h => h) (Or.inl ⟨by rfl, fun w9 hS9 => ?yields1x2⟩) (by assumption) ?later1x2
  case yields1x2 =>
    dsimp only at hS9
    go_simp
    try with_reducible rfl
  try simp only [Act.put, List.getElem_toArray, List.getElem_cons_succ, List.getElem_cons_zero, List.setIfInBounds_toArray, List.set_cons_zero, List.set_cons_succ]
  refine wpAnyH_take (i := 2) (v := ?val2x3) rfl (by kernel_rfl) (by kernel_rfl) (by kernel_rfl) (fun _ _ _ h => h) (Or.inl ⟨by rfl, fun w9 hS9 => ?yields2x3⟩) (by assumption) ?later2x3
  case yields2x3 =>
    dsimp only at hS9
    go_simp
    try with_reducible rfl
  try simp only [Act.put, List.getElem_toArray, List.getElem_cons_succ, List.getElem_cons_zero, List.setIfInBounds_toArray, List.set_cons_zero, List.set_cons_succ]
  refine wpAnyH_take (i := 4) (v := ?val4x4) rfl (by kernel_rfl) (by kernel_rfl) (by kernel_rfl) (fun _ _ _ h => h) (Or.inl ⟨by rfl, fun w9 hS9 => ?yields4x4⟩) (by assumption) ?later4x4
  case yields4x4 =>
    dsimp only at hS9
    go_simp
    try with_reducible rfl
  try simp only [Act.put, List.getElem_toArray, List.getElem_cons_succ, List.getElem_cons_zero, List.setIfInBounds_toArray, List.set_cons_zero, List.set_cons_succ]
  refine wpAnyH_take (i := 5) (v := ?val5x5) rfl (by kernel_rfl) (by kernel_rfl) (by kernel_rfl) (fun _ _ _ h => h) (Or.inl ⟨by rfl, fun w9 hS9 => ?yields5x5⟩) (by assumption) ?later5x5
  case yields5x5 =>
    dsimp only at hS9
    go_simp
    try with_reducible rfl
  try simp only [Act.put, List.getElem_toArray, List.getElem_cons_succ, List.getElem_cons_zero, List.setIfInBounds_toArray, List.set_cons_zero, List.set_cons_succ]
  refine wpAnyH_ready (rs := [3]) (by kernel_rfl) (by simp) ?_
  refine AllReadyH.cons rfl (fun K hK => ?_) AllReadyH.nil
  go_simp
  go_split_ands
  refine (heightsFrom_any N _ X _ ((hN0.out.keep (Keep.below HW.out)).keep (Keep.below (Hid.out (by assumption)))) hE hX).mono ?_
  rintro e' w8 ⟨g, rfl, h8, hb1⟩
  have c9 := h8.int (i := Y) (by rw [HLN.out]; exact hY)
  replace h8 := Lib.hid h8
  go_wp2_with fail
  refine hK.out _ _ ?_ (fun hHeld => ?_)
  · (try dsimp only)
    (go_split_ands; exact MK.out _ (Below.trans (Hid.out (by assumption)) (hb1.mono (Hid.out (by assumption) : Below wb.heap.size wb _).size)))
  clear hK K
  try simp only [Act.put, List.getElem_toArray, List.getElem_cons_succ, List.getElem_cons_zero, List.setIfInBounds_toArray, List.set_cons_zero, List.set_cons_succ]
  refine wpAnyH_take (i := 6) (v := ?val6x6) rfl (by kernel_rfl) (by kernel_rfl) (by kernel_rfl) (fun _ _ _ h => h) (Or.inl ⟨by rfl, fun w9 hS9 => ?yields6x6⟩) (by assumption) ?later6x6
  case yields6x6 =>
    dsimp only at hS9
    go_simp
    try with_reducible rfl
  try simp only [Act.put, List.getElem_toArray, List.getElem_cons_succ, List.getElem_cons_zero, List.setIfInBounds_toArray, List.set_cons_zero, List.set_cons_succ]
  refine wpAnyH_ready (rs := [7]) (by kernel_rfl) (by simp) ?_
  refine AllReadyH.cons rfl (fun K hK => ?_) AllReadyH.nil
  go_simp
  refine hK.out _ _ ?_ (fun hHeld => ?_)
  · (try dsimp only)
    (go_split_ands; exact ⟨by assumption, by assumption, by assumption, by assumption, by assumption⟩)
  clear hK K
  try simp only [Act.put, List.getElem_toArray, List.getElem_cons_succ, List.getElem_cons_zero, List.setIfInBounds_toArray, List.set_cons_zero, List.set_cons_succ]
  refine wpAnyH_take (i := 8) (v := ?val8x7) rfl (by kernel_rfl) (by kernel_rfl) (by kernel_rfl) (fun _ _ _ h => h) (Or.inl ⟨by rfl, fun w9 hS9 => ?yields8x7⟩) (by assumption) ?later8x7
  case yields8x7 =>
    dsimp only at hS9
    go_simp
    try with_reducible rfl
  try simp only [Act.put, List.getElem_toArray, List.getElem_cons_succ, List.getElem_cons_zero, List.setIfInBounds_toArray, List.set_cons_zero, List.set_cons_succ]
  refine wpAnyH_take (i := 9) (v := ?val9x8) rfl (by kernel_rfl) (by kernel_rfl) (by kernel_rfl) (fun _ _ _ h => h) (Or.inl ⟨by rfl, fun w9 hS9 => ?yields9x8⟩) (by assumption) ?later9x8
  case yields9x8 =>
    dsimp only at hS9
    go_simp
    try with_reducible rfl
  try simp only [Act.put, List.getElem_toArray, List.getElem_cons_succ, List.getElem_cons_zero, List.setIfInBounds_toArray, List.set_cons_zero, List.set_cons_succ]
  refine wpAnyH_done (by kernel_rfl) ?_ _
  have hbb := hHeld.2.2.2.2.out
  clear hHeld n0 n1 c0 c1 MK HBd
  have HX := Lib.hid (HW.out.trans (hbb.mono HW.out.size))
  go_wp2_with fail
  go_ret
  exact ⟨rfl, HX.out⟩

def Fs.neededTo (N : Net) (X Y : Nat) : Nat → List Int
  | 0 => []
  | k + 1 => neededTo N X Y k ++ (if listI (heights (withoutN N k) X) Y = -1 then [(k : Int)] else [])
def Fs.needed (N : Net) (X Y : Nat) : List Int := neededTo N X Y N.roads.length
theorem Fs.neededTo_len (N : Net) (X Y : Nat) : ∀ k, (neededTo N X Y k).length ≤ k
  | 0 => Nat.le_refl _
  | k + 1 => by
    have := neededTo_len N X Y k
    rw [neededTo, List.length_append]
    split
    · simp; omega
    · simp; omega
def Fs.ndErr (N : Net) (x y : Int) : Int := if shErr N x y = 0 then (if listI (heights N x) y.toNat = -1 then 12 else 0) else shErr N x y
def Fs.ndList (N : Net) (x y : Int) : List Int := if ndErr N x y = 0 then needed N x.toNat y.toNat else []
set_option linter.unusedSimpArgs false in
set_option maxHeartbeats 6400000 in
set_option maxRecDepth 100000 in
theorem needed_any (N : Net) (v : Value) (x y : Int) (w : World) (hN : RdNet w v N) :
    Calls Try.prog 11 #[v, pairV x y] w fun e w' => ∃ A c, e = .returned (.tuple #[.slice A (ndList N x y).length c, .int .i64 (ndErr N x y)]) ∧ ArrI w' A (ndList N x y) c ∧ Below w.heap.size w w' := by
  have hN0 := Lib.hid hN
  obtain ⟨P, R, pc, rc, ar, rfl, m⟩ := hN
  have rb1 := m.roads.le.1
  have rb2 := m.roads.le.2
  clear m
  have BN := Lib.hid ((BoxN.new w N P R pc rc 25).keep (Keep.alloc _ (.cells #[.int .i64 x, .int .i64 y] 26)))
  have BT := Lib.hid (PairAt.new1 w (.cells #[.slice P N.places.length pc, .slice R N.roads.length rc] 25) x y 26)
  go_enter Try.func11, Try.ntmps11
  go_upto_region 1 with fail
  generalize hwb : (w.alloc _).alloc _ = wb at *
  have HW : Hid (Below w.heap.size w wb) := by rw [← hwb]; exact Lib.hid (((Below.refl _ _).alloc (Nat.le_refl _) _).alloc (by simp) _)
  clear hwb
  obtain ⟨n0, n1⟩ := BN.out
  obtain ⟨c0, c1⟩ := BT.out
  go_cut [6] from 9 to 15 (fun s wx => s = .int .i64 (shErr N x y) ∧ Hid (Below wb.heap.size wb wx))
  case first =>
    have HBd : Hid (Below wb.heap.size wb wb.drew) := Lib.hid (Below.refl _ _).drew
    have MK : Hid (∀ w', Below wb.heap.size wb w' → w'.cell? ⟨w.heap.size, 0, none⟩ = some (.slice P N.places.length pc) ∧ w'.cell? ⟨w.heap.size, 1, none⟩ = some (.slice R N.roads.length rc) ∧ Hid (Below wb.heap.size wb w')) :=
      Lib.hid fun w' hw => ⟨Keep.below hw _ _ n0, Keep.below hw _ _ n1, Lib.hid hw⟩
    have KN : Hid (∀ w', Below wb.heap.size wb w' → RdNet w' (netV N P R pc rc) N) := Lib.hid fun w' hw => (hN0.out.keep (Keep.below (HW.out.trans (hw.mono HW.out.size))))
    have KP : Hid (∀ w', Below wb.heap.size wb w' → ArrI w' (some ⟨w.heap.size + 1, 0, none⟩) [x, y] 2) := Lib.hid fun w' hw => (BT.out.keep (Keep.below hw)).arr
    go_region_held3 (fun w' => w'.cell? ⟨w.heap.size, 0, none⟩ = some (.slice P N.places.length pc) ∧ w'.cell? ⟨w.heap.size, 1, none⟩ = some (.slice R N.roads.length rc) ∧ Hid (Below wb.heap.size wb w'))
      (first
        | exact MK.out _ HBd.out
        | (go_split_ands; exact ⟨by assumption, by assumption, by assumption⟩)
        | (go_split_ands; exact MK.out _ (Below.trans (Hid.out (by assumption)) (hb1.mono (Hid.out (by assumption) : Below wb.heap.size wb _).size)))
        | (go_split_ands; exact MK.out _ (Below.alloc (Hid.out (by assumption)) (Hid.out (by assumption) : Below wb.heap.size wb _).size _)))
      ((first
        | (go_at_call 32
           go_split_ands
           refine (errNet_any N _ _ (KN.out _ (Hid.out (by assumption)))).mono ?_
           rintro e' w1 ⟨rfl, hb1⟩)
        | (go_at_call 33
           go_split_ands
           refine (placesErr_any N _ [x, y] _ _ _ (KN.out _ (Hid.out (by assumption))) (KP.out _ (Hid.out (by assumption)))).mono ?_
           rintro e' w1 ⟨rfl, hb1⟩)
        | (go_at_call 31
           go_split_ands
           refine (firstError_any [netErr N, placesErr N [x, y]] _ _ _ (by first | exact arr2New _ _ _ _ | exact ArrI.keep (Keep.drew _) (arr2New _ _ _ _))).mono ?_
           rintro e' w1 ⟨rfl, rfl⟩)))
    all_goals
      rename_i hS
      obtain ⟨-, -, hbb⟩ := hS
      go_wp2_with fail
      go_meet
      first
        | exact ⟨rfl, hbb⟩
  case rest =>
    obtain ⟨rfl, HB⟩ := hcut
    obtain ⟨wp, hwp⟩ : ∃ wp, wp = wc := ⟨_, rfl⟩
    subst hwp
    replace BN := Lib.hid (BN.out.keep (Keep.below HB.out))
    replace BT := Lib.hid (BT.out.keep (Keep.below HB.out))
    replace HW := Lib.hid (HW.out.trans (HB.out.mono HW.out.size))
    clear HB n0 n1 c0 c1
    by_cases he : shErr N x y = 0
    · obtain ⟨hE, ⟨x0, x1⟩, y0, y1⟩ := shErr_ok he
      have HE := Lib.hid hE
      have h60 := (net_sound hE).2.2.1
      have HF := Lib.hid (show ndErr N x y = if listI (heights N x) y.toNat = -1 then 12 else 0 from if_pos he)
      rw [he]
      clear he hE
      obtain ⟨X, hX⟩ : ∃ X : Nat, x = X := ⟨_, (Int.toNat_of_nonneg x0).symm⟩
      obtain ⟨Y, hY⟩ : ∃ Y : Nat, y = Y := ⟨_, (Int.toNat_of_nonneg y0).symm⟩
      subst hX; subst hY
      rw [Int.toNat_natCast] at HF
      have hXl : X < N.places.length := by omega
      have hYl : Y < N.places.length := by omega
      obtain ⟨n0, n1⟩ := BN.out
      obtain ⟨c0, c1⟩ := BT.out
      go_wp2_with fail
      refine (leads_any N _ X Y _ (hN0.out.keep (Keep.below HW.out)) HE.out hXl hYl).mono ?_
      rintro e' w2 ⟨rfl, hb1⟩
      replace BN := Lib.hid (BN.out.keep (Keep.below hb1))
      replace BT := Lib.hid (BT.out.keep (Keep.below hb1))
      replace HW := Lib.hid (HW.out.trans (hb1.mono HW.out.size))
      clear hb1 n0 n1 c0 c1
      by_cases hl : listI (heights N X) Y = -1
      · have G1 := Lib.hid (show ndErr N X Y = 12 from HF.out.trans (if_pos hl))
        have G2 := Lib.hid (show ndList N X Y = [] from if_neg (by rw [G1.out]; decide))
        rw [hl]
        clear hl HF
        go_wp2_with fail
        refine bodyPost_ret (v := .tuple #[.slice none 0 0, .int .i64 12]) (by simp [results, Try.results11, go_sem]) rfl ⟨none, 0, ?_, ?_, HW.out⟩
        · rw [G1.out, G2.out]; rfl
        · rw [G2.out]; exact ⟨Nat.le_refl _, by decide, fun hh => absurd hh (by decide)⟩
      · have G1 := Lib.hid (show ndErr N X Y = 0 from HF.out.trans (if_neg hl))
        have G2 := Lib.hid (show ndList N X Y = needed N X Y from if_pos G1.out)
        rw [show (listI (heights N X) Y != -1) = true by simpa using hl]
        clear hl HF
        obtain ⟨n0, n1⟩ := BN.out
        go_wp2_with fail
        clear n0 n1
        obtain ⟨i0, hi, hz0, hz1, hz2⟩ := info_parts Try.infoInt
        go_loopw [7, 26] (fun u i wr => ∃ k : Nat, k ≤ N.roads.length ∧ i = .int .i64 k ∧ Hid (wr.ownsRow w2.heap.size 3 1 u (neededTo N X Y k).length (intVals (neededTo N X Y k))) ∧ Hid (Below w2.heap.size w2 wr)) (fun _ i _ => N.roads.length - (intOf i).toNat)
        case atStart => exact ⟨0, Nat.zero_le _, rfl, Lib.hid (World.ownsRow_nil _ _ _ _), Lib.hid (Below.refl _ _)⟩
        case round =>
          obtain ⟨k, hk, rfl, HO, HB⟩ := hrel
          have HX := Lib.hid (HW.out.trans (HB.out.mono HW.out.size))
          by_cases hlt : k < N.roads.length
          · obtain ⟨n0, n1⟩ := BN.out.keep (Keep.below HB.out)
            obtain ⟨c0, c1⟩ := BT.out.keep (Keep.below HB.out)
            have hkn : (k : Int) < (N.roads.length : Int) := by omega
            have hlen := neededTo_len N X Y k
            have HBd : Hid (Below wr.heap.size wr wr.drew) := Lib.hid (Below.refl _ _).drew
            have HEk := Lib.hid (wo_right HE.out hlt)
            have MK : Hid (∀ w', Below wr.heap.size wr w' → w'.cell? ⟨w.heap.size, 0, none⟩ = some (.slice P N.places.length pc) ∧ w'.cell? ⟨w.heap.size, 1, none⟩ = some (.slice R N.roads.length rc) ∧ w'.cell? ⟨w.heap.size + 1, 0, none⟩ = some (.int .i64 X) ∧ w'.cell? ⟨w.heap.size + 1, 1, none⟩ = some (.int .i64 Y) ∧ Hid (Below wr.heap.size wr w')) :=
              Lib.hid fun w' hw => ⟨Keep.below hw _ _ n0, Keep.below hw _ _ n1, Keep.below hw _ _ c0, Keep.below hw _ _ c1, Lib.hid hw⟩
            have KN : Hid (∀ w', Below wr.heap.size wr w' → RdNet w' (netV N P R pc rc) N) := Lib.hid fun w' hw => (hN0.out.keep (Keep.below (HX.out.trans (hw.mono HX.out.size))))
            obtain ⟨wq, hwq⟩ : ∃ wq : World, wq = wr := ⟨_, rfl⟩
            subst hwq
            go_wp2_with fail
            refine wp_region_held_drew (S := fun w' => w'.cell? ⟨w.heap.size, 0, none⟩ = some (.slice P N.places.length pc) ∧ w'.cell? ⟨w.heap.size, 1, none⟩ = some (.slice R N.roads.length rc) ∧ w'.cell? ⟨w.heap.size + 1, 0, none⟩ = some (.int .i64 X) ∧ w'.cell? ⟨w.heap.size + 1, 1, none⟩ = some (.int .i64 Y) ∧ Hid (Below wq.heap.size wq w')) (by kernel_rfl) (MK.out _ HBd.out) (fun hHeld => ?_)
            refine wpAnyH_take (i := 0) (v := ?val0x9) rfl (by kernel_rfl) (by kernel_rfl) (by kernel_rfl) (fun _ _ _ h => h) (Or.inl ⟨by rfl, fun w9 hS9 => ?yields0x9⟩) (by assumption) ?later0x9
            case yields0x9 =>
              dsimp only at hS9
              go_simp
              try with_reducible rfl
            try simp only [Act.put, List.getElem_toArray, List.getElem_cons_succ, List.getElem_cons_zero, List.setIfInBounds_toArray, List.set_cons_zero, List.set_cons_succ]
            refine wpAnyH_take (i := 1) (v := ?val1x10) rfl (by kernel_rfl) (by kernel_rfl) (by kernel_rfl) (fun _ _ _ h => h) (Or.inl ⟨by rfl, fun w9 hS9 => ?yields1x10⟩) (by assumption) ?later1x10
            case yields1x10 =>
              dsimp only at hS9
              go_simp
              try with_reducible rfl
            try simp only [Act.put, List.getElem_toArray, List.getElem_cons_succ, List.getElem_cons_zero, List.setIfInBounds_toArray, List.set_cons_zero, List.set_cons_succ]
            refine wpAnyH_take (i := 3) (v := ?val3x11) rfl (by kernel_rfl) (by kernel_rfl) (by kernel_rfl) (fun _ _ _ h => h) (Or.inl ⟨by rfl, fun w9 hS9 => ?yields3x11⟩) (by assumption) ?later3x11
            case yields3x11 =>
              dsimp only at hS9
              go_simp
              try with_reducible rfl
            try simp only [Act.put, List.getElem_toArray, List.getElem_cons_succ, List.getElem_cons_zero, List.setIfInBounds_toArray, List.set_cons_zero, List.set_cons_succ]
            refine wpAnyH_ready (rs := [2]) (by kernel_rfl) (by simp) ?_
            refine AllReadyH.cons rfl (fun K hK => ?_) AllReadyH.nil
            go_simp
            go_split_ands
            refine (wo_rd N _ k _ (KN.out _ (Hid.out (by assumption))) hlt (by omega)).mono ?_
            rintro e' w5 ⟨v5, rfl, h5, hb1⟩
            replace h5 := Lib.hid h5
            go_wp2_with fail
            refine hK.out _ _ ?_ (fun hHeld => ?_)
            · (try dsimp only)
              (go_split_ands; exact MK.out _ (Below.trans (Hid.out (by assumption)) (hb1.mono (Hid.out (by assumption) : Below wq.heap.size wq _).size)))
            clear hK K
            try simp only [Act.put, List.getElem_toArray, List.getElem_cons_succ, List.getElem_cons_zero, List.setIfInBounds_toArray, List.set_cons_zero, List.set_cons_succ]
            refine wpAnyH_ready (rs := [4]) (by kernel_rfl) (by simp) ?_
            refine AllReadyH.cons rfl (fun K hK => ?_) AllReadyH.nil
            go_simp
            go_split_ands
            refine (leads_any (withoutN N k) _ X Y _ h5.out HEk.out hXl hYl).mono ?_
            rintro e' w6 ⟨rfl, hb1⟩
            go_wp2_with fail
            refine hK.out _ _ ?_ (fun hHeld => ?_)
            · (try dsimp only)
              (go_split_ands; exact MK.out _ (Below.trans (Hid.out (by assumption)) (hb1.mono (Hid.out (by assumption) : Below wq.heap.size wq _).size)))
            clear hK K
            try simp only [Act.put, List.getElem_toArray, List.getElem_cons_succ, List.getElem_cons_zero, List.setIfInBounds_toArray, List.set_cons_zero, List.set_cons_succ]
            refine wpAnyH_take (i := 5) (v := ?val5x12) rfl (by kernel_rfl) (by kernel_rfl) (by kernel_rfl) (fun _ _ _ h => h) (Or.inl ⟨by rfl, fun w9 hS9 => ?yields5x12⟩) (by assumption) ?later5x12
            case yields5x12 =>
              dsimp only at hS9
              go_simp
              try with_reducible rfl
            try simp only [Act.put, List.getElem_toArray, List.getElem_cons_succ, List.getElem_cons_zero, List.setIfInBounds_toArray, List.set_cons_zero, List.set_cons_succ]
            refine wpAnyH_done (by kernel_rfl) ?_ _
            have hbb := hHeld.2.2.2.2.out
            clear hHeld n0 n1 c0 c1 MK KN HBd h5
            have HO2 := Lib.hid (own_below HO.out hbb)
            have HB2 := Lib.hid (HB.out.trans (hbb.mono HB.out.size))
            have hws : w2.heap.size ≤ w6.heap.size := HB2.out.size
            clear hbb
            by_cases hz : listI (heights (withoutN N k) X) Y = -1
            · have F := Lib.hid (show neededTo N X Y (k + 1) = neededTo N X Y k ++ [(k : Int)] by rw [neededTo, if_pos hz])
              rw [hz]
              clear hz
              go_wp2_with (at_builtin; refine wpList_append_own _ rfl (.tmp 35) (.tmp 37) 29 rfl w2.heap.size 3 i0 (.int .i64 0) 1 8 Try.underlying29 hi hz0 hz1 hz2 rfl (by decide) _ _ _ rfl (HO2.out.alloc _) ⟨w6.heap.size, 0, none⟩ 1 1 [.int .i64 (k : Int)] rfl rfl ?c1 ?c2 ?c3 ?c4 ?c5 ?_)
              case c1 => exact news0 _ _ _
              case c2 => exact oneInt _
              case c3 => unfold maxLen; omega
              case c4 => omega
              case c5 => simp; omega
              intro v3 w3 hown3 hg3 _
              have HB3 := Lib.hid ((HB2.out.alloc hws _).grown hg3 (by simp; omega) (fun j hj => (HO2.out.lt j hj).1))
              have HO3 : Hid (w3.ownsRow w2.heap.size 3 1 v3 (neededTo N X Y (k + 1)).length (intVals (neededTo N X Y (k + 1)))) := by
                rw [F.out, intVals_snoc, List.length_append]
                exact Lib.hid hown3
              clear hown3 hg3 F HO HO2
              go_wp2_with fail
              go_roundw
              case rel => exact ⟨k + 1, by omega, by go_num, HO3, HB3⟩
              case measure => simp [intOf]; omega
            · have F := Lib.hid (show neededTo N X Y (k + 1) = neededTo N X Y k by rw [neededTo, if_neg hz, List.append_nil])
              rw [show (listI (heights (withoutN N k) X) Y != -1) = true by simpa using hz]
              clear hz
              go_wp2_with fail
              go_roundw
              case rel => exact ⟨k + 1, by omega, by go_num, by rw [F.out]; exact HO2, HB2⟩
              case measure => simp [intOf]; omega
          · obtain rfl : k = N.roads.length := by omega
            clear hlt hk
            obtain ⟨A, c, hv, harr⟩ := own_arr HO.out
            subst hv
            have HA := Lib.hid harr
            clear harr HO
            go_wp2_with fail
            refine bodyPost_ret (v := .tuple #[.slice A (neededTo N X Y N.roads.length).length c, .int .i64 0]) (by simp [results, Try.results11, go_sem]) rfl ⟨A, c, ?_, ?_, HX.out⟩
            · rw [G1.out, G2.out]; rfl
            · rw [G2.out]; exact HA.out
    · have G1 := Lib.hid (show ndErr N x y = shErr N x y from if_neg he)
      have G2 := Lib.hid (show ndList N x y = [] from if_neg (by rw [G1.out]; exact he))
      have d1 : (shErr N x y != 0) = true := by simpa using he
      clear he
      go_wp2_with fail
      refine bodyPost_ret (v := .tuple #[.slice none 0 0, .int .i64 (shErr N x y)]) (by simp [results, Try.results11, go_sem]) rfl ⟨none, 0, ?_, ?_, HW.out⟩
      · rw [G1.out, G2.out]; rfl
      · rw [G2.out]; exact ⟨Nat.le_refl _, by decide, fun hh => absurd hh (by decide)⟩
end Go.Proofs.Ytnjaadmmbdlfoaa

/- The law of closed roads: without a road that is needed there is no way, without another one there is, no earlier and no shorter. No condition. -/
import Derived.Test.YtnjaadmmbdlfoaaT80
import Derived.Test.YtnjaadmmbdlfoaaT81
import Derived.Test.YtnjaadmmbdlfoaaT52
namespace Go.Proofs.Ytnjaadmmbdlfoaa
open Go.RowKit Fs

theorem Fs.mem_at {l : List Int} {z : Int} : z ∈ l ↔ ∃ j, j < l.length ∧ listI l j = z := by
  constructor
  · intro h
    obtain ⟨j, hj, e⟩ := List.getElem_of_mem h
    exact ⟨j, hj, by rw [listI_get hj]; exact e⟩
  · rintro ⟨j, hj, e⟩
    rw [listI_get hj] at e
    rw [← e]
    exact List.getElem_mem hj
set_option maxHeartbeats 800000 in
set_option maxRecDepth 100000 in
theorem has_any (l : List Int) (A : Option Addr) (c : Nat) (z : Int) (w : World) (hA : ArrI w A l c) :
    Calls Try.prog 18 #[.slice A l.length c, .int .i64 z] w fun e w' => e = .returned (.bool (decide (z ∈ l))) ∧ Below w.heap.size w w' := by
  have b1 := hA.le.1
  have b2 := hA.le.2
  have HA := Lib.hid hA
  clear hA
  go_enter Try.func18, Try.ntmps18
  go_wp2_with fail
  go_loopw [5] (fun i wr => ∃ k : Nat, k ≤ l.length ∧ i = .int .i64 k ∧ Hid (∀ j, j < k → listI l j ≠ z) ∧ Hid (Below w.heap.size w wr)) (fun i _ => l.length - (intOf i).toNat)
  case atStart => exact ⟨0, Nat.zero_le _, rfl, Lib.hid (fun j hj => absurd hj (Nat.not_lt_zero _)), Lib.hid (Below.refl _ _)⟩
  case round =>
    obtain ⟨k, hk, rfl, HG, HX⟩ := hrel
    by_cases hlt : k < l.length
    · have hkn : (k : Int) < (l.length : Int) := by omega
      obtain ⟨b1', o1, h1, c1⟩ := (HA.out.keep (Keep.below HX.out)).at_ hlt
      subst h1
      by_cases e : listI l k = z
      · have F := Lib.hid (show decide (z ∈ l) = true from decide_eq_true (mem_at.2 ⟨k, hlt, e⟩))
        have e1 : (listI l k == z) = true := by simpa using e
        clear e
        go_wp2_with fail
        go_ret
        exact ⟨ret_bool F.out.symm, HX.out⟩
      · have G : Hid (∀ j, j < k + 1 → listI l j ≠ z) := Lib.hid fun j hj => by
          by_cases e2 : j = k
          · subst e2; exact e
          · exact HG.out j (by omega)
        have e1 : (listI l k == z) = false := by simpa using e
        clear e
        go_wp2_with fail
        go_roundw
        case rel => exact ⟨k + 1, by omega, by go_num, G, HX⟩
        case measure => simp [intOf]; omega
    · obtain rfl : k = l.length := by omega
      have F := Lib.hid (show decide (z ∈ l) = false from decide_eq_false (fun h => by
        obtain ⟨j, hj, e⟩ := mem_at.1 h
        exact HG.out j hj e))
      clear hlt hk
      go_wp2_with fail
      go_ret
      exact ⟨ret_bool F.out.symm, HX.out⟩

theorem Fs.mem_neededTo {N : Net} {X Y r : Nat} : ∀ k, (r : Int) ∈ neededTo N X Y k ↔ (r < k ∧ listI (heights (withoutN N r) X) Y = -1)
  | 0 => by simp [neededTo]
  | k + 1 => by
    rw [neededTo, List.mem_append, mem_neededTo k]
    by_cases h : listI (heights (withoutN N k) X) Y = -1
    · rw [if_pos h]
      by_cases e : r = k
      · subst e; simp [h]
      · simp; omega
    · rw [if_neg h]
      by_cases e : r = k
      · subst e; simp [h]
      · simp; omega
theorem Fs.est_none {N : Net} (hE : netErr N = 0) {X Y : Nat} {a : Int} (hT : tripErr N X Y a = 0) (hX : X < N.places.length) (hY : Y < N.places.length) (ha : 0 ≤ a) :
    (estimate N X Y a).2 = if listI (heights N X) Y = -1 then 12 else 0 := by
  rw [est_fine hE hT, Int.toNat_natCast]
  unfold bound
  have h1 := reach_same hE (soonest_good hE) (further_good hE) hX ha (Int.le_refl 0) hY
  have h2 := reach_same hE (latest_good hE) (further_good hE) hX ha (Int.le_refl 0) hY
  by_cases h : listI (heights N X) Y = -1
  · rw [if_pos (.inl (h1.2 h)), if_pos h]
  · rw [if_neg (fun hh => by rcases hh with hh | hh; exact h (h1.1 hh); exact h (h2.1 hh)), if_neg h]
theorem Fs.sh_is {N : Net} {X Y : Nat} (h : shErr N X Y = 0) : shortest N X Y = if listI (heights N X) Y = -1 then (0, 12) else (listI (heights N X) Y, 0) := by
  unfold shortest
  rw [if_pos h, Int.toNat_natCast]
theorem Fs.sh_zero {N : Net} {f t a : Int} (hE : netErr N = 0) (hT : tripErr N f t a = 0) : shErr N f t = 0 := by
  rw [shErr_is, if_pos hE, if_pos ⟨(tripErr_ok hT).1, (tripErr_ok hT).2.1⟩]
/-- What holds of a net M without a road r of N. -/
structure Fs.Closed (N M : Net) (X Y : Nat) (a : Int) (r : Nat) : Prop where
  right : netErr M = 0
  plen : M.places.length = N.places.length
  len : (M.roads.length : Int) = (N.roads.length : Int) - 1
  lens : M.places.length ≤ 1000000 ∧ M.roads.length ≤ 1000000 ∧ ∀ i, i < M.roads.length → (listD M.roads i).pts.length ≤ 1000000
  none_ : (r : Int) ∈ needed N X Y → (estimate M X Y a).2 = 12 ∧ shortest M X Y = (0, 12)
  some_ : (r : Int) ∉ needed N X Y → (estimate M X Y a).2 = 0 ∧ (shortest M X Y).2 = 0 ∧ (estimate N X Y a).1.1 ≤ (estimate M X Y a).1.1 ∧ (estimate N X Y a).1.2 ≤ (estimate M X Y a).1.2 ∧ (shortest N X Y).1 ≤ (shortest M X Y).1
theorem Fs.closed_is {N : Net} {X Y r : Nat} {a : Int} (hE : netErr N = 0) (hr : r < N.roads.length) (hT : tripErr N X Y a = 0) (hX : X < N.places.length) (hY : Y < N.places.length) (ha : 0 ≤ a) (hL : N.places.length ≤ 1000000 ∧ N.roads.length ≤ 1000000 ∧ ∀ i, i < N.roads.length → (listD N.roads i).pts.length ≤ 1000000) :
    Closed N (withoutN N r) X Y a r := by
  have hE' := wo_right hE hr
  have hT' : tripErr (withoutN N r) X Y a = 0 := hT
  have hn := est_none hE' hT' hX hY ha
  have hs := sh_is (sh_zero hE' hT')
  have hs0 := sh_is (sh_zero hE hT)
  refine ⟨hE', rfl, by rw [wo_len hr]; omega, ⟨hL.1, by rw [wo_len hr]; omega, fun i hi => by rw [wo_at]; exact hL.2.2 _ (upOf_lt hr hi)⟩, fun h => ?_, fun h => ?_⟩
  · have h := ((mem_neededTo _).1 h).2
    rw [if_pos h] at hn hs
    exact ⟨hn, hs⟩
  · have h : ¬ listI (heights (withoutN N r) X) Y = -1 := fun e => h ((mem_neededTo _).2 ⟨hr, e⟩)
    rw [if_neg h] at hn hs
    have h2 : listI (heights N X) Y ≠ -1 ∧ listI (heights N X) Y ≤ listI (heights (withoutN N r) X) Y := wo_less hE hr (further_good hE) (further_good hE') (wo_further N r) hX (Int.le_refl 0) hY h
    rw [if_neg h2.1] at hs0
    rcases est_wo hE hr hT with h3 | ⟨-, -, h4, h5⟩
    · rw [hn] at h3; cases h3
    · refine ⟨hn, by rw [hs], h4, h5, ?_⟩
      rw [hs, hs0]
      exact h2.2

set_option linter.unusedSimpArgs false in
set_option maxHeartbeats 12800000 in
set_option maxRecDepth 100000 in
theorem law83_any (N : Net) (v : Value) (f t a i : Int) (w : World) (hN : RdNet w v N) :
    Calls Try.prog 5 #[v, stripV f t a, .int .i64 i] w fun e w' => e = .returned (.bool true) ∧ Below w.heap.size w w' := by
  have hN0 := Lib.hid hN
  obtain ⟨P, R, pc, rc, ar, rfl, mm⟩ := hN
  have rb1 := mm.roads.le.1
  have rb2 := mm.roads.le.2
  clear mm
  have BN := Lib.hid ((BoxN.new w N P R pc rc 25).keep (Keep.alloc _ (.cells #[.int .i64 f, .int .i64 t, .int .i64 a] 48)))
  have BT := Lib.hid (TripAt.new1 w (.cells #[.slice P N.places.length pc, .slice R N.roads.length rc] 25) f t a 48)
  go_enter Try.func5, Try.ntmps5
  go_upto_region 1 with fail
  generalize hwb : (w.alloc _).alloc _ = wb at *
  have HW : Hid (Below w.heap.size w wb) := by rw [← hwb]; exact Lib.hid (((Below.refl _ _).alloc (Nat.le_refl _) _).alloc (by simp) _)
  clear hwb
  obtain ⟨n0, n1⟩ := BN.out
  obtain ⟨c0, c1, c2⟩ := BT.out
  go_wp2_with fail
  refine (streeted_any _).mono ?_
  rintro e' w1 ⟨rfl, hb1⟩
  replace HW := Lib.hid (HW.out.trans (hb1.mono HW.out.size))
  replace BN := Lib.hid (BN.out.keep (Keep.below hb1))
  replace BT := Lib.hid (BT.out.keep (Keep.below hb1))
  clear n0 n1 c0 c1 c2
  clear hb1
  obtain ⟨n0, n1⟩ := BN.out
  obtain ⟨c0, c1, c2⟩ := BT.out
  go_wp2_with fail
  refine (few_any N _ _ (hN0.out.keep (Keep.below HW.out))).mono ?_
  rintro e' wA ⟨rfl, hb1⟩
  replace HW := Lib.hid (HW.out.trans (hb1.mono HW.out.size))
  replace BN := Lib.hid (BN.out.keep (Keep.below hb1))
  replace BT := Lib.hid (BT.out.keep (Keep.below hb1))
  clear n0 n1 c0 c1 c2
  clear hb1
  cases hf : fewN N with
  | false =>
    go_wp2_with fail
    go_ret
    exact ⟨rfl, HW.out⟩
  | true =>
    have HL := Lib.hid (few_lens hf)
    clear hf
    obtain ⟨n0, n1⟩ := BN.out
    obtain ⟨c0, c1, c2⟩ := BT.out
    go_wp2_with fail
    refine (rNetErr_any N _ _ (hN0.out.keep (Keep.below HW.out))).mono ?_
    rintro e' w3 ⟨rfl, hb1⟩
    replace HW := Lib.hid (HW.out.trans (hb1.mono HW.out.size))
    replace BN := Lib.hid (BN.out.keep (Keep.below hb1))
    replace BT := Lib.hid (BT.out.keep (Keep.below hb1))
    clear n0 n1 c0 c1 c2
    clear hb1
    by_cases he : netErr N = 0
    · have HE := Lib.hid he
      rw [he]
      clear he
      obtain ⟨n0, n1⟩ := BN.out
      obtain ⟨c0, c1, c2⟩ := BT.out
      go_wp2_with fail
      refine (rTripErr_any N _ f t a _ (hN0.out.keep (Keep.below HW.out))).mono ?_
      rintro e' w4 ⟨rfl, hb1⟩
      replace HW := Lib.hid (HW.out.trans (hb1.mono HW.out.size))
      replace BN := Lib.hid (BN.out.keep (Keep.below hb1))
      replace BT := Lib.hid (BT.out.keep (Keep.below hb1))
      clear n0 n1 c0 c1 c2
      clear hb1
      by_cases ht : tripErr N f t a = 0
      · have HT0 := Lib.hid ht
        rw [ht]
        clear ht
        obtain ⟨n0, n1⟩ := BN.out
        obtain ⟨c0, c1, c2⟩ := BT.out
        go_wp2_with fail
        refine (rNoRoad_any N _ i _ (hN0.out.keep (Keep.below HW.out))).mono ?_
        rintro e' w5 ⟨rfl, hb1⟩
        replace HW := Lib.hid (HW.out.trans (hb1.mono HW.out.size))
        replace BN := Lib.hid (BN.out.keep (Keep.below hb1))
        replace BT := Lib.hid (BT.out.keep (Keep.below hb1))
        clear n0 n1 c0 c1 c2
        clear hb1
        by_cases hr : noRoad N i = 0
        · have hri := woErr_ok (show woErr N i = 0 by rw [woErr_is, if_pos HE.out]; exact hr)
          obtain ⟨-, hr0, hr1⟩ := hri
          rw [hr]
          obtain ⟨r, hX⟩ : ∃ r : Nat, i = r := ⟨_, (Int.toNat_of_nonneg hr0).symm⟩
          subst hX
          have hrl : r < N.roads.length := by omega
          have hpf := isPlace_in (tripErr_ok HT0.out).1
          have hpt := isPlace_in (tripErr_ok HT0.out).2.1
          have hta := timeErr_ok (tripErr_ok HT0.out).2.2
          obtain ⟨X, hX⟩ : ∃ X : Nat, f = X := ⟨_, (Int.toNat_of_nonneg hpf.1).symm⟩
          obtain ⟨Y, hY⟩ : ∃ Y : Nat, t = Y := ⟨_, (Int.toNat_of_nonneg hpt.1).symm⟩
          subst hX; subst hY
          have hXl : X < N.places.length := by omega
          have hYl : Y < N.places.length := by omega
          have HC := Lib.hid (closed_is HE.out hrl HT0.out hXl hYl hta.1 HL.out)
          have HEN := Lib.hid (est_none HE.out HT0.out hXl hYl hta.1)
          have HSN := Lib.hid (sh_is (sh_zero HE.out HT0.out))
          have HND := Lib.hid (show ndErr N X Y = if listI (heights N X) Y = -1 then 12 else 0 from if_pos (sh_zero HE.out HT0.out))
          have HWO := Lib.hid (show woErr N r = 0 ∧ woNet N r = withoutN N r from by
            have : woErr N r = 0 := by rw [woErr_is, if_pos HE.out]; exact hr
            exact ⟨this, if_pos this⟩)
          clear hr hpf hpt hta hr0 hr1
          obtain ⟨n0, n1⟩ := BN.out
          obtain ⟨c0, c1, c2⟩ := BT.out
          have HBd : Hid (Below w5.heap.size w5 w5.drew) := Lib.hid (Below.refl _ _).drew
          have MK : Hid (∀ w', Below w5.heap.size w5 w' → w'.cell? ⟨w.heap.size, 0, none⟩ = some (.slice P N.places.length pc) ∧ w'.cell? ⟨w.heap.size, 1, none⟩ = some (.slice R N.roads.length rc) ∧ w'.cell? ⟨w.heap.size + 1, 0, none⟩ = some (.int .i64 X) ∧ w'.cell? ⟨w.heap.size + 1, 1, none⟩ = some (.int .i64 Y) ∧ w'.cell? ⟨w.heap.size + 1, 2, none⟩ = some (.int .i64 a) ∧ Hid (Below w5.heap.size w5 w')) :=
            Lib.hid fun w' hw => ⟨Keep.below hw _ _ n0, Keep.below hw _ _ n1, Keep.below hw _ _ c0, Keep.below hw _ _ c1, Keep.below hw _ _ c2, Lib.hid hw⟩
          have KN : Hid (∀ w', Below w5.heap.size w5 w' → RdNet w' (netV N P R pc rc) N) := Lib.hid fun w' hw => (hN0.out.keep (Keep.below (HW.out.trans (hw.mono HW.out.size))))
          go_wp2_with fail
          refine wp_region_held_drew (S := fun w' => w'.cell? ⟨w.heap.size, 0, none⟩ = some (.slice P N.places.length pc) ∧ w'.cell? ⟨w.heap.size, 1, none⟩ = some (.slice R N.roads.length rc) ∧ w'.cell? ⟨w.heap.size + 1, 0, none⟩ = some (.int .i64 X) ∧ w'.cell? ⟨w.heap.size + 1, 1, none⟩ = some (.int .i64 Y) ∧ w'.cell? ⟨w.heap.size + 1, 2, none⟩ = some (.int .i64 a) ∧ Hid (Below w5.heap.size w5 w')) (by kernel_rfl) (MK.out _ HBd.out) (fun hHeld => ?_)
          refine wpAnyH_take (i := 0) (v := ?val0x1) rfl (by kernel_rfl) (by kernel_rfl) (by kernel_rfl) (fun _ _ _ h => h) (Or.inl ⟨by rfl, fun w9 hS9 => ?yields0x1⟩) (by assumption) ?later0x1
          case yields0x1 =>
            dsimp only at hS9
            go_simp
            try with_reducible rfl
          try simp only [Act.put, List.getElem_toArray, List.getElem_cons_succ, List.getElem_cons_zero, List.setIfInBounds_toArray, List.set_cons_zero, List.set_cons_succ]
          refine wpAnyH_take (i := 2) (v := ?val2x2) rfl (by kernel_rfl) (by kernel_rfl) (by kernel_rfl) (fun _ _ _ h => h) (Or.inl ⟨by rfl, fun w9 hS9 => ?yields2x2⟩) (by assumption) ?later2x2
          case yields2x2 =>
            dsimp only at hS9
            go_simp
            try with_reducible rfl
          try simp only [Act.put, List.getElem_toArray, List.getElem_cons_succ, List.getElem_cons_zero, List.setIfInBounds_toArray, List.set_cons_zero, List.set_cons_succ]
          refine wpAnyH_take (i := 3) (v := ?val3x3) rfl (by kernel_rfl) (by kernel_rfl) (by kernel_rfl) (fun _ _ _ h => h) (Or.inl ⟨by rfl, fun w9 hS9 => ?yields3x3⟩) (by assumption) ?later3x3
          case yields3x3 =>
            dsimp only at hS9
            go_simp
            try with_reducible rfl
          try simp only [Act.put, List.getElem_toArray, List.getElem_cons_succ, List.getElem_cons_zero, List.setIfInBounds_toArray, List.set_cons_zero, List.set_cons_succ]
          refine wpAnyH_take (i := 4) (v := ?val4x4) rfl (by kernel_rfl) (by kernel_rfl) (by kernel_rfl) (fun _ _ _ h => h) (Or.inl ⟨by rfl, fun w9 hS9 => ?yields4x4⟩) (by assumption) ?later4x4
          case yields4x4 =>
            dsimp only at hS9
            go_simp
            try with_reducible rfl
          try simp only [Act.put, List.getElem_toArray, List.getElem_cons_succ, List.getElem_cons_zero, List.setIfInBounds_toArray, List.set_cons_zero, List.set_cons_succ]
          refine wpAnyH_take (i := 5) (v := ?val5x5) rfl (by kernel_rfl) (by kernel_rfl) (by kernel_rfl) (fun _ _ _ h => h) (Or.inl ⟨by rfl, fun w9 hS9 => ?yields5x5⟩) (by assumption) ?later5x5
          case yields5x5 =>
            dsimp only at hS9
            go_simp
            try with_reducible rfl
          try simp only [Act.put, List.getElem_toArray, List.getElem_cons_succ, List.getElem_cons_zero, List.setIfInBounds_toArray, List.set_cons_zero, List.set_cons_succ]
          refine wpAnyH_take (i := 6) (v := ?val6x6) rfl (by kernel_rfl) (by kernel_rfl) (by kernel_rfl) (fun _ _ _ h => h) (Or.inl ⟨by rfl, fun w9 hS9 => ?yields6x6⟩) (by assumption) ?later6x6
          case yields6x6 =>
            dsimp only at hS9
            go_simp
            try with_reducible rfl
          try simp only [Act.put, List.getElem_toArray, List.getElem_cons_succ, List.getElem_cons_zero, List.setIfInBounds_toArray, List.set_cons_zero, List.set_cons_succ]
          refine wpAnyH_ready (rs := [1]) (by kernel_rfl) (by simp) ?_
          refine AllReadyH.cons rfl (fun K hK => ?_) AllReadyH.nil
          go_simp
          go_split_ands
          refine (copyNet_any N _ _ (KN.out _ (Hid.out (by assumption))) HL.out.1 HL.out.2.1 HL.out.2.2).mono ?_
          rintro e' wz5 ⟨v5, rfl, h5, hb1⟩
          replace h5 := Lib.hid h5
          go_wp2_with fail
          refine hK.out _ _ ?_ (fun hHeld => ?_)
          · (try dsimp only)
            (go_split_ands; exact MK.out _ (Below.trans (Hid.out (by assumption)) (hb1.mono (Hid.out (by assumption) : Below w5.heap.size w5 _).size)))
          clear hK K
          try simp only [Act.put, List.getElem_toArray, List.getElem_cons_succ, List.getElem_cons_zero, List.setIfInBounds_toArray, List.set_cons_zero, List.set_cons_succ]
          refine wpAnyH_ready (rs := [7]) (by kernel_rfl) (by simp) ?_
          refine AllReadyH.cons rfl (fun K hK => ?_) AllReadyH.nil
          go_simp
          go_split_ands
          refine (needed_any N _ X Y _ h5.out).mono ?_
          rintro e' wz6 ⟨A6, k6, rfl, h6, hb1⟩
          replace h6 := Lib.hid h6
          go_wp2_with fail
          refine hK.out _ _ ?_ (fun hHeld => ?_)
          · (try dsimp only)
            (go_split_ands; exact MK.out _ (Below.trans (Hid.out (by assumption)) (hb1.mono (Hid.out (by assumption) : Below w5.heap.size w5 _).size)))
          clear hK K
          try simp only [Act.put, List.getElem_toArray, List.getElem_cons_succ, List.getElem_cons_zero, List.setIfInBounds_toArray, List.set_cons_zero, List.set_cons_succ]
          refine wpAnyH_take (i := 8) (v := ?val8x7) rfl (by kernel_rfl) (by kernel_rfl) (by kernel_rfl) (fun _ _ _ h => h) (Or.inl ⟨by rfl, fun w9 hS9 => ?yields8x7⟩) (by assumption) ?later8x7
          case yields8x7 =>
            dsimp only at hS9
            go_simp
            try with_reducible rfl
          try simp only [Act.put, List.getElem_toArray, List.getElem_cons_succ, List.getElem_cons_zero, List.setIfInBounds_toArray, List.set_cons_zero, List.set_cons_succ]
          refine wpAnyH_take (i := 9) (v := ?val9x8) rfl (by kernel_rfl) (by kernel_rfl) (by kernel_rfl) (fun _ _ _ h => h) (Or.inl ⟨by rfl, fun w9 hS9 => ?yields9x8⟩) (by assumption) ?later9x8
          case yields9x8 =>
            dsimp only at hS9
            go_simp
            try with_reducible rfl
          try simp only [Act.put, List.getElem_toArray, List.getElem_cons_succ, List.getElem_cons_zero, List.setIfInBounds_toArray, List.set_cons_zero, List.set_cons_succ]
          refine wpAnyH_take (i := 10) (v := ?val10x9) rfl (by kernel_rfl) (by kernel_rfl) (by kernel_rfl) (fun _ _ _ h => h) (Or.inl ⟨by rfl, fun w9 hS9 => ?yields10x9⟩) (by assumption) ?later10x9
          case yields10x9 =>
            dsimp only at hS9
            go_simp
            try with_reducible rfl
          try simp only [Act.put, List.getElem_toArray, List.getElem_cons_succ, List.getElem_cons_zero, List.setIfInBounds_toArray, List.set_cons_zero, List.set_cons_succ]
          refine wpAnyH_take (i := 11) (v := ?val11x10) rfl (by kernel_rfl) (by kernel_rfl) (by kernel_rfl) (fun _ _ _ h => h) (Or.inl ⟨by rfl, fun w9 hS9 => ?yields11x10⟩) (by assumption) ?later11x10
          case yields11x10 =>
            dsimp only at hS9
            go_simp
            try with_reducible rfl
          try simp only [Act.put, List.getElem_toArray, List.getElem_cons_succ, List.getElem_cons_zero, List.setIfInBounds_toArray, List.set_cons_zero, List.set_cons_succ]
          refine wpAnyH_take (i := 12) (v := ?val12x11) rfl (by kernel_rfl) (by kernel_rfl) (by kernel_rfl) (fun _ _ _ h => h) (Or.inl ⟨by rfl, fun w9 hS9 => ?yields12x11⟩) (by assumption) ?later12x11
          case yields12x11 =>
            dsimp only at hS9
            go_simp
            try with_reducible rfl
          try simp only [Act.put, List.getElem_toArray, List.getElem_cons_succ, List.getElem_cons_zero, List.setIfInBounds_toArray, List.set_cons_zero, List.set_cons_succ]
          refine wpAnyH_done (by kernel_rfl) ?_ _
          have hbb := hHeld.2.2.2.2.2.out
          clear hHeld n0 n1 c0 c1 c2 MK HBd h5 KN
          replace HW := Lib.hid (HW.out.trans (hbb.mono HW.out.size))
          replace BN := Lib.hid (BN.out.keep (Keep.below hbb))
          replace BT := Lib.hid (BT.out.keep (Keep.below hbb))
          clear hbb
          obtain ⟨wD, hwD⟩ : ∃ wD : World, wD = wz6 := ⟨_, rfl⟩
          subst hwD
          obtain ⟨n0, n1⟩ := BN.out
          obtain ⟨c0, c1, c2⟩ := BT.out
          go_wp2_with fail
          go_cut [9, 10] from 54 to 61 (fun s1 s2 wx => ∃ g : Nat, s1 = .pointer (some ⟨g, 0, none⟩) ∧ s2 = .int .i64 (estimate N X Y a).2 ∧ wD.heap.size ≤ g ∧ Hid (TreeAt wx g (.int .i64 (estimate N X Y a).1.1) (.int .i64 (estimate N X Y a).1.2)) ∧ Hid (Below wD.heap.size wD wx))
          case first =>
            have HBd : Hid (Below wD.heap.size wD wD.drew) := Lib.hid (Below.refl _ _).drew
            have MK : Hid (∀ w', Below wD.heap.size wD w' → w'.cell? ⟨w.heap.size, 0, none⟩ = some (.slice P N.places.length pc) ∧ w'.cell? ⟨w.heap.size, 1, none⟩ = some (.slice R N.roads.length rc) ∧ w'.cell? ⟨w.heap.size + 1, 0, none⟩ = some (.int .i64 X) ∧ w'.cell? ⟨w.heap.size + 1, 1, none⟩ = some (.int .i64 Y) ∧ w'.cell? ⟨w.heap.size + 1, 2, none⟩ = some (.int .i64 a) ∧ Hid (Below wD.heap.size wD w')) :=
              Lib.hid fun w' hw => ⟨Keep.below hw _ _ n0, Keep.below hw _ _ n1, Keep.below hw _ _ c0, Keep.below hw _ _ c1, Keep.below hw _ _ c2, Lib.hid hw⟩
            have KN : Hid (∀ w', Below wD.heap.size wD w' → RdNet w' (netV N P R pc rc) N) := Lib.hid fun w' hw => (hN0.out.keep (Keep.below (HW.out.trans (hw.mono HW.out.size))))
            go_region_held3 (fun w' => w'.cell? ⟨w.heap.size, 0, none⟩ = some (.slice P N.places.length pc) ∧ w'.cell? ⟨w.heap.size, 1, none⟩ = some (.slice R N.roads.length rc) ∧ w'.cell? ⟨w.heap.size + 1, 0, none⟩ = some (.int .i64 X) ∧ w'.cell? ⟨w.heap.size + 1, 1, none⟩ = some (.int .i64 Y) ∧ w'.cell? ⟨w.heap.size + 1, 2, none⟩ = some (.int .i64 a) ∧ Hid (Below wD.heap.size wD w'))
              (first
                | exact MK.out _ HBd.out
                | (go_split_ands; exact ⟨by assumption, by assumption, by assumption, by assumption, by assumption, by assumption⟩)
                | (go_split_ands; exact MK.out _ (Below.trans (Hid.out (by assumption)) (hb1.mono (Hid.out (by assumption) : Below wD.heap.size wD _).size)))
                | (go_split_ands; exact MK.out _ (Below.alloc (Hid.out (by assumption)) (Hid.out (by assumption) : Below wD.heap.size wD _).size _))
                | (go_split_ands; exact MK.out _ (below_realloc (Hid.out (by assumption)) hle _))
                | (go_split_ands; exact MK.out _ (Below.setCell (Below.setCell (Hid.out (by assumption)) (by show wD.heap.size ≤ _; first | exact Nat.le_refl _ | assumption | omega | (simp; done) | (simp; omega)) _) (by show wD.heap.size ≤ _; first | exact Nat.le_refl _ | assumption | omega | (simp; done) | (simp; omega)) _)))
              ((first
                | (go_at_call 9
                   go_split_ands
                   refine (copyNet_any N _ _ (KN.out _ (Hid.out (by assumption))) HL.out.1 HL.out.2.1 HL.out.2.2).mono ?_
                   rintro e' wz5 ⟨v5, rfl, h5, hb1⟩
                   have hle := Nat.le_trans (Hid.out (by assumption) : Below wD.heap.size wD _).size hb1.size
                   have H5 := Lib.hid h5
                   clear h5
                   try (first
                     | (have HT0 := (HT.out.keep hb1 : TreeAt _ _ (.int .i64 0) (.int .i64 0)); (try simp only [size_drew] at HT0); (try simp only [World.size_alloc] at HT0); (try simp only [size_drew] at HT0); have HT := Lib.hid HT0; clear HT0; obtain ⟨q0, q1, qf0, qf1⟩ := HT.out)
                     | (have HT0 := ((TreeAt.new _ _ _ 55).keep hb1 : TreeAt _ _ (.int .i64 0) (.int .i64 0)); (try simp only [size_drew] at HT0); (try simp only [World.size_alloc] at HT0); (try simp only [size_drew] at HT0); have HT := Lib.hid HT0; clear HT0; obtain ⟨q0, q1, qf0, qf1⟩ := HT.out)
                     | (have HT0 := ((TreeAt.new _ _ _ 55).keepD hb1 : TreeAt _ _ (.int .i64 0) (.int .i64 0)); (try simp only [size_drew] at HT0); (try simp only [World.size_alloc] at HT0); (try simp only [size_drew] at HT0); have HT := Lib.hid HT0; clear HT0; obtain ⟨q0, q1, qf0, qf1⟩ := HT.out)))
                | (go_at_call 25
                   go_split_ands
                   refine (estimate_any N _ X Y a _ (by first | exact H5.out | exact H5.out.keep (Keep.alloc _ _))).mono ?_
                   rintro e' wz7 ⟨rfl, hb1⟩
                   have hle := Nat.le_trans (Hid.out (by assumption) : Below wD.heap.size wD _).size hb1.size
                   try (first
                     | (have HT0 := (HT.out.keep hb1 : TreeAt _ _ (.int .i64 0) (.int .i64 0)); (try simp only [size_drew] at HT0); (try simp only [World.size_alloc] at HT0); (try simp only [size_drew] at HT0); have HT := Lib.hid HT0; clear HT0; obtain ⟨q0, q1, qf0, qf1⟩ := HT.out)
                     | (have HT0 := ((TreeAt.new _ _ _ 55).keep hb1 : TreeAt _ _ (.int .i64 0) (.int .i64 0)); (try simp only [size_drew] at HT0); (try simp only [World.size_alloc] at HT0); (try simp only [size_drew] at HT0); have HT := Lib.hid HT0; clear HT0; obtain ⟨q0, q1, qf0, qf1⟩ := HT.out)
                     | (have HT0 := ((TreeAt.new _ _ _ 55).keepD hb1 : TreeAt _ _ (.int .i64 0) (.int .i64 0)); (try simp only [size_drew] at HT0); (try simp only [World.size_alloc] at HT0); (try simp only [size_drew] at HT0); have HT := Lib.hid HT0; clear HT0; obtain ⟨q0, q1, qf0, qf1⟩ := HT.out)))))
            all_goals
              rename_i hS
              obtain ⟨-, -, -, -, -, hbb⟩ := hS
              go_wp2_with fail
              go_meet
              first
                | exact ⟨_, rfl, rfl, by omega, Lib.hid (TreeAt.new _ _ _ _), hbb⟩
                | exact ⟨_, rfl, rfl, by omega, Lib.hid (HT.out.set _ _), hbb⟩
          case rest =>
            obtain ⟨g, rfl, rfl, hg, HT, HB⟩ := hcut
            obtain ⟨wF, hwF⟩ : ∃ wz, wz = wc := ⟨_, rfl⟩
            subst hwF
            replace HW := Lib.hid (HW.out.trans (HB.out.mono HW.out.size))
            replace BN := Lib.hid (BN.out.keep (Keep.below HB.out))
            replace BT := Lib.hid (BT.out.keep (Keep.below HB.out))
            replace h6 := Lib.hid (h6.out.keep (Keep.below HB.out))
            clear HB n0 n1 c0 c1 c2 hg
            obtain ⟨n0, n1⟩ := BN.out
            obtain ⟨c0, c1, c2⟩ := BT.out
            have HBd : Hid (Below wF.heap.size wF wF.drew) := Lib.hid (Below.refl _ _).drew
            have MK : Hid (∀ w', Below wF.heap.size wF w' → w'.cell? ⟨w.heap.size, 0, none⟩ = some (.slice P N.places.length pc) ∧ w'.cell? ⟨w.heap.size, 1, none⟩ = some (.slice R N.roads.length rc) ∧ w'.cell? ⟨w.heap.size + 1, 0, none⟩ = some (.int .i64 X) ∧ w'.cell? ⟨w.heap.size + 1, 1, none⟩ = some (.int .i64 Y) ∧ w'.cell? ⟨w.heap.size + 1, 2, none⟩ = some (.int .i64 a) ∧ Hid (Below wF.heap.size wF w')) :=
              Lib.hid fun w' hw => ⟨Keep.below hw _ _ n0, Keep.below hw _ _ n1, Keep.below hw _ _ c0, Keep.below hw _ _ c1, Keep.below hw _ _ c2, Lib.hid hw⟩
            have KN : Hid (∀ w', Below wF.heap.size wF w' → RdNet w' (netV N P R pc rc) N) := Lib.hid fun w' hw => (hN0.out.keep (Keep.below (HW.out.trans (hw.mono HW.out.size))))
            go_wp2_with fail
            refine wp_region_held_drew (S := fun w' => w'.cell? ⟨w.heap.size, 0, none⟩ = some (.slice P N.places.length pc) ∧ w'.cell? ⟨w.heap.size, 1, none⟩ = some (.slice R N.roads.length rc) ∧ w'.cell? ⟨w.heap.size + 1, 0, none⟩ = some (.int .i64 X) ∧ w'.cell? ⟨w.heap.size + 1, 1, none⟩ = some (.int .i64 Y) ∧ w'.cell? ⟨w.heap.size + 1, 2, none⟩ = some (.int .i64 a) ∧ Hid (Below wF.heap.size wF w')) (by kernel_rfl) (MK.out _ HBd.out) (fun hHeld => ?_)
            refine wpAnyH_take (i := 0) (v := ?val0x12) rfl (by kernel_rfl) (by kernel_rfl) (by kernel_rfl) (fun _ _ _ h => h) (Or.inl ⟨by rfl, fun w9 hS9 => ?yields0x12⟩) (by assumption) ?later0x12
            case yields0x12 =>
              dsimp only at hS9
              go_simp
              try with_reducible rfl
            try simp only [Act.put, List.getElem_toArray, List.getElem_cons_succ, List.getElem_cons_zero, List.setIfInBounds_toArray, List.set_cons_zero, List.set_cons_succ]
            refine wpAnyH_take (i := 2) (v := ?val2x13) rfl (by kernel_rfl) (by kernel_rfl) (by kernel_rfl) (fun _ _ _ h => h) (Or.inl ⟨by rfl, fun w9 hS9 => ?yields2x13⟩) (by assumption) ?later2x13
            case yields2x13 =>
              dsimp only at hS9
              go_simp
              try with_reducible rfl
            try simp only [Act.put, List.getElem_toArray, List.getElem_cons_succ, List.getElem_cons_zero, List.setIfInBounds_toArray, List.set_cons_zero, List.set_cons_succ]
            refine wpAnyH_take (i := 3) (v := ?val3x14) rfl (by kernel_rfl) (by kernel_rfl) (by kernel_rfl) (fun _ _ _ h => h) (Or.inl ⟨by rfl, fun w9 hS9 => ?yields3x14⟩) (by assumption) ?later3x14
            case yields3x14 =>
              dsimp only at hS9
              go_simp
              try with_reducible rfl
            try simp only [Act.put, List.getElem_toArray, List.getElem_cons_succ, List.getElem_cons_zero, List.setIfInBounds_toArray, List.set_cons_zero, List.set_cons_succ]
            refine wpAnyH_take (i := 4) (v := ?val4x15) rfl (by kernel_rfl) (by kernel_rfl) (by kernel_rfl) (fun _ _ _ h => h) (Or.inl ⟨by rfl, fun w9 hS9 => ?yields4x15⟩) (by assumption) ?later4x15
            case yields4x15 =>
              dsimp only at hS9
              go_simp
              try with_reducible rfl
            try simp only [Act.put, List.getElem_toArray, List.getElem_cons_succ, List.getElem_cons_zero, List.setIfInBounds_toArray, List.set_cons_zero, List.set_cons_succ]
            refine wpAnyH_take (i := 5) (v := ?val5x16) rfl (by kernel_rfl) (by kernel_rfl) (by kernel_rfl) (fun _ _ _ h => h) (Or.inl ⟨by rfl, fun w9 hS9 => ?yields5x16⟩) (by assumption) ?later5x16
            case yields5x16 =>
              dsimp only at hS9
              go_simp
              try with_reducible rfl
            try simp only [Act.put, List.getElem_toArray, List.getElem_cons_succ, List.getElem_cons_zero, List.setIfInBounds_toArray, List.set_cons_zero, List.set_cons_succ]
            refine wpAnyH_ready (rs := [1]) (by kernel_rfl) (by simp) ?_
            refine AllReadyH.cons rfl (fun K hK => ?_) AllReadyH.nil
            go_simp
            go_split_ands
            refine (copyNet_any N _ _ (KN.out _ (Hid.out (by assumption))) HL.out.1 HL.out.2.1 HL.out.2.2).mono ?_
            rintro e' wz5 ⟨v5, rfl, h5, hb1⟩
            replace h5 := Lib.hid h5
            go_wp2_with fail
            refine hK.out _ _ ?_ (fun hHeld => ?_)
            · (try dsimp only)
              (go_split_ands; exact MK.out _ (Below.trans (Hid.out (by assumption)) (hb1.mono (Hid.out (by assumption) : Below wF.heap.size wF _).size)))
            clear hK K
            try simp only [Act.put, List.getElem_toArray, List.getElem_cons_succ, List.getElem_cons_zero, List.setIfInBounds_toArray, List.set_cons_zero, List.set_cons_succ]
            refine wpAnyH_ready (rs := [6]) (by kernel_rfl) (by simp) ?_
            refine AllReadyH.cons rfl (fun K hK => ?_) AllReadyH.nil
            go_simp
            go_split_ands
            refine (shortest_any N _ X Y _ h5.out).mono ?_
            rintro e' wz8 ⟨l8, A8, k8, rfl, h8, -, -, hb1⟩
            go_wp2_with fail
            refine hK.out _ _ ?_ (fun hHeld => ?_)
            · (try dsimp only)
              (go_split_ands; exact MK.out _ (Below.trans (Hid.out (by assumption)) (hb1.mono (Hid.out (by assumption) : Below wF.heap.size wF _).size)))
            clear hK K
            try simp only [Act.put, List.getElem_toArray, List.getElem_cons_succ, List.getElem_cons_zero, List.setIfInBounds_toArray, List.set_cons_zero, List.set_cons_succ]
            refine wpAnyH_take (i := 7) (v := ?val7x17) rfl (by kernel_rfl) (by kernel_rfl) (by kernel_rfl) (fun _ _ _ h => h) (Or.inl ⟨by rfl, fun w9 hS9 => ?yields7x17⟩) (by assumption) ?later7x17
            case yields7x17 =>
              dsimp only at hS9
              go_simp
              try with_reducible rfl
            try simp only [Act.put, List.getElem_toArray, List.getElem_cons_succ, List.getElem_cons_zero, List.setIfInBounds_toArray, List.set_cons_zero, List.set_cons_succ]
            refine wpAnyH_take (i := 8) (v := ?val8x18) rfl (by kernel_rfl) (by kernel_rfl) (by kernel_rfl) (fun _ _ _ h => h) (Or.inl ⟨by rfl, fun w9 hS9 => ?yields8x18⟩) (by assumption) ?later8x18
            case yields8x18 =>
              dsimp only at hS9
              go_simp
              try with_reducible rfl
            try simp only [Act.put, List.getElem_toArray, List.getElem_cons_succ, List.getElem_cons_zero, List.setIfInBounds_toArray, List.set_cons_zero, List.set_cons_succ]
            refine wpAnyH_take (i := 9) (v := ?val9x19) rfl (by kernel_rfl) (by kernel_rfl) (by kernel_rfl) (fun _ _ _ h => h) (Or.inl ⟨by rfl, fun w9 hS9 => ?yields9x19⟩) (by assumption) ?later9x19
            case yields9x19 =>
              dsimp only at hS9
              go_simp
              try with_reducible rfl
            try simp only [Act.put, List.getElem_toArray, List.getElem_cons_succ, List.getElem_cons_zero, List.setIfInBounds_toArray, List.set_cons_zero, List.set_cons_succ]
            refine wpAnyH_take (i := 10) (v := ?val10x20) rfl (by kernel_rfl) (by kernel_rfl) (by kernel_rfl) (fun _ _ _ h => h) (Or.inl ⟨by rfl, fun w9 hS9 => ?yields10x20⟩) (by assumption) ?later10x20
            case yields10x20 =>
              dsimp only at hS9
              go_simp
              try with_reducible rfl
            try simp only [Act.put, List.getElem_toArray, List.getElem_cons_succ, List.getElem_cons_zero, List.setIfInBounds_toArray, List.set_cons_zero, List.set_cons_succ]
            refine wpAnyH_take (i := 11) (v := ?val11x21) rfl (by kernel_rfl) (by kernel_rfl) (by kernel_rfl) (fun _ _ _ h => h) (Or.inl ⟨by rfl, fun w9 hS9 => ?yields11x21⟩) (by assumption) ?later11x21
            case yields11x21 =>
              dsimp only at hS9
              go_simp
              try with_reducible rfl
            try simp only [Act.put, List.getElem_toArray, List.getElem_cons_succ, List.getElem_cons_zero, List.setIfInBounds_toArray, List.set_cons_zero, List.set_cons_succ]
            refine wpAnyH_take (i := 12) (v := ?val12x22) rfl (by kernel_rfl) (by kernel_rfl) (by kernel_rfl) (fun _ _ _ h => h) (Or.inl ⟨by rfl, fun w9 hS9 => ?yields12x22⟩) (by assumption) ?later12x22
            case yields12x22 =>
              dsimp only at hS9
              go_simp
              try with_reducible rfl
            try simp only [Act.put, List.getElem_toArray, List.getElem_cons_succ, List.getElem_cons_zero, List.setIfInBounds_toArray, List.set_cons_zero, List.set_cons_succ]
            refine wpAnyH_take (i := 13) (v := ?val13x23) rfl (by kernel_rfl) (by kernel_rfl) (by kernel_rfl) (fun _ _ _ h => h) (Or.inl ⟨by rfl, fun w9 hS9 => ?yields13x23⟩) (by assumption) ?later13x23
            case yields13x23 =>
              dsimp only at hS9
              go_simp
              try with_reducible rfl
            try simp only [Act.put, List.getElem_toArray, List.getElem_cons_succ, List.getElem_cons_zero, List.setIfInBounds_toArray, List.set_cons_zero, List.set_cons_succ]
            refine wpAnyH_done (by kernel_rfl) ?_ _
            have hbb := hHeld.2.2.2.2.2.out
            clear hHeld n0 n1 c0 c1 c2 MK HBd h5 h8 KN
            replace HW := Lib.hid (HW.out.trans (hbb.mono HW.out.size))
            replace BN := Lib.hid (BN.out.keep (Keep.below hbb))
            replace BT := Lib.hid (BT.out.keep (Keep.below hbb))
            replace h6 := Lib.hid (h6.out.keep (Keep.below hbb))
            replace HT := Lib.hid (HT.out.keep hbb)
            clear hbb
            by_cases hz : listI (heights N X) Y = -1
            · have G0 := Lib.hid (show ndList N X Y = [] from if_neg (by rw [HND.out, if_pos hz]; decide))
              have g1 := HND.out
              have g2 := HEN.out
              have g3 := HSN.out
              rw [if_pos hz] at g1 g2 g3
              rw [g1, g2, g3]
              rw [G0.out]
              clear g1 g2 g3 hz HC
              go_wp2_with fail
              go_ret
              exact ⟨rfl, HW.out⟩
            · have g1 := HND.out
              have g2 := HEN.out
              have g3 := HSN.out
              rw [if_neg hz] at g1 g2 g3
              have HLI := Lib.hid (show ndList N X Y = needed N X Y from if_pos g1)
              have g4 : (shortest N X Y).2 = 0 := by rw [g3]
              rw [g1, g2, g4]
              clear g1 g2 g3 g4 hz
              obtain ⟨n0, n1⟩ := BN.out
              go_wp2_with fail
              refine (copyNet_any N _ _ (hN0.out.keep (Keep.below HW.out)) HL.out.1 HL.out.2.1 HL.out.2.2).mono ?_
              rintro e' wa1 ⟨va1, rfl, h3, hb1⟩
              replace HW := Lib.hid (HW.out.trans (hb1.mono HW.out.size))
              replace BN := Lib.hid (BN.out.keep (Keep.below hb1))
              replace BT := Lib.hid (BT.out.keep (Keep.below hb1))
              replace h6 := Lib.hid (h6.out.keep (Keep.below hb1))
              replace HT := Lib.hid (HT.out.keep hb1)
              have HC1 := Lib.hid h3
              clear h3 hb1 n0 n1
              go_wp2_with fail
              refine (without_any N _ r _ HC1.out).mono ?_
              rintro e' wa2 ⟨va2, rfl, h3, hb1⟩
              replace HW := Lib.hid (HW.out.trans (hb1.mono HW.out.size))
              replace BN := Lib.hid (BN.out.keep (Keep.below hb1))
              replace BT := Lib.hid (BT.out.keep (Keep.below hb1))
              replace h6 := Lib.hid (h6.out.keep (Keep.below hb1))
              replace HT := Lib.hid (HT.out.keep hb1)
              rw [HWO.out.1]
              rw [HWO.out.2] at h3
              generalize hMM : withoutN N r = M at *
              clear hMM
              obtain ⟨PX, RX, px, rx, ax, rfl, mx⟩ := h3
              have HRX := Lib.hid (show RdNet wa2 (netV M PX RX px rx) M from ⟨PX, RX, px, rx, ax, rfl, mx⟩)
              have hpx := mx.places.le
              have hrx := mx.roads.le
              obtain ⟨hpx1, hpx2⟩ := hpx
              obtain ⟨hrx1, hrx2⟩ := hrx
              clear mx HC1
              clear hb1
              have BX := Lib.hid (BoxN.new wa2 M PX RX px rx 25)
              have HB3 : Below wa2.heap.size wa2 (wa2.alloc (.cells #[.slice PX M.places.length px, .slice RX M.roads.length rx] 25)) := (Below.refl _ _).alloc (Nat.le_refl _) _
              replace HRX := Lib.hid (HRX.out.keep (Keep.below HB3))
              go_upto_region 11 with fail
              obtain ⟨gx, hgx⟩ : ∃ gx, gx = wa2.heap.size := ⟨_, rfl⟩
              rw [← hgx] at BX ⊢
              replace HW := Lib.hid (HW.out.trans (HB3.mono HW.out.size))
              replace BN := Lib.hid (BN.out.keep (Keep.below HB3))
              replace BT := Lib.hid (BT.out.keep (Keep.below HB3))
              replace h6 := Lib.hid (h6.out.keep (Keep.below HB3))
              replace HT := Lib.hid (HT.out.keep HB3)
              clear HB3 hgx
              generalize wa2.alloc _ = wa3 at *
              have hlen := HC.out.len
              have e1 : IntKind.i64.wrap ((N.roads.length : Int) - 1) = (N.roads.length : Int) - 1 := by rw [IntKind.wrap_i64]; omega
              have e2 : ((M.roads.length : Int) != (N.roads.length : Int) - 1) = false := by rw [hlen]; simp
              clear hlen
              obtain ⟨n0, n1⟩ := BN.out
              obtain ⟨x0, x1⟩ := BX.out
              go_wp2_with fail
              refine (rNetErr_any M _ _ HRX.out).mono ?_
              rintro e' w7 ⟨rfl, hb1⟩
              replace HW := Lib.hid (HW.out.trans (hb1.mono HW.out.size))
              replace BN := Lib.hid (BN.out.keep (Keep.below hb1))
              replace BT := Lib.hid (BT.out.keep (Keep.below hb1))
              replace h6 := Lib.hid (h6.out.keep (Keep.below hb1))
              replace HT := Lib.hid (HT.out.keep hb1)
              replace BX := Lib.hid (BX.out.keep (Keep.below hb1))
              replace HRX := Lib.hid (HRX.out.keep (Keep.below hb1))
              rw [HC.out.right]
              clear n0 n1 x0 x1
              clear hb1
              clear e1 e2
              obtain ⟨wG, hwG⟩ : ∃ wG : World, wG = w7 := ⟨_, rfl⟩
              subst hwG
              obtain ⟨c0, c1, c2⟩ := BT.out
              obtain ⟨x0, x1⟩ := BX.out
              go_wp2_with fail
              go_cut [16, 17] from 121 to 128 (fun s1 s2 wx => ∃ g : Nat, s1 = .pointer (some ⟨g, 0, none⟩) ∧ s2 = .int .i64 (estimate M X Y a).2 ∧ wG.heap.size ≤ g ∧ Hid (TreeAt wx g (.int .i64 (estimate M X Y a).1.1) (.int .i64 (estimate M X Y a).1.2)) ∧ Hid (Below wG.heap.size wG wx))
              case first =>
                have HBd : Hid (Below wG.heap.size wG wG.drew) := Lib.hid (Below.refl _ _).drew
                have MK : Hid (∀ w', Below wG.heap.size wG w' → w'.cell? ⟨gx, 0, none⟩ = some (.slice PX M.places.length px) ∧ w'.cell? ⟨gx, 1, none⟩ = some (.slice RX M.roads.length rx) ∧ w'.cell? ⟨w.heap.size + 1, 0, none⟩ = some (.int .i64 X) ∧ w'.cell? ⟨w.heap.size + 1, 1, none⟩ = some (.int .i64 Y) ∧ w'.cell? ⟨w.heap.size + 1, 2, none⟩ = some (.int .i64 a) ∧ Hid (Below wG.heap.size wG w')) :=
                  Lib.hid fun w' hw => ⟨Keep.below hw _ _ x0, Keep.below hw _ _ x1, Keep.below hw _ _ c0, Keep.below hw _ _ c1, Keep.below hw _ _ c2, Lib.hid hw⟩
                have KN : Hid (∀ w', Below wG.heap.size wG w' → RdNet w' (netV M PX RX px rx) M) := Lib.hid fun w' hw => HRX.out.keep (Keep.below hw)
                go_region_held3 (fun w' => w'.cell? ⟨gx, 0, none⟩ = some (.slice PX M.places.length px) ∧ w'.cell? ⟨gx, 1, none⟩ = some (.slice RX M.roads.length rx) ∧ w'.cell? ⟨w.heap.size + 1, 0, none⟩ = some (.int .i64 X) ∧ w'.cell? ⟨w.heap.size + 1, 1, none⟩ = some (.int .i64 Y) ∧ w'.cell? ⟨w.heap.size + 1, 2, none⟩ = some (.int .i64 a) ∧ Hid (Below wG.heap.size wG w'))
                  (first
                    | exact MK.out _ HBd.out
                    | (go_split_ands; exact ⟨by assumption, by assumption, by assumption, by assumption, by assumption, by assumption⟩)
                    | (go_split_ands; exact MK.out _ (Below.trans (Hid.out (by assumption)) (hb1.mono (Hid.out (by assumption) : Below wG.heap.size wG _).size)))
                    | (go_split_ands; exact MK.out _ (Below.alloc (Hid.out (by assumption)) (Hid.out (by assumption) : Below wG.heap.size wG _).size _))
                    | (go_split_ands; exact MK.out _ (below_realloc (Hid.out (by assumption)) hle _))
                    | (go_split_ands; exact MK.out _ (Below.setCell (Below.setCell (Hid.out (by assumption)) (by show wG.heap.size ≤ _; first | exact Nat.le_refl _ | assumption | omega | (simp; done) | (simp; omega)) _) (by show wG.heap.size ≤ _; first | exact Nat.le_refl _ | assumption | omega | (simp; done) | (simp; omega)) _)))
                  ((first
                    | (go_at_call 9
                       go_split_ands
                       refine (copyNet_any M _ _ (KN.out _ (Hid.out (by assumption))) HC.out.lens.1 HC.out.lens.2.1 HC.out.lens.2.2).mono ?_
                       rintro e' wz5 ⟨v5, rfl, h5, hb1⟩
                       have hle := Nat.le_trans (Hid.out (by assumption) : Below wG.heap.size wG _).size hb1.size
                       have H5 := Lib.hid h5
                       clear h5
                       try (first
                         | (have HT0 := (HT.out.keep hb1 : TreeAt _ _ (.int .i64 0) (.int .i64 0)); (try simp only [size_drew] at HT0); (try simp only [World.size_alloc] at HT0); (try simp only [size_drew] at HT0); have HT := Lib.hid HT0; clear HT0; obtain ⟨q0, q1, qf0, qf1⟩ := HT.out)
                         | (have HT0 := ((TreeAt.new _ _ _ 55).keep hb1 : TreeAt _ _ (.int .i64 0) (.int .i64 0)); (try simp only [size_drew] at HT0); (try simp only [World.size_alloc] at HT0); (try simp only [size_drew] at HT0); have HT := Lib.hid HT0; clear HT0; obtain ⟨q0, q1, qf0, qf1⟩ := HT.out)
                         | (have HT0 := ((TreeAt.new _ _ _ 55).keepD hb1 : TreeAt _ _ (.int .i64 0) (.int .i64 0)); (try simp only [size_drew] at HT0); (try simp only [World.size_alloc] at HT0); (try simp only [size_drew] at HT0); have HT := Lib.hid HT0; clear HT0; obtain ⟨q0, q1, qf0, qf1⟩ := HT.out)))
                    | (go_at_call 25
                       go_split_ands
                       refine (estimate_any M _ X Y a _ (by first | exact H5.out | exact H5.out.keep (Keep.alloc _ _))).mono ?_
                       rintro e' wz7 ⟨rfl, hb1⟩
                       have hle := Nat.le_trans (Hid.out (by assumption) : Below wG.heap.size wG _).size hb1.size
                       try (first
                         | (have HT0 := (HT.out.keep hb1 : TreeAt _ _ (.int .i64 0) (.int .i64 0)); (try simp only [size_drew] at HT0); (try simp only [World.size_alloc] at HT0); (try simp only [size_drew] at HT0); have HT := Lib.hid HT0; clear HT0; obtain ⟨q0, q1, qf0, qf1⟩ := HT.out)
                         | (have HT0 := ((TreeAt.new _ _ _ 55).keep hb1 : TreeAt _ _ (.int .i64 0) (.int .i64 0)); (try simp only [size_drew] at HT0); (try simp only [World.size_alloc] at HT0); (try simp only [size_drew] at HT0); have HT := Lib.hid HT0; clear HT0; obtain ⟨q0, q1, qf0, qf1⟩ := HT.out)
                         | (have HT0 := ((TreeAt.new _ _ _ 55).keepD hb1 : TreeAt _ _ (.int .i64 0) (.int .i64 0)); (try simp only [size_drew] at HT0); (try simp only [World.size_alloc] at HT0); (try simp only [size_drew] at HT0); have HT := Lib.hid HT0; clear HT0; obtain ⟨q0, q1, qf0, qf1⟩ := HT.out)))))
                all_goals
                  rename_i hS
                  obtain ⟨-, -, -, -, -, hbb⟩ := hS
                  go_wp2_with fail
                  go_meet
                  first
                    | exact ⟨_, rfl, rfl, by omega, Lib.hid (TreeAt.new _ _ _ _), hbb⟩
                    | exact ⟨_, rfl, rfl, by omega, Lib.hid (HT.out.set _ _), hbb⟩
              case rest =>
                obtain ⟨g2, rfl, rfl, hg, HU, HB⟩ := hcut
                obtain ⟨wH, hwH⟩ : ∃ wz, wz = wc := ⟨_, rfl⟩
                subst hwH
                replace HW := Lib.hid (HW.out.trans (HB.out.mono HW.out.size))
                replace BN := Lib.hid (BN.out.keep (Keep.below HB.out))
                replace BT := Lib.hid (BT.out.keep (Keep.below HB.out))
                replace h6 := Lib.hid (h6.out.keep (Keep.below HB.out))
                replace HT := Lib.hid (HT.out.keep HB.out)
                replace BX := Lib.hid (BX.out.keep (Keep.below HB.out))
                replace HRX := Lib.hid (HRX.out.keep (Keep.below HB.out))
                clear HB x0 x1 c0 c1 c2 hg
                obtain ⟨c0, c1, c2⟩ := BT.out
                obtain ⟨x0, x1⟩ := BX.out
                have HBd : Hid (Below wH.heap.size wH wH.drew) := Lib.hid (Below.refl _ _).drew
                have MK : Hid (∀ w', Below wH.heap.size wH w' → w'.cell? ⟨gx, 0, none⟩ = some (.slice PX M.places.length px) ∧ w'.cell? ⟨gx, 1, none⟩ = some (.slice RX M.roads.length rx) ∧ w'.cell? ⟨w.heap.size + 1, 0, none⟩ = some (.int .i64 X) ∧ w'.cell? ⟨w.heap.size + 1, 1, none⟩ = some (.int .i64 Y) ∧ w'.cell? ⟨w.heap.size + 1, 2, none⟩ = some (.int .i64 a) ∧ Hid (Below wH.heap.size wH w')) :=
                  Lib.hid fun w' hw => ⟨Keep.below hw _ _ x0, Keep.below hw _ _ x1, Keep.below hw _ _ c0, Keep.below hw _ _ c1, Keep.below hw _ _ c2, Lib.hid hw⟩
                have KN : Hid (∀ w', Below wH.heap.size wH w' → RdNet w' (netV M PX RX px rx) M) := Lib.hid fun w' hw => HRX.out.keep (Keep.below hw)
                go_wp2_with fail
                refine wp_region_held_drew (S := fun w' => w'.cell? ⟨gx, 0, none⟩ = some (.slice PX M.places.length px) ∧ w'.cell? ⟨gx, 1, none⟩ = some (.slice RX M.roads.length rx) ∧ w'.cell? ⟨w.heap.size + 1, 0, none⟩ = some (.int .i64 X) ∧ w'.cell? ⟨w.heap.size + 1, 1, none⟩ = some (.int .i64 Y) ∧ w'.cell? ⟨w.heap.size + 1, 2, none⟩ = some (.int .i64 a) ∧ Hid (Below wH.heap.size wH w')) (by kernel_rfl) (MK.out _ HBd.out) (fun hHeld => ?_)
                refine wpAnyH_take (i := 0) (v := ?val0x24) rfl (by kernel_rfl) (by kernel_rfl) (by kernel_rfl) (fun _ _ _ h => h) (Or.inl ⟨by rfl, fun w9 hS9 => ?yields0x24⟩) (by assumption) ?later0x24
                case yields0x24 =>
                  dsimp only at hS9
                  go_simp
                  try with_reducible rfl
                try simp only [Act.put, List.getElem_toArray, List.getElem_cons_succ, List.getElem_cons_zero, List.setIfInBounds_toArray, List.set_cons_zero, List.set_cons_succ]
                refine wpAnyH_take (i := 2) (v := ?val2x25) rfl (by kernel_rfl) (by kernel_rfl) (by kernel_rfl) (fun _ _ _ h => h) (Or.inl ⟨by rfl, fun w9 hS9 => ?yields2x25⟩) (by assumption) ?later2x25
                case yields2x25 =>
                  dsimp only at hS9
                  go_simp
                  try with_reducible rfl
                try simp only [Act.put, List.getElem_toArray, List.getElem_cons_succ, List.getElem_cons_zero, List.setIfInBounds_toArray, List.set_cons_zero, List.set_cons_succ]
                refine wpAnyH_take (i := 3) (v := ?val3x26) rfl (by kernel_rfl) (by kernel_rfl) (by kernel_rfl) (fun _ _ _ h => h) (Or.inl ⟨by rfl, fun w9 hS9 => ?yields3x26⟩) (by assumption) ?later3x26
                case yields3x26 =>
                  dsimp only at hS9
                  go_simp
                  try with_reducible rfl
                try simp only [Act.put, List.getElem_toArray, List.getElem_cons_succ, List.getElem_cons_zero, List.setIfInBounds_toArray, List.set_cons_zero, List.set_cons_succ]
                refine wpAnyH_take (i := 4) (v := ?val4x27) rfl (by kernel_rfl) (by kernel_rfl) (by kernel_rfl) (fun _ _ _ h => h) (Or.inl ⟨by rfl, fun w9 hS9 => ?yields4x27⟩) (by assumption) ?later4x27
                case yields4x27 =>
                  dsimp only at hS9
                  go_simp
                  try with_reducible rfl
                try simp only [Act.put, List.getElem_toArray, List.getElem_cons_succ, List.getElem_cons_zero, List.setIfInBounds_toArray, List.set_cons_zero, List.set_cons_succ]
                refine wpAnyH_take (i := 5) (v := ?val5x28) rfl (by kernel_rfl) (by kernel_rfl) (by kernel_rfl) (fun _ _ _ h => h) (Or.inl ⟨by rfl, fun w9 hS9 => ?yields5x28⟩) (by assumption) ?later5x28
                case yields5x28 =>
                  dsimp only at hS9
                  go_simp
                  try with_reducible rfl
                try simp only [Act.put, List.getElem_toArray, List.getElem_cons_succ, List.getElem_cons_zero, List.setIfInBounds_toArray, List.set_cons_zero, List.set_cons_succ]
                refine wpAnyH_ready (rs := [1]) (by kernel_rfl) (by simp) ?_
                refine AllReadyH.cons rfl (fun K hK => ?_) AllReadyH.nil
                go_simp
                go_split_ands
                refine (copyNet_any M _ _ (KN.out _ (Hid.out (by assumption))) HC.out.lens.1 HC.out.lens.2.1 HC.out.lens.2.2).mono ?_
                rintro e' wz5 ⟨v5, rfl, h5, hb1⟩
                replace h5 := Lib.hid h5
                go_wp2_with fail
                refine hK.out _ _ ?_ (fun hHeld => ?_)
                · (try dsimp only)
                  (go_split_ands; exact MK.out _ (Below.trans (Hid.out (by assumption)) (hb1.mono (Hid.out (by assumption) : Below wH.heap.size wH _).size)))
                clear hK K
                try simp only [Act.put, List.getElem_toArray, List.getElem_cons_succ, List.getElem_cons_zero, List.setIfInBounds_toArray, List.set_cons_zero, List.set_cons_succ]
                refine wpAnyH_ready (rs := [6]) (by kernel_rfl) (by simp) ?_
                refine AllReadyH.cons rfl (fun K hK => ?_) AllReadyH.nil
                go_simp
                go_split_ands
                refine (shortest_any M _ X Y _ h5.out).mono ?_
                rintro e' wz8 ⟨l8, A8, k8, rfl, h8, -, -, hb1⟩
                go_wp2_with fail
                refine hK.out _ _ ?_ (fun hHeld => ?_)
                · (try dsimp only)
                  (go_split_ands; exact MK.out _ (Below.trans (Hid.out (by assumption)) (hb1.mono (Hid.out (by assumption) : Below wH.heap.size wH _).size)))
                clear hK K
                try simp only [Act.put, List.getElem_toArray, List.getElem_cons_succ, List.getElem_cons_zero, List.setIfInBounds_toArray, List.set_cons_zero, List.set_cons_succ]
                refine wpAnyH_take (i := 7) (v := ?val7x29) rfl (by kernel_rfl) (by kernel_rfl) (by kernel_rfl) (fun _ _ _ h => h) (Or.inl ⟨by rfl, fun w9 hS9 => ?yields7x29⟩) (by assumption) ?later7x29
                case yields7x29 =>
                  dsimp only at hS9
                  go_simp
                  try with_reducible rfl
                try simp only [Act.put, List.getElem_toArray, List.getElem_cons_succ, List.getElem_cons_zero, List.setIfInBounds_toArray, List.set_cons_zero, List.set_cons_succ]
                refine wpAnyH_take (i := 8) (v := ?val8x30) rfl (by kernel_rfl) (by kernel_rfl) (by kernel_rfl) (fun _ _ _ h => h) (Or.inl ⟨by rfl, fun w9 hS9 => ?yields8x30⟩) (by assumption) ?later8x30
                case yields8x30 =>
                  dsimp only at hS9
                  go_simp
                  try with_reducible rfl
                try simp only [Act.put, List.getElem_toArray, List.getElem_cons_succ, List.getElem_cons_zero, List.setIfInBounds_toArray, List.set_cons_zero, List.set_cons_succ]
                refine wpAnyH_take (i := 9) (v := ?val9x31) rfl (by kernel_rfl) (by kernel_rfl) (by kernel_rfl) (fun _ _ _ h => h) (Or.inl ⟨by rfl, fun w9 hS9 => ?yields9x31⟩) (by assumption) ?later9x31
                case yields9x31 =>
                  dsimp only at hS9
                  go_simp
                  try with_reducible rfl
                try simp only [Act.put, List.getElem_toArray, List.getElem_cons_succ, List.getElem_cons_zero, List.setIfInBounds_toArray, List.set_cons_zero, List.set_cons_succ]
                refine wpAnyH_take (i := 10) (v := ?val10x32) rfl (by kernel_rfl) (by kernel_rfl) (by kernel_rfl) (fun _ _ _ h => h) (Or.inl ⟨by rfl, fun w9 hS9 => ?yields10x32⟩) (by assumption) ?later10x32
                case yields10x32 =>
                  dsimp only at hS9
                  go_simp
                  try with_reducible rfl
                try simp only [Act.put, List.getElem_toArray, List.getElem_cons_succ, List.getElem_cons_zero, List.setIfInBounds_toArray, List.set_cons_zero, List.set_cons_succ]
                refine wpAnyH_take (i := 11) (v := ?val11x33) rfl (by kernel_rfl) (by kernel_rfl) (by kernel_rfl) (fun _ _ _ h => h) (Or.inl ⟨by rfl, fun w9 hS9 => ?yields11x33⟩) (by assumption) ?later11x33
                case yields11x33 =>
                  dsimp only at hS9
                  go_simp
                  try with_reducible rfl
                try simp only [Act.put, List.getElem_toArray, List.getElem_cons_succ, List.getElem_cons_zero, List.setIfInBounds_toArray, List.set_cons_zero, List.set_cons_succ]
                refine wpAnyH_take (i := 12) (v := ?val12x34) rfl (by kernel_rfl) (by kernel_rfl) (by kernel_rfl) (fun _ _ _ h => h) (Or.inl ⟨by rfl, fun w9 hS9 => ?yields12x34⟩) (by assumption) ?later12x34
                case yields12x34 =>
                  dsimp only at hS9
                  go_simp
                  try with_reducible rfl
                try simp only [Act.put, List.getElem_toArray, List.getElem_cons_succ, List.getElem_cons_zero, List.setIfInBounds_toArray, List.set_cons_zero, List.set_cons_succ]
                refine wpAnyH_take (i := 13) (v := ?val13x35) rfl (by kernel_rfl) (by kernel_rfl) (by kernel_rfl) (fun _ _ _ h => h) (Or.inl ⟨by rfl, fun w9 hS9 => ?yields13x35⟩) (by assumption) ?later13x35
                case yields13x35 =>
                  dsimp only at hS9
                  go_simp
                  try with_reducible rfl
                try simp only [Act.put, List.getElem_toArray, List.getElem_cons_succ, List.getElem_cons_zero, List.setIfInBounds_toArray, List.set_cons_zero, List.set_cons_succ]
                refine wpAnyH_done (by kernel_rfl) ?_ _
                have hbb := hHeld.2.2.2.2.2.out
                clear hHeld x0 x1 c0 c1 c2 MK HBd h5 h8 KN
                replace HW := Lib.hid (HW.out.trans (hbb.mono HW.out.size))
                replace BN := Lib.hid (BN.out.keep (Keep.below hbb))
                replace BT := Lib.hid (BT.out.keep (Keep.below hbb))
                replace h6 := Lib.hid (h6.out.keep (Keep.below hbb))
                replace HT := Lib.hid (HT.out.keep hbb)
                replace BX := Lib.hid (BX.out.keep (Keep.below hbb))
                replace HRX := Lib.hid (HRX.out.keep (Keep.below hbb))
                replace HU := Lib.hid (HU.out.keep hbb)
                clear hbb
                rw [HLI.out] at h6
                rw [HLI.out]
                go_wp2_with fail
                refine (has_any (needed N X Y) A6 k6 r _ h6.out).mono ?_
                rintro e' wI ⟨rfl, hb1⟩
                replace HW := Lib.hid (HW.out.trans (hb1.mono HW.out.size))
                replace BN := Lib.hid (BN.out.keep (Keep.below hb1))
                replace BT := Lib.hid (BT.out.keep (Keep.below hb1))
                replace h6 := Lib.hid (h6.out.keep (Keep.below hb1))
                replace HT := Lib.hid (HT.out.keep hb1)
                replace BX := Lib.hid (BX.out.keep (Keep.below hb1))
                replace HRX := Lib.hid (HRX.out.keep (Keep.below hb1))
                replace HU := Lib.hid (HU.out.keep hb1)
                clear hb1
                generalize hE1 : estimate N X Y a = E1 at *
                generalize hE2 : estimate M X Y a = E2 at *
                generalize hS1 : shortest N X Y = S1 at *
                generalize hS2 : shortest M X Y = S2 at *
                by_cases hm : (r : Int) ∈ needed N X Y
                · have q := HC.out.none_ hm
                  rw [hE2, hS2] at q
                  rw [show decide ((r : Int) ∈ needed N X Y) = true from decide_eq_true hm]
                  rw [q.1, q.2]
                  clear q hm hE1 hE2 hS1 hS2 HC
                  go_wp2_with fail
                  go_ret
                  exact ⟨rfl, HW.out⟩
                · have q := HC.out.some_ hm
                  rw [hE1, hE2, hS1, hS2] at q
                  rw [show decide ((r : Int) ∈ needed N X Y) = false from decide_eq_false hm]
                  obtain ⟨q1, q2, q3, q4, q5⟩ := q
                  rw [q1, q2]
                  have l1 : decide (E2.1.1 ≥ E1.1.1) = true := decide_eq_true q3
                  have l2 : decide (E2.1.2 ≥ E1.1.2) = true := decide_eq_true q4
                  have l3 : decide (S2.1 ≥ S1.1) = true := decide_eq_true q5
                  clear hm hE1 hE2 hS1 hS2 HC q1 q2
                  obtain ⟨t0, t1, -, -⟩ := HT.out
                  obtain ⟨u0, u1, -, -⟩ := HU.out
                  go_wp2_with fail
                  go_ret
                  exact ⟨rfl, HW.out⟩
        · have e1 : (noRoad N i != 0) = true := by simpa using hr
          clear hr
          go_wp2_with fail
          go_ret
          exact ⟨rfl, HW.out⟩
      · have e1 : (tripErr N f t a != 0) = true := by simpa using ht
        clear ht
        go_wp2_with fail
        go_ret
        exact ⟨rfl, HW.out⟩
    · have e1 : (netErr N != 0) = true := by simpa using he
      clear he
      go_wp2_with fail
      go_ret
      exact ⟨rfl, HW.out⟩
end Go.Proofs.Ytnjaadmmbdlfoaa

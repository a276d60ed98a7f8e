/- Joined. No condition. -/
import Derived.Test.YtolicafhbeiciaaXSR
import Derived.Test.YtolicafhbeiciaaX3
import Derived.Test.YtolicafhbeiciaaD22
import Derived.Shelf.SlSortCmp.NoneTotal
import Derived.Test.YtolicafhbeiciaaX11
namespace Go.Proofs.Ytolicafhbeiciaa
open Go.RowKit Fs

theorem xSortNone_any (p : Option Addr) (cap : Nat) (fv : Value) (w : World) :
    Calls Try.prog 97 #[.slice p 0 cap, fv] w fun e w' => e = .returned (.tuple #[]) ∧ w' = w := AnyF.slices_SortFunc_none sortRecLays p cap fv w
theorem Fs.cat_two (a b : List WRec) : catTo [a, b] 2 = a ++ b := rfl
theorem two_lists {w : World} {A B : Option Addr} {c d : Nat} {a b : List WRec} (ha : ArrW w A a c) (hb : ArrW w B b d) (t : TypeId) :
    ArrLW (w.alloc (.cells #[.slice A a.length c, .slice B b.length d] t)) (some ⟨w.heap.size, 0, none⟩) [a, b] 2 (fun i => if i = 0 then A else B) (fun i => if i = 0 then c else d) := by
  refine ⟨⟨Nat.le_refl _, by decide, fun _ => ⟨_, _, rfl, fun i j hi hj => ?_⟩⟩, fun i hi => ?_⟩
  · have hj0 : j = 0 := by omega
    subst hj0
    match i, hi with
    | 0, _ => exact cellNew w _ _ 0
    | 1, _ => exact cellNew w _ _ 1
  · match i, hi with
    | 0, _ => exact ha.keep (Keep.alloc _ _)
    | 1, _ => exact hb.keep (Keep.alloc _ _)
theorem Fs.joined_err {a b : List WRec} (h : (if recsErr true a ≠ 0 then recsErr true a else recsErr true b) ≠ 0) : joinedErr a b = (if recsErr true a ≠ 0 then recsErr true a else recsErr true b) ∧ joinedOut a b = [] := by
  have e : joinedErr a b = (if recsErr true a ≠ 0 then recsErr true a else recsErr true b) := by
    unfold joinedErr
    by_cases h1 : recsErr true a = 0
    · rw [if_neg (fun hh : recsErr true a ≠ 0 => hh h1)] at h
      rw [if_neg (fun hh : recsErr true a ≠ 0 => hh h1), if_pos h, if_neg (fun hh : recsErr true a ≠ 0 => hh h1)]
    · rw [if_pos (show recsErr true a ≠ 0 from h1), if_pos (show recsErr true a ≠ 0 from h1)]
  exact ⟨e, by unfold joinedOut; rw [e, if_neg h]⟩
theorem Fs.joined_fine {a b : List WRec} (h : (if recsErr true a ≠ 0 then recsErr true a else recsErr true b) = 0) : recsErr true a = 0 ∧ recsErr true b = 0 ∧ joinedErr a b = djoinErr a b := by
  by_cases h1 : recsErr true a = 0
  · rw [if_neg (fun hh => hh h1)] at h
    exact ⟨h1, h, by unfold joinedErr; rw [if_neg (fun hh => hh h1), if_neg (fun hh => hh h)]⟩
  · rw [if_pos h1] at h; exact absurd h h1
theorem Fs.djoin_clash {a b : List WRec} (h : 0 < a.length ∧ 0 < b.length ∧ (listW a 0).who ≠ (listW b 0).who) : djoinErr a b = 13 := if_pos h
theorem Fs.djoin_over {a b : List WRec} (h : ¬ (0 < a.length ∧ 0 < b.length ∧ (listW a 0).who ≠ (listW b 0).who)) (h2 : ∃ i, i < a.length ∧ ∃ k, k < b.length ∧ overlapB (listW a i) (listW b k) = true) : djoinErr a b = 26 := by
  unfold djoinErr; rw [if_neg h, if_pos h2]
theorem Fs.djoin_else {a b : List WRec} (h : ¬ (0 < a.length ∧ 0 < b.length ∧ (listW a 0).who ≠ (listW b 0).who)) (h2 : ¬ ∃ i, i < a.length ∧ ∃ k, k < b.length ∧ overlapB (listW a i) (listW b k) = true) : djoinErr a b = if 40 < a.length + b.length then 8 else 0 := by
  unfold djoinErr; rw [if_neg h, if_neg h2]
theorem arrNoW (w : World) : ArrW w none [] 0 := ⟨Nat.le_refl _, by decide, fun hh => absurd hh (Nat.lt_irrefl _)⟩
set_option linter.unusedSimpArgs false in
set_option maxHeartbeats 12800000 in
set_option maxRecDepth 100000 in
theorem xJoined_any (a b : List WRec) (A B : Option Addr) (c d : Nat) (w : World) (h : ArrW w A a c) (h2 : ArrW w B b d) :
    Calls Try.prog 40 #[.slice A a.length c, .slice B b.length d] w fun e w' => (∃ A' c', e = .returned (.tuple #[.slice A' (joinedOut a b).length c', .int .i64 (joinedErr a b)]) ∧ ArrW w' A' (joinedOut a b) c') ∧ Below w.heap.size w w' := by
  have b1 := h.le.1
  have b2 := h.le.2
  have d1 := h2.le.1
  have d2 := h2.le.2
  have HA := Lib.hid h
  have HB := Lib.hid h2
  clear h h2
  go_enter Try.func40, Try.ntmps40
  go_wp2_with fail
  refine (xRecords_any a A c _ HA.out).mono ?_
  rintro e w1 ⟨rfl, hb1⟩
  have HW := Lib.hid hb1
  clear hb1
  go_wp2_with fail
  refine (xRecords_any b B d _ (HB.out.keep (Keep.below HW.out))).mono ?_
  rintro e w2 ⟨rfl, hb1⟩
  replace HW := Lib.hid (HW.out.trans (hb1.mono HW.out.size))
  clear hb1
  have HL := Lib.hid (arr2New w2 (recsErr true a) (recsErr true b) 28)
  replace HW := Lib.hid (HW.out.alloc HW.out.size (.cells #[.int .i64 (recsErr true a), .int .i64 (recsErr true b)] 28))
  go_wp2_with fail
  refine (firstError_any [recsErr true a, recsErr true b] _ _ _ HL.out).mono ?_
  rintro e wx ⟨rfl, rfl⟩
  rw [show [recsErr true a, recsErr true b].length = 2 from rfl, fst_two]
  clear HL
  generalize hwy : w2.alloc _ = wy at *
  clear hwy
  obtain ⟨E, hE⟩ : ∃ E, E = (if recsErr true a ≠ 0 then recsErr true a else recsErr true b) := ⟨_, rfl⟩
  rw [← hE]
  by_cases he : E = 0
  · obtain ⟨hra, hrb, hje⟩ := joined_fine (show (if recsErr true a ≠ 0 then recsErr true a else recsErr true b) = 0 by rw [← hE]; exact he)
    have HRA := Lib.hid (recs_right hra)
    have HRB := Lib.hid (recs_right hrb)
    have HJE := Lib.hid hje
    have ha40 := (recs_right hra).len
    have hb40 := (recs_right hrb).len
    rw [he]
    clear he hE hra hrb hje
    by_cases hcl : 0 < a.length ∧ 0 < b.length ∧ (listW a 0).who ≠ (listW b 0).who
    · have HF := Lib.hid (show joinedErr a b = 13 ∧ joinedOut a b = [] from by
        have e : joinedErr a b = 13 := HJE.out.trans (djoin_clash hcl)
        exact ⟨e, by unfold joinedOut; rw [e, if_neg (by decide)]⟩)
      obtain ⟨ha0, hb0, hw⟩ := hcl
      obtain ⟨ab, ao, rfl, q0, -, -⟩ := (HA.out.keep (Keep.below HW.out)).at_ ha0
      obtain ⟨bb, bo, rfl, r0, -, -⟩ := (HB.out.keep (Keep.below HW.out)).at_ hb0
      rw [Nat.zero_mul, Nat.add_zero] at q0 r0
      have i1 : (0 : Int) < (a.length : Int) := by omega
      have i2 : (0 : Int) < (b.length : Int) := by omega
      have e1 := str_ne hw
      have e2 : ((listW a 0).who.toList != (listW b 0).who.toList) = true := by rw [bne, e1]; rfl
      clear hw
      go_wp2_with fail
      go_quiet (fail)
      generalize hwd : World.drewN wy _ = wd at *
      have HD0 : Hid (Below wy.heap.size wy wd) := by rw [← hwd]; exact Lib.hid (bdrewN (Below.refl _ _) _)
      clear hwd
      replace HW := Lib.hid (HW.out.trans (HD0.out.mono HW.out.size))
      clear HD0
      go_wp2_with fail
      refine bodyPost_ret (v := .tuple #[.slice none 0 0, .int .i64 13]) (by simp [results, Try.results40, go_sem]) rfl ⟨⟨none, 0, by rw [HF.out.1, HF.out.2]; rfl, by rw [HF.out.2]; exact arrNoW _⟩, HW.out⟩
    · have HNC := Lib.hid hcl
      by_cases ha0 : 0 < a.length
      · by_cases hb0 : 0 < b.length
        · have hw : (listW a 0).who = (listW b 0).who := Classical.byContradiction fun hh => hcl ⟨ha0, hb0, hh⟩
          obtain ⟨ab, ao, rfl, q0, -, -⟩ := (HA.out.keep (Keep.below HW.out)).at_ ha0
          obtain ⟨bb, bo, rfl, r0, -, -⟩ := (HB.out.keep (Keep.below HW.out)).at_ hb0
          rw [Nat.zero_mul, Nat.add_zero] at q0 r0
          have i1 : (0 : Int) < (a.length : Int) := by omega
          have i2 : (0 : Int) < (b.length : Int) := by omega
          have e1 := str_eq hw
          have e2 : ((listW a 0).who.toList != (listW b 0).who.toList) = false := by rw [bne, e1]; rfl
          clear hw hcl
          go_wp2_with fail
          go_quiet (fail)
          generalize hwd : World.drewN wy _ = wd at *
          have HD0 : Hid (Below wy.heap.size wy wd) := by rw [← hwd]; exact Lib.hid (bdrewN (Below.refl _ _) _)
          clear hwd
          replace HW := Lib.hid (HW.out.trans (HD0.out.mono HW.out.size))
          clear HD0
          clear q0 r0 e1 e2 i1 i2
          have HAd := Lib.hid (HA.out.keep (Keep.below HW.out))
          have HBd0 := Lib.hid (HB.out.keep (Keep.below HW.out))
          have HLL := Lib.hid (two_lists HAd.out HBd0.out 24)
          have HWL := Lib.hid (HW.out.alloc HW.out.size (.cells #[.slice (some ⟨ab, ao, none⟩) a.length c, .slice (some ⟨bb, bo, none⟩) b.length d] 24))
          go_wp2_with fail
          refine (xConcat_any [a, b] _ 2 _ _ _ HLL.out (show 2 ≤ 10 by decide) (fun i hi => by
            match i, hi with
            | 0, _ => show a.length ≤ 1000; omega
            | 1, _ => show b.length ≤ 1000; omega)).mono ?_
          rintro e' w6 ⟨⟨v, rfl, ho⟩, hb1⟩
          rw [show [a, b].length = 2 from rfl, cat_two] at ho
          replace HW := Lib.hid (HWL.out.trans (hb1.mono HWL.out.size))
          obtain ⟨N, hN⟩ : ∃ N, N = (a ++ b).length := ⟨_, rfl⟩
          have hNL : N = a.length + b.length := by rw [hN]; simp
          have HO := Lib.hid (own_low ho HWL.out.size)
          clear hb1 HWL HLL HAd HBd0 ho
          have HSX := Lib.hid (xSortW_any w.heap.size (a ++ b) v w6 w HO.out (by rw [← hN]; omega) (by rw [← hN]; omega) HW.out)
          have HNX := Lib.hid hN
          have HNL0 := Lib.hid hNL
          clear hNL hN
          go_wp2_with fail
          refine HSX.out.mono ?_
          rintro e' ws ⟨rfl, ⟨Am, cm, m, rfl, hby, hm⟩, hbs⟩
          rw [← HNX.out]
          have HBY := Lib.hid hby
          have HM := Lib.hid hm
          have HN := Lib.hid (show N = m.length by rw [HNX.out]; exact hby.perm.length_eq.symm)
          have hNc : N ≤ cm := by rw [HN.out]; exact hm.le.1
          have hNm : cm ≤ 9223372036854775807 := hm.le.2
          have hN80 : N ≤ 80 := by have := HNL0.out; omega
          replace HW := Lib.hid hbs
          clear hby hm hbs HSX HO
          go_wp2_with fail
          go_loopw [8] (fun s wr => ∃ i : Nat, 0 < i ∧ (i ≤ N ∨ i = 1) ∧ s = .int .i64 i ∧ Hid (∀ j, 0 < j → j < i → ¬ badN m j) ∧ Hid (Below ws.heap.size ws wr)) (fun s _ => (N + 1) - (intOf s).toNat)
          case atStart => exact ⟨1, by decide, Or.inr rfl, rfl, Lib.hid fun j h1 h2 => by omega, Lib.hid (Below.refl _ _)⟩
          case round =>
            obtain ⟨i, hi0, hi1, rfl, Hn, HB⟩ := hrel
            by_cases hlt : i < N
            · have hin : (i : Int) < (N : Int) := by omega
              obtain ⟨j, hj⟩ : ∃ j, i = j + 1 := ⟨i - 1, by omega⟩
              have HJ := Lib.hid hj
              have hji : (i : Int) - 1 = (j : Int) := by omega
              have hjw : IntKind.i64.wrap (j : Int) = (j : Int) := by rw [IntKind.wrap_i64]; omega
              have hjN : (j : Int) < (N : Int) := by omega
              have hj40 : j < N := by omega
              clear hj
              obtain ⟨b0, o0, rfl, r, q⟩ := (HM.out.keep (Keep.below HB.out)).two (i := j) (k := i) (by rw [← HN.out]; exact hj40) (by rw [← HN.out]; exact hlt)
              obtain ⟨q0, q1, q2⟩ := q
              obtain ⟨r0, r1, r2⟩ := r
              clear hi1
              go_wp2_with fail
              have HBd : Hid (Below wr.heap.size wr wr.drew) := Lib.hid (Below.refl _ _).drew
              have MK : Hid (∀ w', Below wr.heap.size wr w' → w'.cell? ⟨b0, o0 + i * 3, none⟩ = some (.string (listW m i).who) ∧ w'.cell? ⟨b0, o0 + i * 3 + 1, none⟩ = some (.int .i64 (listW m i).beg) ∧ w'.cell? ⟨b0, o0 + i * 3 + 2, none⟩ = some (.int .i64 (listW m i).fin) ∧ w'.cell? ⟨b0, o0 + j * 3, none⟩ = some (.string (listW m j).who) ∧ w'.cell? ⟨b0, o0 + j * 3 + 1, none⟩ = some (.int .i64 (listW m j).beg) ∧ w'.cell? ⟨b0, o0 + j * 3 + 2, none⟩ = some (.int .i64 (listW m j).fin) ∧ Hid (Below wr.heap.size wr w')) :=
                Lib.hid fun w' hw => ⟨Keep.below hw _ _ q0, Keep.below hw _ _ q1, Keep.below hw _ _ q2, Keep.below hw _ _ r0, Keep.below hw _ _ r1, Keep.below hw _ _ r2, Lib.hid hw⟩
              refine wp_region_held_drew (S := fun w' => w'.cell? ⟨b0, o0 + i * 3, none⟩ = some (.string (listW m i).who) ∧ w'.cell? ⟨b0, o0 + i * 3 + 1, none⟩ = some (.int .i64 (listW m i).beg) ∧ w'.cell? ⟨b0, o0 + i * 3 + 2, none⟩ = some (.int .i64 (listW m i).fin) ∧ w'.cell? ⟨b0, o0 + j * 3, none⟩ = some (.string (listW m j).who) ∧ w'.cell? ⟨b0, o0 + j * 3 + 1, none⟩ = some (.int .i64 (listW m j).beg) ∧ w'.cell? ⟨b0, o0 + j * 3 + 2, none⟩ = some (.int .i64 (listW m j).fin) ∧ Hid (Below wr.heap.size wr w')) (by kernel_rfl) (MK.out _ HBd.out) (fun hHeld => ?_)
              refine wpAnyH_take (i := 0) (v := ?val0x19) rfl (by kernel_rfl) (by kernel_rfl) (by kernel_rfl) (fun _ _ _ h => h) (Or.inl ⟨by rfl, fun w9 hS9 => ?yields0x19⟩) (by assumption) ?later0x19
              case yields0x19 =>
                dsimp only at hS9
                go_simp
                try with_reducible rfl
              try simp only [Act.put, List.getElem_toArray, List.getElem_cons_succ, List.getElem_cons_zero, List.setIfInBounds_toArray, List.set_cons_zero, List.set_cons_succ]
              refine wpAnyH_take (i := 1) (v := ?val1x20) rfl (by kernel_rfl) (by kernel_rfl) (by kernel_rfl) (fun _ _ _ h => h) (Or.inl ⟨by rfl, fun w9 hS9 => ?yields1x20⟩) (by assumption) ?later1x20
              case yields1x20 =>
                dsimp only at hS9
                go_simp
                try with_reducible rfl
              try simp only [Act.put, List.getElem_toArray, List.getElem_cons_succ, List.getElem_cons_zero, List.setIfInBounds_toArray, List.set_cons_zero, List.set_cons_succ]
              refine wpAnyH_take (i := 2) (v := ?val2x21) rfl (by kernel_rfl) (by kernel_rfl) (by kernel_rfl) (fun _ _ _ h => h) (Or.inl ⟨by rfl, fun w9 hS9 => ?yields2x21⟩) (by assumption) ?later2x21
              case yields2x21 =>
                dsimp only at hS9
                go_simp
                try with_reducible rfl
              try simp only [Act.put, List.getElem_toArray, List.getElem_cons_succ, List.getElem_cons_zero, List.setIfInBounds_toArray, List.set_cons_zero, List.set_cons_succ]
              refine wpAnyH_take (i := 3) (v := ?val3x22) rfl (by kernel_rfl) (by kernel_rfl) (by kernel_rfl) (fun _ _ _ h => h) (Or.inl ⟨by rfl, fun w9 hS9 => ?yields3x22⟩) (by assumption) ?later3x22
              case yields3x22 =>
                dsimp only at hS9
                go_simp
                try with_reducible rfl
              try simp only [Act.put, List.getElem_toArray, List.getElem_cons_succ, List.getElem_cons_zero, List.setIfInBounds_toArray, List.set_cons_zero, List.set_cons_succ]
              refine wpAnyH_take (i := 4) (v := ?val4x23) rfl (by kernel_rfl) (by kernel_rfl) (by kernel_rfl) (fun _ _ _ h => h) (Or.inl ⟨by rfl, fun w9 hS9 => ?yields4x23⟩) (by assumption) ?later4x23
              case yields4x23 =>
                dsimp only at hS9
                go_simp
                try with_reducible rfl
              try simp only [Act.put, List.getElem_toArray, List.getElem_cons_succ, List.getElem_cons_zero, List.setIfInBounds_toArray, List.set_cons_zero, List.set_cons_succ]
              refine wpAnyH_take (i := 5) (v := ?val5x24) rfl (by kernel_rfl) (by kernel_rfl) (by kernel_rfl) (fun _ _ _ h => h) (Or.inl ⟨by rfl, fun w9 hS9 => ?yields5x24⟩) (by assumption) ?later5x24
              case yields5x24 =>
                dsimp only at hS9
                go_simp
                try with_reducible rfl
              try simp only [Act.put, List.getElem_toArray, List.getElem_cons_succ, List.getElem_cons_zero, List.setIfInBounds_toArray, List.set_cons_zero, List.set_cons_succ]
              refine wpAnyH_take (i := 6) (v := ?val6x25) rfl (by kernel_rfl) (by kernel_rfl) (by kernel_rfl) (fun _ _ _ h => h) (Or.inl ⟨by rfl, fun w9 hS9 => ?yields6x25⟩) (by assumption) ?later6x25
              case yields6x25 =>
                dsimp only at hS9
                go_simp
                try with_reducible rfl
              try simp only [Act.put, List.getElem_toArray, List.getElem_cons_succ, List.getElem_cons_zero, List.setIfInBounds_toArray, List.set_cons_zero, List.set_cons_succ]
              refine wpAnyH_take (i := 7) (v := ?val7x26) rfl (by kernel_rfl) (by kernel_rfl) (by kernel_rfl) (fun _ _ _ h => h) (Or.inl ⟨by rfl, fun w9 hS9 => ?yields7x26⟩) (by assumption) ?later7x26
              case yields7x26 =>
                dsimp only at hS9
                go_simp
                try with_reducible rfl
              try simp only [Act.put, List.getElem_toArray, List.getElem_cons_succ, List.getElem_cons_zero, List.setIfInBounds_toArray, List.set_cons_zero, List.set_cons_succ]
              refine wpAnyH_take (i := 8) (v := ?val8x27) rfl (by kernel_rfl) (by kernel_rfl) (by kernel_rfl) (fun _ _ _ h => h) (Or.inl ⟨by rfl, fun w9 hS9 => ?yields8x27⟩) (by assumption) ?later8x27
              case yields8x27 =>
                dsimp only at hS9
                go_simp
                try with_reducible rfl
              try simp only [Act.put, List.getElem_toArray, List.getElem_cons_succ, List.getElem_cons_zero, List.setIfInBounds_toArray, List.set_cons_zero, List.set_cons_succ]
              refine wpAnyH_ready (rs := [9]) (by kernel_rfl) (by simp) ?_
              refine AllReadyH.cons rfl (fun K hK => ?_) AllReadyH.nil
              go_simp
              go_at_call 100
              go_split_ands
              refine (xBehind_any (listW m j) (listW m i) _).mono ?_
              rintro e' w5 ⟨rfl, hb1⟩
              go_wp2_with fail
              refine hK.out _ _ ?_ (fun hHeld => ?_)
              · (try dsimp only)
                (go_split_ands; exact MK.out _ (Below.trans (Hid.out (by assumption)) (hb1.mono (Hid.out (by assumption) : Below wr.heap.size wr _).size)))
              clear hK K
              try simp only [Act.put, List.getElem_toArray, List.getElem_cons_succ, List.getElem_cons_zero, List.setIfInBounds_toArray, List.set_cons_zero, List.set_cons_succ]
              refine wpAnyH_take (i := 10) (v := ?val10x28) rfl (by kernel_rfl) (by kernel_rfl) (by kernel_rfl) (fun _ _ _ h => h) (Or.inl ⟨by rfl, fun w9 hS9 => ?yields10x28⟩) (by assumption) ?later10x28
              case yields10x28 =>
                dsimp only at hS9
                go_simp
                try with_reducible rfl
              try simp only [Act.put, List.getElem_toArray, List.getElem_cons_succ, List.getElem_cons_zero, List.setIfInBounds_toArray, List.set_cons_zero, List.set_cons_succ]
              refine wpAnyH_done (by kernel_rfl) ?_ _
              obtain ⟨-, -, -, -, -, -, HB5⟩ := hHeld
              clear HBd MK
              have HW5 := Lib.hid (HW.out.trans ((HB.out.trans (HB5.out.mono HB.out.size)).mono HW.out.size))
              have HBX := Lib.hid (HB.out.trans (HB5.out.mono HB.out.size))
              clear HB5 q0 q1 q2 r0 r1 r2
              by_cases hbd : badN m i
              · have HF := Lib.hid (show joinedErr a b = 26 ∧ joinedOut a b = [] from by
                  have e : joinedErr a b = 26 := HJE.out.trans (djoin_over HNC.out (joined_bad HRA.out HRB.out HBY.out hi0 (by rw [← HN.out]; exact hlt) hbd))
                  exact ⟨e, by unfold joinedOut; rw [e, if_neg (by decide)]⟩)
                have HBE := Lib.hid (show behindErr (listW m j) (listW m i) = 26 by
                  unfold badN at hbd
                  rw [HJ.out, Nat.add_sub_cancel] at hbd
                  rw [HJ.out]
                  exact if_pos hbd)
                rw [HBE.out]
                replace HW := HW5
                clear hbd
                go_wp2_with fail
                refine bodyPost_ret (v := .tuple #[.slice none 0 0, .int .i64 26]) (by simp [results, Try.results40, go_sem]) rfl ⟨⟨none, 0, by rw [HF.out.1, HF.out.2]; rfl, by rw [HF.out.2]; exact arrNoW _⟩, HW.out⟩
              · have HBE := Lib.hid (show behindErr (listW m j) (listW m i) = 0 by
                  unfold badN at hbd
                  rw [HJ.out, Nat.add_sub_cancel] at hbd
                  rw [HJ.out]
                  exact if_neg hbd)
                have G := Lib.hid (show ∀ k, 0 < k → k < i + 1 → ¬ badN m k from fun k h1 h2 => by
                  by_cases e : k = i
                  · subst e; exact hbd
                  · exact Hn.out k h1 (by omega))
                rw [HBE.out]
                clear hbd
                go_wp2_with fail
                go_roundw
                case rel => exact ⟨i + 1, by omega, Or.inl (by omega), by go_num, G, HBX⟩
                case measure => simp [intOf]; omega
            · have hnl : ¬ (i : Int) < (N : Int) := by omega
              have HG := Lib.hid (joined_good HRA.out HRB.out HBY.out (fun k h1 h2 => Hn.out k h1 (by rw [← HN.out] at h2; omega)))
              have HJE2 := Lib.hid (HJE.out.trans (djoin_else HNC.out HG.out.1))
              have HWz := Lib.hid (HW.out.trans (HB.out.mono HW.out.size))
              replace HW := HWz
              by_cases h40 : 40 < N
              · have HF := Lib.hid (show joinedErr a b = 8 ∧ joinedOut a b = [] from by
                  have e : joinedErr a b = 8 := HJE2.out.trans (if_pos (by have := HNL0.out; omega))
                  exact ⟨e, by unfold joinedOut; rw [e, if_neg (by decide)]⟩)
                have e1 : decide ((N : Int) > 40) = true := decide_eq_true (by omega)
                have e2 : decide ((40 : Int) < (N : Int)) = true := decide_eq_true (by omega)
                go_wp2_with fail
                refine bodyPost_ret (v := .tuple #[.slice none 0 0, .int .i64 8]) (by simp [results, Try.results40, go_sem]) rfl ⟨⟨none, 0, by rw [HF.out.1, HF.out.2]; rfl, by rw [HF.out.2]; exact arrNoW _⟩, HW.out⟩
              · have HF := Lib.hid (show joinedErr a b = 0 ∧ joinedOut a b = m from by
                  have e : joinedErr a b = 0 := HJE2.out.trans (if_neg (by have := HNL0.out; omega))
                  exact ⟨e, by unfold joinedOut; rw [if_pos e]; exact HG.out.2.symm⟩)
                have e1 : decide ((N : Int) > 40) = false := decide_eq_false (by omega)
                have e2 : decide ((40 : Int) < (N : Int)) = false := decide_eq_false (by omega)
                go_wp2_with fail
                refine bodyPost_ret (v := .tuple #[.slice Am N cm, .int .i64 0]) (by simp [results, Try.results40, go_sem]) rfl ⟨⟨Am, cm, by rw [HF.out.1, HF.out.2, HN.out], by rw [HF.out.2]; exact HM.out.keep (Keep.below HB.out)⟩, HW.out⟩
        · have i1 : (0 : Int) < (a.length : Int) := by omega
          have i2 : ¬ (0 : Int) < (b.length : Int) := by omega
          have i3 : decide (0 < b.length) = false := decide_eq_false hb0
          clear hcl
          go_wp2_with fail
          go_quiet (fail)
          generalize hwd : World.drewN wy _ = wd at *
          have HD0 : Hid (Below wy.heap.size wy wd) := by rw [← hwd]; exact Lib.hid (bdrewN (Below.refl _ _) _)
          clear hwd
          replace HW := Lib.hid (HW.out.trans (HD0.out.mono HW.out.size))
          clear HD0
          clear i1 i2 i3
          have HAd := Lib.hid (HA.out.keep (Keep.below HW.out))
          have HBd0 := Lib.hid (HB.out.keep (Keep.below HW.out))
          have HLL := Lib.hid (two_lists HAd.out HBd0.out 24)
          have HWL := Lib.hid (HW.out.alloc HW.out.size (.cells #[.slice A a.length c, .slice B b.length d] 24))
          go_wp2_with fail
          refine (xConcat_any [a, b] _ 2 _ _ _ HLL.out (show 2 ≤ 10 by decide) (fun i hi => by
            match i, hi with
            | 0, _ => show a.length ≤ 1000; omega
            | 1, _ => show b.length ≤ 1000; omega)).mono ?_
          rintro e' w6 ⟨⟨v, rfl, ho⟩, hb1⟩
          rw [show [a, b].length = 2 from rfl, cat_two] at ho
          replace HW := Lib.hid (HWL.out.trans (hb1.mono HWL.out.size))
          obtain ⟨N, hN⟩ : ∃ N, N = (a ++ b).length := ⟨_, rfl⟩
          have hNL : N = a.length + b.length := by rw [hN]; simp
          have HO := Lib.hid (own_low ho HWL.out.size)
          clear hb1 HWL HLL HAd HBd0 ho
          have HSX := Lib.hid (xSortW_any w.heap.size (a ++ b) v w6 w HO.out (by rw [← hN]; omega) (by rw [← hN]; omega) HW.out)
          have HNX := Lib.hid hN
          have HNL0 := Lib.hid hNL
          clear hNL hN
          go_wp2_with fail
          refine HSX.out.mono ?_
          rintro e' ws ⟨rfl, ⟨Am, cm, m, rfl, hby, hm⟩, hbs⟩
          rw [← HNX.out]
          have HBY := Lib.hid hby
          have HM := Lib.hid hm
          have HN := Lib.hid (show N = m.length by rw [HNX.out]; exact hby.perm.length_eq.symm)
          have hNc : N ≤ cm := by rw [HN.out]; exact hm.le.1
          have hNm : cm ≤ 9223372036854775807 := hm.le.2
          have hN80 : N ≤ 80 := by have := HNL0.out; omega
          replace HW := Lib.hid hbs
          clear hby hm hbs HSX HO
          go_wp2_with fail
          go_loopw [8] (fun s wr => ∃ i : Nat, 0 < i ∧ (i ≤ N ∨ i = 1) ∧ s = .int .i64 i ∧ Hid (∀ j, 0 < j → j < i → ¬ badN m j) ∧ Hid (Below ws.heap.size ws wr)) (fun s _ => (N + 1) - (intOf s).toNat)
          case atStart => exact ⟨1, by decide, Or.inr rfl, rfl, Lib.hid fun j h1 h2 => by omega, Lib.hid (Below.refl _ _)⟩
          case round =>
            obtain ⟨i, hi0, hi1, rfl, Hn, HB⟩ := hrel
            by_cases hlt : i < N
            · have hin : (i : Int) < (N : Int) := by omega
              obtain ⟨j, hj⟩ : ∃ j, i = j + 1 := ⟨i - 1, by omega⟩
              have HJ := Lib.hid hj
              have hji : (i : Int) - 1 = (j : Int) := by omega
              have hjw : IntKind.i64.wrap (j : Int) = (j : Int) := by rw [IntKind.wrap_i64]; omega
              have hjN : (j : Int) < (N : Int) := by omega
              have hj40 : j < N := by omega
              clear hj
              obtain ⟨b0, o0, rfl, r, q⟩ := (HM.out.keep (Keep.below HB.out)).two (i := j) (k := i) (by rw [← HN.out]; exact hj40) (by rw [← HN.out]; exact hlt)
              obtain ⟨q0, q1, q2⟩ := q
              obtain ⟨r0, r1, r2⟩ := r
              clear hi1
              go_wp2_with fail
              have HBd : Hid (Below wr.heap.size wr wr.drew) := Lib.hid (Below.refl _ _).drew
              have MK : Hid (∀ w', Below wr.heap.size wr w' → w'.cell? ⟨b0, o0 + i * 3, none⟩ = some (.string (listW m i).who) ∧ w'.cell? ⟨b0, o0 + i * 3 + 1, none⟩ = some (.int .i64 (listW m i).beg) ∧ w'.cell? ⟨b0, o0 + i * 3 + 2, none⟩ = some (.int .i64 (listW m i).fin) ∧ w'.cell? ⟨b0, o0 + j * 3, none⟩ = some (.string (listW m j).who) ∧ w'.cell? ⟨b0, o0 + j * 3 + 1, none⟩ = some (.int .i64 (listW m j).beg) ∧ w'.cell? ⟨b0, o0 + j * 3 + 2, none⟩ = some (.int .i64 (listW m j).fin) ∧ Hid (Below wr.heap.size wr w')) :=
                Lib.hid fun w' hw => ⟨Keep.below hw _ _ q0, Keep.below hw _ _ q1, Keep.below hw _ _ q2, Keep.below hw _ _ r0, Keep.below hw _ _ r1, Keep.below hw _ _ r2, Lib.hid hw⟩
              refine wp_region_held_drew (S := fun w' => w'.cell? ⟨b0, o0 + i * 3, none⟩ = some (.string (listW m i).who) ∧ w'.cell? ⟨b0, o0 + i * 3 + 1, none⟩ = some (.int .i64 (listW m i).beg) ∧ w'.cell? ⟨b0, o0 + i * 3 + 2, none⟩ = some (.int .i64 (listW m i).fin) ∧ w'.cell? ⟨b0, o0 + j * 3, none⟩ = some (.string (listW m j).who) ∧ w'.cell? ⟨b0, o0 + j * 3 + 1, none⟩ = some (.int .i64 (listW m j).beg) ∧ w'.cell? ⟨b0, o0 + j * 3 + 2, none⟩ = some (.int .i64 (listW m j).fin) ∧ Hid (Below wr.heap.size wr w')) (by kernel_rfl) (MK.out _ HBd.out) (fun hHeld => ?_)
              refine wpAnyH_take (i := 0) (v := ?val0x29) rfl (by kernel_rfl) (by kernel_rfl) (by kernel_rfl) (fun _ _ _ h => h) (Or.inl ⟨by rfl, fun w9 hS9 => ?yields0x29⟩) (by assumption) ?later0x29
              case yields0x29 =>
                dsimp only at hS9
                go_simp
                try with_reducible rfl
              try simp only [Act.put, List.getElem_toArray, List.getElem_cons_succ, List.getElem_cons_zero, List.setIfInBounds_toArray, List.set_cons_zero, List.set_cons_succ]
              refine wpAnyH_take (i := 1) (v := ?val1x30) rfl (by kernel_rfl) (by kernel_rfl) (by kernel_rfl) (fun _ _ _ h => h) (Or.inl ⟨by rfl, fun w9 hS9 => ?yields1x30⟩) (by assumption) ?later1x30
              case yields1x30 =>
                dsimp only at hS9
                go_simp
                try with_reducible rfl
              try simp only [Act.put, List.getElem_toArray, List.getElem_cons_succ, List.getElem_cons_zero, List.setIfInBounds_toArray, List.set_cons_zero, List.set_cons_succ]
              refine wpAnyH_take (i := 2) (v := ?val2x31) rfl (by kernel_rfl) (by kernel_rfl) (by kernel_rfl) (fun _ _ _ h => h) (Or.inl ⟨by rfl, fun w9 hS9 => ?yields2x31⟩) (by assumption) ?later2x31
              case yields2x31 =>
                dsimp only at hS9
                go_simp
                try with_reducible rfl
              try simp only [Act.put, List.getElem_toArray, List.getElem_cons_succ, List.getElem_cons_zero, List.setIfInBounds_toArray, List.set_cons_zero, List.set_cons_succ]
              refine wpAnyH_take (i := 3) (v := ?val3x32) rfl (by kernel_rfl) (by kernel_rfl) (by kernel_rfl) (fun _ _ _ h => h) (Or.inl ⟨by rfl, fun w9 hS9 => ?yields3x32⟩) (by assumption) ?later3x32
              case yields3x32 =>
                dsimp only at hS9
                go_simp
                try with_reducible rfl
              try simp only [Act.put, List.getElem_toArray, List.getElem_cons_succ, List.getElem_cons_zero, List.setIfInBounds_toArray, List.set_cons_zero, List.set_cons_succ]
              refine wpAnyH_take (i := 4) (v := ?val4x33) rfl (by kernel_rfl) (by kernel_rfl) (by kernel_rfl) (fun _ _ _ h => h) (Or.inl ⟨by rfl, fun w9 hS9 => ?yields4x33⟩) (by assumption) ?later4x33
              case yields4x33 =>
                dsimp only at hS9
                go_simp
                try with_reducible rfl
              try simp only [Act.put, List.getElem_toArray, List.getElem_cons_succ, List.getElem_cons_zero, List.setIfInBounds_toArray, List.set_cons_zero, List.set_cons_succ]
              refine wpAnyH_take (i := 5) (v := ?val5x34) rfl (by kernel_rfl) (by kernel_rfl) (by kernel_rfl) (fun _ _ _ h => h) (Or.inl ⟨by rfl, fun w9 hS9 => ?yields5x34⟩) (by assumption) ?later5x34
              case yields5x34 =>
                dsimp only at hS9
                go_simp
                try with_reducible rfl
              try simp only [Act.put, List.getElem_toArray, List.getElem_cons_succ, List.getElem_cons_zero, List.setIfInBounds_toArray, List.set_cons_zero, List.set_cons_succ]
              refine wpAnyH_take (i := 6) (v := ?val6x35) rfl (by kernel_rfl) (by kernel_rfl) (by kernel_rfl) (fun _ _ _ h => h) (Or.inl ⟨by rfl, fun w9 hS9 => ?yields6x35⟩) (by assumption) ?later6x35
              case yields6x35 =>
                dsimp only at hS9
                go_simp
                try with_reducible rfl
              try simp only [Act.put, List.getElem_toArray, List.getElem_cons_succ, List.getElem_cons_zero, List.setIfInBounds_toArray, List.set_cons_zero, List.set_cons_succ]
              refine wpAnyH_take (i := 7) (v := ?val7x36) rfl (by kernel_rfl) (by kernel_rfl) (by kernel_rfl) (fun _ _ _ h => h) (Or.inl ⟨by rfl, fun w9 hS9 => ?yields7x36⟩) (by assumption) ?later7x36
              case yields7x36 =>
                dsimp only at hS9
                go_simp
                try with_reducible rfl
              try simp only [Act.put, List.getElem_toArray, List.getElem_cons_succ, List.getElem_cons_zero, List.setIfInBounds_toArray, List.set_cons_zero, List.set_cons_succ]
              refine wpAnyH_take (i := 8) (v := ?val8x37) rfl (by kernel_rfl) (by kernel_rfl) (by kernel_rfl) (fun _ _ _ h => h) (Or.inl ⟨by rfl, fun w9 hS9 => ?yields8x37⟩) (by assumption) ?later8x37
              case yields8x37 =>
                dsimp only at hS9
                go_simp
                try with_reducible rfl
              try simp only [Act.put, List.getElem_toArray, List.getElem_cons_succ, List.getElem_cons_zero, List.setIfInBounds_toArray, List.set_cons_zero, List.set_cons_succ]
              refine wpAnyH_ready (rs := [9]) (by kernel_rfl) (by simp) ?_
              refine AllReadyH.cons rfl (fun K hK => ?_) AllReadyH.nil
              go_simp
              go_at_call 100
              go_split_ands
              refine (xBehind_any (listW m j) (listW m i) _).mono ?_
              rintro e' w5 ⟨rfl, hb1⟩
              go_wp2_with fail
              refine hK.out _ _ ?_ (fun hHeld => ?_)
              · (try dsimp only)
                (go_split_ands; exact MK.out _ (Below.trans (Hid.out (by assumption)) (hb1.mono (Hid.out (by assumption) : Below wr.heap.size wr _).size)))
              clear hK K
              try simp only [Act.put, List.getElem_toArray, List.getElem_cons_succ, List.getElem_cons_zero, List.setIfInBounds_toArray, List.set_cons_zero, List.set_cons_succ]
              refine wpAnyH_take (i := 10) (v := ?val10x38) rfl (by kernel_rfl) (by kernel_rfl) (by kernel_rfl) (fun _ _ _ h => h) (Or.inl ⟨by rfl, fun w9 hS9 => ?yields10x38⟩) (by assumption) ?later10x38
              case yields10x38 =>
                dsimp only at hS9
                go_simp
                try with_reducible rfl
              try simp only [Act.put, List.getElem_toArray, List.getElem_cons_succ, List.getElem_cons_zero, List.setIfInBounds_toArray, List.set_cons_zero, List.set_cons_succ]
              refine wpAnyH_done (by kernel_rfl) ?_ _
              obtain ⟨-, -, -, -, -, -, HB5⟩ := hHeld
              clear HBd MK
              have HW5 := Lib.hid (HW.out.trans ((HB.out.trans (HB5.out.mono HB.out.size)).mono HW.out.size))
              have HBX := Lib.hid (HB.out.trans (HB5.out.mono HB.out.size))
              clear HB5 q0 q1 q2 r0 r1 r2
              by_cases hbd : badN m i
              · have HF := Lib.hid (show joinedErr a b = 26 ∧ joinedOut a b = [] from by
                  have e : joinedErr a b = 26 := HJE.out.trans (djoin_over HNC.out (joined_bad HRA.out HRB.out HBY.out hi0 (by rw [← HN.out]; exact hlt) hbd))
                  exact ⟨e, by unfold joinedOut; rw [e, if_neg (by decide)]⟩)
                have HBE := Lib.hid (show behindErr (listW m j) (listW m i) = 26 by
                  unfold badN at hbd
                  rw [HJ.out, Nat.add_sub_cancel] at hbd
                  rw [HJ.out]
                  exact if_pos hbd)
                rw [HBE.out]
                replace HW := HW5
                clear hbd
                go_wp2_with fail
                refine bodyPost_ret (v := .tuple #[.slice none 0 0, .int .i64 26]) (by simp [results, Try.results40, go_sem]) rfl ⟨⟨none, 0, by rw [HF.out.1, HF.out.2]; rfl, by rw [HF.out.2]; exact arrNoW _⟩, HW.out⟩
              · have HBE := Lib.hid (show behindErr (listW m j) (listW m i) = 0 by
                  unfold badN at hbd
                  rw [HJ.out, Nat.add_sub_cancel] at hbd
                  rw [HJ.out]
                  exact if_neg hbd)
                have G := Lib.hid (show ∀ k, 0 < k → k < i + 1 → ¬ badN m k from fun k h1 h2 => by
                  by_cases e : k = i
                  · subst e; exact hbd
                  · exact Hn.out k h1 (by omega))
                rw [HBE.out]
                clear hbd
                go_wp2_with fail
                go_roundw
                case rel => exact ⟨i + 1, by omega, Or.inl (by omega), by go_num, G, HBX⟩
                case measure => simp [intOf]; omega
            · have hnl : ¬ (i : Int) < (N : Int) := by omega
              have HG := Lib.hid (joined_good HRA.out HRB.out HBY.out (fun k h1 h2 => Hn.out k h1 (by rw [← HN.out] at h2; omega)))
              have HJE2 := Lib.hid (HJE.out.trans (djoin_else HNC.out HG.out.1))
              have HWz := Lib.hid (HW.out.trans (HB.out.mono HW.out.size))
              replace HW := HWz
              by_cases h40 : 40 < N
              · have HF := Lib.hid (show joinedErr a b = 8 ∧ joinedOut a b = [] from by
                  have e : joinedErr a b = 8 := HJE2.out.trans (if_pos (by have := HNL0.out; omega))
                  exact ⟨e, by unfold joinedOut; rw [e, if_neg (by decide)]⟩)
                have e1 : decide ((N : Int) > 40) = true := decide_eq_true (by omega)
                have e2 : decide ((40 : Int) < (N : Int)) = true := decide_eq_true (by omega)
                go_wp2_with fail
                refine bodyPost_ret (v := .tuple #[.slice none 0 0, .int .i64 8]) (by simp [results, Try.results40, go_sem]) rfl ⟨⟨none, 0, by rw [HF.out.1, HF.out.2]; rfl, by rw [HF.out.2]; exact arrNoW _⟩, HW.out⟩
              · have HF := Lib.hid (show joinedErr a b = 0 ∧ joinedOut a b = m from by
                  have e : joinedErr a b = 0 := HJE2.out.trans (if_neg (by have := HNL0.out; omega))
                  exact ⟨e, by unfold joinedOut; rw [if_pos e]; exact HG.out.2.symm⟩)
                have e1 : decide ((N : Int) > 40) = false := decide_eq_false (by omega)
                have e2 : decide ((40 : Int) < (N : Int)) = false := decide_eq_false (by omega)
                go_wp2_with fail
                refine bodyPost_ret (v := .tuple #[.slice Am N cm, .int .i64 0]) (by simp [results, Try.results40, go_sem]) rfl ⟨⟨Am, cm, by rw [HF.out.1, HF.out.2, HN.out], by rw [HF.out.2]; exact HM.out.keep (Keep.below HB.out)⟩, HW.out⟩
      · have i1 : ¬ (0 : Int) < (a.length : Int) := by omega
        have i3 : decide (0 < a.length) = false := decide_eq_false ha0
        clear hcl
        go_wp2_with fail
        go_quiet (fail)
        generalize hwd : World.drewN wy _ = wd at *
        have HD0 : Hid (Below wy.heap.size wy wd) := by rw [← hwd]; exact Lib.hid (bdrewN (Below.refl _ _) _)
        clear hwd
        replace HW := Lib.hid (HW.out.trans (HD0.out.mono HW.out.size))
        clear HD0
        clear i1 i3
        by_cases hb0 : 0 < b.length
        · have HAd := Lib.hid (HA.out.keep (Keep.below HW.out))
          have HBd0 := Lib.hid (HB.out.keep (Keep.below HW.out))
          have HLL := Lib.hid (two_lists HAd.out HBd0.out 24)
          have HWL := Lib.hid (HW.out.alloc HW.out.size (.cells #[.slice A a.length c, .slice B b.length d] 24))
          go_wp2_with fail
          refine (xConcat_any [a, b] _ 2 _ _ _ HLL.out (show 2 ≤ 10 by decide) (fun i hi => by
            match i, hi with
            | 0, _ => show a.length ≤ 1000; omega
            | 1, _ => show b.length ≤ 1000; omega)).mono ?_
          rintro e' w6 ⟨⟨v, rfl, ho⟩, hb1⟩
          rw [show [a, b].length = 2 from rfl, cat_two] at ho
          replace HW := Lib.hid (HWL.out.trans (hb1.mono HWL.out.size))
          obtain ⟨N, hN⟩ : ∃ N, N = (a ++ b).length := ⟨_, rfl⟩
          have hNL : N = a.length + b.length := by rw [hN]; simp
          have HO := Lib.hid (own_low ho HWL.out.size)
          clear hb1 HWL HLL HAd HBd0 ho
          have HSX := Lib.hid (xSortW_any w.heap.size (a ++ b) v w6 w HO.out (by rw [← hN]; omega) (by rw [← hN]; omega) HW.out)
          have HNX := Lib.hid hN
          have HNL0 := Lib.hid hNL
          clear hNL hN
          go_wp2_with fail
          refine HSX.out.mono ?_
          rintro e' ws ⟨rfl, ⟨Am, cm, m, rfl, hby, hm⟩, hbs⟩
          rw [← HNX.out]
          have HBY := Lib.hid hby
          have HM := Lib.hid hm
          have HN := Lib.hid (show N = m.length by rw [HNX.out]; exact hby.perm.length_eq.symm)
          have hNc : N ≤ cm := by rw [HN.out]; exact hm.le.1
          have hNm : cm ≤ 9223372036854775807 := hm.le.2
          have hN80 : N ≤ 80 := by have := HNL0.out; omega
          replace HW := Lib.hid hbs
          clear hby hm hbs HSX HO
          go_wp2_with fail
          go_loopw [8] (fun s wr => ∃ i : Nat, 0 < i ∧ (i ≤ N ∨ i = 1) ∧ s = .int .i64 i ∧ Hid (∀ j, 0 < j → j < i → ¬ badN m j) ∧ Hid (Below ws.heap.size ws wr)) (fun s _ => (N + 1) - (intOf s).toNat)
          case atStart => exact ⟨1, by decide, Or.inr rfl, rfl, Lib.hid fun j h1 h2 => by omega, Lib.hid (Below.refl _ _)⟩
          case round =>
            obtain ⟨i, hi0, hi1, rfl, Hn, HB⟩ := hrel
            by_cases hlt : i < N
            · have hin : (i : Int) < (N : Int) := by omega
              obtain ⟨j, hj⟩ : ∃ j, i = j + 1 := ⟨i - 1, by omega⟩
              have HJ := Lib.hid hj
              have hji : (i : Int) - 1 = (j : Int) := by omega
              have hjw : IntKind.i64.wrap (j : Int) = (j : Int) := by rw [IntKind.wrap_i64]; omega
              have hjN : (j : Int) < (N : Int) := by omega
              have hj40 : j < N := by omega
              clear hj
              obtain ⟨b0, o0, rfl, r, q⟩ := (HM.out.keep (Keep.below HB.out)).two (i := j) (k := i) (by rw [← HN.out]; exact hj40) (by rw [← HN.out]; exact hlt)
              obtain ⟨q0, q1, q2⟩ := q
              obtain ⟨r0, r1, r2⟩ := r
              clear hi1
              go_wp2_with fail
              have HBd : Hid (Below wr.heap.size wr wr.drew) := Lib.hid (Below.refl _ _).drew
              have MK : Hid (∀ w', Below wr.heap.size wr w' → w'.cell? ⟨b0, o0 + i * 3, none⟩ = some (.string (listW m i).who) ∧ w'.cell? ⟨b0, o0 + i * 3 + 1, none⟩ = some (.int .i64 (listW m i).beg) ∧ w'.cell? ⟨b0, o0 + i * 3 + 2, none⟩ = some (.int .i64 (listW m i).fin) ∧ w'.cell? ⟨b0, o0 + j * 3, none⟩ = some (.string (listW m j).who) ∧ w'.cell? ⟨b0, o0 + j * 3 + 1, none⟩ = some (.int .i64 (listW m j).beg) ∧ w'.cell? ⟨b0, o0 + j * 3 + 2, none⟩ = some (.int .i64 (listW m j).fin) ∧ Hid (Below wr.heap.size wr w')) :=
                Lib.hid fun w' hw => ⟨Keep.below hw _ _ q0, Keep.below hw _ _ q1, Keep.below hw _ _ q2, Keep.below hw _ _ r0, Keep.below hw _ _ r1, Keep.below hw _ _ r2, Lib.hid hw⟩
              refine wp_region_held_drew (S := fun w' => w'.cell? ⟨b0, o0 + i * 3, none⟩ = some (.string (listW m i).who) ∧ w'.cell? ⟨b0, o0 + i * 3 + 1, none⟩ = some (.int .i64 (listW m i).beg) ∧ w'.cell? ⟨b0, o0 + i * 3 + 2, none⟩ = some (.int .i64 (listW m i).fin) ∧ w'.cell? ⟨b0, o0 + j * 3, none⟩ = some (.string (listW m j).who) ∧ w'.cell? ⟨b0, o0 + j * 3 + 1, none⟩ = some (.int .i64 (listW m j).beg) ∧ w'.cell? ⟨b0, o0 + j * 3 + 2, none⟩ = some (.int .i64 (listW m j).fin) ∧ Hid (Below wr.heap.size wr w')) (by kernel_rfl) (MK.out _ HBd.out) (fun hHeld => ?_)
              refine wpAnyH_take (i := 0) (v := ?val0x39) rfl (by kernel_rfl) (by kernel_rfl) (by kernel_rfl) (fun _ _ _ h => h) (Or.inl ⟨by rfl, fun w9 hS9 => ?yields0x39⟩) (by assumption) ?later0x39
              case yields0x39 =>
                dsimp only at hS9
                go_simp
                try with_reducible rfl
              try simp only [Act.put, List.getElem_toArray, List.getElem_cons_succ, List.getElem_cons_zero, List.setIfInBounds_toArray, List.set_cons_zero, List.set_cons_succ]
              refine wpAnyH_take (i := 1) (v := ?val1x40) rfl (by kernel_rfl) (by kernel_rfl) (by kernel_rfl) (fun _ _ _ h => h) (Or.inl ⟨by rfl, fun w9 hS9 => ?yields1x40⟩) (by assumption) ?later1x40
              case yields1x40 =>
                dsimp only at hS9
                go_simp
                try with_reducible rfl
              try simp only [Act.put, List.getElem_toArray, List.getElem_cons_succ, List.getElem_cons_zero, List.setIfInBounds_toArray, List.set_cons_zero, List.set_cons_succ]
              refine wpAnyH_take (i := 2) (v := ?val2x41) rfl (by kernel_rfl) (by kernel_rfl) (by kernel_rfl) (fun _ _ _ h => h) (Or.inl ⟨by rfl, fun w9 hS9 => ?yields2x41⟩) (by assumption) ?later2x41
              case yields2x41 =>
                dsimp only at hS9
                go_simp
                try with_reducible rfl
              try simp only [Act.put, List.getElem_toArray, List.getElem_cons_succ, List.getElem_cons_zero, List.setIfInBounds_toArray, List.set_cons_zero, List.set_cons_succ]
              refine wpAnyH_take (i := 3) (v := ?val3x42) rfl (by kernel_rfl) (by kernel_rfl) (by kernel_rfl) (fun _ _ _ h => h) (Or.inl ⟨by rfl, fun w9 hS9 => ?yields3x42⟩) (by assumption) ?later3x42
              case yields3x42 =>
                dsimp only at hS9
                go_simp
                try with_reducible rfl
              try simp only [Act.put, List.getElem_toArray, List.getElem_cons_succ, List.getElem_cons_zero, List.setIfInBounds_toArray, List.set_cons_zero, List.set_cons_succ]
              refine wpAnyH_take (i := 4) (v := ?val4x43) rfl (by kernel_rfl) (by kernel_rfl) (by kernel_rfl) (fun _ _ _ h => h) (Or.inl ⟨by rfl, fun w9 hS9 => ?yields4x43⟩) (by assumption) ?later4x43
              case yields4x43 =>
                dsimp only at hS9
                go_simp
                try with_reducible rfl
              try simp only [Act.put, List.getElem_toArray, List.getElem_cons_succ, List.getElem_cons_zero, List.setIfInBounds_toArray, List.set_cons_zero, List.set_cons_succ]
              refine wpAnyH_take (i := 5) (v := ?val5x44) rfl (by kernel_rfl) (by kernel_rfl) (by kernel_rfl) (fun _ _ _ h => h) (Or.inl ⟨by rfl, fun w9 hS9 => ?yields5x44⟩) (by assumption) ?later5x44
              case yields5x44 =>
                dsimp only at hS9
                go_simp
                try with_reducible rfl
              try simp only [Act.put, List.getElem_toArray, List.getElem_cons_succ, List.getElem_cons_zero, List.setIfInBounds_toArray, List.set_cons_zero, List.set_cons_succ]
              refine wpAnyH_take (i := 6) (v := ?val6x45) rfl (by kernel_rfl) (by kernel_rfl) (by kernel_rfl) (fun _ _ _ h => h) (Or.inl ⟨by rfl, fun w9 hS9 => ?yields6x45⟩) (by assumption) ?later6x45
              case yields6x45 =>
                dsimp only at hS9
                go_simp
                try with_reducible rfl
              try simp only [Act.put, List.getElem_toArray, List.getElem_cons_succ, List.getElem_cons_zero, List.setIfInBounds_toArray, List.set_cons_zero, List.set_cons_succ]
              refine wpAnyH_take (i := 7) (v := ?val7x46) rfl (by kernel_rfl) (by kernel_rfl) (by kernel_rfl) (fun _ _ _ h => h) (Or.inl ⟨by rfl, fun w9 hS9 => ?yields7x46⟩) (by assumption) ?later7x46
              case yields7x46 =>
                dsimp only at hS9
                go_simp
                try with_reducible rfl
              try simp only [Act.put, List.getElem_toArray, List.getElem_cons_succ, List.getElem_cons_zero, List.setIfInBounds_toArray, List.set_cons_zero, List.set_cons_succ]
              refine wpAnyH_take (i := 8) (v := ?val8x47) rfl (by kernel_rfl) (by kernel_rfl) (by kernel_rfl) (fun _ _ _ h => h) (Or.inl ⟨by rfl, fun w9 hS9 => ?yields8x47⟩) (by assumption) ?later8x47
              case yields8x47 =>
                dsimp only at hS9
                go_simp
                try with_reducible rfl
              try simp only [Act.put, List.getElem_toArray, List.getElem_cons_succ, List.getElem_cons_zero, List.setIfInBounds_toArray, List.set_cons_zero, List.set_cons_succ]
              refine wpAnyH_ready (rs := [9]) (by kernel_rfl) (by simp) ?_
              refine AllReadyH.cons rfl (fun K hK => ?_) AllReadyH.nil
              go_simp
              go_at_call 100
              go_split_ands
              refine (xBehind_any (listW m j) (listW m i) _).mono ?_
              rintro e' w5 ⟨rfl, hb1⟩
              go_wp2_with fail
              refine hK.out _ _ ?_ (fun hHeld => ?_)
              · (try dsimp only)
                (go_split_ands; exact MK.out _ (Below.trans (Hid.out (by assumption)) (hb1.mono (Hid.out (by assumption) : Below wr.heap.size wr _).size)))
              clear hK K
              try simp only [Act.put, List.getElem_toArray, List.getElem_cons_succ, List.getElem_cons_zero, List.setIfInBounds_toArray, List.set_cons_zero, List.set_cons_succ]
              refine wpAnyH_take (i := 10) (v := ?val10x48) rfl (by kernel_rfl) (by kernel_rfl) (by kernel_rfl) (fun _ _ _ h => h) (Or.inl ⟨by rfl, fun w9 hS9 => ?yields10x48⟩) (by assumption) ?later10x48
              case yields10x48 =>
                dsimp only at hS9
                go_simp
                try with_reducible rfl
              try simp only [Act.put, List.getElem_toArray, List.getElem_cons_succ, List.getElem_cons_zero, List.setIfInBounds_toArray, List.set_cons_zero, List.set_cons_succ]
              refine wpAnyH_done (by kernel_rfl) ?_ _
              obtain ⟨-, -, -, -, -, -, HB5⟩ := hHeld
              clear HBd MK
              have HW5 := Lib.hid (HW.out.trans ((HB.out.trans (HB5.out.mono HB.out.size)).mono HW.out.size))
              have HBX := Lib.hid (HB.out.trans (HB5.out.mono HB.out.size))
              clear HB5 q0 q1 q2 r0 r1 r2
              by_cases hbd : badN m i
              · have HF := Lib.hid (show joinedErr a b = 26 ∧ joinedOut a b = [] from by
                  have e : joinedErr a b = 26 := HJE.out.trans (djoin_over HNC.out (joined_bad HRA.out HRB.out HBY.out hi0 (by rw [← HN.out]; exact hlt) hbd))
                  exact ⟨e, by unfold joinedOut; rw [e, if_neg (by decide)]⟩)
                have HBE := Lib.hid (show behindErr (listW m j) (listW m i) = 26 by
                  unfold badN at hbd
                  rw [HJ.out, Nat.add_sub_cancel] at hbd
                  rw [HJ.out]
                  exact if_pos hbd)
                rw [HBE.out]
                replace HW := HW5
                clear hbd
                go_wp2_with fail
                refine bodyPost_ret (v := .tuple #[.slice none 0 0, .int .i64 26]) (by simp [results, Try.results40, go_sem]) rfl ⟨⟨none, 0, by rw [HF.out.1, HF.out.2]; rfl, by rw [HF.out.2]; exact arrNoW _⟩, HW.out⟩
              · have HBE := Lib.hid (show behindErr (listW m j) (listW m i) = 0 by
                  unfold badN at hbd
                  rw [HJ.out, Nat.add_sub_cancel] at hbd
                  rw [HJ.out]
                  exact if_neg hbd)
                have G := Lib.hid (show ∀ k, 0 < k → k < i + 1 → ¬ badN m k from fun k h1 h2 => by
                  by_cases e : k = i
                  · subst e; exact hbd
                  · exact Hn.out k h1 (by omega))
                rw [HBE.out]
                clear hbd
                go_wp2_with fail
                go_roundw
                case rel => exact ⟨i + 1, by omega, Or.inl (by omega), by go_num, G, HBX⟩
                case measure => simp [intOf]; omega
            · have hnl : ¬ (i : Int) < (N : Int) := by omega
              have HG := Lib.hid (joined_good HRA.out HRB.out HBY.out (fun k h1 h2 => Hn.out k h1 (by rw [← HN.out] at h2; omega)))
              have HJE2 := Lib.hid (HJE.out.trans (djoin_else HNC.out HG.out.1))
              have HWz := Lib.hid (HW.out.trans (HB.out.mono HW.out.size))
              replace HW := HWz
              by_cases h40 : 40 < N
              · have HF := Lib.hid (show joinedErr a b = 8 ∧ joinedOut a b = [] from by
                  have e : joinedErr a b = 8 := HJE2.out.trans (if_pos (by have := HNL0.out; omega))
                  exact ⟨e, by unfold joinedOut; rw [e, if_neg (by decide)]⟩)
                have e1 : decide ((N : Int) > 40) = true := decide_eq_true (by omega)
                have e2 : decide ((40 : Int) < (N : Int)) = true := decide_eq_true (by omega)
                go_wp2_with fail
                refine bodyPost_ret (v := .tuple #[.slice none 0 0, .int .i64 8]) (by simp [results, Try.results40, go_sem]) rfl ⟨⟨none, 0, by rw [HF.out.1, HF.out.2]; rfl, by rw [HF.out.2]; exact arrNoW _⟩, HW.out⟩
              · have HF := Lib.hid (show joinedErr a b = 0 ∧ joinedOut a b = m from by
                  have e : joinedErr a b = 0 := HJE2.out.trans (if_neg (by have := HNL0.out; omega))
                  exact ⟨e, by unfold joinedOut; rw [if_pos e]; exact HG.out.2.symm⟩)
                have e1 : decide ((N : Int) > 40) = false := decide_eq_false (by omega)
                have e2 : decide ((40 : Int) < (N : Int)) = false := decide_eq_false (by omega)
                go_wp2_with fail
                refine bodyPost_ret (v := .tuple #[.slice Am N cm, .int .i64 0]) (by simp [results, Try.results40, go_sem]) rfl ⟨⟨Am, cm, by rw [HF.out.1, HF.out.2, HN.out], by rw [HF.out.2]; exact HM.out.keep (Keep.below HB.out)⟩, HW.out⟩
        · have HAd := Lib.hid (HA.out.keep (Keep.below HW.out))
          have HBd0 := Lib.hid (HB.out.keep (Keep.below HW.out))
          have HLL := Lib.hid (two_lists HAd.out HBd0.out 24)
          have HWL := Lib.hid (HW.out.alloc HW.out.size (.cells #[.slice A a.length c, .slice B b.length d] 24))
          go_wp2_with fail
          refine (xConcat_any [a, b] _ 2 _ _ _ HLL.out (show 2 ≤ 10 by decide) (fun i hi => by
            match i, hi with
            | 0, _ => show a.length ≤ 1000; omega
            | 1, _ => show b.length ≤ 1000; omega)).mono ?_
          rintro e' w6 ⟨⟨v, rfl, ho⟩, hb1⟩
          rw [show [a, b].length = 2 from rfl, cat_two] at ho
          replace HW := Lib.hid (HWL.out.trans (hb1.mono HWL.out.size))
          obtain ⟨N, hN⟩ : ∃ N, N = (a ++ b).length := ⟨_, rfl⟩
          have hNL : N = a.length + b.length := by rw [hN]; simp
          have HO := Lib.hid (own_low ho HWL.out.size)
          clear hb1 HWL HLL HAd HBd0 ho
          have hz1 : a = [] := List.eq_nil_of_length_eq_zero (by omega)
          have hz2 : b = [] := List.eq_nil_of_length_eq_zero (by omega)
          have ho := HO.out
          have hN0 : N = 0 := by omega
          rw [← hN, hN0, hz1, hz2] at ho
          obtain ⟨Am, cm, rfl, hm⟩ := own_row (C := fun i j => recCells (listW [] i) j) (m := 0) ho
          have HM := Lib.hid (show ArrW w6 Am [] cm from hm)
          have HZ := Lib.hid (And.intro hz1 hz2)
          have HF := Lib.hid (show joinedErr a b = 0 ∧ joinedOut a b = [] from by
            have e : joinedErr a b = 0 := by rw [HJE.out, hz1, hz2]; exact (djoin_else (fun h => absurd h.1 (by decide)) (fun h => by obtain ⟨i, hi, -⟩ := h; exact absurd hi (Nat.not_lt_zero _))).trans (if_neg (by decide))
            exact ⟨e, by unfold joinedOut; rw [if_pos e, hz1, hz2]; exact mergeL_none _⟩)
          clear hz1 hz2 ho hm HO hN hN0 hNL
          go_wp2_with fail
          refine (xSortNone_any Am cm _ _).mono ?_
          rintro e' ws ⟨rfl, hws⟩
          subst hws
          go_wp2_with fail
          go_loopw [8] (fun s wr => s = .int .i64 1 ∧ Hid (wr = ws)) (fun _ _ => 0)
          case atStart => exact ⟨rfl, Lib.hid rfl⟩
          case round =>
            obtain ⟨rfl, HR⟩ := hrel
            go_wp2_with fail
            refine bodyPost_ret (v := .tuple #[.slice Am 0 cm, .int .i64 0]) (by simp [results, Try.results40, go_sem]) rfl ⟨⟨Am, cm, by rw [HF.out.1, HF.out.2]; rfl, by rw [HF.out.2, HR.out]; exact HM.out⟩, by rw [HR.out]; exact HW.out⟩
  · obtain ⟨h1, h2⟩ := joined_err (show (if recsErr true a ≠ 0 then recsErr true a else recsErr true b) ≠ 0 by rw [← hE]; exact he)
    have HF := Lib.hid (show joinedErr a b = E ∧ joinedOut a b = [] from ⟨h1.trans hE.symm, h2⟩)
    have e1 : (E != 0) = true := by simpa using he
    have e2 : (E == 0) = false := by simpa using he
    clear he hE h1 h2
    go_wp2_with fail
    refine bodyPost_ret (v := .tuple #[.slice none 0 0, .int .i64 E]) (by simp [results, Try.results40, go_sem]) rfl ⟨⟨none, 0, by rw [HF.out.1, HF.out.2]; rfl, by rw [HF.out.2]; exact arrNoW _⟩, HW.out⟩
end Go.Proofs.Ytolicafhbeiciaa
/- The contract of Joined. No condition. -/


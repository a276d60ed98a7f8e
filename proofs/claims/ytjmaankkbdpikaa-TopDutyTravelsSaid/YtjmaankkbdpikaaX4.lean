/- Groups of records. Conditions: records are in order, of small numbers. -/
import Derived.Test.YtjmaankkbdpikaaX1
import Derived.Test.YtjmaankkbdpikaaD18
namespace Go.Proofs.Ytjmaankkbdpikaa
open Go.RowKit Fs

/-- Groups by any rule of which record goes on with the one before. -/
def Fs.groupsBy (g : Nat → Bool) : Nat → List (Int × Int)
  | 0 => []
  | k + 1 => if g k then (groupsBy g k).dropLast ++ [(((groupsBy g k).getLastD (0, 0)).1, (k : Int))] else groupsBy g k ++ [((k : Int), (k : Int))]
theorem Fs.groupsBy_is (l : List WRec) (gap : Int) : ∀ k, groupsTo l gap k = groupsBy (goesOn l gap) k
  | 0 => rfl
  | k + 1 => by rw [groupsTo, groupsBy, groupsBy_is l gap k]
theorem Fs.groupsBy_pos (g : Nat → Bool) (k : Nat) : groupsBy g (k + 1) ≠ [] := by
  rw [groupsBy]
  split <;> simp
theorem Fs.groupsBy_len {g : Nat → Bool} (h0 : g 0 = false) : ∀ k, (groupsBy g k).length ≤ k
  | 0 => Nat.le_refl _
  | k + 1 => by
    have ih := groupsBy_len h0 k
    rw [groupsBy]
    split
    · rw [List.length_append, List.length_dropLast, List.length_singleton]
      rename_i h
      cases k with
      | zero => exact absurd h (by rw [h0]; decide)
      | succ k =>
        have := List.length_pos_iff.2 (groupsBy_pos g k)
        omega
    · rw [List.length_append, List.length_singleton]; omega
theorem own_low2 {w : World} {B B' : Nat} {e : TypeId} {size n : Nat} {v : Value} {xs : List Value} (h : w.ownsRow B e size v n xs) (hb : B' ≤ B) : w.ownsRow B' e size v n xs := own_low h hb

/-! ### the closures -/
set_option maxHeartbeats 800000 in
theorem xEnded_any (y x : WRec) (g : Nat) (gap : Int) (w : World) (hg : w.cell? ⟨g, 0, none⟩ = some (.int .i64 gap)) (h0 : 0 ≤ x.beg) (h1 : x.beg ≤ 9000000000) (h2 : 0 ≤ y.fin) (h3 : y.fin ≤ 9000000000) :
    Calls Try.prog 93 #[recV y, recV x, .pointer (some ⟨g, 0, none⟩)] w fun e w' => e = .returned (.bool (decide (gap ≤ x.beg - y.fin))) ∧ Below w.heap.size w w' := by
  have a0 := (Keep.alloc (w.alloc (.cells #[.string y.who, .int .i64 y.beg, .int .i64 y.fin] 91)) (.cells #[.string x.who, .int .i64 x.beg, .int .i64 x.fin] 91)) _ _ (cellNew w #[.string y.who, .int .i64 y.beg, .int .i64 y.fin] 91 2)
  have a1 := cellNew1 w (.cells #[.string y.who, .int .i64 y.beg, .int .i64 y.fin] 91) #[.string x.who, .int .i64 x.beg, .int .i64 x.fin] 91 1
  have a2 := Keep.alloc (w.alloc (.cells #[.string y.who, .int .i64 y.beg, .int .i64 y.fin] 91)) (.cells #[.string x.who, .int .i64 x.beg, .int .i64 x.fin] 91) _ _ (Keep.alloc w (.cells #[.string y.who, .int .i64 y.beg, .int .i64 y.fin] 91) _ _ hg)
  clear hg
  go_enter Try.func93, Try.ntmps93
  go_wp2_with fail
  go_ret
  exact ⟨rfl, ((Below.refl _ _).alloc (Nat.le_refl _) _).alloc (by simp) _⟩
set_option maxHeartbeats 400000 in
theorem xEndedBy_any (gap : Int) (w : World) :
    Calls Try.prog 82 #[.int .i64 gap] w fun e w' => (∃ g, e = .returned (.func (.func 93) #[] #[.pointer (some ⟨g, 0, none⟩)]) ∧ w'.cell? ⟨g, 0, none⟩ = some (.int .i64 gap)) ∧ Below w.heap.size w w' := by
  have c0 := Lib.hid (cellNew w #[.int .i64 gap] 3 0)
  go_enter Try.func82, Try.ntmps82
  go_wp2_with fail
  go_ret
  exact ⟨⟨_, rfl, c0.out⟩, (Below.refl _ _).alloc (Nat.le_refl _) _⟩
set_option linter.unusedSimpArgs false in
set_option maxHeartbeats 12800000 in
set_option maxRecDepth 100000 in
theorem xGroupsE_any (l : List WRec) (A : Option Addr) (c : Nat) (q : Nat) (gap : Int) (w : World) (h : ArrW w A l c) (hF : Fit l) (hq : w.cell? ⟨q, 0, none⟩ = some (.int .i64 gap)) :
    Calls Try.prog 81 #[.slice A l.length c, .func (.func 93) #[] #[.pointer (some ⟨q, 0, none⟩)]] w fun e w' => (∃ v, e = .returned v ∧ w'.ownsRow w.heap.size 134 2 v (groupsBy (goesOn l gap) l.length).length (pairVals (groupsBy (goesOn l gap) l.length))) ∧ Below w.heap.size w w' := by
  obtain ⟨i0, hi, hz0, hz1, hz2⟩ := info_parts Try.infoTwo
  have b1 := h.le.1
  have b2 := h.le.2
  have HA := Lib.hid h
  clear h
  have HFT := Lib.hid hF
  have hlen := hF.len
  clear hF
  have HQ := Lib.hid hq
  clear hq
  obtain ⟨g, hgg⟩ : ∃ g, g = goesOn l gap := ⟨_, rfl⟩
  have HGG := Lib.hid hgg
  have hg0 : g 0 = false := by rw [hgg]; exact rfl
  rw [← hgg]
  clear hgg
  go_enter Try.func81, Try.ntmps81
  go_wp2_with fail
  go_loopw [5, 9] (fun v i wr => ∃ (k : Nat), k ≤ l.length ∧ i = .int .i64 k ∧ Hid (wr.ownsRow w.heap.size 134 2 v (groupsBy g k).length (pairVals (groupsBy g k))) ∧ Hid (Below w.heap.size w wr)) (fun _ i _ => l.length - (intOf i).toNat)
  case atStart => exact ⟨0, Nat.zero_le _, rfl, Lib.hid (World.ownsRow_nil _ _ _ _), Lib.hid (Below.refl _ _)⟩
  case round =>
    obtain ⟨k, hk, rfl, HO, HB⟩ := hrel
    have hgl := groupsBy_len hg0 k
    by_cases hlt : k < l.length
    · have hkn : (k : Int) < (l.length : Int) := by omega
      by_cases h0 : 0 < k
      · have d6 : decide (k = 0) = false := decide_eq_false (by omega)
        have d7 : ((k : Int) == 0) = false := by simp; omega
        obtain ⟨j, hj⟩ : ∃ j, k = j + 1 := ⟨k - 1, by omega⟩
        have hkp : (k : Int) - 1 = (j : Int) := by omega
        have hwj : IntKind.i64.wrap (j : Int) = (j : Int) := by rw [IntKind.wrap_i64]; omega
        have hk1 : (j : Int) < (l.length : Int) := by omega
        obtain ⟨b, o, rfl, r, q⟩ := (HA.out.keep (Keep.below HB.out)).two (i := j) (by omega) hlt
        obtain ⟨q0, q1, q2⟩ := q
        obtain ⟨r0, r1, r2⟩ := r
        have KQ : Hid (∀ w', Below wr.heap.size wr w' → w'.cell? ⟨q, 0, none⟩ = some (.int .i64 gap)) := Lib.hid fun w' hw => Keep.below (HB.out.trans (hw.mono HB.out.size)) _ _ HQ.out
        have x1 := HFT.out.one k hlt
        have x2 := HFT.out.one j (by omega)
        have x3 : 0 ≤ (listW l k).beg := x1.1
        have x4 : (listW l k).beg ≤ 9000000000 := by omega
        have x5 : 0 ≤ (listW l j).fin := by omega
        have x6 : (listW l j).fin ≤ 9000000000 := by omega
        clear x1 x2
        have HJ := Lib.hid hj
        clear hj
        cases hgk : g k with
        | true =>
          have HC := Lib.hid hgk
          have HX := Lib.hid (show decide (gap ≤ (listW l k).beg - (listW l j).fin) = false by
            have hz : goesOn l gap k = true := by rw [← HGG.out]; exact HC.out
            rw [HJ.out, goesOn_succ] at hz
            rw [HJ.out]
            simp at hz ⊢
            omega)
          go_wp2_with fail
          have HBd : Hid (Below wr.heap.size wr wr.drew) := Lib.hid (Below.refl _ _).drew
          have MK : Hid (∀ w', Below wr.heap.size wr w' → w'.cell? ⟨b, o + k * 3, none⟩ = some (.string (listW l k).who) ∧ w'.cell? ⟨b, o + k * 3 + 1, none⟩ = some (.int .i64 (listW l k).beg) ∧ w'.cell? ⟨b, o + k * 3 + 2, none⟩ = some (.int .i64 (listW l k).fin) ∧ w'.cell? ⟨b, o + j * 3, none⟩ = some (.string (listW l j).who) ∧ w'.cell? ⟨b, o + j * 3 + 1, none⟩ = some (.int .i64 (listW l j).beg) ∧ w'.cell? ⟨b, o + j * 3 + 2, none⟩ = some (.int .i64 (listW l j).fin) ∧ Hid (Below wr.heap.size wr w')) :=
            Lib.hid fun w' hw => ⟨Keep.below hw _ _ q0, Keep.below hw _ _ q1, Keep.below hw _ _ q2, Keep.below hw _ _ r0, Keep.below hw _ _ r1, Keep.below hw _ _ r2, Lib.hid hw⟩
          refine wp_region_held_drew (S := fun w' => w'.cell? ⟨b, o + k * 3, none⟩ = some (.string (listW l k).who) ∧ w'.cell? ⟨b, o + k * 3 + 1, none⟩ = some (.int .i64 (listW l k).beg) ∧ w'.cell? ⟨b, o + k * 3 + 2, none⟩ = some (.int .i64 (listW l k).fin) ∧ w'.cell? ⟨b, o + j * 3, none⟩ = some (.string (listW l j).who) ∧ w'.cell? ⟨b, o + j * 3 + 1, none⟩ = some (.int .i64 (listW l j).beg) ∧ w'.cell? ⟨b, o + j * 3 + 2, none⟩ = some (.int .i64 (listW l j).fin) ∧ Hid (Below wr.heap.size wr w')) (by kernel_rfl) (MK.out _ HBd.out) (fun hHeld => ?_)
          refine wpAnyH_take (i := 0) (v := ?val0x1) rfl (by kernel_rfl) (by kernel_rfl) (by kernel_rfl) (fun _ _ _ h => h) (Or.inl ⟨by rfl, fun w9 hS9 => ?yields0x1⟩) (by assumption) ?later0x1
          case yields0x1 =>
            dsimp only at hS9
            go_simp
            try with_reducible rfl
          try simp only [Act.put, List.getElem_toArray, List.getElem_cons_succ, List.getElem_cons_zero, List.setIfInBounds_toArray, List.set_cons_zero, List.set_cons_succ]
          refine wpAnyH_take (i := 1) (v := ?val1x2) rfl (by kernel_rfl) (by kernel_rfl) (by kernel_rfl) (fun _ _ _ h => h) (Or.inl ⟨by rfl, fun w9 hS9 => ?yields1x2⟩) (by assumption) ?later1x2
          case yields1x2 =>
            dsimp only at hS9
            go_simp
            try with_reducible rfl
          try simp only [Act.put, List.getElem_toArray, List.getElem_cons_succ, List.getElem_cons_zero, List.setIfInBounds_toArray, List.set_cons_zero, List.set_cons_succ]
          refine wpAnyH_take (i := 2) (v := ?val2x3) rfl (by kernel_rfl) (by kernel_rfl) (by kernel_rfl) (fun _ _ _ h => h) (Or.inl ⟨by rfl, fun w9 hS9 => ?yields2x3⟩) (by assumption) ?later2x3
          case yields2x3 =>
            dsimp only at hS9
            go_simp
            try with_reducible rfl
          try simp only [Act.put, List.getElem_toArray, List.getElem_cons_succ, List.getElem_cons_zero, List.setIfInBounds_toArray, List.set_cons_zero, List.set_cons_succ]
          refine wpAnyH_take (i := 3) (v := ?val3x4) rfl (by kernel_rfl) (by kernel_rfl) (by kernel_rfl) (fun _ _ _ h => h) (Or.inl ⟨by rfl, fun w9 hS9 => ?yields3x4⟩) (by assumption) ?later3x4
          case yields3x4 =>
            dsimp only at hS9
            go_simp
            try with_reducible rfl
          try simp only [Act.put, List.getElem_toArray, List.getElem_cons_succ, List.getElem_cons_zero, List.setIfInBounds_toArray, List.set_cons_zero, List.set_cons_succ]
          refine wpAnyH_take (i := 4) (v := ?val4x5) rfl (by kernel_rfl) (by kernel_rfl) (by kernel_rfl) (fun _ _ _ h => h) (Or.inl ⟨by rfl, fun w9 hS9 => ?yields4x5⟩) (by assumption) ?later4x5
          case yields4x5 =>
            dsimp only at hS9
            go_simp
            try with_reducible rfl
          try simp only [Act.put, List.getElem_toArray, List.getElem_cons_succ, List.getElem_cons_zero, List.setIfInBounds_toArray, List.set_cons_zero, List.set_cons_succ]
          refine wpAnyH_take (i := 5) (v := ?val5x6) rfl (by kernel_rfl) (by kernel_rfl) (by kernel_rfl) (fun _ _ _ h => h) (Or.inl ⟨by rfl, fun w9 hS9 => ?yields5x6⟩) (by assumption) ?later5x6
          case yields5x6 =>
            dsimp only at hS9
            go_simp
            try with_reducible rfl
          try simp only [Act.put, List.getElem_toArray, List.getElem_cons_succ, List.getElem_cons_zero, List.setIfInBounds_toArray, List.set_cons_zero, List.set_cons_succ]
          refine wpAnyH_take (i := 6) (v := ?val6x7) rfl (by kernel_rfl) (by kernel_rfl) (by kernel_rfl) (fun _ _ _ h => h) (Or.inl ⟨by rfl, fun w9 hS9 => ?yields6x7⟩) (by assumption) ?later6x7
          case yields6x7 =>
            dsimp only at hS9
            go_simp
            try with_reducible rfl
          try simp only [Act.put, List.getElem_toArray, List.getElem_cons_succ, List.getElem_cons_zero, List.setIfInBounds_toArray, List.set_cons_zero, List.set_cons_succ]
          refine wpAnyH_take (i := 7) (v := ?val7x8) rfl (by kernel_rfl) (by kernel_rfl) (by kernel_rfl) (fun _ _ _ h => h) (Or.inl ⟨by rfl, fun w9 hS9 => ?yields7x8⟩) (by assumption) ?later7x8
          case yields7x8 =>
            dsimp only at hS9
            go_simp
            try with_reducible rfl
          try simp only [Act.put, List.getElem_toArray, List.getElem_cons_succ, List.getElem_cons_zero, List.setIfInBounds_toArray, List.set_cons_zero, List.set_cons_succ]
          refine wpAnyH_take (i := 8) (v := ?val8x9) rfl (by kernel_rfl) (by kernel_rfl) (by kernel_rfl) (fun _ _ _ h => h) (Or.inl ⟨by rfl, fun w9 hS9 => ?yields8x9⟩) (by assumption) ?later8x9
          case yields8x9 =>
            dsimp only at hS9
            go_simp
            try with_reducible rfl
          try simp only [Act.put, List.getElem_toArray, List.getElem_cons_succ, List.getElem_cons_zero, List.setIfInBounds_toArray, List.set_cons_zero, List.set_cons_succ]
          refine wpAnyH_take (i := 9) (v := ?val9x10) rfl (by kernel_rfl) (by kernel_rfl) (by kernel_rfl) (fun _ _ _ h => h) (Or.inl ⟨by rfl, fun w9 hS9 => ?yields9x10⟩) (by assumption) ?later9x10
          case yields9x10 =>
            dsimp only at hS9
            go_simp
            try with_reducible rfl
          try simp only [Act.put, List.getElem_toArray, List.getElem_cons_succ, List.getElem_cons_zero, List.setIfInBounds_toArray, List.set_cons_zero, List.set_cons_succ]
          refine wpAnyH_take (i := 10) (v := ?val10x11) rfl (by kernel_rfl) (by kernel_rfl) (by kernel_rfl) (fun _ _ _ h => h) (Or.inl ⟨by rfl, fun w9 hS9 => ?yields10x11⟩) (by assumption) ?later10x11
          case yields10x11 =>
            dsimp only at hS9
            go_simp
            try with_reducible rfl
          try simp only [Act.put, List.getElem_toArray, List.getElem_cons_succ, List.getElem_cons_zero, List.setIfInBounds_toArray, List.set_cons_zero, List.set_cons_succ]
          refine wpAnyH_take (i := 11) (v := ?val11x12) rfl (by kernel_rfl) (by kernel_rfl) (by kernel_rfl) (fun _ _ _ h => h) (Or.inl ⟨by rfl, fun w9 hS9 => ?yields11x12⟩) (by assumption) ?later11x12
          case yields11x12 =>
            dsimp only at hS9
            go_simp
            try with_reducible rfl
          try simp only [Act.put, List.getElem_toArray, List.getElem_cons_succ, List.getElem_cons_zero, List.setIfInBounds_toArray, List.set_cons_zero, List.set_cons_succ]
          refine wpAnyH_take (i := 12) (v := ?val12x13) rfl (by kernel_rfl) (by kernel_rfl) (by kernel_rfl) (fun _ _ _ h => h) (Or.inl ⟨by rfl, fun w9 hS9 => ?yields12x13⟩) (by assumption) ?later12x13
          case yields12x13 =>
            dsimp only at hS9
            go_simp
            try with_reducible rfl
          try simp only [Act.put, List.getElem_toArray, List.getElem_cons_succ, List.getElem_cons_zero, List.setIfInBounds_toArray, List.set_cons_zero, List.set_cons_succ]
          refine wpAnyH_ready (rs := [13]) (by kernel_rfl) (by simp) ?_
          refine AllReadyH.cons rfl (fun K hK => ?_) AllReadyH.nil
          go_simp
          go_at_call 93
          go_split_ands
          refine (xEnded_any (listW l j) (listW l k) q gap _ (KQ.out _ (Hid.out (by assumption))) x3 x4 x5 x6).mono ?_
          rintro e' w5 ⟨rfl, hb1⟩
          go_wp2_with fail
          refine hK.out _ _ ?_ (fun hHeld => ?_)
          · (try dsimp only)
            (go_split_ands; exact MK.out _ (Below.trans (Hid.out (by assumption)) (hb1.mono (Hid.out (by assumption) : Below wr.heap.size wr _).size)))
          clear hK K
          try simp only [Act.put, List.getElem_toArray, List.getElem_cons_succ, List.getElem_cons_zero, List.setIfInBounds_toArray, List.set_cons_zero, List.set_cons_succ]
          refine wpAnyH_take (i := 14) (v := ?val14x14) rfl (by kernel_rfl) (by kernel_rfl) (by kernel_rfl) (fun _ _ _ h => h) (Or.inl ⟨by rfl, fun w9 hS9 => ?yields14x14⟩) (by assumption) ?later14x14
          case yields14x14 =>
            dsimp only at hS9
            go_simp
            try with_reducible rfl
          try simp only [Act.put, List.getElem_toArray, List.getElem_cons_succ, List.getElem_cons_zero, List.setIfInBounds_toArray, List.set_cons_zero, List.set_cons_succ]
          refine wpAnyH_done (by kernel_rfl) ?_ _
          obtain ⟨-, -, -, -, -, -, HB5⟩ := hHeld
          clear HBd MK
          rw [HX.out]
          replace HO := Lib.hid (below_of_own HO.out HB5.out)
          replace HB := Lib.hid (HB.out.trans (HB5.out.mono HB.out.size))
          clear HB5 q0 q1 q2 r0 r1 r2 hgk
          have hpos : 0 < (groupsBy g k).length := by rw [HJ.out]; exact List.length_pos_iff.2 (groupsBy_pos g j)
          obtain ⟨M, x, y, hM⟩ : ∃ M x y, groupsBy g k = M ++ [(x, y)] := by
            rcases List.eq_nil_or_concat (groupsBy g k) with e | ⟨M, p, e⟩
            · rw [e] at hpos; exact absurd hpos (by simp)
            · exact ⟨M, p.1, p.2, by rw [e, List.concat_eq_append]⟩
          have HG := Lib.hid (show groupsBy g (k + 1) = M ++ [(x, (k : Int))] by rw [groupsBy, if_pos HC.out, hM, List.dropLast_concat, List.getLastD_concat])
          obtain ⟨n, hn⟩ : ∃ n, n = (groupsBy g k).length := ⟨_, rfl⟩
          have hnm : n = M.length + 1 := by rw [hn, hM]; simp
          have hng : n ≤ k := by omega
          rw [← hn, hM] at HO
          obtain ⟨g5, c5, rfl, hgw, hc5, hc6⟩ := own_is HO.out (by omega)
          obtain ⟨m, hm⟩ : ∃ m, m = M.length := ⟨_, rfl⟩
          have cF := HO.out.cellAt (m * 2 + 1) (by omega)
          rw [hm, pairVals_get, ← hm] at cF
          have fF := HO.out.frozenAt (m * 2 + 1)
          have hw1 : IntKind.i64.wrap ((n : Int) - 1) = (m : Int) := by rw [IntKind.wrap_i64]; omega
          have hw0 : (n : Int) - 1 = (m : Int) := by omega
          have hmn : (m : Int) < (n : Int) := by omega
          have hcm : c5 ≤ 9223372036854775807 := hc6
          have HGN := Lib.hid (show (groupsBy g (k + 1)).length = n by rw [HG.out, hnm]; simp)
          have HM := Lib.hid hm
          clear hpos hnm hn hM hm
          go_wp2_with fail
          go_roundw
          case rel =>
            refine ⟨k + 1, by omega, by go_num, Lib.hid ?_, Lib.hid ?_⟩
            · rw [HGN.out, HG.out, ← pairVals_last M x y k, ← HM.out]
              exact (HO.out.stored (m * 2 + 1) (.int .i64 k)).1
            · exact HB.out.setCell (p := ⟨g5, m * 2 + 1, none⟩) hgw _
          case measure => simp [intOf]; omega
        | false =>
          have HC := Lib.hid hgk
          have HX := Lib.hid (show decide (gap ≤ (listW l k).beg - (listW l j).fin) = true by
            have hz : goesOn l gap k = false := by rw [← HGG.out]; exact HC.out
            rw [HJ.out, goesOn_succ] at hz
            rw [HJ.out]
            simp at hz ⊢
            omega)
          go_wp2_with fail
          have HBd : Hid (Below wr.heap.size wr wr.drew) := Lib.hid (Below.refl _ _).drew
          have MK : Hid (∀ w', Below wr.heap.size wr w' → w'.cell? ⟨b, o + k * 3, none⟩ = some (.string (listW l k).who) ∧ w'.cell? ⟨b, o + k * 3 + 1, none⟩ = some (.int .i64 (listW l k).beg) ∧ w'.cell? ⟨b, o + k * 3 + 2, none⟩ = some (.int .i64 (listW l k).fin) ∧ w'.cell? ⟨b, o + j * 3, none⟩ = some (.string (listW l j).who) ∧ w'.cell? ⟨b, o + j * 3 + 1, none⟩ = some (.int .i64 (listW l j).beg) ∧ w'.cell? ⟨b, o + j * 3 + 2, none⟩ = some (.int .i64 (listW l j).fin) ∧ Hid (Below wr.heap.size wr w')) :=
            Lib.hid fun w' hw => ⟨Keep.below hw _ _ q0, Keep.below hw _ _ q1, Keep.below hw _ _ q2, Keep.below hw _ _ r0, Keep.below hw _ _ r1, Keep.below hw _ _ r2, Lib.hid hw⟩
          refine wp_region_held_drew (S := fun w' => w'.cell? ⟨b, o + k * 3, none⟩ = some (.string (listW l k).who) ∧ w'.cell? ⟨b, o + k * 3 + 1, none⟩ = some (.int .i64 (listW l k).beg) ∧ w'.cell? ⟨b, o + k * 3 + 2, none⟩ = some (.int .i64 (listW l k).fin) ∧ w'.cell? ⟨b, o + j * 3, none⟩ = some (.string (listW l j).who) ∧ w'.cell? ⟨b, o + j * 3 + 1, none⟩ = some (.int .i64 (listW l j).beg) ∧ w'.cell? ⟨b, o + j * 3 + 2, none⟩ = some (.int .i64 (listW l j).fin) ∧ Hid (Below wr.heap.size wr w')) (by kernel_rfl) (MK.out _ HBd.out) (fun hHeld => ?_)
          refine wpAnyH_take (i := 0) (v := ?val0x15) rfl (by kernel_rfl) (by kernel_rfl) (by kernel_rfl) (fun _ _ _ h => h) (Or.inl ⟨by rfl, fun w9 hS9 => ?yields0x15⟩) (by assumption) ?later0x15
          case yields0x15 =>
            dsimp only at hS9
            go_simp
            try with_reducible rfl
          try simp only [Act.put, List.getElem_toArray, List.getElem_cons_succ, List.getElem_cons_zero, List.setIfInBounds_toArray, List.set_cons_zero, List.set_cons_succ]
          refine wpAnyH_take (i := 1) (v := ?val1x16) rfl (by kernel_rfl) (by kernel_rfl) (by kernel_rfl) (fun _ _ _ h => h) (Or.inl ⟨by rfl, fun w9 hS9 => ?yields1x16⟩) (by assumption) ?later1x16
          case yields1x16 =>
            dsimp only at hS9
            go_simp
            try with_reducible rfl
          try simp only [Act.put, List.getElem_toArray, List.getElem_cons_succ, List.getElem_cons_zero, List.setIfInBounds_toArray, List.set_cons_zero, List.set_cons_succ]
          refine wpAnyH_take (i := 2) (v := ?val2x17) rfl (by kernel_rfl) (by kernel_rfl) (by kernel_rfl) (fun _ _ _ h => h) (Or.inl ⟨by rfl, fun w9 hS9 => ?yields2x17⟩) (by assumption) ?later2x17
          case yields2x17 =>
            dsimp only at hS9
            go_simp
            try with_reducible rfl
          try simp only [Act.put, List.getElem_toArray, List.getElem_cons_succ, List.getElem_cons_zero, List.setIfInBounds_toArray, List.set_cons_zero, List.set_cons_succ]
          refine wpAnyH_take (i := 3) (v := ?val3x18) rfl (by kernel_rfl) (by kernel_rfl) (by kernel_rfl) (fun _ _ _ h => h) (Or.inl ⟨by rfl, fun w9 hS9 => ?yields3x18⟩) (by assumption) ?later3x18
          case yields3x18 =>
            dsimp only at hS9
            go_simp
            try with_reducible rfl
          try simp only [Act.put, List.getElem_toArray, List.getElem_cons_succ, List.getElem_cons_zero, List.setIfInBounds_toArray, List.set_cons_zero, List.set_cons_succ]
          refine wpAnyH_take (i := 4) (v := ?val4x19) rfl (by kernel_rfl) (by kernel_rfl) (by kernel_rfl) (fun _ _ _ h => h) (Or.inl ⟨by rfl, fun w9 hS9 => ?yields4x19⟩) (by assumption) ?later4x19
          case yields4x19 =>
            dsimp only at hS9
            go_simp
            try with_reducible rfl
          try simp only [Act.put, List.getElem_toArray, List.getElem_cons_succ, List.getElem_cons_zero, List.setIfInBounds_toArray, List.set_cons_zero, List.set_cons_succ]
          refine wpAnyH_take (i := 5) (v := ?val5x20) rfl (by kernel_rfl) (by kernel_rfl) (by kernel_rfl) (fun _ _ _ h => h) (Or.inl ⟨by rfl, fun w9 hS9 => ?yields5x20⟩) (by assumption) ?later5x20
          case yields5x20 =>
            dsimp only at hS9
            go_simp
            try with_reducible rfl
          try simp only [Act.put, List.getElem_toArray, List.getElem_cons_succ, List.getElem_cons_zero, List.setIfInBounds_toArray, List.set_cons_zero, List.set_cons_succ]
          refine wpAnyH_take (i := 6) (v := ?val6x21) rfl (by kernel_rfl) (by kernel_rfl) (by kernel_rfl) (fun _ _ _ h => h) (Or.inl ⟨by rfl, fun w9 hS9 => ?yields6x21⟩) (by assumption) ?later6x21
          case yields6x21 =>
            dsimp only at hS9
            go_simp
            try with_reducible rfl
          try simp only [Act.put, List.getElem_toArray, List.getElem_cons_succ, List.getElem_cons_zero, List.setIfInBounds_toArray, List.set_cons_zero, List.set_cons_succ]
          refine wpAnyH_take (i := 7) (v := ?val7x22) rfl (by kernel_rfl) (by kernel_rfl) (by kernel_rfl) (fun _ _ _ h => h) (Or.inl ⟨by rfl, fun w9 hS9 => ?yields7x22⟩) (by assumption) ?later7x22
          case yields7x22 =>
            dsimp only at hS9
            go_simp
            try with_reducible rfl
          try simp only [Act.put, List.getElem_toArray, List.getElem_cons_succ, List.getElem_cons_zero, List.setIfInBounds_toArray, List.set_cons_zero, List.set_cons_succ]
          refine wpAnyH_take (i := 8) (v := ?val8x23) rfl (by kernel_rfl) (by kernel_rfl) (by kernel_rfl) (fun _ _ _ h => h) (Or.inl ⟨by rfl, fun w9 hS9 => ?yields8x23⟩) (by assumption) ?later8x23
          case yields8x23 =>
            dsimp only at hS9
            go_simp
            try with_reducible rfl
          try simp only [Act.put, List.getElem_toArray, List.getElem_cons_succ, List.getElem_cons_zero, List.setIfInBounds_toArray, List.set_cons_zero, List.set_cons_succ]
          refine wpAnyH_take (i := 9) (v := ?val9x24) rfl (by kernel_rfl) (by kernel_rfl) (by kernel_rfl) (fun _ _ _ h => h) (Or.inl ⟨by rfl, fun w9 hS9 => ?yields9x24⟩) (by assumption) ?later9x24
          case yields9x24 =>
            dsimp only at hS9
            go_simp
            try with_reducible rfl
          try simp only [Act.put, List.getElem_toArray, List.getElem_cons_succ, List.getElem_cons_zero, List.setIfInBounds_toArray, List.set_cons_zero, List.set_cons_succ]
          refine wpAnyH_take (i := 10) (v := ?val10x25) rfl (by kernel_rfl) (by kernel_rfl) (by kernel_rfl) (fun _ _ _ h => h) (Or.inl ⟨by rfl, fun w9 hS9 => ?yields10x25⟩) (by assumption) ?later10x25
          case yields10x25 =>
            dsimp only at hS9
            go_simp
            try with_reducible rfl
          try simp only [Act.put, List.getElem_toArray, List.getElem_cons_succ, List.getElem_cons_zero, List.setIfInBounds_toArray, List.set_cons_zero, List.set_cons_succ]
          refine wpAnyH_take (i := 11) (v := ?val11x26) rfl (by kernel_rfl) (by kernel_rfl) (by kernel_rfl) (fun _ _ _ h => h) (Or.inl ⟨by rfl, fun w9 hS9 => ?yields11x26⟩) (by assumption) ?later11x26
          case yields11x26 =>
            dsimp only at hS9
            go_simp
            try with_reducible rfl
          try simp only [Act.put, List.getElem_toArray, List.getElem_cons_succ, List.getElem_cons_zero, List.setIfInBounds_toArray, List.set_cons_zero, List.set_cons_succ]
          refine wpAnyH_take (i := 12) (v := ?val12x27) rfl (by kernel_rfl) (by kernel_rfl) (by kernel_rfl) (fun _ _ _ h => h) (Or.inl ⟨by rfl, fun w9 hS9 => ?yields12x27⟩) (by assumption) ?later12x27
          case yields12x27 =>
            dsimp only at hS9
            go_simp
            try with_reducible rfl
          try simp only [Act.put, List.getElem_toArray, List.getElem_cons_succ, List.getElem_cons_zero, List.setIfInBounds_toArray, List.set_cons_zero, List.set_cons_succ]
          refine wpAnyH_ready (rs := [13]) (by kernel_rfl) (by simp) ?_
          refine AllReadyH.cons rfl (fun K hK => ?_) AllReadyH.nil
          go_simp
          go_at_call 93
          go_split_ands
          refine (xEnded_any (listW l j) (listW l k) q gap _ (KQ.out _ (Hid.out (by assumption))) x3 x4 x5 x6).mono ?_
          rintro e' w5 ⟨rfl, hb1⟩
          go_wp2_with fail
          refine hK.out _ _ ?_ (fun hHeld => ?_)
          · (try dsimp only)
            (go_split_ands; exact MK.out _ (Below.trans (Hid.out (by assumption)) (hb1.mono (Hid.out (by assumption) : Below wr.heap.size wr _).size)))
          clear hK K
          try simp only [Act.put, List.getElem_toArray, List.getElem_cons_succ, List.getElem_cons_zero, List.setIfInBounds_toArray, List.set_cons_zero, List.set_cons_succ]
          refine wpAnyH_take (i := 14) (v := ?val14x28) rfl (by kernel_rfl) (by kernel_rfl) (by kernel_rfl) (fun _ _ _ h => h) (Or.inl ⟨by rfl, fun w9 hS9 => ?yields14x28⟩) (by assumption) ?later14x28
          case yields14x28 =>
            dsimp only at hS9
            go_simp
            try with_reducible rfl
          try simp only [Act.put, List.getElem_toArray, List.getElem_cons_succ, List.getElem_cons_zero, List.setIfInBounds_toArray, List.set_cons_zero, List.set_cons_succ]
          refine wpAnyH_done (by kernel_rfl) ?_ _
          obtain ⟨-, -, -, -, -, -, HB5⟩ := hHeld
          clear HBd MK
          rw [HX.out]
          replace HO := Lib.hid (below_of_own HO.out HB5.out)
          replace HB := Lib.hid (HB.out.trans (HB5.out.mono HB.out.size))
          clear HB5 q0 q1 q2 r0 r1 r2 hgk
          obtain ⟨wr, hwr⟩ : ∃ wz, wz = w5 := ⟨_, rfl⟩
          subst hwr
          have HG := Lib.hid (show groupsBy g (k + 1) = groupsBy g k ++ [((k : Int), (k : Int))] by rw [groupsBy, if_neg (by rw [HC.out]; decide)])
          have HD := Lib.hid (below_of_own HO.out (Below.refl _ _))
          have HS := Lib.hid HB.out.size
          go_wp2_with (at_builtin
                       refine wpList_append_own _ rfl (.tmp 27) (.tmp 31) 130 rfl w.heap.size 134 i0 _ 2 16 Try.underlying130 hi hz0 hz1 hz2 rfl (by decide) _ _ _ rfl ((HD.out).alloc _) ⟨_, 0, none⟩ 1 1 [.int .i64 k, .int .i64 k] rfl rfl ?c1 ?c2 ?c3 ?c4 ?c5 ?_)
          case c1 => exact World.news_of_block (heap_alloc_new _ _)
          case c2 => intro u hu; simp at hu; rw [hu]; rfl
          case c3 => unfold maxLen; omega
          case c4 => omega
          case c5 => have := HS.out; simp; omega
          intro v9 w9 ho9 hg9 _
          have HB9 := Lib.hid ((HB.out.alloc HB.out.size (.cells #[.int .i64 k, .int .i64 k] 134)).grown hg9 (by have := HS.out; simp; omega) (fun j hj => ((HD.out).lt j hj).1))
          have HO9 := Lib.hid (show w9.ownsRow w.heap.size 134 2 v9 ((groupsBy g k).length + 1) (pairVals (groupsBy g k ++ [((k : Int), (k : Int))])) by rw [pairVals_more]; exact ho9)
          clear ho9 hg9
          obtain ⟨m, hm⟩ : ∃ m, m = (groupsBy g k).length := ⟨_, rfl⟩
          have HM := Lib.hid hm
          rw [← hm] at HO9 hgl
          obtain ⟨g5, c5, rfl, hgw, hc5, hc6⟩ := own_is HO9.out (by omega)
          have cF := HO9.out.cellAt (m * 2 + 1) (by omega)
          rw [hm, pairVals_get, ← hm] at cF
          have fF := HO9.out.frozenAt (m * 2 + 1)
          have hw1 : IntKind.i64.wrap (((m + 1 : Nat) : Int) - 1) = (m : Int) := by rw [IntKind.wrap_i64]; omega
          have hw0 : ((m + 1 : Nat) : Int) - 1 = (m : Int) := by omega
          have hmn : (m : Int) < ((m + 1 : Nat) : Int) := by omega
          have hcm : c5 ≤ 9223372036854775807 := hc6
          clear hm
          go_wp2_with fail
          go_roundw
          case rel =>
            refine ⟨k + 1, by omega, by go_num, Lib.hid ?_, Lib.hid ?_⟩
            · rw [HG.out, List.length_append, List.length_singleton, ← HM.out, ← pairVals_last (groupsBy g k) (k : Int) (k : Int) (k : Int), ← HM.out]
              exact (HO9.out.stored (m * 2 + 1) (.int .i64 k)).1
            · exact HB9.out.setCell (p := ⟨g5, m * 2 + 1, none⟩) hgw _
          case measure => simp [intOf]; omega
      · have HC := Lib.hid (show g k = false by rw [show k = 0 by omega]; exact hg0)
        have d6 : decide (k = 0) = true := decide_eq_true (by omega)
        have d7 : ((k : Int) == 0) = true := by simp; omega
        go_wp2_with fail
        go_quiet (fail)
        generalize hwd : World.drewN wr _ = wd at *
        have HD0 : Hid (Below wr.heap.size wr wd) := by rw [← hwd]; exact Lib.hid (bdrewN (Below.refl _ _) _)
        clear hwd
        replace HO := Lib.hid (below_of_own HO.out HD0.out)
        replace HB := Lib.hid (HB.out.trans (HD0.out.mono HB.out.size))
        clear HD0
        have HG := Lib.hid (show groupsBy g (k + 1) = groupsBy g k ++ [((k : Int), (k : Int))] by rw [groupsBy, if_neg (by rw [HC.out]; decide)])
        have HD := Lib.hid (below_of_own HO.out (Below.refl _ _))
        have HS := Lib.hid HB.out.size
        go_wp2_with (at_builtin
                     refine wpList_append_own _ rfl (.tmp 27) (.tmp 31) 130 rfl w.heap.size 134 i0 _ 2 16 Try.underlying130 hi hz0 hz1 hz2 rfl (by decide) _ _ _ rfl ((HD.out).alloc _) ⟨_, 0, none⟩ 1 1 [.int .i64 k, .int .i64 k] rfl rfl ?c1 ?c2 ?c3 ?c4 ?c5 ?_)
        case c1 => exact World.news_of_block (heap_alloc_new _ _)
        case c2 => intro u hu; simp at hu; rw [hu]; rfl
        case c3 => unfold maxLen; omega
        case c4 => omega
        case c5 => have := HS.out; simp; omega
        intro v9 w9 ho9 hg9 _
        have HB9 := Lib.hid ((HB.out.alloc HB.out.size (.cells #[.int .i64 k, .int .i64 k] 134)).grown hg9 (by have := HS.out; simp; omega) (fun j hj => ((HD.out).lt j hj).1))
        have HO9 := Lib.hid (show w9.ownsRow w.heap.size 134 2 v9 ((groupsBy g k).length + 1) (pairVals (groupsBy g k ++ [((k : Int), (k : Int))])) by rw [pairVals_more]; exact ho9)
        clear ho9 hg9
        obtain ⟨m, hm⟩ : ∃ m, m = (groupsBy g k).length := ⟨_, rfl⟩
        have HM := Lib.hid hm
        rw [← hm] at HO9 hgl
        obtain ⟨g5, c5, rfl, hgw, hc5, hc6⟩ := own_is HO9.out (by omega)
        have cF := HO9.out.cellAt (m * 2 + 1) (by omega)
        rw [hm, pairVals_get, ← hm] at cF
        have fF := HO9.out.frozenAt (m * 2 + 1)
        have hw1 : IntKind.i64.wrap (((m + 1 : Nat) : Int) - 1) = (m : Int) := by rw [IntKind.wrap_i64]; omega
        have hw0 : ((m + 1 : Nat) : Int) - 1 = (m : Int) := by omega
        have hmn : (m : Int) < ((m + 1 : Nat) : Int) := by omega
        have hcm : c5 ≤ 9223372036854775807 := hc6
        clear hm
        go_wp2_with fail
        go_roundw
        case rel =>
          refine ⟨k + 1, by omega, by go_num, Lib.hid ?_, Lib.hid ?_⟩
          · rw [HG.out, List.length_append, List.length_singleton, ← HM.out, ← pairVals_last (groupsBy g k) (k : Int) (k : Int) (k : Int), ← HM.out]
            exact (HO9.out.stored (m * 2 + 1) (.int .i64 k)).1
          · exact HB9.out.setCell (p := ⟨g5, m * 2 + 1, none⟩) hgw _
        case measure => simp [intOf]; omega
    · obtain rfl : k = l.length := by omega
      go_wp2_with fail
      go_ret
      exact ⟨⟨_, rfl, HO.out⟩, HB.out⟩
end Go.Proofs.Ytjmaankkbdpikaa

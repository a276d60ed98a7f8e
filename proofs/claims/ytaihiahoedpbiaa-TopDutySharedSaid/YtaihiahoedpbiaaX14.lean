/- The drivers of a car. No condition. -/
import Derived.Test.YtaihiahoedpbiaaX4
import Derived.Test.YtaihiahoedpbiaaD24
namespace Go.Proofs.Ytaihiahoedpbiaa
open Go.RowKit Fs

theorem xown_strs {w : World} {B : Nat} {e : TypeId} {v : Value} {l : List ByteArray} (h : w.ownsRow B e 1 v l.length (strVals l)) : ∃ A c, v = .slice A l.length c ∧ ArrS w A l c := by
  have e1 : strVals l = flat l.length 1 fun i _ => .string (listS l i) := by
    apply List.ext_getElem?
    intro t
    by_cases h0 : t < l.length
    · rw [flat_get t (by omega), Nat.div_one]
      show (l.map Value.string)[t]? = _
      rw [List.getElem?_map, List.getElem?_eq_getElem h0]
      unfold listS
      simp [List.getD_eq_getElem?_getD, List.getElem?_eq_getElem h0]
    · rw [List.getElem?_eq_none (by unfold strVals; rw [List.length_map]; omega), List.getElem?_eq_none (by simp [flat]; omega)]
  rw [e1] at h
  exact own_row h
set_option linter.unusedSimpArgs false in
set_option maxHeartbeats 12800000 in
set_option maxRecDepth 100000 in
theorem xCarBad_any (l : List WRec) (A : Option Addr) (c g k : Nat) (w : World) (hB : w.cell? ⟨g, 0, none⟩ = some (.slice A l.length c)) (h : ArrW w A l c) (hlt : k < l.length) :
    Calls Try.prog 113 #[.int .i64 k, .pointer (some ⟨g, 0, none⟩)] w fun e w' => e = .returned (.int .i64 (wrongRec false l k)) ∧ Below w.heap.size w w' := by
  have b1 := h.le.1
  have b2 := h.le.2
  have HA := Lib.hid h
  have HB0 := Lib.hid hB
  clear h
  have hkn : (k : Int) < (l.length : Int) := by omega
  obtain ⟨b, o, rfl, q⟩ := HA.out.at_ hlt
  obtain ⟨q0, q1, q2⟩ := q
  go_enter Try.func113, Try.ntmps113
  go_wp2_with fail
  refine (xRecErr_any (listW l k) _).mono ?_
  rintro e' w1 ⟨rfl, hb1⟩
  have HW := Lib.hid hb1
  clear hb1 q0 q1 q2 hB
  by_cases he : recErr (listW l k) = 0
  · have HE := Lib.hid he
    rw [he]
    clear he
    by_cases hk0 : 0 < k
    · have d6 : decide (k = 0) = false := decide_eq_false (by omega)
      have d7 : ((k : Int) == 0) = false := by simp; omega
      have hk1 : ((k - 1 : Nat) : Int) < (l.length : Int) := by omega
      have cB := Keep.below HW.out _ _ HB0.out
      obtain ⟨b', o', e', r, q⟩ := (HA.out.keep (Keep.below HW.out)).two (i := k - 1) (by omega) hlt
      obtain ⟨rfl, rfl⟩ : b = b' ∧ o = o' := by simpa using e'
      clear e'
      obtain ⟨j, hj⟩ : ∃ j, k = j + 1 := ⟨k - 1, by omega⟩
      have hkj : k - 1 = j := by omega
      rw [hkj] at r hk1
      have hkp : (k : Int) - 1 = (j : Int) := by omega
      have hwj : IntKind.i64.wrap (j : Int) = (j : Int) := by rw [IntKind.wrap_i64]; omega
      obtain ⟨q0, q1, q2⟩ := q
      obtain ⟨r0, r1, r2⟩ := r
      have F := Lib.hid (show wrongRec false l k = behindErr (listW l j) (listW l k) by
          unfold wrongRec behindErr; rw [if_neg (fun hh => hh HE.out), if_neg (fun hh => absurd hh.1 (by decide)), hkj]
          by_cases hx : (listW l k).beg < (listW l j).fin
          · rw [if_pos hx, if_pos ⟨hk0, hx⟩]
          · rw [if_neg hx, if_neg (fun hh => hx hh.2)])
      clear hj hk0
      go_wp2_with fail
      have HBd : Hid (Below w1.heap.size w1 w1.drew) := Lib.hid (Below.refl _ _).drew
      have MK : Hid (∀ w', Below w1.heap.size w1 w' → w'.cell? ⟨g, 0, none⟩ = some (.slice (some ⟨b, o, none⟩) l.length c) ∧ w'.cell? ⟨b, o + k * 3, none⟩ = some (.string (listW l k).who) ∧ w'.cell? ⟨b, o + k * 3 + 1, none⟩ = some (.int .i64 (listW l k).beg) ∧ w'.cell? ⟨b, o + k * 3 + 2, none⟩ = some (.int .i64 (listW l k).fin) ∧ w'.cell? ⟨b, o + j * 3, none⟩ = some (.string (listW l j).who) ∧ w'.cell? ⟨b, o + j * 3 + 1, none⟩ = some (.int .i64 (listW l j).beg) ∧ w'.cell? ⟨b, o + j * 3 + 2, none⟩ = some (.int .i64 (listW l j).fin) ∧ Hid (Below w1.heap.size w1 w')) :=
        Lib.hid fun w' hw => ⟨Keep.below hw _ _ cB, Keep.below hw _ _ q0, Keep.below hw _ _ q1, Keep.below hw _ _ q2, Keep.below hw _ _ r0, Keep.below hw _ _ r1, Keep.below hw _ _ r2, Lib.hid hw⟩
      refine wp_region_held_drew (S := fun w' => w'.cell? ⟨g, 0, none⟩ = some (.slice (some ⟨b, o, none⟩) l.length c) ∧ w'.cell? ⟨b, o + k * 3, none⟩ = some (.string (listW l k).who) ∧ w'.cell? ⟨b, o + k * 3 + 1, none⟩ = some (.int .i64 (listW l k).beg) ∧ w'.cell? ⟨b, o + k * 3 + 2, none⟩ = some (.int .i64 (listW l k).fin) ∧ w'.cell? ⟨b, o + j * 3, none⟩ = some (.string (listW l j).who) ∧ w'.cell? ⟨b, o + j * 3 + 1, none⟩ = some (.int .i64 (listW l j).beg) ∧ w'.cell? ⟨b, o + j * 3 + 2, none⟩ = some (.int .i64 (listW l j).fin) ∧ Hid (Below w1.heap.size w1 w')) (by kernel_rfl) (MK.out _ HBd.out) (fun hHeld => ?_)
      refine wpAnyH_take (i := 0) (v := ?val0x19) rfl (by kernel_rfl) (by kernel_rfl) (by kernel_rfl) (fun _ _ _ h => h) (Or.inl ⟨by rfl, fun w9 hS9 => ?yields0x19⟩) (by assumption) ?later0x19
      case yields0x19 =>
        dsimp only at hS9
        go_simp
        try with_reducible rfl
      try simp only [Act.put, List.getElem_toArray, List.getElem_cons_succ, List.getElem_cons_zero, List.setIfInBounds_toArray, List.set_cons_zero, List.set_cons_succ]
      refine wpAnyH_take (i := 1) (v := ?val1x20) rfl (by kernel_rfl) (by kernel_rfl) (by kernel_rfl) (fun _ _ _ h => h) (Or.inl ⟨by rfl, fun w9 hS9 => ?yields1x20⟩) (by assumption) ?later1x20
      case yields1x20 =>
        dsimp only at hS9
        go_simp
        try with_reducible rfl
      try simp only [Act.put, List.getElem_toArray, List.getElem_cons_succ, List.getElem_cons_zero, List.setIfInBounds_toArray, List.set_cons_zero, List.set_cons_succ]
      refine wpAnyH_take (i := 2) (v := ?val2x21) rfl (by kernel_rfl) (by kernel_rfl) (by kernel_rfl) (fun _ _ _ h => h) (Or.inl ⟨by rfl, fun w9 hS9 => ?yields2x21⟩) (by assumption) ?later2x21
      case yields2x21 =>
        dsimp only at hS9
        go_simp
        try with_reducible rfl
      try simp only [Act.put, List.getElem_toArray, List.getElem_cons_succ, List.getElem_cons_zero, List.setIfInBounds_toArray, List.set_cons_zero, List.set_cons_succ]
      refine wpAnyH_take (i := 3) (v := ?val3x22) rfl (by kernel_rfl) (by kernel_rfl) (by kernel_rfl) (fun _ _ _ h => h) (Or.inl ⟨by rfl, fun w9 hS9 => ?yields3x22⟩) (by assumption) ?later3x22
      case yields3x22 =>
        dsimp only at hS9
        go_simp
        try with_reducible rfl
      try simp only [Act.put, List.getElem_toArray, List.getElem_cons_succ, List.getElem_cons_zero, List.setIfInBounds_toArray, List.set_cons_zero, List.set_cons_succ]
      refine wpAnyH_take (i := 4) (v := ?val4x23) rfl (by kernel_rfl) (by kernel_rfl) (by kernel_rfl) (fun _ _ _ h => h) (Or.inl ⟨by rfl, fun w9 hS9 => ?yields4x23⟩) (by assumption) ?later4x23
      case yields4x23 =>
        dsimp only at hS9
        go_simp
        try with_reducible rfl
      try simp only [Act.put, List.getElem_toArray, List.getElem_cons_succ, List.getElem_cons_zero, List.setIfInBounds_toArray, List.set_cons_zero, List.set_cons_succ]
      refine wpAnyH_take (i := 5) (v := ?val5x24) rfl (by kernel_rfl) (by kernel_rfl) (by kernel_rfl) (fun _ _ _ h => h) (Or.inl ⟨by rfl, fun w9 hS9 => ?yields5x24⟩) (by assumption) ?later5x24
      case yields5x24 =>
        dsimp only at hS9
        go_simp
        try with_reducible rfl
      try simp only [Act.put, List.getElem_toArray, List.getElem_cons_succ, List.getElem_cons_zero, List.setIfInBounds_toArray, List.set_cons_zero, List.set_cons_succ]
      refine wpAnyH_take (i := 6) (v := ?val6x25) rfl (by kernel_rfl) (by kernel_rfl) (by kernel_rfl) (fun _ _ _ h => h) (Or.inl ⟨by rfl, fun w9 hS9 => ?yields6x25⟩) (by assumption) ?later6x25
      case yields6x25 =>
        dsimp only at hS9
        go_simp
        try with_reducible rfl
      try simp only [Act.put, List.getElem_toArray, List.getElem_cons_succ, List.getElem_cons_zero, List.setIfInBounds_toArray, List.set_cons_zero, List.set_cons_succ]
      refine wpAnyH_take (i := 7) (v := ?val7x26) rfl (by kernel_rfl) (by kernel_rfl) (by kernel_rfl) (fun _ _ _ h => h) (Or.inl ⟨by rfl, fun w9 hS9 => ?yields7x26⟩) (by assumption) ?later7x26
      case yields7x26 =>
        dsimp only at hS9
        go_simp
        try with_reducible rfl
      try simp only [Act.put, List.getElem_toArray, List.getElem_cons_succ, List.getElem_cons_zero, List.setIfInBounds_toArray, List.set_cons_zero, List.set_cons_succ]
      refine wpAnyH_take (i := 8) (v := ?val8x27) rfl (by kernel_rfl) (by kernel_rfl) (by kernel_rfl) (fun _ _ _ h => h) (Or.inl ⟨by rfl, fun w9 hS9 => ?yields8x27⟩) (by assumption) ?later8x27
      case yields8x27 =>
        dsimp only at hS9
        go_simp
        try with_reducible rfl
      try simp only [Act.put, List.getElem_toArray, List.getElem_cons_succ, List.getElem_cons_zero, List.setIfInBounds_toArray, List.set_cons_zero, List.set_cons_succ]
      refine wpAnyH_ready (rs := [9]) (by kernel_rfl) (by simp) ?_
      refine AllReadyH.cons rfl (fun K hK => ?_) AllReadyH.nil
      go_simp
      go_at_call 100
      go_split_ands
      refine (xBehind_any (listW l j) (listW l k) _).mono ?_
      rintro e' w5 ⟨rfl, hb1⟩
      go_wp2_with fail
      refine hK.out _ _ ?_ (fun hHeld => ?_)
      · (try dsimp only)
        (go_split_ands; exact MK.out _ (Below.trans (Hid.out (by assumption)) (hb1.mono (Hid.out (by assumption) : Below w1.heap.size w1 _).size)))
      clear hK K
      try simp only [Act.put, List.getElem_toArray, List.getElem_cons_succ, List.getElem_cons_zero, List.setIfInBounds_toArray, List.set_cons_zero, List.set_cons_succ]
      refine wpAnyH_take (i := 10) (v := ?val10x28) rfl (by kernel_rfl) (by kernel_rfl) (by kernel_rfl) (fun _ _ _ h => h) (Or.inl ⟨by rfl, fun w9 hS9 => ?yields10x28⟩) (by assumption) ?later10x28
      case yields10x28 =>
        dsimp only at hS9
        go_simp
        try with_reducible rfl
      try simp only [Act.put, List.getElem_toArray, List.getElem_cons_succ, List.getElem_cons_zero, List.setIfInBounds_toArray, List.set_cons_zero, List.set_cons_succ]
      refine wpAnyH_done (by kernel_rfl) ?_ _
      obtain ⟨-, -, -, -, -, -, -, HB⟩ := hHeld
      clear HBd MK
      go_wp2_with fail
      go_ret
      exact ⟨ret_int F.out.symm, HW.out.trans (HB.out.mono HW.out.size)⟩
    · obtain rfl : k = 0 := by omega
      have F : Hid (wrongRec false l 0 = 0) := Lib.hid (by unfold wrongRec; rw [if_neg (fun hh => hh HE.out), if_neg (fun hh => hk0 hh.2.1), if_neg (fun hh => hk0 hh.1)])
      clear hk0
      go_wp2_with fail
      go_ret
      exact ⟨ret_int F.out.symm, HW.out⟩
  · have F := Lib.hid (show wrongRec false l k = recErr (listW l k) from if_pos he)
    have e2 : (recErr (listW l k) != 0) = true := by simpa using he
    have e3 : (recErr (listW l k) == 0) = false := by simpa using he
    clear he
    go_wp2_with fail
    go_ret
    exact ⟨ret_int F.out.symm, HW.out⟩
open Classical in
noncomputable def Fs.newWho (y x : WRec) : Bool := decide (x.who ≠ y.who)
set_option maxHeartbeats 800000 in
theorem xNewWho_any (y x : WRec) (w : World) :
    Calls Try.prog 115 #[recV y, recV x] w fun e w' => e = .returned (.bool (newWho y x)) ∧ Below w.heap.size w w' := by
  have a0 := (Keep.alloc (w.alloc (.cells #[.string y.who, .int .i64 y.beg, .int .i64 y.fin] 39)) (.cells #[.string x.who, .int .i64 x.beg, .int .i64 x.fin] 39)) _ _ (cellNew w #[.string y.who, .int .i64 y.beg, .int .i64 y.fin] 39 0)
  have a1 := cellNew1 w (.cells #[.string y.who, .int .i64 y.beg, .int .i64 y.fin] 39) #[.string x.who, .int .i64 x.beg, .int .i64 x.fin] 39 0
  by_cases hw : x.who = y.who
  · have F := Lib.hid (show newWho y x = false by unfold newWho; simpa using hw)
    have e1 := str_eq hw
    have e2 : (x.who.toList != y.who.toList) = false := by rw [bne, e1]; rfl
    clear hw
    go_enter Try.func115, Try.ntmps115
    go_wp2_with fail
    go_ret
    exact ⟨ret_bool F.out.symm, ((Below.refl _ _).alloc (Nat.le_refl _) _).alloc (by simp) _⟩
  · have F := Lib.hid (show newWho y x = true by unfold newWho; simpa using hw)
    have e1 := str_ne hw
    have e2 : (x.who.toList != y.who.toList) = true := by rw [bne, e1]; rfl
    clear hw
    go_enter Try.func115, Try.ntmps115
    go_wp2_with fail
    go_ret
    exact ⟨ret_bool F.out.symm, ((Below.refl _ _).alloc (Nat.le_refl _) _).alloc (by simp) _⟩
noncomputable def Fs.sameWho (l : List WRec) (k : Nat) : Bool := decide (0 < k) && !newWho (listW l (k - 1)) (listW l k)
theorem Fs.sameWho_new (l : List WRec) (k : Nat) : sameWho l k = false ↔ newDriver l k := by
  unfold sameWho newDriver newWho
  rcases Nat.eq_zero_or_pos k with h | h
  · subst h; simp
  · simp [h]; omega
theorem Fs.handed_groups (l : List WRec) : ∀ n, (groupsBy (sameWho l) n).map (fun p => (listW l p.1.toNat).who) = handedTo l n
  | 0 => rfl
  | n + 1 => by
    have ih := handed_groups l n
    rw [groupsBy, handedTo]
    cases h : sameWho l n with
    | true =>
      rw [if_pos rfl, if_neg (fun hh => by rw [(sameWho_new l n).2 hh] at h; cases h), ← ih]
      have hp : groupsBy (sameWho l) n ≠ [] := by
        cases n with
        | zero => exact absurd h (by unfold sameWho; simp)
        | succ n => exact groupsBy_pos _ _
      rcases List.eq_nil_or_concat (groupsBy (sameWho l) n) with e | ⟨M, p, e⟩
      · exact absurd e hp
      · rw [e, List.concat_eq_append, List.dropLast_concat, List.getLastD_concat]
        simp
    | false =>
      rw [if_neg (by decide), if_pos ((sameWho_new l n).1 h), ← ih]
      simp
/-- Where a group begins. -/
theorem Fs.groups_first {g : Nat → Bool} (h0 : g 0 = false) : ∀ n i, i < (groupsBy g n).length → 0 ≤ (listJ (groupsBy g n) i).1 ∧ (listJ (groupsBy g n) i).1 < (n : Int)
  | 0, i, h => absurd h (Nat.not_lt_zero _)
  | n + 1, i, h => by
    rw [groupsBy] at h ⊢
    have one : ∀ (L : List (Int × Int)) (x : Int × Int) i, i < (L ++ [x]).length → (i < L.length ∧ listJ (L ++ [x]) i = listJ L i) ∨ listJ (L ++ [x]) i = x := by
      intro L x i hi
      unfold listJ
      by_cases e : i < L.length
      · exact Or.inl ⟨e, by rw [List.getD_eq_getElem?_getD, List.getD_eq_getElem?_getD, List.getElem?_append_left e]⟩
      · obtain rfl : i = L.length := by simp at hi; omega
        exact Or.inr (by rw [List.getD_eq_getElem?_getD, List.getElem?_append_right (Nat.le_refl _)]; simp)
    cases hg : g n with
    | true =>
      rw [hg, if_pos rfl] at h
      rw [if_pos rfl]
      have hp : groupsBy g n ≠ [] := by
        cases n with
        | zero => rw [h0] at hg; cases hg
        | succ n => exact groupsBy_pos _ _
      rcases List.eq_nil_or_concat (groupsBy g n) with e | ⟨M, p, e⟩
      · exact absurd e hp
      · rw [List.concat_eq_append] at e
        have ih := groups_first h0 n
        rw [e] at ih h ⊢
        rw [List.dropLast_concat, List.getLastD_concat] at h ⊢
        rcases one M _ i h with ⟨h1, h2⟩ | h2
        · rw [h2]
          have := ih i (by simp; omega)
          have h4 : listJ (M ++ [p]) i = listJ M i := by unfold listJ; rw [List.getD_eq_getElem?_getD, List.getD_eq_getElem?_getD, List.getElem?_append_left h1]
          rw [h4] at this
          omega
        · rw [h2]
          have := ih M.length (by simp)
          have h4 : listJ (M ++ [p]) M.length = p := by unfold listJ; rw [List.getD_eq_getElem?_getD, List.getElem?_append_right (Nat.le_refl _)]; simp
          rw [h4] at this
          show 0 ≤ p.1 ∧ p.1 < _
          omega
    | false =>
      rw [hg, if_neg (by decide)] at h
      rw [if_neg (by decide)]
      rcases one _ _ i h with ⟨h1, h2⟩ | h2
      · rw [h2]; have := groups_first h0 n i h1; omega
      · rw [h2]; show (0 : Int) ≤ (n : Int) ∧ (n : Int) < _; omega
set_option linter.unusedSimpArgs false in
set_option maxHeartbeats 12800000 in
set_option maxRecDepth 100000 in
theorem xGroupsH_any (l : List WRec) (A : Option Addr) (c : Nat)  (w : World) (h : ArrW w A l c) (hF : Fit l) :
    Calls Try.prog 76 #[.slice A l.length c, .func (.func 115) #[] #[]] w fun e w' => (∃ v, e = .returned v ∧ w'.ownsRow w.heap.size 37 2 v (groupsBy (sameWho l) l.length).length (pairVals (groupsBy (sameWho l) l.length))) ∧ Below w.heap.size w w' := by
  obtain ⟨i0, hi, hz0, hz1, hz2⟩ := info_parts Try.infoTwo
  have b1 := h.le.1
  have b2 := h.le.2
  have HA := Lib.hid h
  clear h
  have HFT := Lib.hid hF
  have hlen := hF.len
  clear hF
  obtain ⟨g, hgg⟩ : ∃ g, g = sameWho l := ⟨_, rfl⟩
  have HGG := Lib.hid hgg
  have hg0 : g 0 = false := by rw [hgg]; exact rfl
  rw [← hgg]
  clear hgg
  go_enter Try.func76, Try.ntmps76
  go_wp2_with fail
  go_loopw [5, 9] (fun v i wr => ∃ (k : Nat), k ≤ l.length ∧ i = .int .i64 k ∧ Hid (wr.ownsRow w.heap.size 37 2 v (groupsBy g k).length (pairVals (groupsBy g k))) ∧ Hid (Below w.heap.size w wr)) (fun _ i _ => l.length - (intOf i).toNat)
  case atStart => exact ⟨0, Nat.zero_le _, rfl, Lib.hid (World.ownsRow_nil _ _ _ _), Lib.hid (Below.refl _ _)⟩
  case round =>
    obtain ⟨k, hk, rfl, HO, HB⟩ := hrel
    have hgl := groupsBy_len hg0 k
    by_cases hlt : k < l.length
    · have hkn : (k : Int) < (l.length : Int) := by omega
      by_cases h0 : 0 < k
      · have d6 : decide (k = 0) = false := decide_eq_false (by omega)
        have d7 : ((k : Int) == 0) = false := by simp; omega
        obtain ⟨j, hj⟩ : ∃ j, k = j + 1 := ⟨k - 1, by omega⟩
        have hkp : (k : Int) - 1 = (j : Int) := by omega
        have hwj : IntKind.i64.wrap (j : Int) = (j : Int) := by rw [IntKind.wrap_i64]; omega
        have hk1 : (j : Int) < (l.length : Int) := by omega
        obtain ⟨b, o, rfl, r, q⟩ := (HA.out.keep (Keep.below HB.out)).two (i := j) (by omega) hlt
        obtain ⟨q0, q1, q2⟩ := q
        obtain ⟨r0, r1, r2⟩ := r

        have HJ := Lib.hid hj
        clear hj
        cases hgk : g k with
        | true =>
          have HC := Lib.hid hgk
          have HX := Lib.hid (show newWho (listW l j) (listW l k) = false by
            have hz : sameWho l k = true := by rw [← HGG.out]; exact HC.out
            unfold sameWho at hz
            rw [HJ.out, Nat.add_sub_cancel] at hz
            rw [HJ.out]
            simpa using hz)
          go_wp2_with fail
          have HBd : Hid (Below wr.heap.size wr wr.drew) := Lib.hid (Below.refl _ _).drew
          have MK : Hid (∀ w', Below wr.heap.size wr w' → w'.cell? ⟨b, o + k * 3, none⟩ = some (.string (listW l k).who) ∧ w'.cell? ⟨b, o + k * 3 + 1, none⟩ = some (.int .i64 (listW l k).beg) ∧ w'.cell? ⟨b, o + k * 3 + 2, none⟩ = some (.int .i64 (listW l k).fin) ∧ w'.cell? ⟨b, o + j * 3, none⟩ = some (.string (listW l j).who) ∧ w'.cell? ⟨b, o + j * 3 + 1, none⟩ = some (.int .i64 (listW l j).beg) ∧ w'.cell? ⟨b, o + j * 3 + 2, none⟩ = some (.int .i64 (listW l j).fin) ∧ Hid (Below wr.heap.size wr w')) :=
            Lib.hid fun w' hw => ⟨Keep.below hw _ _ q0, Keep.below hw _ _ q1, Keep.below hw _ _ q2, Keep.below hw _ _ r0, Keep.below hw _ _ r1, Keep.below hw _ _ r2, Lib.hid hw⟩
          refine wp_region_held_drew (S := fun w' => w'.cell? ⟨b, o + k * 3, none⟩ = some (.string (listW l k).who) ∧ w'.cell? ⟨b, o + k * 3 + 1, none⟩ = some (.int .i64 (listW l k).beg) ∧ w'.cell? ⟨b, o + k * 3 + 2, none⟩ = some (.int .i64 (listW l k).fin) ∧ w'.cell? ⟨b, o + j * 3, none⟩ = some (.string (listW l j).who) ∧ w'.cell? ⟨b, o + j * 3 + 1, none⟩ = some (.int .i64 (listW l j).beg) ∧ w'.cell? ⟨b, o + j * 3 + 2, none⟩ = some (.int .i64 (listW l j).fin) ∧ Hid (Below wr.heap.size wr w')) (by kernel_rfl) (MK.out _ HBd.out) (fun hHeld => ?_)
          refine wpAnyH_take (i := 0) (v := ?val0x29) rfl (by kernel_rfl) (by kernel_rfl) (by kernel_rfl) (fun _ _ _ h => h) (Or.inl ⟨by rfl, fun w9 hS9 => ?yields0x29⟩) (by assumption) ?later0x29
          case yields0x29 =>
            dsimp only at hS9
            go_simp
            try with_reducible rfl
          try simp only [Act.put, List.getElem_toArray, List.getElem_cons_succ, List.getElem_cons_zero, List.setIfInBounds_toArray, List.set_cons_zero, List.set_cons_succ]
          refine wpAnyH_take (i := 1) (v := ?val1x30) rfl (by kernel_rfl) (by kernel_rfl) (by kernel_rfl) (fun _ _ _ h => h) (Or.inl ⟨by rfl, fun w9 hS9 => ?yields1x30⟩) (by assumption) ?later1x30
          case yields1x30 =>
            dsimp only at hS9
            go_simp
            try with_reducible rfl
          try simp only [Act.put, List.getElem_toArray, List.getElem_cons_succ, List.getElem_cons_zero, List.setIfInBounds_toArray, List.set_cons_zero, List.set_cons_succ]
          refine wpAnyH_take (i := 2) (v := ?val2x31) rfl (by kernel_rfl) (by kernel_rfl) (by kernel_rfl) (fun _ _ _ h => h) (Or.inl ⟨by rfl, fun w9 hS9 => ?yields2x31⟩) (by assumption) ?later2x31
          case yields2x31 =>
            dsimp only at hS9
            go_simp
            try with_reducible rfl
          try simp only [Act.put, List.getElem_toArray, List.getElem_cons_succ, List.getElem_cons_zero, List.setIfInBounds_toArray, List.set_cons_zero, List.set_cons_succ]
          refine wpAnyH_take (i := 3) (v := ?val3x32) rfl (by kernel_rfl) (by kernel_rfl) (by kernel_rfl) (fun _ _ _ h => h) (Or.inl ⟨by rfl, fun w9 hS9 => ?yields3x32⟩) (by assumption) ?later3x32
          case yields3x32 =>
            dsimp only at hS9
            go_simp
            try with_reducible rfl
          try simp only [Act.put, List.getElem_toArray, List.getElem_cons_succ, List.getElem_cons_zero, List.setIfInBounds_toArray, List.set_cons_zero, List.set_cons_succ]
          refine wpAnyH_take (i := 4) (v := ?val4x33) rfl (by kernel_rfl) (by kernel_rfl) (by kernel_rfl) (fun _ _ _ h => h) (Or.inl ⟨by rfl, fun w9 hS9 => ?yields4x33⟩) (by assumption) ?later4x33
          case yields4x33 =>
            dsimp only at hS9
            go_simp
            try with_reducible rfl
          try simp only [Act.put, List.getElem_toArray, List.getElem_cons_succ, List.getElem_cons_zero, List.setIfInBounds_toArray, List.set_cons_zero, List.set_cons_succ]
          refine wpAnyH_take (i := 5) (v := ?val5x34) rfl (by kernel_rfl) (by kernel_rfl) (by kernel_rfl) (fun _ _ _ h => h) (Or.inl ⟨by rfl, fun w9 hS9 => ?yields5x34⟩) (by assumption) ?later5x34
          case yields5x34 =>
            dsimp only at hS9
            go_simp
            try with_reducible rfl
          try simp only [Act.put, List.getElem_toArray, List.getElem_cons_succ, List.getElem_cons_zero, List.setIfInBounds_toArray, List.set_cons_zero, List.set_cons_succ]
          refine wpAnyH_take (i := 6) (v := ?val6x35) rfl (by kernel_rfl) (by kernel_rfl) (by kernel_rfl) (fun _ _ _ h => h) (Or.inl ⟨by rfl, fun w9 hS9 => ?yields6x35⟩) (by assumption) ?later6x35
          case yields6x35 =>
            dsimp only at hS9
            go_simp
            try with_reducible rfl
          try simp only [Act.put, List.getElem_toArray, List.getElem_cons_succ, List.getElem_cons_zero, List.setIfInBounds_toArray, List.set_cons_zero, List.set_cons_succ]
          refine wpAnyH_take (i := 7) (v := ?val7x36) rfl (by kernel_rfl) (by kernel_rfl) (by kernel_rfl) (fun _ _ _ h => h) (Or.inl ⟨by rfl, fun w9 hS9 => ?yields7x36⟩) (by assumption) ?later7x36
          case yields7x36 =>
            dsimp only at hS9
            go_simp
            try with_reducible rfl
          try simp only [Act.put, List.getElem_toArray, List.getElem_cons_succ, List.getElem_cons_zero, List.setIfInBounds_toArray, List.set_cons_zero, List.set_cons_succ]
          refine wpAnyH_take (i := 8) (v := ?val8x37) rfl (by kernel_rfl) (by kernel_rfl) (by kernel_rfl) (fun _ _ _ h => h) (Or.inl ⟨by rfl, fun w9 hS9 => ?yields8x37⟩) (by assumption) ?later8x37
          case yields8x37 =>
            dsimp only at hS9
            go_simp
            try with_reducible rfl
          try simp only [Act.put, List.getElem_toArray, List.getElem_cons_succ, List.getElem_cons_zero, List.setIfInBounds_toArray, List.set_cons_zero, List.set_cons_succ]
          refine wpAnyH_take (i := 9) (v := ?val9x38) rfl (by kernel_rfl) (by kernel_rfl) (by kernel_rfl) (fun _ _ _ h => h) (Or.inl ⟨by rfl, fun w9 hS9 => ?yields9x38⟩) (by assumption) ?later9x38
          case yields9x38 =>
            dsimp only at hS9
            go_simp
            try with_reducible rfl
          try simp only [Act.put, List.getElem_toArray, List.getElem_cons_succ, List.getElem_cons_zero, List.setIfInBounds_toArray, List.set_cons_zero, List.set_cons_succ]
          refine wpAnyH_take (i := 10) (v := ?val10x39) rfl (by kernel_rfl) (by kernel_rfl) (by kernel_rfl) (fun _ _ _ h => h) (Or.inl ⟨by rfl, fun w9 hS9 => ?yields10x39⟩) (by assumption) ?later10x39
          case yields10x39 =>
            dsimp only at hS9
            go_simp
            try with_reducible rfl
          try simp only [Act.put, List.getElem_toArray, List.getElem_cons_succ, List.getElem_cons_zero, List.setIfInBounds_toArray, List.set_cons_zero, List.set_cons_succ]
          refine wpAnyH_take (i := 11) (v := ?val11x40) rfl (by kernel_rfl) (by kernel_rfl) (by kernel_rfl) (fun _ _ _ h => h) (Or.inl ⟨by rfl, fun w9 hS9 => ?yields11x40⟩) (by assumption) ?later11x40
          case yields11x40 =>
            dsimp only at hS9
            go_simp
            try with_reducible rfl
          try simp only [Act.put, List.getElem_toArray, List.getElem_cons_succ, List.getElem_cons_zero, List.setIfInBounds_toArray, List.set_cons_zero, List.set_cons_succ]
          refine wpAnyH_take (i := 12) (v := ?val12x41) rfl (by kernel_rfl) (by kernel_rfl) (by kernel_rfl) (fun _ _ _ h => h) (Or.inl ⟨by rfl, fun w9 hS9 => ?yields12x41⟩) (by assumption) ?later12x41
          case yields12x41 =>
            dsimp only at hS9
            go_simp
            try with_reducible rfl
          try simp only [Act.put, List.getElem_toArray, List.getElem_cons_succ, List.getElem_cons_zero, List.setIfInBounds_toArray, List.set_cons_zero, List.set_cons_succ]
          refine wpAnyH_ready (rs := [13]) (by kernel_rfl) (by simp) ?_
          refine AllReadyH.cons rfl (fun K hK => ?_) AllReadyH.nil
          go_simp
          go_at_call 115
          go_split_ands
          refine (xNewWho_any (listW l j) (listW l k) _).mono ?_
          rintro e' w5 ⟨rfl, hb1⟩
          go_wp2_with fail
          refine hK.out _ _ ?_ (fun hHeld => ?_)
          · (try dsimp only)
            (go_split_ands; exact MK.out _ (Below.trans (Hid.out (by assumption)) (hb1.mono (Hid.out (by assumption) : Below wr.heap.size wr _).size)))
          clear hK K
          try simp only [Act.put, List.getElem_toArray, List.getElem_cons_succ, List.getElem_cons_zero, List.setIfInBounds_toArray, List.set_cons_zero, List.set_cons_succ]
          refine wpAnyH_take (i := 14) (v := ?val14x42) rfl (by kernel_rfl) (by kernel_rfl) (by kernel_rfl) (fun _ _ _ h => h) (Or.inl ⟨by rfl, fun w9 hS9 => ?yields14x42⟩) (by assumption) ?later14x42
          case yields14x42 =>
            dsimp only at hS9
            go_simp
            try with_reducible rfl
          try simp only [Act.put, List.getElem_toArray, List.getElem_cons_succ, List.getElem_cons_zero, List.setIfInBounds_toArray, List.set_cons_zero, List.set_cons_succ]
          refine wpAnyH_done (by kernel_rfl) ?_ _
          obtain ⟨-, -, -, -, -, -, HB5⟩ := hHeld
          clear HBd MK
          rw [HX.out]
          replace HO := Lib.hid (below_of_own HO.out HB5.out)
          replace HB := Lib.hid (HB.out.trans (HB5.out.mono HB.out.size))
          clear HB5 q0 q1 q2 r0 r1 r2 hgk
          have hpos : 0 < (groupsBy g k).length := by rw [HJ.out]; exact List.length_pos_iff.2 (groupsBy_pos g j)
          obtain ⟨M, x, y, hM⟩ : ∃ M x y, groupsBy g k = M ++ [(x, y)] := by
            rcases List.eq_nil_or_concat (groupsBy g k) with e | ⟨M, p, e⟩
            · rw [e] at hpos; exact absurd hpos (by simp)
            · exact ⟨M, p.1, p.2, by rw [e, List.concat_eq_append]⟩
          have HG := Lib.hid (show groupsBy g (k + 1) = M ++ [(x, (k : Int))] by rw [groupsBy, if_pos HC.out, hM, List.dropLast_concat, List.getLastD_concat])
          obtain ⟨n, hn⟩ : ∃ n, n = (groupsBy g k).length := ⟨_, rfl⟩
          have hnm : n = M.length + 1 := by rw [hn, hM]; simp
          have hng : n ≤ k := by omega
          rw [← hn, hM] at HO
          obtain ⟨g5, c5, rfl, hgw, hc5, hc6⟩ := own_is HO.out (by omega)
          obtain ⟨m, hm⟩ : ∃ m, m = M.length := ⟨_, rfl⟩
          have cF := HO.out.cellAt (m * 2 + 1) (by omega)
          rw [hm, pairVals_get, ← hm] at cF
          have fF := HO.out.frozenAt (m * 2 + 1)
          have hw1 : IntKind.i64.wrap ((n : Int) - 1) = (m : Int) := by rw [IntKind.wrap_i64]; omega
          have hw0 : (n : Int) - 1 = (m : Int) := by omega
          have hmn : (m : Int) < (n : Int) := by omega
          have hcm : c5 ≤ 9223372036854775807 := hc6
          have HGN := Lib.hid (show (groupsBy g (k + 1)).length = n by rw [HG.out, hnm]; simp)
          have HM := Lib.hid hm
          clear hpos hnm hn hM hm
          go_wp2_with fail
          go_roundw
          case rel =>
            refine ⟨k + 1, by omega, by go_num, Lib.hid ?_, Lib.hid ?_⟩
            · rw [HGN.out, HG.out, ← pairVals_last M x y k, ← HM.out]
              exact (HO.out.stored (m * 2 + 1) (.int .i64 k)).1
            · exact HB.out.setCell (p := ⟨g5, m * 2 + 1, none⟩) hgw _
          case measure => simp [intOf]; omega
        | false =>
          have HC := Lib.hid hgk
          have HX := Lib.hid (show newWho (listW l j) (listW l k) = true by
            have hz : sameWho l k = false := by rw [← HGG.out]; exact HC.out
            unfold sameWho at hz
            rw [HJ.out, Nat.add_sub_cancel] at hz
            rw [HJ.out]
            simpa using hz)
          go_wp2_with fail
          have HBd : Hid (Below wr.heap.size wr wr.drew) := Lib.hid (Below.refl _ _).drew
          have MK : Hid (∀ w', Below wr.heap.size wr w' → w'.cell? ⟨b, o + k * 3, none⟩ = some (.string (listW l k).who) ∧ w'.cell? ⟨b, o + k * 3 + 1, none⟩ = some (.int .i64 (listW l k).beg) ∧ w'.cell? ⟨b, o + k * 3 + 2, none⟩ = some (.int .i64 (listW l k).fin) ∧ w'.cell? ⟨b, o + j * 3, none⟩ = some (.string (listW l j).who) ∧ w'.cell? ⟨b, o + j * 3 + 1, none⟩ = some (.int .i64 (listW l j).beg) ∧ w'.cell? ⟨b, o + j * 3 + 2, none⟩ = some (.int .i64 (listW l j).fin) ∧ Hid (Below wr.heap.size wr w')) :=
            Lib.hid fun w' hw => ⟨Keep.below hw _ _ q0, Keep.below hw _ _ q1, Keep.below hw _ _ q2, Keep.below hw _ _ r0, Keep.below hw _ _ r1, Keep.below hw _ _ r2, Lib.hid hw⟩
          refine wp_region_held_drew (S := fun w' => w'.cell? ⟨b, o + k * 3, none⟩ = some (.string (listW l k).who) ∧ w'.cell? ⟨b, o + k * 3 + 1, none⟩ = some (.int .i64 (listW l k).beg) ∧ w'.cell? ⟨b, o + k * 3 + 2, none⟩ = some (.int .i64 (listW l k).fin) ∧ w'.cell? ⟨b, o + j * 3, none⟩ = some (.string (listW l j).who) ∧ w'.cell? ⟨b, o + j * 3 + 1, none⟩ = some (.int .i64 (listW l j).beg) ∧ w'.cell? ⟨b, o + j * 3 + 2, none⟩ = some (.int .i64 (listW l j).fin) ∧ Hid (Below wr.heap.size wr w')) (by kernel_rfl) (MK.out _ HBd.out) (fun hHeld => ?_)
          refine wpAnyH_take (i := 0) (v := ?val0x43) rfl (by kernel_rfl) (by kernel_rfl) (by kernel_rfl) (fun _ _ _ h => h) (Or.inl ⟨by rfl, fun w9 hS9 => ?yields0x43⟩) (by assumption) ?later0x43
          case yields0x43 =>
            dsimp only at hS9
            go_simp
            try with_reducible rfl
          try simp only [Act.put, List.getElem_toArray, List.getElem_cons_succ, List.getElem_cons_zero, List.setIfInBounds_toArray, List.set_cons_zero, List.set_cons_succ]
          refine wpAnyH_take (i := 1) (v := ?val1x44) rfl (by kernel_rfl) (by kernel_rfl) (by kernel_rfl) (fun _ _ _ h => h) (Or.inl ⟨by rfl, fun w9 hS9 => ?yields1x44⟩) (by assumption) ?later1x44
          case yields1x44 =>
            dsimp only at hS9
            go_simp
            try with_reducible rfl
          try simp only [Act.put, List.getElem_toArray, List.getElem_cons_succ, List.getElem_cons_zero, List.setIfInBounds_toArray, List.set_cons_zero, List.set_cons_succ]
          refine wpAnyH_take (i := 2) (v := ?val2x45) rfl (by kernel_rfl) (by kernel_rfl) (by kernel_rfl) (fun _ _ _ h => h) (Or.inl ⟨by rfl, fun w9 hS9 => ?yields2x45⟩) (by assumption) ?later2x45
          case yields2x45 =>
            dsimp only at hS9
            go_simp
            try with_reducible rfl
          try simp only [Act.put, List.getElem_toArray, List.getElem_cons_succ, List.getElem_cons_zero, List.setIfInBounds_toArray, List.set_cons_zero, List.set_cons_succ]
          refine wpAnyH_take (i := 3) (v := ?val3x46) rfl (by kernel_rfl) (by kernel_rfl) (by kernel_rfl) (fun _ _ _ h => h) (Or.inl ⟨by rfl, fun w9 hS9 => ?yields3x46⟩) (by assumption) ?later3x46
          case yields3x46 =>
            dsimp only at hS9
            go_simp
            try with_reducible rfl
          try simp only [Act.put, List.getElem_toArray, List.getElem_cons_succ, List.getElem_cons_zero, List.setIfInBounds_toArray, List.set_cons_zero, List.set_cons_succ]
          refine wpAnyH_take (i := 4) (v := ?val4x47) rfl (by kernel_rfl) (by kernel_rfl) (by kernel_rfl) (fun _ _ _ h => h) (Or.inl ⟨by rfl, fun w9 hS9 => ?yields4x47⟩) (by assumption) ?later4x47
          case yields4x47 =>
            dsimp only at hS9
            go_simp
            try with_reducible rfl
          try simp only [Act.put, List.getElem_toArray, List.getElem_cons_succ, List.getElem_cons_zero, List.setIfInBounds_toArray, List.set_cons_zero, List.set_cons_succ]
          refine wpAnyH_take (i := 5) (v := ?val5x48) rfl (by kernel_rfl) (by kernel_rfl) (by kernel_rfl) (fun _ _ _ h => h) (Or.inl ⟨by rfl, fun w9 hS9 => ?yields5x48⟩) (by assumption) ?later5x48
          case yields5x48 =>
            dsimp only at hS9
            go_simp
            try with_reducible rfl
          try simp only [Act.put, List.getElem_toArray, List.getElem_cons_succ, List.getElem_cons_zero, List.setIfInBounds_toArray, List.set_cons_zero, List.set_cons_succ]
          refine wpAnyH_take (i := 6) (v := ?val6x49) rfl (by kernel_rfl) (by kernel_rfl) (by kernel_rfl) (fun _ _ _ h => h) (Or.inl ⟨by rfl, fun w9 hS9 => ?yields6x49⟩) (by assumption) ?later6x49
          case yields6x49 =>
            dsimp only at hS9
            go_simp
            try with_reducible rfl
          try simp only [Act.put, List.getElem_toArray, List.getElem_cons_succ, List.getElem_cons_zero, List.setIfInBounds_toArray, List.set_cons_zero, List.set_cons_succ]
          refine wpAnyH_take (i := 7) (v := ?val7x50) rfl (by kernel_rfl) (by kernel_rfl) (by kernel_rfl) (fun _ _ _ h => h) (Or.inl ⟨by rfl, fun w9 hS9 => ?yields7x50⟩) (by assumption) ?later7x50
          case yields7x50 =>
            dsimp only at hS9
            go_simp
            try with_reducible rfl
          try simp only [Act.put, List.getElem_toArray, List.getElem_cons_succ, List.getElem_cons_zero, List.setIfInBounds_toArray, List.set_cons_zero, List.set_cons_succ]
          refine wpAnyH_take (i := 8) (v := ?val8x51) rfl (by kernel_rfl) (by kernel_rfl) (by kernel_rfl) (fun _ _ _ h => h) (Or.inl ⟨by rfl, fun w9 hS9 => ?yields8x51⟩) (by assumption) ?later8x51
          case yields8x51 =>
            dsimp only at hS9
            go_simp
            try with_reducible rfl
          try simp only [Act.put, List.getElem_toArray, List.getElem_cons_succ, List.getElem_cons_zero, List.setIfInBounds_toArray, List.set_cons_zero, List.set_cons_succ]
          refine wpAnyH_take (i := 9) (v := ?val9x52) rfl (by kernel_rfl) (by kernel_rfl) (by kernel_rfl) (fun _ _ _ h => h) (Or.inl ⟨by rfl, fun w9 hS9 => ?yields9x52⟩) (by assumption) ?later9x52
          case yields9x52 =>
            dsimp only at hS9
            go_simp
            try with_reducible rfl
          try simp only [Act.put, List.getElem_toArray, List.getElem_cons_succ, List.getElem_cons_zero, List.setIfInBounds_toArray, List.set_cons_zero, List.set_cons_succ]
          refine wpAnyH_take (i := 10) (v := ?val10x53) rfl (by kernel_rfl) (by kernel_rfl) (by kernel_rfl) (fun _ _ _ h => h) (Or.inl ⟨by rfl, fun w9 hS9 => ?yields10x53⟩) (by assumption) ?later10x53
          case yields10x53 =>
            dsimp only at hS9
            go_simp
            try with_reducible rfl
          try simp only [Act.put, List.getElem_toArray, List.getElem_cons_succ, List.getElem_cons_zero, List.setIfInBounds_toArray, List.set_cons_zero, List.set_cons_succ]
          refine wpAnyH_take (i := 11) (v := ?val11x54) rfl (by kernel_rfl) (by kernel_rfl) (by kernel_rfl) (fun _ _ _ h => h) (Or.inl ⟨by rfl, fun w9 hS9 => ?yields11x54⟩) (by assumption) ?later11x54
          case yields11x54 =>
            dsimp only at hS9
            go_simp
            try with_reducible rfl
          try simp only [Act.put, List.getElem_toArray, List.getElem_cons_succ, List.getElem_cons_zero, List.setIfInBounds_toArray, List.set_cons_zero, List.set_cons_succ]
          refine wpAnyH_take (i := 12) (v := ?val12x55) rfl (by kernel_rfl) (by kernel_rfl) (by kernel_rfl) (fun _ _ _ h => h) (Or.inl ⟨by rfl, fun w9 hS9 => ?yields12x55⟩) (by assumption) ?later12x55
          case yields12x55 =>
            dsimp only at hS9
            go_simp
            try with_reducible rfl
          try simp only [Act.put, List.getElem_toArray, List.getElem_cons_succ, List.getElem_cons_zero, List.setIfInBounds_toArray, List.set_cons_zero, List.set_cons_succ]
          refine wpAnyH_ready (rs := [13]) (by kernel_rfl) (by simp) ?_
          refine AllReadyH.cons rfl (fun K hK => ?_) AllReadyH.nil
          go_simp
          go_at_call 115
          go_split_ands
          refine (xNewWho_any (listW l j) (listW l k) _).mono ?_
          rintro e' w5 ⟨rfl, hb1⟩
          go_wp2_with fail
          refine hK.out _ _ ?_ (fun hHeld => ?_)
          · (try dsimp only)
            (go_split_ands; exact MK.out _ (Below.trans (Hid.out (by assumption)) (hb1.mono (Hid.out (by assumption) : Below wr.heap.size wr _).size)))
          clear hK K
          try simp only [Act.put, List.getElem_toArray, List.getElem_cons_succ, List.getElem_cons_zero, List.setIfInBounds_toArray, List.set_cons_zero, List.set_cons_succ]
          refine wpAnyH_take (i := 14) (v := ?val14x56) rfl (by kernel_rfl) (by kernel_rfl) (by kernel_rfl) (fun _ _ _ h => h) (Or.inl ⟨by rfl, fun w9 hS9 => ?yields14x56⟩) (by assumption) ?later14x56
          case yields14x56 =>
            dsimp only at hS9
            go_simp
            try with_reducible rfl
          try simp only [Act.put, List.getElem_toArray, List.getElem_cons_succ, List.getElem_cons_zero, List.setIfInBounds_toArray, List.set_cons_zero, List.set_cons_succ]
          refine wpAnyH_done (by kernel_rfl) ?_ _
          obtain ⟨-, -, -, -, -, -, HB5⟩ := hHeld
          clear HBd MK
          rw [HX.out]
          replace HO := Lib.hid (below_of_own HO.out HB5.out)
          replace HB := Lib.hid (HB.out.trans (HB5.out.mono HB.out.size))
          clear HB5 q0 q1 q2 r0 r1 r2 hgk
          obtain ⟨wr, hwr⟩ : ∃ wz, wz = w5 := ⟨_, rfl⟩
          subst hwr
          have HG := Lib.hid (show groupsBy g (k + 1) = groupsBy g k ++ [((k : Int), (k : Int))] by rw [groupsBy, if_neg (by rw [HC.out]; decide)])
          have HD := Lib.hid (below_of_own HO.out (Below.refl _ _))
          have HS := Lib.hid HB.out.size
          go_wp2_with (at_builtin
                       refine wpList_append_own _ rfl (.tmp 27) (.tmp 31) 27 rfl w.heap.size 37 i0 _ 2 16 Try.underlying27 hi hz0 hz1 hz2 rfl (by decide) _ _ _ rfl ((HD.out).alloc _) ⟨_, 0, none⟩ 1 1 [.int .i64 k, .int .i64 k] rfl rfl ?c1 ?c2 ?c3 ?c4 ?c5 ?_)
          case c1 => exact World.news_of_block (heap_alloc_new _ _)
          case c2 => intro u hu; simp at hu; rw [hu]; rfl
          case c3 => unfold maxLen; omega
          case c4 => omega
          case c5 => have := HS.out; simp; omega
          intro v9 w9 ho9 hg9 _
          have HB9 := Lib.hid ((HB.out.alloc HB.out.size (.cells #[.int .i64 k, .int .i64 k] 37)).grown hg9 (by have := HS.out; simp; omega) (fun j hj => ((HD.out).lt j hj).1))
          have HO9 := Lib.hid (show w9.ownsRow w.heap.size 37 2 v9 ((groupsBy g k).length + 1) (pairVals (groupsBy g k ++ [((k : Int), (k : Int))])) by rw [pairVals_more]; exact ho9)
          clear ho9 hg9
          obtain ⟨m, hm⟩ : ∃ m, m = (groupsBy g k).length := ⟨_, rfl⟩
          have HM := Lib.hid hm
          rw [← hm] at HO9 hgl
          obtain ⟨g5, c5, rfl, hgw, hc5, hc6⟩ := own_is HO9.out (by omega)
          have cF := HO9.out.cellAt (m * 2 + 1) (by omega)
          rw [hm, pairVals_get, ← hm] at cF
          have fF := HO9.out.frozenAt (m * 2 + 1)
          have hw1 : IntKind.i64.wrap (((m + 1 : Nat) : Int) - 1) = (m : Int) := by rw [IntKind.wrap_i64]; omega
          have hw0 : ((m + 1 : Nat) : Int) - 1 = (m : Int) := by omega
          have hmn : (m : Int) < ((m + 1 : Nat) : Int) := by omega
          have hcm : c5 ≤ 9223372036854775807 := hc6
          clear hm
          go_wp2_with fail
          go_roundw
          case rel =>
            refine ⟨k + 1, by omega, by go_num, Lib.hid ?_, Lib.hid ?_⟩
            · rw [HG.out, List.length_append, List.length_singleton, ← HM.out, ← pairVals_last (groupsBy g k) (k : Int) (k : Int) (k : Int), ← HM.out]
              exact (HO9.out.stored (m * 2 + 1) (.int .i64 k)).1
            · exact HB9.out.setCell (p := ⟨g5, m * 2 + 1, none⟩) hgw _
          case measure => simp [intOf]; omega
      · have HC := Lib.hid (show g k = false by rw [show k = 0 by omega]; exact hg0)
        have d6 : decide (k = 0) = true := decide_eq_true (by omega)
        have d7 : ((k : Int) == 0) = true := by simp; omega
        go_wp2_with fail
        go_quiet (fail)
        generalize hwd : World.drewN wr _ = wd at *
        have HD0 : Hid (Below wr.heap.size wr wd) := by rw [← hwd]; exact Lib.hid (bdrewN (Below.refl _ _) _)
        clear hwd
        replace HO := Lib.hid (below_of_own HO.out HD0.out)
        replace HB := Lib.hid (HB.out.trans (HD0.out.mono HB.out.size))
        clear HD0
        have HG := Lib.hid (show groupsBy g (k + 1) = groupsBy g k ++ [((k : Int), (k : Int))] by rw [groupsBy, if_neg (by rw [HC.out]; decide)])
        have HD := Lib.hid (below_of_own HO.out (Below.refl _ _))
        have HS := Lib.hid HB.out.size
        go_wp2_with (at_builtin
                     refine wpList_append_own _ rfl (.tmp 27) (.tmp 31) 27 rfl w.heap.size 37 i0 _ 2 16 Try.underlying27 hi hz0 hz1 hz2 rfl (by decide) _ _ _ rfl ((HD.out).alloc _) ⟨_, 0, none⟩ 1 1 [.int .i64 k, .int .i64 k] rfl rfl ?c1 ?c2 ?c3 ?c4 ?c5 ?_)
        case c1 => exact World.news_of_block (heap_alloc_new _ _)
        case c2 => intro u hu; simp at hu; rw [hu]; rfl
        case c3 => unfold maxLen; omega
        case c4 => omega
        case c5 => have := HS.out; simp; omega
        intro v9 w9 ho9 hg9 _
        have HB9 := Lib.hid ((HB.out.alloc HB.out.size (.cells #[.int .i64 k, .int .i64 k] 37)).grown hg9 (by have := HS.out; simp; omega) (fun j hj => ((HD.out).lt j hj).1))
        have HO9 := Lib.hid (show w9.ownsRow w.heap.size 37 2 v9 ((groupsBy g k).length + 1) (pairVals (groupsBy g k ++ [((k : Int), (k : Int))])) by rw [pairVals_more]; exact ho9)
        clear ho9 hg9
        obtain ⟨m, hm⟩ : ∃ m, m = (groupsBy g k).length := ⟨_, rfl⟩
        have HM := Lib.hid hm
        rw [← hm] at HO9 hgl
        obtain ⟨g5, c5, rfl, hgw, hc5, hc6⟩ := own_is HO9.out (by omega)
        have cF := HO9.out.cellAt (m * 2 + 1) (by omega)
        rw [hm, pairVals_get, ← hm] at cF
        have fF := HO9.out.frozenAt (m * 2 + 1)
        have hw1 : IntKind.i64.wrap (((m + 1 : Nat) : Int) - 1) = (m : Int) := by rw [IntKind.wrap_i64]; omega
        have hw0 : ((m + 1 : Nat) : Int) - 1 = (m : Int) := by omega
        have hmn : (m : Int) < ((m + 1 : Nat) : Int) := by omega
        have hcm : c5 ≤ 9223372036854775807 := hc6
        clear hm
        go_wp2_with fail
        go_roundw
        case rel =>
          refine ⟨k + 1, by omega, by go_num, Lib.hid ?_, Lib.hid ?_⟩
          · rw [HG.out, List.length_append, List.length_singleton, ← HM.out, ← pairVals_last (groupsBy g k) (k : Int) (k : Int) (k : Int), ← HM.out]
            exact (HO9.out.stored (m * 2 + 1) (.int .i64 k)).1
          · exact HB9.out.setCell (p := ⟨g5, m * 2 + 1, none⟩) hgw _
        case measure => simp [intOf]; omega
    · obtain rfl : k = l.length := by omega
      go_wp2_with fail
      go_ret
      exact ⟨⟨_, rfl, HO.out⟩, HB.out⟩
end Go.Proofs.Ytaihiahoedpbiaa

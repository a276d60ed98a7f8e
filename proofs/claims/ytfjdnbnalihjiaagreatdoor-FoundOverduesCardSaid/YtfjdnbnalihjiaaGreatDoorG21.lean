/- The items to which the office has the right on a day: what the reference answers. No condition. -/
import Derived.Test.YtfjdnbnalihjiaaGreatDoorG20
import Derived.Test.YtfjdnbnalihjiaaGreatDoorG2
import Derived.Test.YtfjdnbnalihjiaaGreatDoorG7
import Derived.Maps.AppendAt
namespace Go.Proofs.YtfjdnbnalihjiaaGreatDoor
open Go.RowKit Fs

def Fs.itsOf (l : List Kpt) : List Thg := l.map (·.it)
theorem Fs.its_at (l : List Kpt) (j : Nat) : lThg (itsOf l) j = (lKpt l j).it := by
  unfold lThg lKpt itsOf
  rw [List.getD_eq_getElem?_getD, List.getD_eq_getElem?_getD, List.getElem?_map]
  cases l[j]? <;> rfl
theorem Fs.its_has (l : List Kpt) (x : ByteArray) (k : Nat) : hasText (listS (nmTo (itsOf l) k)) k x = hasText (fun j => (lKpt l j).it.name) k x := by
  rw [nm_has]
  have : (fun j => (lThg (itsOf l) j).name) = fun j => (lKpt l j).it.name := funext fun j => by rw [its_at]
  rw [this]
theorem Fs.kch_thg {l : List Kpt} {k : Nat} (h : thgErr (lKpt l k).it ≠ 0) : kchF l k = thgErr (lKpt l k).it := by
  unfold kchF
  have e : kptAt l k = thgErr (lKpt l k).it := if_pos h
  rw [gfst_two, e, if_pos h]
theorem Fs.kch_name {l : List Kpt} {k : Nat} (h : thgErr (lKpt l k).it = 0) (h2 : hasText (fun j => (lKpt l j).it.name) k (lKpt l k).it.name = true) : kchF l k = 5 := by
  unfold kchF
  have e : kptAt l k = 5 := by unfold kptAt; rw [if_neg (fun hh => hh h), if_pos h2]
  rw [gfst_two, e, if_pos (by decide)]
theorem Fs.kch_chain {l : List Kpt} {k : Nat} (h : thgErr (lKpt l k).it = 0) (h2 : hasText (fun j => (lKpt l j).it.name) k (lKpt l k).it.name = false) : kchF l k = chainErr (lKpt l k).it (lKpt l k).evs := by
  unfold kchF
  have e : kptAt l k = 0 := by unfold kptAt; rw [if_neg (fun hh => hh h), if_neg (by rw [h2]; decide)]
  rw [gfst_two, e, if_neg (fun hh => hh rfl)]
theorem Fs.ov_hit {l : List Kpt} {k : Nat} {x day : Int} (h : ¬ 40 < l.length) (hk : k < l.length) (h1 : ∀ j, j < k → kchF l j = 0) (h2 : kchF l k = x) (h3 : x ≠ 0) : ovErr l day = x ∧ ovOut l day = [] := by
  have e : gmanyErr l.length 40 (kchF l) = x := by
    unfold gmanyErr
    rw [if_neg h, (fst_hit hk h1 (by rw [h2]; exact h3)).1, h2]
  have e2 : ovErr l day = x := by
    unfold ovErr
    rw [gfst_two, e, if_pos h3]
  exact ⟨e2, if_neg (by rw [e2]; exact h3)⟩
theorem Fs.ov_large {l : List Kpt} {day : Int} (h : 40 < l.length) : ovErr l day = 8 ∧ ovOut l day = [] := by
  have e : gmanyErr l.length 40 (kchF l) = 8 := if_pos h
  have e2 : ovErr l day = 8 := by
    unfold ovErr
    rw [gfst_two, e, if_pos (by decide)]
  exact ⟨e2, if_neg (by rw [e2]; decide)⟩
theorem Fs.ov_zero {l : List Kpt} {day : Int} (h : ¬ 40 < l.length) (h1 : ∀ j, j < l.length → kchF l j = 0) : ovErr l day = dayErr day 0 := by
  have e : gmanyErr l.length 40 (kchF l) = 0 := by
    unfold gmanyErr
    rw [if_neg h]; exact fst_none h1
  unfold ovErr
  rw [gfst_two, e, if_neg (fun hh => hh rfl)]
/-- An item that is found behind the day is not the office's. -/
theorem Fs.off_not {l : List Kpt} {k : Nat} {day : Int} (h : chainErr (lKpt l k).it (lKpt l k).evs = 0) (hd : ¬ (lKpt l k).it.day ≤ day) : isOff l day k = false := by
  obtain ⟨-, -, c3⟩ := chain_ok h
  have hu : untilN (lKpt l k).evs day = 0 := until_is (Nat.zero_le _) (fun j hj => absurd hj (Nat.not_lt_zero _)) (fun hp => by
    have := (days_up c3 0 hp).1
    omega)
  unfold isOff
  rw [hu]
  rfl
theorem own_keepB {w w' : World} {base : Nat} {e : TypeId} {size : Nat} {v : Value} {n : Nat} {xs : List Value} (h : w.ownsRow base e size v n xs) (hb : Below w.heap.size w w') : w'.ownsRow base e size v n xs := below_of_own h hb
set_option linter.unusedSimpArgs false in
set_option maxHeartbeats 12800000 in
set_option maxRecDepth 100000 in
theorem rOverdue_any (l : List Kpt) (A : Option Addr) (c : Nat) (a : KA) (day : Int) (w : World) (h : ArrKp w A l c a) :
    Calls Tryz.prog 67 #[.slice A l.length c, .int .i64 day] w fun x w' => (∃ A' c', x = .returned (.tuple #[.slice A' (ovOut l day).length c', .int .i64 (ovErr l day)]) ∧ ArrI w' A' (ovOut l day) c') ∧ Below w.heap.size w w' := by
  obtain ⟨i0, hi, hz0, hz1, hz2⟩ := info_parts Tryz.infoTextG
  obtain ⟨j0, hj, jz0, jz1, jz2⟩ := info_parts Tryz.infoIntG
  have b1 := h.le.1
  have b2 := h.le.2
  have HA := Lib.hid h
  clear h
  go_enter Tryz.func67, Tryz.ntmps67
  by_cases h40 : 40 < l.length
  · have G1 := Lib.hid (ov_large (day := day) h40)
    have d1 : decide ((l.length : Int) > 40) = true := decide_eq_true (by omega)
    have d2 : decide ((40 : Int) < (l.length : Int)) = true := decide_eq_true (by omega)
    clear h40
    go_wp2_with fail
    go_ret2
    exact ⟨⟨none, 0, by rw [G1.out.1, G1.out.2]; rfl, by rw [G1.out.2]; exact ⟨Nat.le_refl _, by decide, fun hh => absurd hh (by simp)⟩⟩, Below.refl _ _⟩
  · have H40 := Lib.hid h40
    have d1 : decide ((l.length : Int) > 40) = false := decide_eq_false (by omega)
    have d2 : decide ((40 : Int) < (l.length : Int)) = false := decide_eq_false (by omega)
    go_wp2_with fail
    go_loopw [6, 7] (fun v i wr => ∃ k : Nat, k ≤ l.length ∧ i = .int .i64 k ∧ Hid (wr.ownsRow w.heap.size 9 1 v k (nmVals (nmTo (itsOf l) k))) ∧ Hid (∀ j, j < k → kchF l j = 0) ∧ Hid (Below w.heap.size w wr)) (fun _ i _ => l.length - (intOf i).toNat)
    case atStart => exact ⟨0, Nat.zero_le _, rfl, Lib.hid (World.ownsRow_nil _ _ _ _), Lib.hid fun j hj => absurd hj (Nat.not_lt_zero _), Lib.hid (Below.refl _ _)⟩
    case round =>
      obtain ⟨k, hk, rfl, HO, Hn, HB⟩ := hrel
      obtain ⟨A2, c2, rfl, hs2⟩ := gown_nm HO.out
      have HS := Lib.hid hs2
      clear hs2
      by_cases hlt : k < l.length
      · have hkn : (k : Int) < (l.length : Int) := by omega
        obtain ⟨b, o, rfl, ⟨q0, q1, q2, q3, q4⟩, qm, qe⟩ := (HA.out.keep (Keep.below HB.out)).at_ hlt
        have QM := Lib.hid qm
        clear qm qe
        go_wp2_with fail
        refine (rCheckItem_any (lKpt l k).it _ _ ⟨_, _, rfl, QM.out⟩).mono ?_
        rintro e' w1 ⟨rfl, hb1⟩
        have HB1 := Lib.hid (HB.out.trans (hb1.mono HB.out.size))
        replace HO := Lib.hid (below_of_own HO.out hb1)
        replace HS := Lib.hid (Arr.keep (Keep.below hb1) HS.out)
        have p0 := Keep.below hb1 _ _ q0
        clear hb1 q0 q1 q2 q3 q4 QM HB
        by_cases he : thgErr (lKpt l k).it = 0
        · have HE := Lib.hid he
          rw [he]
          cases ht : hasText (fun j => (lKpt l j).it.name) k (lKpt l k).it.name with
          | true =>
            have F := Lib.hid (ov_hit (x := 5) (day := day) H40.out hlt Hn.out (kch_name he ht) (by decide))
            have T := Lib.hid ((its_has l (lKpt l k).it.name k).trans ht)
            clear he ht
            go_wp2_with fail
            refine (hasText_any (nmTo (itsOf l) k) A2 c2 k (lKpt l k).it.name _ HS.out (Nat.le_of_eq (nm_len (itsOf l) k).symm)).mono ?_
            rintro e' w2 ⟨rfl, rfl⟩
            rw [T.out]
            go_wp2_with fail
            go_ret2
            exact ⟨⟨none, 0, by rw [F.out.1, F.out.2]; rfl, by rw [F.out.2]; exact ⟨Nat.le_refl _, by decide, fun hh => absurd hh (by simp)⟩⟩, HB1.out⟩
          | false =>
            have HT := Lib.hid ht
            have T := Lib.hid ((its_has l (lKpt l k).it.name k).trans ht)
            clear he ht
            go_wp2_with fail
            refine (hasText_any (nmTo (itsOf l) k) A2 c2 k (lKpt l k).it.name _ HS.out (Nat.le_of_eq (nm_len (itsOf l) k).symm)).mono ?_
            rintro e' w2 ⟨rfl, rfl⟩
            rw [T.out]
            go_wp2_with (at_builtin
                         refine wpList_append_own _ rfl (.tmp 39) (.tmp 46) 133 rfl w.heap.size 9 i0 _ 1 16 Tryz.underlying133 hi hz0 hz1 hz2 rfl (by decide) _ _ _ rfl (HO.out.alloc _) ⟨_, 0, none⟩ 1 1 [.string (lKpt l k).it.name] rfl rfl ?c1 ?c2 ?c3 ?c4 ?c5 ?_)
            case c1 => exact news0 _ _ _
            case c2 => exact oneStrG _
            case c3 => unfold maxLen; omega
            case c4 => omega
            case c5 => have := HB1.out.size; simp; omega
            intro v9 w9 ho9 hg9 _
            have HG := Lib.hid (show nmTo (itsOf l) (k + 1) = nmTo (itsOf l) k ++ [(lKpt l k).it.name] by rw [nmTo, its_at])
            have HO9 : Hid (w9.ownsRow w.heap.size 9 1 v9 (k + 1) (nmVals (nmTo (itsOf l) (k + 1)))) := Lib.hid (by rw [HG.out, nmVals_snoc]; exact ho9)
            have HB9 := Lib.hid ((HB1.out.alloc HB1.out.size _).grown hg9 (by have := HB1.out.size; simp; omega) (fun j hj => (HO.out.lt j hj).1))
            obtain ⟨b', o', e', ⟨q0, q1, q2, q3, q4⟩, -, -⟩ := (HA.out.keep (Keep.below HB9.out)).at_ hlt
            obtain ⟨rfl, rfl⟩ : b = b' ∧ o = o' := by injection e' with e'; injection e' with h1 h2; exact ⟨h1, h2⟩
            have HLT := Lib.hid hlt
            clear e' ho9 hg9 p0 HO HS HB1 HG
            go_wp2_with fail
            have HBd : Hid (Below w9.heap.size w9 w9.drew) := Lib.hid (Below.refl _ _).drew
            have MK : Hid (∀ w', Below w9.heap.size w9 w' → w'.cell? ⟨b, o + k * 5, none⟩ = some (.string (lKpt l k).it.name) ∧ w'.cell? ⟨b, o + k * 5 + 1, none⟩ = some (.int .i64 (lKpt l k).it.day) ∧ w'.cell? ⟨b, o + k * 5 + 2, none⟩ = some (.string (lKpt l k).it.who) ∧ w'.cell? ⟨b, o + k * 5 + 3, none⟩ = some (.slice (a.p k) (lKpt l k).it.marks.length (a.pc k)) ∧ w'.cell? ⟨b, o + k * 5 + 4, none⟩ = some (.slice (a.q k) (lKpt l k).evs.length (a.qc k)) ∧ Hid (Below w9.heap.size w9 w')) :=
              Lib.hid fun w' hw => ⟨Keep.below hw _ _ q0, Keep.below hw _ _ q1, Keep.below hw _ _ q2, Keep.below hw _ _ q3, Keep.below hw _ _ q4, Lib.hid hw⟩
            have KX : Hid (∀ w', Below w9.heap.size w9 w' → ArrKp w' (some ⟨b, o, none⟩) l c a) := Lib.hid fun w' hw => (HA.out.keep (Keep.below (HB9.out.trans (hw.mono HB9.out.size))))
            refine wp_region_held_drew (S := fun w' => w'.cell? ⟨b, o + k * 5, none⟩ = some (.string (lKpt l k).it.name) ∧ w'.cell? ⟨b, o + k * 5 + 1, none⟩ = some (.int .i64 (lKpt l k).it.day) ∧ w'.cell? ⟨b, o + k * 5 + 2, none⟩ = some (.string (lKpt l k).it.who) ∧ w'.cell? ⟨b, o + k * 5 + 3, none⟩ = some (.slice (a.p k) (lKpt l k).it.marks.length (a.pc k)) ∧ w'.cell? ⟨b, o + k * 5 + 4, none⟩ = some (.slice (a.q k) (lKpt l k).evs.length (a.qc k)) ∧ Hid (Below w9.heap.size w9 w')) (by kernel_rfl) (MK.out _ HBd.out) (fun hHeld => ?_)
            refine wpAnyH_take (i := 0) (v := ?val0x1) rfl (by kernel_rfl) (by kernel_rfl) (by kernel_rfl) (fun _ _ _ h => h) (Or.inl ⟨by rfl, fun w9 hS9 => ?yields0x1⟩) (by assumption) ?later0x1
            case yields0x1 =>
              dsimp only at hS9
              go_simp
              try with_reducible rfl
            try simp only [Act.put, List.getElem_toArray, List.getElem_cons_succ, List.getElem_cons_zero, List.setIfInBounds_toArray, List.set_cons_zero, List.set_cons_succ]
            refine wpAnyH_take (i := 1) (v := ?val1x2) rfl (by kernel_rfl) (by kernel_rfl) (by kernel_rfl) (fun _ _ _ h => h) (Or.inl ⟨by rfl, fun w9 hS9 => ?yields1x2⟩) (by assumption) ?later1x2
            case yields1x2 =>
              dsimp only at hS9
              go_simp
              try with_reducible rfl
            try simp only [Act.put, List.getElem_toArray, List.getElem_cons_succ, List.getElem_cons_zero, List.setIfInBounds_toArray, List.set_cons_zero, List.set_cons_succ]
            refine wpAnyH_take (i := 2) (v := ?val2x3) rfl (by kernel_rfl) (by kernel_rfl) (by kernel_rfl) (fun _ _ _ h => h) (Or.inl ⟨by rfl, fun w9 hS9 => ?yields2x3⟩) (by assumption) ?later2x3
            case yields2x3 =>
              dsimp only at hS9
              go_simp
              try with_reducible rfl
            try simp only [Act.put, List.getElem_toArray, List.getElem_cons_succ, List.getElem_cons_zero, List.setIfInBounds_toArray, List.set_cons_zero, List.set_cons_succ]
            refine wpAnyH_take (i := 3) (v := ?val3x4) rfl (by kernel_rfl) (by kernel_rfl) (by kernel_rfl) (fun _ _ _ h => h) (Or.inl ⟨by rfl, fun w9 hS9 => ?yields3x4⟩) (by assumption) ?later3x4
            case yields3x4 =>
              dsimp only at hS9
              go_simp
              try with_reducible rfl
            try simp only [Act.put, List.getElem_toArray, List.getElem_cons_succ, List.getElem_cons_zero, List.setIfInBounds_toArray, List.set_cons_zero, List.set_cons_succ]
            refine wpAnyH_take (i := 4) (v := ?val4x5) rfl (by kernel_rfl) (by kernel_rfl) (by kernel_rfl) (fun _ _ _ h => h) (Or.inl ⟨by rfl, fun w9 hS9 => ?yields4x5⟩) (by assumption) ?later4x5
            case yields4x5 =>
              dsimp only at hS9
              go_simp
              try with_reducible rfl
            try simp only [Act.put, List.getElem_toArray, List.getElem_cons_succ, List.getElem_cons_zero, List.setIfInBounds_toArray, List.set_cons_zero, List.set_cons_succ]
            refine wpAnyH_take (i := 5) (v := ?val5x6) rfl (by kernel_rfl) (by kernel_rfl) (by kernel_rfl) (fun _ _ _ h => h) (Or.inl ⟨by rfl, fun w9 hS9 => ?yields5x6⟩) (by assumption) ?later5x6
            case yields5x6 =>
              dsimp only at hS9
              go_simp
              try with_reducible rfl
            try simp only [Act.put, List.getElem_toArray, List.getElem_cons_succ, List.getElem_cons_zero, List.setIfInBounds_toArray, List.set_cons_zero, List.set_cons_succ]
            refine wpAnyH_take (i := 6) (v := ?val6x7) rfl (by kernel_rfl) (by kernel_rfl) (by kernel_rfl) (fun _ _ _ h => h) (Or.inl ⟨by rfl, fun w9 hS9 => ?yields6x7⟩) (by assumption) ?later6x7
            case yields6x7 =>
              dsimp only at hS9
              go_simp
              try with_reducible rfl
            try simp only [Act.put, List.getElem_toArray, List.getElem_cons_succ, List.getElem_cons_zero, List.setIfInBounds_toArray, List.set_cons_zero, List.set_cons_succ]
            refine wpAnyH_take (i := 7) (v := ?val7x8) rfl (by kernel_rfl) (by kernel_rfl) (by kernel_rfl) (fun _ _ _ h => h) (Or.inl ⟨by rfl, fun w9 hS9 => ?yields7x8⟩) (by assumption) ?later7x8
            case yields7x8 =>
              dsimp only at hS9
              go_simp
              try with_reducible rfl
            try simp only [Act.put, List.getElem_toArray, List.getElem_cons_succ, List.getElem_cons_zero, List.setIfInBounds_toArray, List.set_cons_zero, List.set_cons_succ]
            refine wpAnyH_take (i := 8) (v := ?val8x9) rfl (by kernel_rfl) (by kernel_rfl) (by kernel_rfl) (fun _ _ _ h => h) (Or.inl ⟨by rfl, fun w9 hS9 => ?yields8x9⟩) (by assumption) ?later8x9
            case yields8x9 =>
              dsimp only at hS9
              go_simp
              try with_reducible rfl
            try simp only [Act.put, List.getElem_toArray, List.getElem_cons_succ, List.getElem_cons_zero, List.setIfInBounds_toArray, List.set_cons_zero, List.set_cons_succ]
            refine wpAnyH_take (i := 9) (v := ?val9x10) rfl (by kernel_rfl) (by kernel_rfl) (by kernel_rfl) (fun _ _ _ h => h) (Or.inl ⟨by rfl, fun w9 hS9 => ?yields9x10⟩) (by assumption) ?later9x10
            case yields9x10 =>
              dsimp only at hS9
              go_simp
              try with_reducible rfl
            try simp only [Act.put, List.getElem_toArray, List.getElem_cons_succ, List.getElem_cons_zero, List.setIfInBounds_toArray, List.set_cons_zero, List.set_cons_succ]
            refine wpAnyH_ready (rs := [10]) (by kernel_rfl) (by simp) ?_
            refine AllReadyH.cons rfl (fun K hK => ?_) AllReadyH.nil
            go_simp
            go_at_call 57
            go_split_ands
            refine (rCheckChain_any (lKpt l k).it _ (lKpt l k).evs (a.q k) (a.qc k) _ ⟨_, _, rfl, ((KX.out _ (Hid.out (by assumption))).2 k HLT.out).1⟩ ((KX.out _ (Hid.out (by assumption))).2 k HLT.out).2).mono ?_
            rintro e' w5 ⟨rfl, hb1⟩
            go_wp2_with fail
            refine hK.out _ _ ?_ (fun hHeld => ?_)
            · (try dsimp only)
              (go_split_ands; exact MK.out _ (Below.trans (Hid.out (by assumption)) (hb1.mono (Hid.out (by assumption) : Below w9.heap.size w9 _).size)))
            clear hK K
            try simp only [Act.put, List.getElem_toArray, List.getElem_cons_succ, List.getElem_cons_zero, List.setIfInBounds_toArray, List.set_cons_zero, List.set_cons_succ]
            refine wpAnyH_take (i := 11) (v := ?val11x11) rfl (by kernel_rfl) (by kernel_rfl) (by kernel_rfl) (fun _ _ _ h => h) (Or.inl ⟨by rfl, fun w9 hS9 => ?yields11x11⟩) (by assumption) ?later11x11
            case yields11x11 =>
              dsimp only at hS9
              go_simp
              try with_reducible rfl
            try simp only [Act.put, List.getElem_toArray, List.getElem_cons_succ, List.getElem_cons_zero, List.setIfInBounds_toArray, List.set_cons_zero, List.set_cons_succ]
            refine wpAnyH_take (i := 12) (v := ?val12x12) rfl (by kernel_rfl) (by kernel_rfl) (by kernel_rfl) (fun _ _ _ h => h) (Or.inl ⟨by rfl, fun w9 hS9 => ?yields12x12⟩) (by assumption) ?later12x12
            case yields12x12 =>
              dsimp only at hS9
              go_simp
              try with_reducible rfl
            try simp only [Act.put, List.getElem_toArray, List.getElem_cons_succ, List.getElem_cons_zero, List.setIfInBounds_toArray, List.set_cons_zero, List.set_cons_succ]
            refine wpAnyH_take (i := 13) (v := ?val13x13) rfl (by kernel_rfl) (by kernel_rfl) (by kernel_rfl) (fun _ _ _ h => h) (Or.inl ⟨by rfl, fun w9 hS9 => ?yields13x13⟩) (by assumption) ?later13x13
            case yields13x13 =>
              dsimp only at hS9
              go_simp
              try with_reducible rfl
            try simp only [Act.put, List.getElem_toArray, List.getElem_cons_succ, List.getElem_cons_zero, List.setIfInBounds_toArray, List.set_cons_zero, List.set_cons_succ]
            refine wpAnyH_take (i := 14) (v := ?val14x14) rfl (by kernel_rfl) (by kernel_rfl) (by kernel_rfl) (fun _ _ _ h => h) (Or.inl ⟨by rfl, fun w9 hS9 => ?yields14x14⟩) (by assumption) ?later14x14
            case yields14x14 =>
              dsimp only at hS9
              go_simp
              try with_reducible rfl
            try simp only [Act.put, List.getElem_toArray, List.getElem_cons_succ, List.getElem_cons_zero, List.setIfInBounds_toArray, List.set_cons_zero, List.set_cons_succ]
            refine wpAnyH_take (i := 15) (v := ?val15x15) rfl (by kernel_rfl) (by kernel_rfl) (by kernel_rfl) (fun _ _ _ h => h) (Or.inl ⟨by rfl, fun w9 hS9 => ?yields15x15⟩) (by assumption) ?later15x15
            case yields15x15 =>
              dsimp only at hS9
              go_simp
              try with_reducible rfl
            try simp only [Act.put, List.getElem_toArray, List.getElem_cons_succ, List.getElem_cons_zero, List.setIfInBounds_toArray, List.set_cons_zero, List.set_cons_succ]
            refine wpAnyH_done (by kernel_rfl) ?_ _
            obtain ⟨-, -, -, -, -, HB⟩ := hHeld
            clear HBd MK
            clear KX q0 q1 q2 q3 q4
            have HBZ := Lib.hid (HB9.out.trans (HB.out.mono HB9.out.size))
            have HOZ := Lib.hid (own_keepB HO9.out HB.out)
            clear HO9 HB9 HB
            by_cases he : chainErr (lKpt l k).it (lKpt l k).evs = 0
            · have G : Hid (∀ j, j < k + 1 → kchF l j = 0) := Lib.hid fun j hj => by
                by_cases e : j = k
                · subst e; exact (kch_chain HE.out HT.out).trans he
                · exact Hn.out j (by omega)
              rw [he]
              clear he
              go_wp2_with fail
              go_roundw
              case rel => exact ⟨k + 1, by omega, by go_num, HOZ, G, HBZ⟩
              case measure => simp [intOf]; omega
            · have F := Lib.hid (ov_hit (day := day) H40.out HLT.out Hn.out (kch_chain HE.out HT.out) he)
              have e2 : (chainErr (lKpt l k).it (lKpt l k).evs != 0) = true := by simpa using he
              have e3 : (chainErr (lKpt l k).it (lKpt l k).evs == 0) = false := by simpa using he
              clear he
              go_wp2_with fail
              go_ret2
              exact ⟨⟨none, 0, by rw [F.out.1, F.out.2]; rfl, by rw [F.out.2]; exact ⟨Nat.le_refl _, by decide, fun hh => absurd hh (by simp)⟩⟩, HBZ.out⟩
        · have F := Lib.hid (ov_hit (day := day) H40.out hlt Hn.out (kch_thg he) he)
          have e2 : (thgErr (lKpt l k).it != 0) = true := by simpa using he
          have e3 : (thgErr (lKpt l k).it == 0) = false := by simpa using he
          clear he
          go_wp2_with fail
          go_ret2
          exact ⟨⟨none, 0, by rw [F.out.1, F.out.2]; rfl, by rw [F.out.2]; exact ⟨Nat.le_refl _, by decide, fun hh => absurd hh (by simp)⟩⟩, HB1.out⟩
      · obtain rfl : k = l.length := by omega
        have F := Lib.hid (ov_zero (day := day) H40.out Hn.out)
        clear HO HS
        go_wp2_with fail
        refine (bwithin_any _ _ _ _).mono ?_
        rintro e' wy ⟨rfl, rfl⟩
        cases hwd : within day 0 100000 with
        | false =>
          have F2 := Lib.hid (show ovErr l day = 2 from F.out.trans (if_neg (by rw [hwd]; decide)))
          have F3 := Lib.hid (show ovOut l day = [] from if_neg (by rw [F2.out]; decide))
          clear hwd
          go_wp2_with fail
          go_ret2
          exact ⟨⟨none, 0, by rw [F2.out, F3.out]; rfl, by rw [F3.out]; exact ⟨Nat.le_refl _, by decide, fun hh => absurd hh (by simp)⟩⟩, HB.out⟩
        | true =>
          have F2 := Lib.hid (show ovErr l day = 0 from F.out.trans (if_pos hwd))
          have F3 := Lib.hid (show ovOut l day = offTo l day l.length from if_pos F2.out)
          have HD := Lib.hid (Fs.within_iff.1 hwd)
          have HCH := Lib.hid (ov_ok F2.out).2.2
          have h40' : l.length ≤ 40 := by have := H40.out; omega
          clear hwd
          rename_i wq
          go_wp2_with fail
          go_loopw [11, 12] (fun v i wr => ∃ k : Nat, k ≤ l.length ∧ i = .int .i64 k ∧ Hid (wr.ownsRow w.heap.size 3 1 v (offTo l day k).length (intVals (offTo l day k))) ∧ Hid (Below w.heap.size w wr)) (fun _ i _ => l.length - (intOf i).toNat)
          case atStart => exact ⟨0, Nat.zero_le _, rfl, Lib.hid (World.ownsRow_nil _ _ _ _), HB⟩
          case round =>
            obtain ⟨k, hk, rfl, HOW, HB⟩ := hrel
            have hgl := offTo_len l day k
            by_cases hlt : k < l.length
            · have hkn : (k : Int) < (l.length : Int) := by omega
              obtain ⟨b, o, rfl, ⟨q0, q1, q2, q3, q4⟩, -, qe⟩ := (HA.out.keep (Keep.below HB.out)).at_ hlt
              have QE := Lib.hid qe
              have HEV := Lib.hid (fun j (hj : j < (lKpt l k).evs.length) => evt_day ((chain_ok (HCH.out k hlt)).2.2 j hj))
              clear qe
              by_cases hdy : (lKpt l k).it.day ≤ day
              · have e1 : decide ((lKpt l k).it.day ≤ day) = true := decide_eq_true hdy
                cases hcb : isOff l day k with
                | true =>
                  have HG := Lib.hid (show offTo l day (k + 1) = offTo l day k ++ [(k : Int)] by rw [offTo, if_pos hcb])
                  have e3 : rightOf (lKpt l k).evs (untilN (lKpt l k).evs day) day = 3 := of_decide_eq_true hcb
                  have E3 := Lib.hid e3
                  clear hcb hdy e3
                  go_wp2_with fail
                  refine (rRightAt_any (lKpt l k).evs (a.q k) (a.qc k) day _ QE.out HD.out HEV.out).mono ?_
                  rintro e' wy ⟨rfl, rfl⟩
                  rw [E3.out]
                  go_wp2_with (at_builtin
                               refine wpList_append_own _ rfl (.tmp 92) (.tmp 94) 51 rfl w.heap.size 3 j0 _ 1 8 Tryz.underlying51 hj jz0 jz1 jz2 rfl (by decide) _ _ _ rfl (HOW.out.alloc _) ⟨_, 0, none⟩ 1 1 [.int .i64 k] rfl rfl ?c1 ?c2 ?c3 ?c4 ?c5 ?_)
                  case c1 => exact news0 _ _ _
                  case c2 => exact oneInt _
                  case c3 => unfold maxLen; omega
                  case c4 => omega
                  case c5 => have := HB.out.size; simp; omega
                  intro v9 w9 ho9 hg9 _
                  go_wp2_with fail
                  go_roundw
                  case rel =>
                    refine ⟨k + 1, by omega, by go_num, Lib.hid ?_, Lib.hid ?_⟩
                    · rw [HG.out, intVals_snoc, List.length_append]
                      exact ho9
                    · exact (HB.out.alloc HB.out.size _).grown hg9 (by have := HB.out.size; simp; omega) (fun j hj => (HOW.out.lt j hj).1)
                  case measure => simp [intOf]; omega
                | false =>
                  have HG := Lib.hid (show offTo l day (k + 1) = offTo l day k by rw [offTo, if_neg (by rw [hcb]; decide)])
                  obtain ⟨R, hR⟩ : ∃ R, R = rightOf (lKpt l k).evs (untilN (lKpt l k).evs day) day := ⟨_, rfl⟩
                  have HR := Lib.hid hR
                  have e3 : (R == 3) = false := by
                    have : ¬ R = 3 := fun e => by rw [hR] at e; unfold isOff at hcb; rw [e] at hcb; exact absurd hcb (by decide)
                    simpa using this
                  clear hcb hdy hR
                  go_wp2_with fail
                  refine (rRightAt_any (lKpt l k).evs (a.q k) (a.qc k) day _ QE.out HD.out HEV.out).mono ?_
                  rintro e' wy ⟨rfl, rfl⟩
                  rw [← HR.out]
                  go_wp2_with fail
                  go_roundw
                  case rel => exact ⟨k + 1, by omega, by go_num, by rw [HG.out]; exact HOW, HB⟩
                  case measure => simp [intOf]; omega
              · have e1 : decide ((lKpt l k).it.day ≤ day) = false := decide_eq_false hdy
                have HG := Lib.hid (show offTo l day (k + 1) = offTo l day k by rw [offTo, if_neg (by rw [off_not (HCH.out k hlt) hdy]; decide)])
                clear hdy
                go_wp2_with fail
                go_roundw
                case rel => exact ⟨k + 1, by omega, by go_num, by rw [HG.out]; exact HOW, HB⟩
                case measure => simp [intOf]; omega
            · obtain rfl : k = l.length := by omega
              obtain ⟨A2, c2, rfl, h2⟩ := own_arr HOW.out
              have H2 := Lib.hid h2
              clear h2
              go_wp2_with fail
              go_ret2
              exact ⟨⟨A2, c2, by rw [F2.out, F3.out]; rfl, by rw [F3.out]; exact H2.out⟩, HB.out⟩
end Go.Proofs.YtfjdnbnalihjiaaGreatDoor
/- Copies of items with their events. Conditions: the lists are short. -/
namespace Go.Proofs.YtfjdnbnalihjiaaGreatDoor
open Go.RowKit Fs

theorem kflat_join {n m size : Nat} {C D E : Nat → Nat → Value} (h0 : 0 < size) (h1 : ∀ i j, i < n → j < size → E i j = C i j) (h2 : ∀ i j, i < m → j < size → E (n + i) j = D i j) : flat n size C ++ flat m size D = flat (n + m) size E := by
  apply List.ext_getElem?
  intro t
  have l1 : (flat n size C).length = n * size := by simp [flat]
  have l2 : (flat m size D).length = m * size := by simp [flat]
  have l3 : (flat (n + m) size E).length = (n + m) * size := by simp [flat]
  have l4 : (n + m) * size = n * size + m * size := Nat.add_mul _ _ _
  by_cases a : t < n * size
  · rw [List.getElem?_append_left (by rw [l1]; exact a), flat_get t a, flat_get t (by omega), h1 _ _ (Nat.div_lt_of_lt_mul (by rw [Nat.mul_comm]; exact a)) (Nat.mod_lt _ h0)]
  · obtain ⟨s, rfl⟩ : ∃ s, t = n * size + s := ⟨t - n * size, by omega⟩
    rw [List.getElem?_append_right (by rw [l1]; omega), l1, Nat.add_sub_cancel_left]
    by_cases b : s < m * size
    · rw [flat_get s b, flat_get _ (by omega), Nat.mul_comm n size, Nat.mul_add_div h0, Nat.mul_add_mod, h2 _ _ (Nat.div_lt_of_lt_mul (by rw [Nat.mul_comm]; exact b)) (Nat.mod_lt _ h0)]
    · rw [List.getElem?_eq_none (by omega), List.getElem?_eq_none (by omega)]
/-- An array of values is appended to an own row, at a step of a region that draws; where the row lies. -/
theorem kstep_join {P : Program} {w : World} {ops : Array Oper} {o : Oper} {a : Act} {K : Act → World → Prop} {Q : Exit → Act → World → Prop} {E : Prop} (hgd : o.guard = none) (s x : Operand) (t : TypeId)
    (ho : o.op = .call { callee := .builtin .append, args := #[s, x], argTypes := #[t, t] })
    (base : Nat) (e : TypeId) (i : TypeInfo) (z : Value) (size bytes : Nat) (ht : P.underlying t = some (.slice e)) (hi : P.info? e = some i) (hz : i.zero = some z)
    (hsize : i.size = size) (hby : i.bytes = bytes) (hzs : z.cells.size = size) (hsz : 0 < size)
    (v : Value) (n : Nat) (xs : List Value) (hs : a.eval s = v) (hown : w.ownsRow base e size v n xs) (hbase : base ≤ w.heap.size)
    (ad : Addr) (c : Nat) (news : List Value) (hx : a.eval x = .slice (some ad) 1 c) (hl : news.length = size) (hnews : ∀ j u, news[j]? = some u → w.cell? (ad.add j) = some u) (h1 : ∀ u ∈ news, u.oneCell' = true)
    (h63 : n + 1 ≤ maxLen) (hbytes : (n + 1) * bytes ≤ 140737488355328)
    (h : ∀ v' w', w'.ownsRow base e size v' (n + 1) (xs ++ news) → w.grownBy w' v.ownBlock → (v'.ownBlock = v.ownBlock ∨ v'.ownBlock = some w.heap.size) → K (a.put o.dst v') w') :
    if Region.wanted o (yielded ops a.tmps) = true then Oper.wp P o a w K Q else E := by
  have hw : Region.wanted o (yielded ops a.tmps) = true := by simp [Region.wanted, hgd]
  rw [if_pos hw]
  obtain ⟨v', w', hr, h2, h3, -, h5⟩ := run_append_own_at (P := P) w base t o.type e i z size bytes ht hi hz hsize hby hzs hsz v n xs hown ad 1 c news (by rw [hl, Nat.one_mul]) hnews h1 h63 hbytes hbase
  unfold Oper.wp execOp
  simp only [ho, resolve, invoke, builtin, Sem.run_bind, Sem.run_pure, Result.andThen_ok, List.map_toArray, List.map_cons, List.map_nil, hs, hx, hr]
  exact h v' w' h2 h3 h5
theorem Tryz.infoKpt : (Tryz.prog.info? 100).map (fun i => (i.zero, i.size, i.bytes)) = some (some (.agg #[.string ⟨#[]⟩, .int .i64 0, .string ⟨#[]⟩, .slice none 0 0, .slice none 0 0]), 5, 88) := by kernel_rfl
abbrev OffE (x : Option Nat) (w : World) (A : Option Addr) (l : List Evt) (c : Nat) : Prop := Offm x w A l.length c 5 fun i j => evtCells (lEvt l i) j
def kptRow (x : Kpt) (p : Option Addr) (pc : Nat) (q : Option Addr) (qc : Nat) : List Value := [.string x.it.name, .int .i64 x.it.day, .string x.it.who, .slice p x.it.marks.length pc, .slice q x.evs.length qc]
theorem oneKpt (x : Kpt) (p q : Option Addr) (pc qc : Nat) : ∀ u ∈ kptRow x p pc q qc, u.oneCell' = true := by
  intro u hu
  simp only [kptRow, List.mem_cons, List.not_mem_nil, or_false] at hu
  rcases hu with rfl | rfl | rfl | rfl | rfl <;> rfl
theorem knews5 (w : World) (x : Kpt) (p q : Option Addr) (pc qc : Nat) (t : TypeId) : ∀ j u, (kptRow x p pc q qc)[j]? = some u → (w.alloc (.cells #[.string x.it.name, .int .i64 x.it.day, .string x.it.who, .slice p x.it.marks.length pc, .slice q x.evs.length qc] t)).cell? (Addr.add ⟨w.heap.size, 0, none⟩ j) = some u :=
  World.news_of_block (cs := #[.string x.it.name, .int .i64 x.it.day, .string x.it.who, .slice p x.it.marks.length pc, .slice q x.evs.length qc]) (heap_alloc_new w _)
def KA.put (a : KA) (k : Nat) (A : Option Addr) (c : Nat) (B : Option Addr) (d : Nat) : KA := ⟨fun i => if i = k then A else a.p i, fun i => if i = k then c else a.pc i, fun i => if i = k then B else a.q i, fun i => if i = k then d else a.qc i⟩
def kptVals (l : List Kpt) (a : KA) (k : Nat) : List Value := flat k 5 fun i j => kptCells (lKpt l i) (a.p i) (a.pc i) (a.q i) (a.qc i) j
theorem kptVals_put (l : List Kpt) (a : KA) (k : Nat) (A B : Option Addr) (c d : Nat) : kptVals l (a.put k A c B d) (k + 1) = kptVals l a k ++ kptRow (lKpt l k) A c B d := by
  unfold kptVals
  have e : kptRow (lKpt l k) A c B d = flat 1 5 fun _ j => kptCells (lKpt l k) A c B d j := rfl
  rw [e]
  refine (kflat_join (by decide) (fun i j hi hj => ?_) (fun i j hi hj => ?_)).symm
  · simp only [KA.put]
    rw [if_neg (by omega), if_neg (by omega), if_neg (by omega), if_neg (by omega)]
  · obtain rfl : i = 0 := by omega
    simp only [KA.put, Nat.add_zero, if_pos]
set_option linter.unusedSimpArgs false in
set_option maxHeartbeats 12800000 in
set_option maxRecDepth 100000 in
theorem rCopyKept_any (l : List Kpt) (A : Option Addr) (c : Nat) (a : KA) (w : World) (h : ArrKp w A l c a) (hn : l.length ≤ 1000000) (hm : ∀ i, i < l.length → (lKpt l i).it.marks.length ≤ 1000000 ∧ (lKpt l i).evs.length ≤ 1000000) :
    Calls Tryz.prog 66 #[.slice A l.length c] w fun e w' => (∃ A' c' a', e = .returned (.slice A' l.length c') ∧ ArrKp w' A' l c' a') ∧ Below w.heap.size w w' := by
  obtain ⟨j0, hj, jz0, jz1, jz2⟩ := info_parts Tryz.infoKpt
  have b1 := h.le.1
  have b2 := h.le.2
  have HA := Lib.hid h
  have HM := Lib.hid hm
  clear h hm
  go_enter Tryz.func66, Tryz.ntmps66
  go_wp2_with fail
  go_loopw [3, 4] (fun v i wr => ∃ (k : Nat) (ar : KA) (vr : Value), vr = v ∧ k ≤ l.length ∧ i = .int .i64 k ∧ Hid (Below w.heap.size w wr) ∧ Hid (wr.ownsRow w.heap.size 100 5 vr k (kptVals l ar k)) ∧ Hid (∀ i, i < k → OffM vr.ownBlock wr (ar.p i) (lKpt l i).it.marks (ar.pc i) ∧ OffE vr.ownBlock wr (ar.q i) (lKpt l i).evs (ar.qc i))) (fun _ i _ => l.length - (intOf i).toNat)
  case atStart => exact ⟨0, ⟨fun _ => none, fun _ => 0, fun _ => none, fun _ => 0⟩, _, rfl, Nat.zero_le _, rfl, Lib.hid (Below.refl _ _), Lib.hid (World.ownsRow_nil _ _ _ _), Lib.hid fun i hi => absurd hi (Nat.not_lt_zero _)⟩
  case round =>
    obtain ⟨k, ar, vr, rfl, hk, rfl, HB, OW, OP⟩ := hrel
    by_cases hlt : k < l.length
    · have hkn : (k : Int) < (l.length : Int) := by omega
      have HLT := Lib.hid hlt
      obtain ⟨b, o, rfl, ⟨q0, q1, q2, q3, q4⟩, qm, qe⟩ := HA.out.at_ hlt
      have QM := Lib.hid qm
      have QE := Lib.hid qe
      clear qm qe
      have hvb := Lib.hid (show ∀ x, vr.ownBlock = some x → w.heap.size ≤ x ∧ x < wr.heap.size from fun x hx => OW.out.lt x hx)
      have OW := Lib.hid (below_of_own OW.out (Below.refl wr.heap.size wr).drew)
      have OP := Lib.hid fun i hi => (show OffM vr.ownBlock wr.drew (ar.p i) (lKpt l i).it.marks (ar.pc i) ∧ OffE vr.ownBlock wr.drew (ar.q i) (lKpt l i).evs (ar.qc i) from ⟨(OP.out i hi).1.keep (Keep.drew _), (OP.out i hi).2.keep (Keep.drew _)⟩)
      go_wp2_with fail
      have HBd : Hid (Below w.heap.size w wr.drew) := Lib.hid HB.out.drew
      have MK : Hid (∀ w', Below w.heap.size w w' → w'.cell? ⟨b, o + k * 5, none⟩ = some (.string (lKpt l k).it.name) ∧ w'.cell? ⟨b, o + k * 5 + 1, none⟩ = some (.int .i64 (lKpt l k).it.day) ∧ w'.cell? ⟨b, o + k * 5 + 2, none⟩ = some (.string (lKpt l k).it.who) ∧ w'.cell? ⟨b, o + k * 5 + 3, none⟩ = some (.slice (a.p k) (lKpt l k).it.marks.length (a.pc k)) ∧ w'.cell? ⟨b, o + k * 5 + 4, none⟩ = some (.slice (a.q k) (lKpt l k).evs.length (a.qc k)) ∧ Hid (Below w.heap.size w w')) :=
        Lib.hid fun w' hw => ⟨Keep.below hw _ _ q0, Keep.below hw _ _ q1, Keep.below hw _ _ q2, Keep.below hw _ _ q3, Keep.below hw _ _ q4, Lib.hid hw⟩
      have KX : Hid (∀ w', Below w.heap.size w w' → ArrMk w' (a.p k) (lKpt l k).it.marks (a.pc k) ∧ ArrEv w' (a.q k) (lKpt l k).evs (a.qc k)) := Lib.hid fun w' hw => ⟨QM.out.keep (Keep.below hw), QE.out.keep (Keep.below hw)⟩
      refine wp_region_held_drew (S := fun w' => w'.cell? ⟨b, o + k * 5, none⟩ = some (.string (lKpt l k).it.name) ∧ w'.cell? ⟨b, o + k * 5 + 1, none⟩ = some (.int .i64 (lKpt l k).it.day) ∧ w'.cell? ⟨b, o + k * 5 + 2, none⟩ = some (.string (lKpt l k).it.who) ∧ w'.cell? ⟨b, o + k * 5 + 3, none⟩ = some (.slice (a.p k) (lKpt l k).it.marks.length (a.pc k)) ∧ w'.cell? ⟨b, o + k * 5 + 4, none⟩ = some (.slice (a.q k) (lKpt l k).evs.length (a.qc k)) ∧ Hid (Below w.heap.size w w')) (by kernel_rfl) (MK.out _ HBd.out) (fun hHeld => ?_)
      refine wpAnyH_take (i := 0) (v := ?val0x1) rfl (by kernel_rfl) (by kernel_rfl) (by kernel_rfl) (fun _ _ _ h => h) (Or.inl ⟨by rfl, fun w9 hS9 => ?yields0x1⟩) (by assumption) ?later0x1
      case yields0x1 =>
        dsimp only at hS9
        go_simp
        try with_reducible rfl
      try simp only [Act.put, List.getElem_toArray, List.getElem_cons_succ, List.getElem_cons_zero, List.setIfInBounds_toArray, List.set_cons_zero, List.set_cons_succ]
      refine wpAnyH_take (i := 1) (v := ?val1x2) rfl (by kernel_rfl) (by kernel_rfl) (by kernel_rfl) (fun _ _ _ h => h) (Or.inl ⟨by rfl, fun w9 hS9 => ?yields1x2⟩) (by assumption) ?later1x2
      case yields1x2 =>
        dsimp only at hS9
        go_simp
        try with_reducible rfl
      try simp only [Act.put, List.getElem_toArray, List.getElem_cons_succ, List.getElem_cons_zero, List.setIfInBounds_toArray, List.set_cons_zero, List.set_cons_succ]
      refine wpAnyH_take (i := 2) (v := ?val2x3) rfl (by kernel_rfl) (by kernel_rfl) (by kernel_rfl) (fun _ _ _ h => h) (Or.inl ⟨by rfl, fun w9 hS9 => ?yields2x3⟩) (by assumption) ?later2x3
      case yields2x3 =>
        dsimp only at hS9
        go_simp
        try with_reducible rfl
      try simp only [Act.put, List.getElem_toArray, List.getElem_cons_succ, List.getElem_cons_zero, List.setIfInBounds_toArray, List.set_cons_zero, List.set_cons_succ]
      refine wpAnyH_take (i := 3) (v := ?val3x4) rfl (by kernel_rfl) (by kernel_rfl) (by kernel_rfl) (fun _ _ _ h => h) (Or.inl ⟨by rfl, fun w9 hS9 => ?yields3x4⟩) (by assumption) ?later3x4
      case yields3x4 =>
        dsimp only at hS9
        go_simp
        try with_reducible rfl
      try simp only [Act.put, List.getElem_toArray, List.getElem_cons_succ, List.getElem_cons_zero, List.setIfInBounds_toArray, List.set_cons_zero, List.set_cons_succ]
      refine wpAnyH_take (i := 4) (v := ?val4x5) rfl (by kernel_rfl) (by kernel_rfl) (by kernel_rfl) (fun _ _ _ h => h) (Or.inl ⟨by rfl, fun w9 hS9 => ?yields4x5⟩) (by assumption) ?later4x5
      case yields4x5 =>
        dsimp only at hS9
        go_simp
        try with_reducible rfl
      try simp only [Act.put, List.getElem_toArray, List.getElem_cons_succ, List.getElem_cons_zero, List.setIfInBounds_toArray, List.set_cons_zero, List.set_cons_succ]
      refine wpAnyH_take (i := 5) (v := ?val5x6) rfl (by kernel_rfl) (by kernel_rfl) (by kernel_rfl) (fun _ _ _ h => h) (Or.inl ⟨by rfl, fun w9 hS9 => ?yields5x6⟩) (by assumption) ?later5x6
      case yields5x6 =>
        dsimp only at hS9
        go_simp
        try with_reducible rfl
      try simp only [Act.put, List.getElem_toArray, List.getElem_cons_succ, List.getElem_cons_zero, List.setIfInBounds_toArray, List.set_cons_zero, List.set_cons_succ]
      refine wpAnyH_take (i := 7) (v := ?val7x7) rfl (by kernel_rfl) (by kernel_rfl) (by kernel_rfl) (fun _ _ _ h => h) (Or.inl ⟨by rfl, fun w9 hS9 => ?yields7x7⟩) (by assumption) ?later7x7
      case yields7x7 =>
        dsimp only at hS9
        go_simp
        try with_reducible rfl
      try simp only [Act.put, List.getElem_toArray, List.getElem_cons_succ, List.getElem_cons_zero, List.setIfInBounds_toArray, List.set_cons_zero, List.set_cons_succ]
      refine wpAnyH_take (i := 8) (v := ?val8x8) rfl (by kernel_rfl) (by kernel_rfl) (by kernel_rfl) (fun _ _ _ h => h) (Or.inl ⟨by rfl, fun w9 hS9 => ?yields8x8⟩) (by assumption) ?later8x8
      case yields8x8 =>
        dsimp only at hS9
        go_simp
        try with_reducible rfl
      try simp only [Act.put, List.getElem_toArray, List.getElem_cons_succ, List.getElem_cons_zero, List.setIfInBounds_toArray, List.set_cons_zero, List.set_cons_succ]
      refine wpAnyH_take (i := 9) (v := ?val9x9) rfl (by kernel_rfl) (by kernel_rfl) (by kernel_rfl) (fun _ _ _ h => h) (Or.inl ⟨by rfl, fun w9 hS9 => ?yields9x9⟩) (by assumption) ?later9x9
      case yields9x9 =>
        dsimp only at hS9
        go_simp
        try with_reducible rfl
      try simp only [Act.put, List.getElem_toArray, List.getElem_cons_succ, List.getElem_cons_zero, List.setIfInBounds_toArray, List.set_cons_zero, List.set_cons_succ]
      refine wpAnyH_take (i := 10) (v := ?val10x10) rfl (by kernel_rfl) (by kernel_rfl) (by kernel_rfl) (fun _ _ _ h => h) (Or.inl ⟨by rfl, fun w9 hS9 => ?yields10x10⟩) (by assumption) ?later10x10
      case yields10x10 =>
        dsimp only at hS9
        go_simp
        try with_reducible rfl
      try simp only [Act.put, List.getElem_toArray, List.getElem_cons_succ, List.getElem_cons_zero, List.setIfInBounds_toArray, List.set_cons_zero, List.set_cons_succ]
      refine wpAnyH_take (i := 11) (v := ?val11x11) rfl (by kernel_rfl) (by kernel_rfl) (by kernel_rfl) (fun _ _ _ h => h) (Or.inl ⟨by rfl, fun w9 hS9 => ?yields11x11⟩) (by assumption) ?later11x11
      case yields11x11 =>
        dsimp only at hS9
        go_simp
        try with_reducible rfl
      try simp only [Act.put, List.getElem_toArray, List.getElem_cons_succ, List.getElem_cons_zero, List.setIfInBounds_toArray, List.set_cons_zero, List.set_cons_succ]
      refine wpAnyH_ready (rs := [6]) (by kernel_rfl) (by simp) ?_
      refine AllReadyH.cons rfl (fun K hK => ?_) AllReadyH.nil
      go_simp
      go_at_call 22
      go_split_ands
      refine (rCopyItem_any (lKpt l k).it _ _ ⟨_, _, rfl, (KX.out _ (Hid.out (by assumption))).1⟩ (HM.out k HLT.out).1).mono ?_
      rintro e' w5 ⟨A5, c5, rfl, h5, a5, hb1⟩
      have NP := Lib.hid (Offm.of (x := vr.ownBlock) h5 a5 (fun x hx => (hvb.out x hx).2))
      clear h5 a5
      have OW := Lib.hid (below_of_own OW.out hb1)
      have OP := Lib.hid fun i hi => (show OffM vr.ownBlock w5 (ar.p i) (lKpt l i).it.marks (ar.pc i) ∧ OffE vr.ownBlock w5 (ar.q i) (lKpt l i).evs (ar.qc i) from ⟨(OP.out i hi).1.keep (Keep.below hb1), (OP.out i hi).2.keep (Keep.below hb1)⟩)
      go_wp2_with fail
      refine hK.out _ _ ?_ (fun hHeld => ?_)
      · (try dsimp only)
        (go_split_ands; exact MK.out _ (Below.trans (Hid.out (by assumption)) (hb1.mono (Hid.out (by assumption) : Below w.heap.size w _).size)))
      clear hK K
      try simp only [Act.put, List.getElem_toArray, List.getElem_cons_succ, List.getElem_cons_zero, List.setIfInBounds_toArray, List.set_cons_zero, List.set_cons_succ]
      refine wpAnyH_ready (rs := [12]) (by kernel_rfl) (by simp) ?_
      refine AllReadyH.cons rfl (fun K hK => ?_) AllReadyH.nil
      go_simp
      go_at_call 56
      go_split_ands
      refine (rCopyEvents_any (lKpt l k).evs (a.q k) (a.qc k) _ (KX.out _ (Hid.out (by assumption))).2 (HM.out k HLT.out).2).mono ?_
      rintro e' w6 ⟨A6, c6, rfl, h6, a6, hb1⟩
      have NE := Lib.hid (Offm.of (x := vr.ownBlock) h6 a6 (fun x hx => (OW.out.lt x hx).2))
      have NP := Lib.hid (NP.out.keep (Keep.below hb1))
      clear h6 a6
      have OW := Lib.hid (below_of_own OW.out hb1)
      have OP := Lib.hid fun i hi => (show OffM vr.ownBlock w6 (ar.p i) (lKpt l i).it.marks (ar.pc i) ∧ OffE vr.ownBlock w6 (ar.q i) (lKpt l i).evs (ar.qc i) from ⟨(OP.out i hi).1.keep (Keep.below hb1), (OP.out i hi).2.keep (Keep.below hb1)⟩)
      go_wp2_with fail
      refine hK.out _ _ ?_ (fun hHeld => ?_)
      · (try dsimp only)
        (go_split_ands; exact MK.out _ (Below.trans (Hid.out (by assumption)) (hb1.mono (Hid.out (by assumption) : Below w.heap.size w _).size)))
      clear hK K
      try simp only [Act.put, List.getElem_toArray, List.getElem_cons_succ, List.getElem_cons_zero, List.setIfInBounds_toArray, List.set_cons_zero, List.set_cons_succ]
      refine wpAnyH_take (i := 13) (v := ?val13x12) rfl (by kernel_rfl) (by kernel_rfl) (by kernel_rfl) (fun _ _ _ h => h) (Or.inl ⟨by rfl, fun w9 hS9 => ?yields13x12⟩) (by assumption) ?later13x12
      case yields13x12 =>
        dsimp only at hS9
        go_simp
        try with_reducible rfl
      try simp only [Act.put, List.getElem_toArray, List.getElem_cons_succ, List.getElem_cons_zero, List.setIfInBounds_toArray, List.set_cons_zero, List.set_cons_succ]
      refine wpAnyH_ready (rs := [14]) (by kernel_rfl) (by simp) ?_
      refine AllReadyH.cons rfl (fun K hK => ?_) AllReadyH.nil
      go_simp
      refine hK.out _ _ ?_ (fun hHeld => ?_)
      · (try dsimp only)
        (go_split_ands; exact MK.out _ (Below.alloc (Hid.out (by assumption)) (Hid.out (by assumption) : Below w.heap.size w _).size _))
      clear hK K
      try simp only [Act.put, List.getElem_toArray, List.getElem_cons_succ, List.getElem_cons_zero, List.setIfInBounds_toArray, List.set_cons_zero, List.set_cons_succ]
      refine wpAnyH_ready (rs := [15]) (by kernel_rfl) (by simp) ?_
      refine AllReadyH.cons rfl (fun K hK => ?_) AllReadyH.nil
      obtain ⟨-, -, -, -, -, HBX⟩ := hHeld
      refine kstep_join rfl (.tmp 11) (.tmp 25) 98 rfl w.heap.size 100 j0 _ 5 88 Tryz.underlying98 hj jz0 jz1 jz2 rfl (by decide) vr k (kptVals l ar k) rfl (OW.out.alloc (.cells #[.string (lKpt l k).it.name, .int .i64 (lKpt l k).it.day, .string (lKpt l k).it.who, .slice A5 (lKpt l k).it.marks.length c5, .slice A6 (lKpt l k).evs.length c6] 100)) HBX.out.size ⟨w6.heap.size, 0, none⟩ 1 (kptRow (lKpt l k) A5 c5 A6 c6) rfl rfl (knews5 w6 (lKpt l k) A5 A6 c5 c6 100) (oneKpt _ _ _ _ _) (by unfold maxLen; omega) (by omega) ?_
      intro v5 w9 hown hg5 hblk
      rw [← kptVals_put l ar k A5 A6 c5 c6] at hown
      have HG5 := Lib.hid (HBX.out.grown hg5 HBX.out.size (fun x hx => (hvb.out x hx).1))
      have OW5 := Lib.hid hown
      have OP5 : Hid (∀ i, i < k + 1 → OffM v5.ownBlock w9 ((ar.put k A5 c5 A6 c6).p i) (lKpt l i).it.marks ((ar.put k A5 c5 A6 c6).pc i) ∧ OffE v5.ownBlock w9 ((ar.put k A5 c5 A6 c6).q i) (lKpt l i).evs ((ar.put k A5 c5 A6 c6).qc i)) := Lib.hid fun i hi => by
        by_cases e : i = k
        · subst e
          simp only [KA.put, if_pos]
          exact ⟨(NP.out.keep (Keep.alloc _ _)).grown (by decide) hg5 hblk, (NE.out.keep (Keep.alloc _ _)).grown (by decide) hg5 hblk⟩
        · simp only [KA.put, if_neg e]
          exact ⟨((OP.out i (by omega)).1.keep (Keep.alloc _ _)).grown (by decide) hg5 hblk, ((OP.out i (by omega)).2.keep (Keep.alloc _ _)).grown (by decide) hg5 hblk⟩
      refine hK.out _ _ (MK.out _ HG5.out) (fun hHeld => ?_)
      try simp only [Act.put, List.getElem_toArray, List.getElem_cons_succ, List.getElem_cons_zero, List.setIfInBounds_toArray, List.set_cons_zero, List.set_cons_succ]
      clear hown hg5 hblk HBX hK K OW OP NP NE
      refine wpAnyH_take (i := 16) (v := ?val16x13) rfl (by kernel_rfl) (by kernel_rfl) (by kernel_rfl) (fun _ _ _ h => h) (Or.inl ⟨by rfl, fun w9 hS9 => ?yields16x13⟩) (by assumption) ?later16x13
      case yields16x13 =>
        dsimp only at hS9
        go_simp
        try with_reducible rfl
      try simp only [Act.put, List.getElem_toArray, List.getElem_cons_succ, List.getElem_cons_zero, List.setIfInBounds_toArray, List.set_cons_zero, List.set_cons_succ]
      refine wpAnyH_done (by kernel_rfl) ?_ _
      clear hHeld MK KX HBd q0 q1 q2 q3 q4
      go_wp2_with fail
      go_roundw
      case rel => exact ⟨k + 1, ar.put k A5 c5 A6 c6, _, rfl, by omega, by go_num, HG5, OW5, OP5⟩
      case measure => simp [intOf]; omega
    · obtain rfl : k = l.length := by omega
      have OWN := OW.out
      unfold kptVals at OWN
      obtain ⟨AR, cR, rfl, harr⟩ := own_row OWN
      have HAR := Lib.hid harr
      clear OWN harr
      go_wp2_with fail
      go_ret
      exact ⟨⟨AR, cR, ar, rfl, HAR.out, fun i hi => ⟨(OP.out i hi).1.arr, (OP.out i hi).2.arr⟩⟩, HB.out⟩
end Go.Proofs.YtfjdnbnalihjiaaGreatDoor

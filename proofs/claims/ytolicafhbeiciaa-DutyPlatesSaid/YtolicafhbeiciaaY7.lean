/- The free plate of the least number. Condition: the plates of the earlier uses are below C, C is below 14. -/
import Derived.Test.YtolicafhbeiciaaY2
import Derived.Test.YtolicafhbeiciaaV1
import Derived.Test.YtolicafhbeiciaaD25
namespace Go.Proofs.Ytolicafhbeiciaa
open Go.RowKit Fs

/-- r is the place of the first false, or there is none. -/
def FreeAt (T : List Bool) (r : Int) : Prop := (∃ j : Nat, r = (j : Int) ∧ j < T.length ∧ T[j]? = some false ∧ ∀ i, i < j → T[i]? = some true) ∨ (r = -1 ∧ ∀ i, i < T.length → T[i]? = some true)
def SameW (w w' : World) : Prop := w = w'
def Fs.takenTo (l : List WRec) (P : List Int) (O : List Nat) (u : Nat) : Nat → List Bool
  | 0 => List.replicate 14 false
  | k + 1 => if overlapB (listW l (O.getD k 0)) (listW l u) = true then (takenTo l P O u k).set (listI P (O.getD k 0)).toNat true else takenTo l P O u k
theorem taken_len (l : List WRec) (P : List Int) (O : List Nat) (u : Nat) : ∀ k, (takenTo l P O u k).length = 14
  | 0 => rfl
  | k + 1 => by
    unfold takenTo
    split
    · rw [List.length_set]; exact taken_len l P O u k
    · exact taken_len l P O u k
theorem taken_is (l : List WRec) (P : List Int) (O : List Nat) (u : Nat) {C : Nat} : ∀ k, (∀ j, j < k → 0 ≤ listI P (O.getD j 0) ∧ listI P (O.getD j 0) < (C : Int)) → ∀ p : Nat, p < 14 → ((takenTo l P O u k)[p]? = some true ↔ ∃ j, j < k ∧ overlapB (listW l (O.getD j 0)) (listW l u) = true ∧ listI P (O.getD j 0) = (p : Int)) := by
  intro k
  induction k with
  | zero =>
    intro _ p hp
    unfold takenTo
    rw [List.getElem?_replicate, if_pos hp]
    exact ⟨fun h => absurd h (by simp), fun ⟨j, hj, _⟩ => absurd hj (Nat.not_lt_zero _)⟩
  | succ k ih =>
    intro hb p hp
    have ih' := ih (fun j hj => hb j (by omega)) p hp
    have hk := hb k (by omega)
    have hl := taken_len l P O u k
    rw [takenTo]
    by_cases ho : overlapB (listW l (O.getD k 0)) (listW l u) = true
    · rw [if_pos ho]
      by_cases e : (listI P (O.getD k 0)).toNat = p
      · subst e
        rw [List.getElem?_set_self (by omega)]
        exact ⟨fun _ => ⟨k, Nat.lt_succ_self k, ho, (Int.toNat_of_nonneg hk.1).symm⟩, fun _ => rfl⟩
      · rw [List.getElem?_set_ne e, ih']
        constructor
        · rintro ⟨j, hj, h1, h2⟩; exact ⟨j, by omega, h1, h2⟩
        · rintro ⟨j, hj, h1, h2⟩
          by_cases ej : j = k
          · subst ej; exact absurd (by rw [h2]; rfl) e
          · exact ⟨j, by omega, h1, h2⟩
    · rw [if_neg ho, ih']
      constructor
      · rintro ⟨j, hj, h1, h2⟩; exact ⟨j, by omega, h1, h2⟩
      · rintro ⟨j, hj, h1, h2⟩
        by_cases ej : j = k
        · subst ej; exact absurd h1 ho
        · exact ⟨j, by omega, h1, h2⟩
structure Fs.Free (l : List WRec) (P : List Int) (O : List Nat) (u k : Nat) (C p : Nat) : Prop where
  le : p ≤ C
  no : ∀ j, j < k → overlapB (listW l (O.getD j 0)) (listW l u) = true → listI P (O.getD j 0) ≠ (p : Int)
  low : ∀ q, q < p → ∃ j, j < k ∧ overlapB (listW l (O.getD j 0)) (listW l u) = true ∧ listI P (O.getD j 0) = (q : Int)
theorem free_is {l : List WRec} {P : List Int} {O : List Nat} {u k C : Nat} {r : Int} (hC : C < 14) (hb : ∀ j, j < k → 0 ≤ listI P (O.getD j 0) ∧ listI P (O.getD j 0) < (C : Int)) (h : FreeAt (takenTo l P O u k) r) : ∃ p : Nat, r = (p : Int) ∧ Free l P O u k C p := by
  have hl := taken_len l P O u k
  have hT := taken_is l P O u k hb
  have hno : (takenTo l P O u k)[C]? ≠ some true := fun hh => by
    obtain ⟨j, hj, _, h2⟩ := (hT C hC).1 hh
    have := (hb j hj).2
    omega
  rcases h with ⟨p, rfl, hp, h1, h2⟩ | ⟨rfl, h2⟩
  · refine ⟨p, rfl, ?_, ?_, ?_⟩
    · by_cases hpc : p ≤ C
      · exact hpc
      · exact absurd (h2 C (by omega)) hno
    · intro j hj h3 h4
      have := (hT p (by omega)).2 ⟨j, hj, h3, h4⟩
      rw [h1] at this
      cases this
    · intro q hq
      exact (hT q (by omega)).1 (h2 q hq)
  · exact absurd (h2 C (by omega)) hno
set_option linter.unusedSimpArgs false in
set_option maxHeartbeats 12800000 in
set_option maxRecDepth 100000 in
theorem xIndexB_any (T : List Bool) (g : Nat) (tt : TypeId) (c : Nat) (w : World) (h : RowV w g tt (T.map Value.bool)) (hT : T.length ≤ 14) :
    Calls Try.prog 158 #[.slice (some ⟨g, 0, none⟩) T.length c, .bool false] w fun e w' => (∃ r, e = .returned (.int .i64 r) ∧ FreeAt T r) ∧ w' = w := by
  have HR := Lib.hid h
  clear h
  go_enter Try.func158, Try.ntmps158
  go_wp2_with fail
  go_loopw [8] (fun s wr => ∃ k : Nat, k ≤ T.length ∧ s = .int .i64 k ∧ Hid (∀ i, i < k → T[i]? = some true) ∧ Hid (SameW wr w)) (fun s _ => T.length - (intOf s).toNat)
  case atStart => exact ⟨0, Nat.zero_le _, rfl, Lib.hid fun i hi => absurd hi (Nat.not_lt_zero _), Lib.hid (show SameW _ _ from rfl)⟩
  case round =>
    obtain ⟨k, hk, rfl, HT, HW⟩ := hrel
    obtain rfl := (show wr = w from HW.out)
    by_cases hlt : k < T.length
    · have hkn : (k : Int) < (T.length : Int) := by omega
      cases hb : T[k] with
      | true =>
        have q0 : wr.cell? ⟨g, k, none⟩ = some (.bool true) := by rw [HR.out.cell, List.getElem?_map, List.getElem?_eq_getElem hlt, hb]; rfl
        have G := Lib.hid (show ∀ i, i < k + 1 → T[i]? = some true from fun i hi => by
          by_cases e : i = k
          · subst e; rw [List.getElem?_eq_getElem hlt, hb]
          · exact HT.out i (by omega))
        clear hb
        go_wp2_with fail
        go_roundw
        case rel => exact ⟨k + 1, by omega, by go_num, G, HW⟩
        case measure => simp [intOf]; omega
      | false =>
        have q0 : wr.cell? ⟨g, k, none⟩ = some (.bool false) := by rw [HR.out.cell, List.getElem?_map, List.getElem?_eq_getElem hlt, hb]; rfl
        have G := Lib.hid (show FreeAt T (k : Int) from Or.inl ⟨k, rfl, hlt, by rw [List.getElem?_eq_getElem hlt, hb], HT.out⟩)
        clear hb
        go_wp2_with fail
        go_ret
        exact ⟨⟨_, rfl, G.out⟩, rfl⟩
    · have G := Lib.hid (show FreeAt T (-1) from Or.inr ⟨rfl, fun i hi => HT.out i (by omega)⟩)
      go_wp2_with fail
      go_ret
      exact ⟨⟨_, rfl, G.out⟩, rfl⟩
set_option linter.unusedSimpArgs false in
set_option maxHeartbeats 12800000 in
set_option maxRecDepth 100000 in
theorem xFreePlate_any (l : List WRec) (P : List Int) (O : List Nat) (A G B : Option Addr) (c cg cb u C : Nat) (w : World) (h : ArrW w A l c) (hG : ArrI w G P cg) (hB : ArrI w B (O.map Int.ofNat) cb) (hP : P.length = l.length) (hu : u < l.length)
    (hO : ∀ j, j < O.length → O.getD j 0 < l.length) (hC : C < 14) (hb : ∀ j, j < O.length → 0 ≤ listI P (O.getD j 0) ∧ listI P (O.getD j 0) < (C : Int)) (hl : l.length ≤ 14) :
    Calls Try.prog 122 #[.slice A l.length c, .slice G P.length cg, .slice B O.length cb, .int .i64 u] w fun e w' => (∃ p : Nat, e = .returned (.int .i64 p) ∧ Free l P O u O.length C p) ∧ Below w.heap.size w w' := by
  have b1 := h.le.1
  have b2 := h.le.2
  have g1 := hG.le.1
  have g2 := hG.le.2
  have k1 := hB.le.1
  have k2 := hB.le.2
  rw [List.length_map] at k1
  have HA := Lib.hid h
  have HG := Lib.hid hG
  have HB := Lib.hid hB
  have HP := Lib.hid hP
  have HO := Lib.hid hO
  have Hb := Lib.hid hb
  clear h hG hB hP hO hb
  go_enter Try.func122, Try.ntmps122
  have HR0 : Hid (RowV (w.alloc (.cells #[.bool false, .bool false, .bool false, .bool false, .bool false, .bool false, .bool false, .bool false, .bool false, .bool false, .bool false, .bool false, .bool false, .bool false] 186)) w.heap.size 186 ((takenTo l P O u 0).map Value.bool)) := Lib.hid (by
    have := heap_alloc_new w (.cells #[.bool false, .bool false, .bool false, .bool false, .bool false, .bool false, .bool false, .bool false, .bool false, .bool false, .bool false, .bool false, .bool false, .bool false] 186)
    exact this)
  go_upto_region 2 with fail
  generalize hwb : w.alloc _ = wb at *
  obtain ⟨g, hg⟩ : ∃ g, g = w.heap.size := ⟨_, rfl⟩
  have HW : Hid (Below w.heap.size w wb) := by rw [← hwb]; exact Lib.hid ((Below.refl _ _).alloc (Nat.le_refl _) _)
  clear hwb
  have HGE := Lib.hid hg
  rw [← hg] at HR0 ⊢
  have hgw : w.heap.size ≤ g := by omega
  clear hg
  go_wp2_with fail
  go_loopw [14] (fun s wr => ∃ k : Nat, k ≤ O.length ∧ s = .int .i64 k ∧ Hid (RowV wr g 186 ((takenTo l P O u k).map Value.bool)) ∧ Hid (Below w.heap.size w wr)) (fun s _ => O.length - (intOf s).toNat)
  case atStart => exact ⟨0, Nat.zero_le _, rfl, HR0, HW⟩
  case round =>
    obtain ⟨k, hk, rfl, HR, HBr⟩ := hrel
    by_cases hlt : k < O.length
    · have hkn : (k : Int) < (O.length : Int) := by omega
      obtain ⟨j, hj⟩ : ∃ j, j = O.getD k 0 := ⟨_, rfl⟩
      have HJ := Lib.hid hj
      have hjl : j < l.length := by rw [hj]; exact HO.out k hlt
      have hjn : (j : Int) < (l.length : Int) := by omega
      have hun : (u : Int) < (l.length : Int) := by omega
      have hjw : IntKind.i64.wrap (j : Int) = (j : Int) := by rw [IntKind.wrap_i64]; omega
      obtain ⟨b', o', rfl, p0⟩ := (HB.out.keep (Keep.below HBr.out)).at_ (k := k) (by rw [List.length_map]; exact hlt)
      have ej : listI (O.map Int.ofNat) k = (j : Int) := by
        rw [hj]; unfold listI
        rw [List.getD_eq_getElem?_getD, List.getD_eq_getElem?_getD, List.getElem?_map, List.getElem?_eq_getElem hlt]
        rfl
      rw [ej] at p0
      obtain ⟨b, o, rfl, q0, q1, q2⟩ := (HA.out.keep (Keep.below HBr.out)).at_ (k := j) hjl
      obtain ⟨b9, o9, e9, y0, y1, y2⟩ := (HA.out.keep (Keep.below HBr.out)).at_ (k := u) hu
      obtain ⟨rfl, rfl⟩ : b = b9 ∧ o = o9 := by simpa using e9
      obtain ⟨b3, o3, rfl, z0⟩ := (HG.out.keep (Keep.below HBr.out)).at_ (k := j) (by rw [HP.out]; exact hjl)
      obtain ⟨pn, hpn, hpC⟩ : ∃ pn : Nat, listI P j = (pn : Int) ∧ pn < 14 := by
        have := Hb.out k hlt
        rw [← hj] at this
        exact ⟨(listI P j).toNat, by omega, by omega⟩
      rw [hpn] at z0
      have HPN := Lib.hid hpn
      have hjP : (j : Int) < (P.length : Int) := by have := HP.out; omega
      have hpi : (pn : Int) < 14 := by omega
      have hpw : IntKind.i64.wrap (pn : Int) = (pn : Int) := by rw [IntKind.wrap_i64]; omega
      clear e9 ej hj hpn
      go_upto_region 5 with fail
      go_wp2_with fail
      have HBd : Hid (Below wr.heap.size wr wr.drew) := Lib.hid (Below.refl _ _).drew
      have MK : Hid (∀ w', Below wr.heap.size wr w' → w'.cell? ⟨b, o + j * 3, none⟩ = some (.string (listW l j).who) ∧ w'.cell? ⟨b, o + j * 3 + 1, none⟩ = some (.int .i64 (listW l j).beg) ∧ w'.cell? ⟨b, o + j * 3 + 2, none⟩ = some (.int .i64 (listW l j).fin) ∧ w'.cell? ⟨b, o + u * 3, none⟩ = some (.string (listW l u).who) ∧ w'.cell? ⟨b, o + u * 3 + 1, none⟩ = some (.int .i64 (listW l u).beg) ∧ w'.cell? ⟨b, o + u * 3 + 2, none⟩ = some (.int .i64 (listW l u).fin) ∧ w'.cell? ⟨b3, o3 + j, none⟩ = some (.int .i64 pn) ∧ Hid (Below wr.heap.size wr w')) :=
        Lib.hid fun w' hw => ⟨Keep.below hw _ _ q0, Keep.below hw _ _ q1, Keep.below hw _ _ q2, Keep.below hw _ _ y0, Keep.below hw _ _ y1, Keep.below hw _ _ y2, Keep.below hw _ _ z0, Lib.hid hw⟩
      refine wp_region_held_drew (S := fun w' => w'.cell? ⟨b, o + j * 3, none⟩ = some (.string (listW l j).who) ∧ w'.cell? ⟨b, o + j * 3 + 1, none⟩ = some (.int .i64 (listW l j).beg) ∧ w'.cell? ⟨b, o + j * 3 + 2, none⟩ = some (.int .i64 (listW l j).fin) ∧ w'.cell? ⟨b, o + u * 3, none⟩ = some (.string (listW l u).who) ∧ w'.cell? ⟨b, o + u * 3 + 1, none⟩ = some (.int .i64 (listW l u).beg) ∧ w'.cell? ⟨b, o + u * 3 + 2, none⟩ = some (.int .i64 (listW l u).fin) ∧ w'.cell? ⟨b3, o3 + j, none⟩ = some (.int .i64 pn) ∧ Hid (Below wr.heap.size wr w')) (by kernel_rfl) (MK.out _ HBd.out) (fun hHeld => ?_)
      refine wpAnyH_take (i := 0) (v := ?val0x19) rfl (by kernel_rfl) (by kernel_rfl) (by kernel_rfl) (fun _ _ _ h => h) (Or.inl ⟨by rfl, fun w9 hS9 => ?yields0x19⟩) (by assumption) ?later0x19
      case yields0x19 =>
        dsimp only at hS9
        go_simp
        try with_reducible rfl
      try simp only [Act.put, List.getElem_toArray, List.getElem_cons_succ, List.getElem_cons_zero, List.setIfInBounds_toArray, List.set_cons_zero, List.set_cons_succ]
      refine wpAnyH_take (i := 1) (v := ?val1x20) rfl (by kernel_rfl) (by kernel_rfl) (by kernel_rfl) (fun _ _ _ h => h) (Or.inl ⟨by rfl, fun w9 hS9 => ?yields1x20⟩) (by assumption) ?later1x20
      case yields1x20 =>
        dsimp only at hS9
        go_simp
        try with_reducible rfl
      try simp only [Act.put, List.getElem_toArray, List.getElem_cons_succ, List.getElem_cons_zero, List.setIfInBounds_toArray, List.set_cons_zero, List.set_cons_succ]
      refine wpAnyH_take (i := 2) (v := ?val2x21) rfl (by kernel_rfl) (by kernel_rfl) (by kernel_rfl) (fun _ _ _ h => h) (Or.inl ⟨by rfl, fun w9 hS9 => ?yields2x21⟩) (by assumption) ?later2x21
      case yields2x21 =>
        dsimp only at hS9
        go_simp
        try with_reducible rfl
      try simp only [Act.put, List.getElem_toArray, List.getElem_cons_succ, List.getElem_cons_zero, List.setIfInBounds_toArray, List.set_cons_zero, List.set_cons_succ]
      refine wpAnyH_take (i := 3) (v := ?val3x22) rfl (by kernel_rfl) (by kernel_rfl) (by kernel_rfl) (fun _ _ _ h => h) (Or.inl ⟨by rfl, fun w9 hS9 => ?yields3x22⟩) (by assumption) ?later3x22
      case yields3x22 =>
        dsimp only at hS9
        go_simp
        try with_reducible rfl
      try simp only [Act.put, List.getElem_toArray, List.getElem_cons_succ, List.getElem_cons_zero, List.setIfInBounds_toArray, List.set_cons_zero, List.set_cons_succ]
      refine wpAnyH_take (i := 4) (v := ?val4x23) rfl (by kernel_rfl) (by kernel_rfl) (by kernel_rfl) (fun _ _ _ h => h) (Or.inl ⟨by rfl, fun w9 hS9 => ?yields4x23⟩) (by assumption) ?later4x23
      case yields4x23 =>
        dsimp only at hS9
        go_simp
        try with_reducible rfl
      try simp only [Act.put, List.getElem_toArray, List.getElem_cons_succ, List.getElem_cons_zero, List.setIfInBounds_toArray, List.set_cons_zero, List.set_cons_succ]
      refine wpAnyH_take (i := 5) (v := ?val5x24) rfl (by kernel_rfl) (by kernel_rfl) (by kernel_rfl) (fun _ _ _ h => h) (Or.inl ⟨by rfl, fun w9 hS9 => ?yields5x24⟩) (by assumption) ?later5x24
      case yields5x24 =>
        dsimp only at hS9
        go_simp
        try with_reducible rfl
      try simp only [Act.put, List.getElem_toArray, List.getElem_cons_succ, List.getElem_cons_zero, List.setIfInBounds_toArray, List.set_cons_zero, List.set_cons_succ]
      refine wpAnyH_take (i := 6) (v := ?val6x25) rfl (by kernel_rfl) (by kernel_rfl) (by kernel_rfl) (fun _ _ _ h => h) (Or.inl ⟨by rfl, fun w9 hS9 => ?yields6x25⟩) (by assumption) ?later6x25
      case yields6x25 =>
        dsimp only at hS9
        go_simp
        try with_reducible rfl
      try simp only [Act.put, List.getElem_toArray, List.getElem_cons_succ, List.getElem_cons_zero, List.setIfInBounds_toArray, List.set_cons_zero, List.set_cons_succ]
      refine wpAnyH_take (i := 7) (v := ?val7x26) rfl (by kernel_rfl) (by kernel_rfl) (by kernel_rfl) (fun _ _ _ h => h) (Or.inl ⟨by rfl, fun w9 hS9 => ?yields7x26⟩) (by assumption) ?later7x26
      case yields7x26 =>
        dsimp only at hS9
        go_simp
        try with_reducible rfl
      try simp only [Act.put, List.getElem_toArray, List.getElem_cons_succ, List.getElem_cons_zero, List.setIfInBounds_toArray, List.set_cons_zero, List.set_cons_succ]
      refine wpAnyH_ready (rs := [8]) (by kernel_rfl) (by simp) ?_
      refine AllReadyH.cons rfl (fun K hK => ?_) AllReadyH.nil
      go_simp
      go_at_call 155
      go_split_ands
      refine (xOverlap_any (listW l j) (listW l u) _).mono ?_
      rintro e' w5 ⟨rfl, hb1⟩
      go_wp2_with fail
      refine hK.out _ _ ?_ (fun hHeld => ?_)
      · (try dsimp only)
        (go_split_ands; exact MK.out _ (Below.trans (Hid.out (by assumption)) (hb1.mono (Hid.out (by assumption) : Below wr.heap.size wr _).size)))
      clear hK K
      try simp only [Act.put, List.getElem_toArray, List.getElem_cons_succ, List.getElem_cons_zero, List.setIfInBounds_toArray, List.set_cons_zero, List.set_cons_succ]
      refine wpAnyH_done (by kernel_rfl) ?_ _
      obtain ⟨-, -, -, -, -, -, -, HB5⟩ := hHeld
      clear HBd MK
      have z5 := Keep.below HB5.out _ _ z0
      have HB6 := Lib.hid (HBr.out.trans (HB5.out.mono HBr.out.size))
      have HR5 := Lib.hid (HR.out.keep HB5.out)
      have tl := taken_len l P O u k
      obtain ⟨bx, q9⟩ : ∃ bx, w5.cell? ⟨g, pn, none⟩ = some (.bool bx) := by
        refine ⟨(takenTo l P O u k)[pn]'(by omega), ?_⟩
        rw [HR5.out.cell, List.getElem?_map, List.getElem?_eq_getElem (by omega)]; rfl
      have f9 := HR5.out.frozen pn
      clear q0 q1 q2 y0 y1 y2 z0 p0 tl
      cases ho : overlapB (listW l j) (listW l u) with
      | true =>
        have HR7 := Lib.hid ((HR5.out.set pn (.bool true)).cong (show ((takenTo l P O u k).map Value.bool).set pn (.bool true) = (takenTo l P O u (k + 1)).map Value.bool by
          rw [show takenTo l P O u (k + 1) = (takenTo l P O u k).set pn true by rw [takenTo, ← HJ.out, if_pos ho, HPN.out, Int.toNat_natCast], List.map_set]))
        have HB7 := Lib.hid (HB6.out.setCell (p := ⟨g, pn, none⟩) hgw (.bool true))
        clear ho
        go_wp2_with fail
        go_roundw
        case rel => exact ⟨k + 1, by omega, by go_num, HR7, HB7⟩
        case measure => simp [intOf]; omega
      | false =>
        have HR7 := Lib.hid (HR5.out.cong (show (takenTo l P O u k).map Value.bool = (takenTo l P O u (k + 1)).map Value.bool by
          rw [takenTo, ← HJ.out, if_neg (by rw [ho]; decide)]))
        clear ho
        go_wp2_with fail
        go_roundw
        case rel => exact ⟨k + 1, by omega, by go_num, HR7, HB6⟩
        case measure => simp [intOf]; omega
    · obtain rfl : k = O.length := by omega
      have hx := fun c => xIndexB_any (takenTo l P O u O.length) g _ c wr HR.out (by rw [taken_len]; decide)
      rw [taken_len] at hx
      have HX := Lib.hid hx
      clear hx
      go_wp2_with fail
      refine (HX.out _).mono ?_
      rintro e' w9 ⟨⟨r, rfl, hr⟩, rfl⟩
      obtain ⟨p, rfl, hf⟩ := free_is hC Hb.out hr
      have HF := Lib.hid hf
      clear hr hf
      go_wp2_with fail
      go_ret
      exact ⟨⟨_, rfl, HF.out⟩, HBr.out⟩
end Go.Proofs.Ytolicafhbeiciaa
/- Plain facts about plates: no fewer plates than uses at one time; the order of the uses does not matter. No condition. -/
namespace Go.Proofs.Ytolicafhbeiciaa
open Go.RowKit Fs

/-- How many below n have q. -/
def Fs.cnt (q : Nat → Bool) : Nat → Nat
  | 0 => 0
  | n + 1 => if q n = true then cnt q n + 1 else cnt q n
theorem Fs.cnt_congr {q r : Nat → Bool} : ∀ n, (∀ i, i < n → q i = r i) → cnt q n = cnt r n
  | 0, _ => rfl
  | n + 1, h => by rw [cnt, cnt, cnt_congr n (fun i hi => h i (by omega)), h n (by omega)]
theorem Fs.cnt_drop {q : Nat → Bool} {f : Nat → Int} {v : Int} : ∀ n, (∀ i j, i < n → j < i → q i = true → q j = true → f i = v → f j ≠ v) → cnt q n ≤ cnt (fun i => q i && decide (f i ≠ v)) n + 1
  | 0, _ => Nat.zero_le _
  | n + 1, h => by
    have ih := cnt_drop (q := q) (f := f) (v := v) n fun i j hi hj => h i j (by omega) hj
    rw [cnt, cnt]
    cases hq : q n with
    | false => rw [if_neg (by decide), Bool.false_and, if_neg (by decide)]; exact ih
    | true =>
      rw [if_pos rfl, Bool.true_and]
      by_cases e : f n = v
      · rw [if_neg (by simpa using e), cnt_congr (q := q) (r := fun i => q i && decide (f i ≠ v)) n fun i hi => ?_]
        · exact Nat.le_refl _
        · cases hi2 : q i with
          | false => rfl
          | true =>
            have := h n i (Nat.lt_succ_self _) hi hq hi2 e
            show true = (true && decide (f i ≠ v))
            rw [decide_eq_true this]; rfl
      · rw [if_pos (by simpa using e)]; omega
theorem Fs.cnt_none {q : Nat → Bool} : ∀ n, (∀ i, i < n → q i = false) → cnt q n = 0
  | 0, _ => rfl
  | n + 1, h => by rw [cnt, h n (by omega), if_neg (by decide)]; exact cnt_none n fun i hi => h i (by omega)
/-- So many different plates. -/
theorem Fs.pigeon : ∀ (C : Nat) {q : Nat → Bool} {f : Nat → Int} {n : Nat}, (∀ i, i < n → q i = true → 0 ≤ f i ∧ f i < (C : Int)) → (∀ i j, i < n → j < i → q i = true → q j = true → f i ≠ f j) → cnt q n ≤ C
  | 0, q, f, n, h, _ => by
    rw [cnt_none n fun i hi => ?_]
    · exact Nat.le_refl _
    · cases e : q i with
      | false => rfl
      | true => have := h i hi e; omega
  | C + 1, q, f, n, h, hd => by
    have a := cnt_drop (q := q) (f := f) (v := (C : Int)) n fun i j hi hj q1 q2 e1 e2 => hd i j hi hj q1 q2 (by rw [e1, e2])
    have b := pigeon C (q := fun i => q i && decide (f i ≠ (C : Int))) (f := f) (n := n) (fun i hi e => by
      rw [Bool.and_eq_true] at e
      have := h i hi e.1
      have e2 : f i ≠ (C : Int) := of_decide_eq_true e.2
      omega) (fun i j hi hj q1 q2 => by
      rw [Bool.and_eq_true] at q1 q2
      exact hd i j hi hj q1.1 q2.1)
    omega
def Fs.inUse (l : List WRec) (t : Int) (i : Nat) : Bool := within t (listW l i).beg ((listW l i).fin - 1)
theorem Fs.atTo_cnt (l : List WRec) (t : Int) : ∀ n, atTo l t n = (cnt (inUse l t) n : Nat)
  | 0 => rfl
  | n + 1 => by
    rw [atTo, cnt, atTo_cnt l t n]
    show (if inUse l t n = true then ((cnt (inUse l t) n : Nat) : Int) + 1 else _) = _
    split <;> simp
theorem Fs.most_ge {l : List WRec} : ∀ {k i : Nat}, i < k → atTo l (listW l i).beg l.length ≤ mostTo l k
  | 0, i, h => absurd h (Nat.not_lt_zero _)
  | k + 1, i, h => by
    rw [mostTo]
    by_cases e : i = k
    · subst e; omega
    · have := most_ge (l := l) (show i < k by omega); omega
theorem Fs.most_le {l : List WRec} {M : Int} (h0 : 0 ≤ M) : ∀ k, (∀ i, i < k → atTo l (listW l i).beg l.length ≤ M) → mostTo l k ≤ M
  | 0, _ => h0
  | k + 1, h => by
    rw [mostTo]
    have := most_le h0 k fun i hi => h i (by omega)
    have := h k (by omega)
    omega
theorem Fs.most_pos (l : List WRec) : ∀ k, 0 ≤ mostTo l k
  | 0 => Int.le_refl _
  | k + 1 => by rw [mostTo]; have := most_pos l k; omega
theorem Fs.count_ge {P : List Int} : ∀ {k i : Nat}, i < k → listI P i + 1 ≤ countTo P k
  | 0, i, h => absurd h (Nat.not_lt_zero _)
  | k + 1, i, h => by
    rw [countTo]
    by_cases e : i = k
    · subst e; omega
    · have := count_ge (P := P) (show i < k by omega); omega
theorem Fs.plates_ok {l : List WRec} {P : List Int} {t : Int} (h : (checkPlates l P t).2 = 0) :
    P.length = l.length ∧ (∀ i, i < l.length → 0 ≤ listI P i) ∧ isClock t = true ∧ (∀ i, i < l.length → ∀ k, k < i → ¬ plateClash l P i k) ∧ (checkPlates l P t).1 = countTo P l.length := by
  unfold checkPlates at h ⊢
  by_cases h1 : P.length = l.length
  · rw [if_neg (fun hh => hh h1)] at h ⊢
    by_cases h2 : fst (plateBad P) l.length = 0
    · rw [if_neg (fun hh => hh h2)] at h ⊢
      cases h3 : isClock t with
      | false => rw [h3, if_pos rfl] at h; exact absurd h (by decide)
      | true =>
        rw [h3, if_neg (by decide)] at h
        rw [if_neg (by decide)]
        by_cases h4 : ∃ i, i < l.length ∧ ∃ k, k < i ∧ plateClash l P i k
        · rw [if_pos h4] at h; exact absurd h (show ¬ ((13 : Int) = 0) by decide)
        · rw [if_neg h4] at h ⊢
          by_cases h5 : atTo l t l.length = countTo P l.length
          · rw [if_neg (fun hh => hh h5)]
            refine ⟨h1, fun i hi => ?_, rfl, fun i hi k hk hc => h4 ⟨i, hi, k, hk, hc⟩, rfl⟩
            have := fst_zero h2 i hi
            unfold plateBad at this
            by_cases e : within (listI P i) 0 13 = true
            · exact (within_iff.1 e).1
            · rw [if_neg e] at this; exact absurd this (by decide)
          · rw [if_pos h5] at h; exact absurd h (show ¬ ((20 : Int) = 0) by decide)
    · rw [if_pos h2] at h; exact absurd h (show ¬ ((2 : Int) = 0) by decide)
  · rw [if_pos h1] at h; exact absurd h (show ¬ ((10 : Int) = 0) by decide)
/-- Any plates that are accepted are no fewer than the uses at one time. -/
theorem Fs.plates_enough {l : List WRec} {P : List Int} {t : Int} (h : (checkPlates l P t).2 = 0) : mostTo l l.length ≤ (checkPlates l P t).1 := by
  obtain ⟨-, h2, -, h4, h5⟩ := plates_ok h
  rw [h5]
  rcases Nat.eq_zero_or_pos l.length with h0 | h0
  · rw [h0]; exact Int.le_refl _
  · have hc : 0 ≤ countTo P l.length := by have := count_ge (P := P) h0; have := h2 0 h0; omega
    refine most_le hc l.length fun i hi => ?_
    rw [atTo_cnt]
    have := pigeon (countTo P l.length).toNat (q := inUse l (listW l i).beg) (f := listI P) (n := l.length)
      (fun j hj _ => ⟨h2 j hj, by have := count_ge (P := P) hj; omega⟩)
      (fun a b ha hb qa qb e => h4 a ha b hb ⟨by
        have x := within_iff.1 (show within (listW l i).beg (listW l a).beg ((listW l a).fin - 1) = true from qa)
        have y := within_iff.1 (show within (listW l i).beg (listW l b).beg ((listW l b).fin - 1) = true from qb)
        unfold overlapB
        rw [decide_eq_true (show (listW l a).beg < (listW l b).fin by omega), decide_eq_true (show (listW l b).beg < (listW l a).fin by omega)]
        rfl, e⟩)
    omega
structure Fs.UsesOk (l : List WRec) : Prop where
  len : l.length ≤ 14
  one : ∀ k, k < l.length → isName (listW l k).who = true ∧ spanErr (listW l k).beg (listW l k).fin = 0
  two : ∀ k, k < l.length → ∀ i, i < k → ¬ clashAt l k i
theorem Fs.uses_ok {l : List WRec} (h : usesErr l = 0) : UsesOk l := by
  unfold usesErr at h
  by_cases h0 : 14 < l.length
  · rw [if_pos h0] at h; exact absurd h (by decide)
  · rw [if_neg h0] at h
    have hz := fst_zero h
    have a : ∀ k, k < l.length → (isName (listW l k).who = true ∧ spanErr (listW l k).beg (listW l k).fin = 0) ∧ ∀ i, i < k → ¬ clashAt l k i := fun k hk => by
      have := hz k hk
      unfold useBad at this
      cases e1 : isName (listW l k).who with
      | false => rw [e1, if_pos rfl] at this; exact absurd this (by decide)
      | true =>
        rw [e1, if_neg (by decide)] at this
        by_cases e2 : spanErr (listW l k).beg (listW l k).fin = 0
        · rw [if_neg (fun hh => hh e2)] at this
          by_cases e3 : ∃ i, i < k ∧ clashAt l k i
          · rw [if_pos e3] at this; exact absurd this (by decide)
          · exact ⟨⟨rfl, e2⟩, fun i hi hc => e3 ⟨i, hi, hc⟩⟩
        · rw [if_pos e2] at this; exact absurd this e2
    exact ⟨by omega, fun k hk => (a k hk).1, fun k hk => (a k hk).2⟩
theorem Fs.uses_zero {l : List WRec} (h : UsesOk l) : usesErr l = 0 := by
  unfold usesErr
  rw [if_neg (by have := h.len; omega)]
  refine fst_none fun k hk => ?_
  unfold useBad
  have a := h.one k hk
  rw [a.1, if_neg (by decide), if_neg (fun hh => hh a.2), if_neg (fun ⟨i, hi, hc⟩ => h.two k hk i hi hc)]
theorem Fs.uses_small {l : List WRec} (h : UsesOk l) : SmallU l := ⟨by have := h.len; omega, fun i hi => spanErr_ok (h.one i hi).2⟩
theorem Fs.listW_rev {l : List WRec} {i : Nat} (h : i < l.length) : listW l.reverse i = listW l (l.length - 1 - i) := by
  unfold listW
  rw [List.getD_eq_getElem?_getD, List.getD_eq_getElem?_getD, List.getElem?_reverse h]
theorem Fs.uses_rev {l : List WRec} (h : UsesOk l) : UsesOk l.reverse := by
  have hl : l.reverse.length = l.length := List.length_reverse
  refine ⟨by rw [hl]; exact h.len, fun k hk => ?_, fun k hk i hi hc => ?_⟩
  · rw [hl] at hk; rw [listW_rev hk]; exact h.one _ (by omega)
  · rw [hl] at hk
    obtain ⟨c1, c2⟩ := hc
    rw [listW_rev hk, listW_rev (show i < l.length by omega)] at c1 c2
    exact h.two (l.length - 1 - i) (by omega) (l.length - 1 - k) (by omega) ⟨c1.symm, by rw [overlap_sym]; exact c2⟩
theorem Fs.cnt_take (l : List WRec) (t : Int) : ∀ k, k ≤ l.length → cnt (inUse l t) k = (l.take k).countP fun x => within t x.beg (x.fin - 1)
  | 0, _ => by simp [cnt]
  | k + 1, hk => by
    have e : l.take (k + 1) = l.take k ++ [listW l k] := by
      rw [List.take_add_one, listW_get (show k < l.length by omega)]; rfl
    rw [e, List.countP_append, cnt, cnt_take l t k (by omega), List.countP_singleton]
    show (if within t (listW l k).beg ((listW l k).fin - 1) = true then _ else _) = _
    split <;> omega
theorem Fs.at_rev (l : List WRec) (t : Int) : atTo l.reverse t l.reverse.length = atTo l t l.length := by
  rw [atTo_cnt, atTo_cnt, cnt_take _ _ _ (Nat.le_refl _), cnt_take _ _ _ (Nat.le_refl _), List.take_length, List.take_length, List.countP_reverse]
theorem Fs.most_rev (l : List WRec) : mostTo l.reverse l.reverse.length = mostTo l l.length := by
  have hl : l.reverse.length = l.length := List.length_reverse
  apply Int.le_antisymm
  · refine most_le (most_pos _ _) _ fun i hi => ?_
    rw [at_rev]
    rw [hl] at hi
    rw [listW_rev hi]
    exact most_ge (show l.length - 1 - i < l.length by omega)
  · refine most_le (most_pos _ _) _ fun i hi => ?_
    have := most_ge (l := l.reverse) (k := l.reverse.length) (i := l.length - 1 - i) (by omega)
    rw [at_rev, listW_rev (by omega)] at this
    rwa [show l.length - 1 - (l.length - 1 - i) = i by omega] at this
theorem Fs.plates_out {l : List WRec} {P : List Int} {t : Int} (h : usesErr l = 0) : platesOut l P t = checkPlates l P t := if_neg (fun hh => hh h)
theorem Fs.plates_outbad {l : List WRec} {P : List Int} {t : Int} (h : usesErr l ≠ 0) : platesOut l P t = (0, usesErr l) := if_pos h
end Go.Proofs.Ytolicafhbeiciaa
/- Greedy plates, plainly: they are fine, and as many as the uses at one time. No condition. -/
namespace Go.Proofs.Ytolicafhbeiciaa
open Go.RowKit Fs

theorem cnt_le {q r : Nat → Bool} : ∀ n, (∀ i, i < n → r i = true → q i = true) → cnt r n ≤ cnt q n
  | 0, _ => Nat.le_refl _
  | n + 1, h => by
    have ih := cnt_le (q := q) (r := r) n fun i hi => h i (by omega)
    rw [cnt, cnt]
    cases hr : r n with
    | true => rw [h n (Nat.lt_succ_self n) hr, if_pos rfl, if_pos rfl]; omega
    | false =>
      rw [if_neg (by decide)]
      split <;> omega
theorem cnt_more {q : Nat → Bool} {f : Nat → Int} {v : Int} : ∀ n, (∃ i, i < n ∧ q i = true ∧ f i = v) → cnt (fun i => q i && decide (f i ≠ v)) n + 1 ≤ cnt q n
  | 0, ⟨_, h, _⟩ => absurd h (Nat.not_lt_zero _)
  | n + 1, ⟨i, hi, h1, h2⟩ => by
    rw [cnt, cnt]
    have mono := cnt_le (q := q) (r := fun i => q i && decide (f i ≠ v)) n fun j _ hh => ((Bool.and_eq_true _ _).mp hh).1
    by_cases e : f n = v
    · rw [if_neg (by simp [e])]
      cases hq : q n with
      | true => rw [if_pos rfl]; omega
      | false =>
        rw [if_neg (by decide)]
        have hin : i < n := by
          by_cases e2 : i = n
          · subst e2; rw [hq] at h1; cases h1
          · omega
        exact cnt_more n ⟨i, hin, h1, h2⟩
    · have hin : i < n := by
        by_cases e2 : i = n
        · subst e2; exact absurd h2 e
        · omega
      have ih := cnt_more (q := q) (f := f) (v := v) n ⟨i, hin, h1, h2⟩
      cases hq : q n with
      | true => rw [if_pos (by simp [e]), if_pos rfl]; omega
      | false => rw [if_neg (by simp), if_neg (by decide)]; exact ih
theorem cnt_ge : ∀ (C : Nat) {q : Nat → Bool} {f : Nat → Int} {n : Nat}, (∀ p : Nat, p < C → ∃ i, i < n ∧ q i = true ∧ f i = (p : Int)) → C ≤ cnt q n
  | 0, _, _, _, _ => Nat.zero_le _
  | C + 1, q, f, n, h => by
    have a := cnt_more (q := q) (f := f) (v := (C : Int)) n (h C (Nat.lt_succ_self C))
    have b := cnt_ge C (q := fun i => q i && decide (f i ≠ (C : Int))) (f := f) (n := n) (fun p hp => by
      obtain ⟨i, hi, h1, h2⟩ := h p (by omega)
      have hne : f i ≠ (C : Int) := by omega
      exact ⟨i, hi, by rw [h1, decide_eq_true hne]; rfl, h2⟩)
    omega
theorem lap_symm (x y : WRec) : overlapB x y = overlapB y x := by unfold overlapB; rw [Bool.and_comm]
theorem lap_iff {x y : WRec} : overlapB x y = true ↔ x.beg < y.fin ∧ y.beg < x.fin := by unfold overlapB; simp
structure Fs.Greedy (l : List WRec) (P : List Int) (O : List Nat) (k C : Nat) (t : Int) : Prop where
  len : P.length = l.length
  le : C ≤ k
  rng : ∀ j, j < k → 0 ≤ listI P (O.getD j 0) ∧ listI P (O.getD j 0) < (C : Int)
  apart : ∀ i j, i < k → j < i → overlapB (listW l (O.getD j 0)) (listW l (O.getD i 0)) = true → listI P (O.getD j 0) ≠ listI P (O.getD i 0)
  none : C = 0 → t = 0
  some : 0 < C → ∃ s, s < k ∧ t = (listW l (O.getD s 0)).beg ∧ ∀ p : Nat, p < C → ∃ j, j < k ∧ inUse l t (O.getD j 0) = true ∧ listI P (O.getD j 0) = (p : Int)
theorem greedy_zero (l : List WRec) (O : List Nat) : Greedy l (List.replicate l.length 0) O 0 0 0 :=
  ⟨by simp, Nat.le_refl _, fun j hj => absurd hj (Nat.not_lt_zero _), fun i _ hi => absurd hi (Nat.not_lt_zero _), fun _ => rfl, fun h => absurd h (Nat.lt_irrefl _)⟩
theorem begun_len {l : List WRec} {O : List Nat} (h : Begun l O) : O.length = l.length := by have := h.perm.length_eq; simpa using this
theorem begun_lt {l : List WRec} {O : List Nat} (h : Begun l O) {j : Nat} (hj : j < O.length) : O.getD j 0 < l.length := by
  have h1 : O.getD j 0 = O[j] := by rw [List.getD_eq_getElem?_getD, List.getElem?_eq_getElem hj]; rfl
  have h2 := h.perm.mem_iff.1 (List.getElem_mem hj)
  rw [h1]
  exact List.mem_range.1 h2
theorem begun_ne {l : List WRec} {O : List Nat} (h : Begun l O) {i j : Nat} (hi : i < O.length) (hj : j < i) : O.getD j 0 ≠ O.getD i 0 := by
  have hn : O.Nodup := h.perm.nodup_iff.2 List.nodup_range
  rw [List.getD_eq_getElem?_getD, List.getD_eq_getElem?_getD, List.getElem?_eq_getElem hi, List.getElem?_eq_getElem (by omega)]
  intro e
  have e2 : O[j] = O[i] := e
  exact List.pairwise_iff_getElem.1 hn j i (by omega) hi hj e2
theorem begun_of {l : List WRec} {O : List Nat} (h : Begun l O) {i : Nat} (hi : i < l.length) : ∃ j, j < O.length ∧ O.getD j 0 = i := by
  have h1 := h.perm.mem_iff.2 (List.mem_range.2 hi)
  obtain ⟨j, hj, e⟩ := List.getElem_of_mem h1
  exact ⟨j, hj, by rw [List.getD_eq_getElem?_getD, List.getElem?_eq_getElem hj]; exact e⟩
theorem listI_set {P : List Int} {i j : Nat} {x : Int} (hi : i < P.length) : listI (P.set i x) j = if i = j then x else listI P j := by
  unfold listI
  rw [List.getD_eq_getElem?_getD, List.getD_eq_getElem?_getD, List.getElem?_set]
  by_cases e : i = j
  · rw [if_pos e, if_pos e, if_pos hi]; rfl
  · rw [if_neg e, if_neg e]
theorem greedy_kept {l : List WRec} {P : List Int} {O : List Nat} (hO : Begun l O) {k : Nat} {x : Int} (hP : P.length = l.length) (hk : k < O.length) {j : Nat} (hj : j < k) : listI (P.set (O.getD k 0) x) (O.getD j 0) = listI P (O.getD j 0) := by
  rw [listI_set (by rw [hP]; exact begun_lt hO hk), if_neg (fun e => begun_ne hO hk hj e.symm)]
theorem greedy_put {l : List WRec} {P : List Int} {O : List Nat} (hO : Begun l O) {k : Nat} {x : Int} (hP : P.length = l.length) (hk : k < O.length) : listI (P.set (O.getD k 0) x) (O.getD k 0) = x := by
  rw [listI_set (by rw [hP]; exact begun_lt hO hk), if_pos rfl]
theorem greedy_old {l : List WRec} {P : List Int} {O : List Nat} {k C p : Nat} {t : Int} (hO : Begun l O) (hk : k < O.length) (g : Greedy l P O k C t) (f : Free l P O (O.getD k 0) k C p) (hp : p ≠ C) : Greedy l (P.set (O.getD k 0) p) O (k + 1) C t := by
  have hK := fun j (hj : j < k) => greedy_kept (x := (p : Int)) hO g.len hk hj
  have hX := greedy_put (x := (p : Int)) hO g.len hk
  have fl := f.le
  refine ⟨by rw [List.length_set]; exact g.len, by have := g.le; omega, ?_, ?_, g.none, ?_⟩
  · intro j hj
    by_cases e : j = k
    · subst e; rw [hX]; omega
    · rw [hK j (by omega)]; exact g.rng j (by omega)
  · intro i j hi hj ho
    rw [hK j (by omega)]
    by_cases e : i = k
    · subst e; rw [hX]; exact f.no j hj ho
    · rw [hK i (by omega)]; exact g.apart i j (by omega) hj ho
  · intro h0
    obtain ⟨s, hs, h1, h2⟩ := g.some h0
    refine ⟨s, by omega, h1, fun q hq => ?_⟩
    obtain ⟨j, hj, h3, h4⟩ := h2 q hq
    exact ⟨j, by omega, h3, by rw [hK j hj]; exact h4⟩
theorem greedy_new {l : List WRec} {P : List Int} {O : List Nat} {k C p : Nat} {t : Int} (hO : Begun l O) (hU : UsesOk l) (hk : k < O.length) (g : Greedy l P O k C t) (f : Free l P O (O.getD k 0) k C p) (hp : p = C) :
    Greedy l (P.set (O.getD k 0) p) O (k + 1) (C + 1) (listW l (O.getD k 0)).beg := by
  have hK := fun j (hj : j < k) => greedy_kept (x := (p : Int)) hO g.len hk hj
  have hX := greedy_put (x := (p : Int)) hO g.len hk
  have hsp := spanErr_ok (hU.one _ (begun_lt hO hk)).2
  subst hp
  refine ⟨by rw [List.length_set]; exact g.len, by have := g.le; omega, ?_, ?_, fun h => absurd h (by omega), ?_⟩
  · intro j hj
    by_cases e : j = k
    · subst e; rw [hX]; omega
    · rw [hK j (by omega)]; have := g.rng j (by omega); omega
  · intro i j hi hj ho
    rw [hK j (by omega)]
    by_cases e : i = k
    · subst e; rw [hX]; exact f.no j hj ho
    · rw [hK i (by omega)]; exact g.apart i j (by omega) hj ho
  · intro _
    refine ⟨k, by omega, rfl, fun q hq => ?_⟩
    by_cases e : q = p
    · refine ⟨k, by omega, ?_, by rw [hX, e]⟩
      exact Fs.within_iff.2 ⟨Int.le_refl _, by omega⟩
    · obtain ⟨j, hj, h3, h4⟩ := f.low q (by omega)
      refine ⟨j, by omega, ?_, by rw [hK j hj]; exact h4⟩
      have h5 := lap_iff.1 h3
      exact Fs.within_iff.2 ⟨hO.up j k hj hk, by omega⟩
theorem count_le {P : List Int} {C : Int} (h0 : 0 ≤ C) : ∀ k, (∀ i, i < k → listI P i + 1 ≤ C) → countTo P k ≤ C
  | 0, _ => h0
  | k + 1, h => by
    rw [countTo]
    have := count_le h0 k fun i hi => h i (by omega)
    have := h k (Nat.lt_succ_self k)
    omega
theorem use_lap {l : List WRec} {t : Int} {a b : Nat} (qa : inUse l t a = true) (qb : inUse l t b = true) : overlapB (listW l a) (listW l b) = true := by
  have x := Fs.within_iff.1 (show within t (listW l a).beg ((listW l a).fin - 1) = true from qa)
  have y := Fs.within_iff.1 (show within t (listW l b).beg ((listW l b).fin - 1) = true from qb)
  exact lap_iff.2 ⟨by omega, by omega⟩
theorem greedy_apart {l : List WRec} {P : List Int} {O : List Nat} {C : Nat} {t : Int} (hO : Begun l O) (g : Greedy l P O O.length C t) {a b : Nat} (ha : a < l.length) (hb : b < l.length) (hab : a ≠ b) (ho : overlapB (listW l a) (listW l b) = true) : listI P a ≠ listI P b := by
  obtain ⟨i, hi, rfl⟩ := begun_of hO ha
  obtain ⟨j, hj, rfl⟩ := begun_of hO hb
  rcases Nat.lt_trichotomy i j with h | h | h
  · exact g.apart j i hj h ho
  · exact absurd (by rw [h]) hab
  · exact fun e => g.apart i j hi h (by rw [lap_symm]; exact ho) e.symm
theorem greedy_end {l : List WRec} {P : List Int} {O : List Nat} {C : Nat} {t : Int} (hO : Begun l O) (hU : UsesOk l) (g : Greedy l P O O.length C t) : PlatesIs l P t := by
  have hz := uses_zero hU
  refine ⟨fun h => absurd hz h, fun _ => ?_⟩
  have hl := begun_len hO
  have h14 := hU.len
  have hC : C ≤ 14 := by have := g.le; omega
  have rng : ∀ i, i < l.length → 0 ≤ listI P i ∧ listI P i < (C : Int) := fun i hi => by
    obtain ⟨j, hj, rfl⟩ := begun_of hO hi
    exact g.rng j hj
  have bad : fst (plateBad P) l.length = 0 := fst_none fun i hi => by
    unfold plateBad
    have := rng i hi
    rw [if_pos (Fs.within_iff.2 ⟨this.1, by omega⟩)]
  have clk : isClock t = true := by
    by_cases h0 : 0 < C
    · obtain ⟨s, hs, rfl, -⟩ := g.some h0
      have := spanErr_ok (hU.one _ (begun_lt hO hs)).2
      unfold isClock
      exact Fs.within_iff.2 ⟨this.1, by omega⟩
    · rw [g.none (by omega)]; decide
  have clash : ¬ ∃ i, i < l.length ∧ ∃ k, k < i ∧ plateClash l P i k := fun ⟨i, hi, k, hk, h1, h2⟩ => greedy_apart hO g hi (by omega) (by omega) h1 h2
  have top : ∀ t', atTo l t' l.length ≤ (C : Int) := fun t' => by
    rw [atTo_cnt]
    have := pigeon C (q := inUse l t') (f := listI P) (n := l.length) (fun i hi _ => rng i hi) (fun a b ha hb qa qb => greedy_apart hO g ha (by omega) (by omega) (use_lap qa qb))
    omega
  have low : (C : Int) ≤ atTo l t l.length := by
    rw [atTo_cnt]
    by_cases h0 : 0 < C
    · obtain ⟨s, hs, -, h2⟩ := g.some h0
      have := cnt_ge C (q := inUse l t) (f := listI P) (n := l.length) (fun p hp => by
        obtain ⟨j, hj, h3, h4⟩ := h2 p hp
        exact ⟨_, begun_lt hO hj, h3, h4⟩)
      omega
    · omega
  have cle : countTo P l.length ≤ (C : Int) := count_le (by omega) _ fun i hi => by have := (rng i hi).2; omega
  have cge : (C : Int) ≤ countTo P l.length := by
    by_cases h0 : 0 < C
    · obtain ⟨s, hs, -, h2⟩ := g.some h0
      obtain ⟨j, hj, -, h4⟩ := h2 (C - 1) (by omega)
      have := count_ge (P := P) (begun_lt hO hj)
      omega
    · have : l.length = 0 := by
        rcases Nat.eq_zero_or_pos l.length with h | h
        · exact h
        · have := rng 0 h; omega
      rw [this, countTo]; omega
  have hat : atTo l t l.length = countTo P l.length := by have := top t; omega
  rw [plate_fine g.len bad clk clash, if_neg (fun h => h hat)]
  have m1 : mostTo l l.length ≤ (C : Int) := most_le (by omega) _ fun i _ => top _
  have m2 : (C : Int) ≤ mostTo l l.length := by
    by_cases h0 : 0 < C
    · obtain ⟨s, hs, e, -⟩ := g.some h0
      have := most_ge (l := l) (begun_lt hO hs)
      rw [← e] at this
      omega
    · have := most_pos l l.length; omega
  rw [show countTo P l.length = mostTo l l.length by omega]
end Go.Proofs.Ytolicafhbeiciaa

/- byBeginning. Condition: there are at most fourteen uses. -/
import Derived.Test.YtaihiahoedpbiaaY2
import Derived.Test.YtaihiahoedpbiaaX16
import Derived.Test.YtaihiahoedpbiaaT15
import Derived.Test.YtaihiahoedpbiaaT43
import Derived.Test.YtaihiahoedpbiaaE7
import Derived.Test.YtaihiahoedpbiaaD24
namespace Go.Proofs.Ytaihiahoedpbiaa
open Go.RowKit Fs

/-- The first k numbers, the rest 0. -/
def fillTo (n k : Nat) : List Value := ((List.range k).map fun i => .int .i64 ((i : Nat) : Int)) ++ List.replicate (n - k) (.int .i64 0)
theorem fill_at {n k : Nat} (h : k < n) : (fillTo n k)[k]? = some (.int .i64 0) := by
  unfold fillTo
  rw [List.getElem?_append_right (by simp), List.length_map, List.length_range, Nat.sub_self]
  rw [List.getElem?_replicate, if_pos (by omega)]
theorem RowV.cong {w : World} {g : Nat} {t : TypeId} {l l' : List Value} (h : RowV w g t l) (e : l = l') : RowV w g t l' := e ▸ h
theorem fill_set {n k : Nat} (h : k < n) : (fillTo n k).set k (.int .i64 ((k : Nat) : Int)) = fillTo n (k + 1) := by
  unfold fillTo
  rw [List.set_append_right _ _ (by simp), List.length_map, List.length_range, Nat.sub_self, show n - k = (n - (k + 1)) + 1 by omega, List.replicate_succ, List.set_cons_zero, List.range_succ, List.map_append]
  simp
theorem fill_all (n : Nat) : fillTo n n = (List.range n).map fun i => .int .i64 ((i : Nat) : Int) := by unfold fillTo; simp
set_option linter.unusedSimpArgs false in
set_option maxHeartbeats 12800000 in
set_option maxRecDepth 100000 in
theorem xByBeginning_any (l : List WRec) (A : Option Addr) (c : Nat) (w : World) (h : ArrW w A l c) (hl : l.length ≤ 14) :
    Calls Try.prog 121 #[.slice A l.length c] w fun e w' => (∃ (g : Nat) (O : List Nat), e = .returned (.slice (some ⟨g, 0, none⟩) l.length l.length) ∧ w.heap.size ≤ g ∧ ArrI w' (some ⟨g, 0, none⟩) (O.map Int.ofNat) l.length ∧ Begun l O) ∧ Below w.heap.size w w' := by
  obtain ⟨i0, hi, hz0, hz1, hz2⟩ := info_parts Try.infoNum
  have b1 := h.le.1
  have b2 := h.le.2
  have HA := Lib.hid (h.keep (Keep.alloc w (.cells #[.slice A l.length c] 101)))
  have HC := Lib.hid (cellNew w #[.slice A l.length c] 101 0)
  clear h
  go_enter Try.func121, Try.ntmps121
  go_upto_region 1 with fail
  generalize hwb : w.alloc _ = wb at *
  have HW : Hid (Below w.heap.size w wb) := by rw [← hwb]; exact Lib.hid ((Below.refl _ _).alloc (Nat.le_refl _) _)
  have HQS : Hid (w.heap.size < wb.heap.size) := by rw [← hwb]; exact Lib.hid (by simp)
  clear hwb
  have c0 := HC.out
  go_upto_region 2 with (at_make; refine wpList_make_full _ rfl (.tmp 6) (.tmp 6) 92 rfl _ 3 i0 (.int .i64 0) 1 Try.underlying92 hi hz0 hz1 .i64 .i64 l.length l.length l.length rfl rfl rfl rfl (by rw [hz2]; omega) (by unfold maxLen; omega) (Nat.le_refl _) ?_)
  intro w5 hown hg2
  have HB2 : Hid (Below wb.heap.size wb w5) := Lib.hid ⟨hg2.os, hg2.tape, hg2.output, hg2.size, fun k hk => hg2.block k hk (by simp)⟩
  have HR2 : Hid (RowV w5 wb.heap.size 3 (fillTo l.length 0)) := Lib.hid (by
    have := (RowV.of_own hown).1
    rw [toList_madeCells_one] at this
    unfold fillTo
    simpa using this)
  obtain ⟨g, hg⟩ : ∃ g, g = wb.heap.size := ⟨_, rfl⟩
  have HG := Lib.hid hg
  rw [← hg] at HR2 ⊢
  clear hown hg2 c0 hg
  have hgb : wb.heap.size ≤ g := by rw [HG.out]; exact Nat.le_refl _
  go_wp2_with fail
  go_loopw [10] (fun s wr => ∃ k : Nat, k ≤ l.length ∧ s = .int .i64 k ∧ Hid (RowV wr g 3 (fillTo l.length k)) ∧ Hid (Below wb.heap.size wb wr)) (fun s _ => l.length - (intOf s).toNat)
  case atStart => exact ⟨0, Nat.zero_le _, rfl, HR2, HB2⟩
  case round =>
    obtain ⟨k, hk, rfl, HR, HB⟩ := hrel
    by_cases hlt : k < l.length
    · have hkn : (k : Int) < (l.length : Int) := by omega
      have q0 : wr.cell? ⟨g, k, none⟩ = some (.int .i64 0) := (HR.out.cell k).trans (fill_at hlt)
      have f0 := HR.out.frozen k
      have HB1 := Lib.hid (HB.out.setCell (p := ⟨g, k, none⟩) hgb (.int .i64 ((k : Nat) : Int)))
      have HR1 := Lib.hid ((HR.out.set k (.int .i64 ((k : Nat) : Int))).cong (fill_set hlt))
      go_wp2_with fail
      go_roundw
      case rel => exact ⟨k + 1, by omega, by go_num, HR1, HB1⟩
      case measure => simp [intOf]; omega
    · obtain rfl : k = l.length := by omega
      have HR9 := Lib.hid (HR.out.cong (fill_all _))
      have hq : wb.cell? ⟨w.heap.size, 0, none⟩ = some (.slice A l.length c) := HC.out
      have hA1 := HA.out
      have key : Calls Try.prog 156 #[.slice (some ⟨g, 0, none⟩) l.length l.length, .func (.func 157) #[] #[.pointer (some ⟨w.heap.size, 0, none⟩)]] wr fun e w' =>
          e = .returned (.tuple #[]) ∧ (∃ O : List Nat, Begun l O ∧ ArrI w' (some ⟨g, 0, none⟩) (O.map Int.ofNat) l.length) ∧ Below wb.heap.size wb w' := by
        by_cases h0 : 0 < l.length
        · exact xStableFunc_any l.length l.length (some ⟨g, 0, none⟩) _ wr (fun _ w' => (∃ O : List Nat, Begun l O ∧ ArrI w' (some ⟨g, 0, none⟩) (O.map Int.ofNat) l.length) ∧ Below wb.heap.size wb w') hl
            (xSortUses_any l A c w.heap.size g wr wb h0 hl HR9.out hgb HB.out hA1 hq)
        · have e0 : l.length = 0 := by omega
          rw [e0]
          refine xStableFunc_any 0 0 (some ⟨g, 0, none⟩) _ wr (fun _ w' => (∃ O : List Nat, Begun l O ∧ ArrI w' (some ⟨g, 0, none⟩) (O.map Int.ofNat) 0) ∧ Below wb.heap.size wb w') (by decide) ((xInsertNone_any 0 _ _ wr).mono ?_)
          rintro e' w9 ⟨rfl, rfl⟩
          exact ⟨rfl, ⟨[], ⟨by rw [e0]; exact List.Perm.refl _, fun i j _ hj => absurd hj (Nat.not_lt_zero _)⟩, ⟨by simp, by decide, fun hh => absurd hh (by simp)⟩⟩, HB.out⟩
      have HK := Lib.hid key
      clear key hA1 hq
      go_wp2_with fail
      refine HK.out.mono ?_
      rintro e' w7 ⟨rfl, ⟨O, hO, hOA⟩, hb7⟩
      have HO := Lib.hid hO
      have HOA := Lib.hid hOA
      have HB7 := Lib.hid hb7
      clear hO hOA hb7
      go_wp2_with fail
      go_ret
      exact ⟨⟨_, O, rfl, by have := HQS.out; omega, HOA.out, HO.out⟩, HW.out.trans (HB7.out.mono HW.out.size)⟩
end Go.Proofs.Ytaihiahoedpbiaa
/- The free plate of the least number. Condition: the plates of the earlier uses are below C, C is below 14. -/
namespace Go.Proofs.Ytaihiahoedpbiaa
open Go.RowKit Fs

/-- r is the place of the first false, or there is none. -/
def FreeAt (T : List Bool) (r : Int) : Prop := (∃ j : Nat, r = (j : Int) ∧ j < T.length ∧ T[j]? = some false ∧ ∀ i, i < j → T[i]? = some true) ∨ (r = -1 ∧ ∀ i, i < T.length → T[i]? = some true)
def SameW (w w' : World) : Prop := w = w'
def Fs.takenTo (l : List WRec) (P : List Int) (O : List Nat) (u : Nat) : Nat → List Bool
  | 0 => List.replicate 14 false
  | k + 1 => if overlapB (listW l (O.getD k 0)) (listW l u) = true then (takenTo l P O u k).set (listI P (O.getD k 0)).toNat true else takenTo l P O u k
theorem taken_len (l : List WRec) (P : List Int) (O : List Nat) (u : Nat) : ∀ k, (takenTo l P O u k).length = 14
  | 0 => rfl
  | k + 1 => by
    unfold takenTo
    split
    · rw [List.length_set]; exact taken_len l P O u k
    · exact taken_len l P O u k
theorem taken_is (l : List WRec) (P : List Int) (O : List Nat) (u : Nat) {C : Nat} : ∀ k, (∀ j, j < k → 0 ≤ listI P (O.getD j 0) ∧ listI P (O.getD j 0) < (C : Int)) → ∀ p : Nat, p < 14 → ((takenTo l P O u k)[p]? = some true ↔ ∃ j, j < k ∧ overlapB (listW l (O.getD j 0)) (listW l u) = true ∧ listI P (O.getD j 0) = (p : Int)) := by
  intro k
  induction k with
  | zero =>
    intro _ p hp
    unfold takenTo
    rw [List.getElem?_replicate, if_pos hp]
    exact ⟨fun h => absurd h (by simp), fun ⟨j, hj, _⟩ => absurd hj (Nat.not_lt_zero _)⟩
  | succ k ih =>
    intro hb p hp
    have ih' := ih (fun j hj => hb j (by omega)) p hp
    have hk := hb k (by omega)
    have hl := taken_len l P O u k
    rw [takenTo]
    by_cases ho : overlapB (listW l (O.getD k 0)) (listW l u) = true
    · rw [if_pos ho]
      by_cases e : (listI P (O.getD k 0)).toNat = p
      · subst e
        rw [List.getElem?_set_self (by omega)]
        exact ⟨fun _ => ⟨k, Nat.lt_succ_self k, ho, (Int.toNat_of_nonneg hk.1).symm⟩, fun _ => rfl⟩
      · rw [List.getElem?_set_ne e, ih']
        constructor
        · rintro ⟨j, hj, h1, h2⟩; exact ⟨j, by omega, h1, h2⟩
        · rintro ⟨j, hj, h1, h2⟩
          by_cases ej : j = k
          · subst ej; exact absurd (by rw [h2]; rfl) e
          · exact ⟨j, by omega, h1, h2⟩
    · rw [if_neg ho, ih']
      constructor
      · rintro ⟨j, hj, h1, h2⟩; exact ⟨j, by omega, h1, h2⟩
      · rintro ⟨j, hj, h1, h2⟩
        by_cases ej : j = k
        · subst ej; exact absurd h1 ho
        · exact ⟨j, by omega, h1, h2⟩
structure Fs.Free (l : List WRec) (P : List Int) (O : List Nat) (u k : Nat) (C p : Nat) : Prop where
  le : p ≤ C
  no : ∀ j, j < k → overlapB (listW l (O.getD j 0)) (listW l u) = true → listI P (O.getD j 0) ≠ (p : Int)
  low : ∀ q, q < p → ∃ j, j < k ∧ overlapB (listW l (O.getD j 0)) (listW l u) = true ∧ listI P (O.getD j 0) = (q : Int)
theorem free_is {l : List WRec} {P : List Int} {O : List Nat} {u k C : Nat} {r : Int} (hC : C < 14) (hb : ∀ j, j < k → 0 ≤ listI P (O.getD j 0) ∧ listI P (O.getD j 0) < (C : Int)) (h : FreeAt (takenTo l P O u k) r) : ∃ p : Nat, r = (p : Int) ∧ Free l P O u k C p := by
  have hl := taken_len l P O u k
  have hT := taken_is l P O u k hb
  have hno : (takenTo l P O u k)[C]? ≠ some true := fun hh => by
    obtain ⟨j, hj, _, h2⟩ := (hT C hC).1 hh
    have := (hb j hj).2
    omega
  rcases h with ⟨p, rfl, hp, h1, h2⟩ | ⟨rfl, h2⟩
  · refine ⟨p, rfl, ?_, ?_, ?_⟩
    · by_cases hpc : p ≤ C
      · exact hpc
      · exact absurd (h2 C (by omega)) hno
    · intro j hj h3 h4
      have := (hT p (by omega)).2 ⟨j, hj, h3, h4⟩
      rw [h1] at this
      cases this
    · intro q hq
      exact (hT q (by omega)).1 (h2 q hq)
  · exact absurd (h2 C (by omega)) hno
set_option linter.unusedSimpArgs false in
set_option maxHeartbeats 12800000 in
set_option maxRecDepth 100000 in
theorem xIndexB_any (T : List Bool) (g : Nat) (tt : TypeId) (c : Nat) (w : World) (h : RowV w g tt (T.map Value.bool)) (hT : T.length ≤ 14) :
    Calls Try.prog 158 #[.slice (some ⟨g, 0, none⟩) T.length c, .bool false] w fun e w' => (∃ r, e = .returned (.int .i64 r) ∧ FreeAt T r) ∧ w' = w := by
  have HR := Lib.hid h
  clear h
  go_enter Try.func158, Try.ntmps158
  go_wp2_with fail
  go_loopw [8] (fun s wr => ∃ k : Nat, k ≤ T.length ∧ s = .int .i64 k ∧ Hid (∀ i, i < k → T[i]? = some true) ∧ Hid (SameW wr w)) (fun s _ => T.length - (intOf s).toNat)
  case atStart => exact ⟨0, Nat.zero_le _, rfl, Lib.hid fun i hi => absurd hi (Nat.not_lt_zero _), Lib.hid (show SameW _ _ from rfl)⟩
  case round =>
    obtain ⟨k, hk, rfl, HT, HW⟩ := hrel
    obtain rfl := (show wr = w from HW.out)
    by_cases hlt : k < T.length
    · have hkn : (k : Int) < (T.length : Int) := by omega
      cases hb : T[k] with
      | true =>
        have q0 : wr.cell? ⟨g, k, none⟩ = some (.bool true) := by rw [HR.out.cell, List.getElem?_map, List.getElem?_eq_getElem hlt, hb]; rfl
        have G := Lib.hid (show ∀ i, i < k + 1 → T[i]? = some true from fun i hi => by
          by_cases e : i = k
          · subst e; rw [List.getElem?_eq_getElem hlt, hb]
          · exact HT.out i (by omega))
        clear hb
        go_wp2_with fail
        go_roundw
        case rel => exact ⟨k + 1, by omega, by go_num, G, HW⟩
        case measure => simp [intOf]; omega
      | false =>
        have q0 : wr.cell? ⟨g, k, none⟩ = some (.bool false) := by rw [HR.out.cell, List.getElem?_map, List.getElem?_eq_getElem hlt, hb]; rfl
        have G := Lib.hid (show FreeAt T (k : Int) from Or.inl ⟨k, rfl, hlt, by rw [List.getElem?_eq_getElem hlt, hb], HT.out⟩)
        clear hb
        go_wp2_with fail
        go_ret
        exact ⟨⟨_, rfl, G.out⟩, rfl⟩
    · have G := Lib.hid (show FreeAt T (-1) from Or.inr ⟨rfl, fun i hi => HT.out i (by omega)⟩)
      go_wp2_with fail
      go_ret
      exact ⟨⟨_, rfl, G.out⟩, rfl⟩
set_option linter.unusedSimpArgs false in
set_option maxHeartbeats 12800000 in
set_option maxRecDepth 100000 in
theorem xFreePlate_any (l : List WRec) (P : List Int) (O : List Nat) (A G B : Option Addr) (c cg cb u C : Nat) (w : World) (h : ArrW w A l c) (hG : ArrI w G P cg) (hB : ArrI w B (O.map Int.ofNat) cb) (hP : P.length = l.length) (hu : u < l.length)
    (hO : ∀ j, j < O.length → O.getD j 0 < l.length) (hC : C < 14) (hb : ∀ j, j < O.length → 0 ≤ listI P (O.getD j 0) ∧ listI P (O.getD j 0) < (C : Int)) (hl : l.length ≤ 14) :
    Calls Try.prog 122 #[.slice A l.length c, .slice G P.length cg, .slice B O.length cb, .int .i64 u] w fun e w' => (∃ p : Nat, e = .returned (.int .i64 p) ∧ Free l P O u O.length C p) ∧ Below w.heap.size w w' := by
  have b1 := h.le.1
  have b2 := h.le.2
  have g1 := hG.le.1
  have g2 := hG.le.2
  have k1 := hB.le.1
  have k2 := hB.le.2
  rw [List.length_map] at k1
  have HA := Lib.hid h
  have HG := Lib.hid hG
  have HB := Lib.hid hB
  have HP := Lib.hid hP
  have HO := Lib.hid hO
  have Hb := Lib.hid hb
  clear h hG hB hP hO hb
  go_enter Try.func122, Try.ntmps122
  have HR0 : Hid (RowV (w.alloc (.cells #[.bool false, .bool false, .bool false, .bool false, .bool false, .bool false, .bool false, .bool false, .bool false, .bool false, .bool false, .bool false, .bool false, .bool false] 186)) w.heap.size 186 ((takenTo l P O u 0).map Value.bool)) := Lib.hid (by
    have := heap_alloc_new w (.cells #[.bool false, .bool false, .bool false, .bool false, .bool false, .bool false, .bool false, .bool false, .bool false, .bool false, .bool false, .bool false, .bool false, .bool false] 186)
    exact this)
  go_upto_region 2 with fail
  generalize hwb : w.alloc _ = wb at *
  obtain ⟨g, hg⟩ : ∃ g, g = w.heap.size := ⟨_, rfl⟩
  have HW : Hid (Below w.heap.size w wb) := by rw [← hwb]; exact Lib.hid ((Below.refl _ _).alloc (Nat.le_refl _) _)
  clear hwb
  have HGE := Lib.hid hg
  rw [← hg] at HR0 ⊢
  have hgw : w.heap.size ≤ g := by omega
  clear hg
  go_wp2_with fail
  go_loopw [14] (fun s wr => ∃ k : Nat, k ≤ O.length ∧ s = .int .i64 k ∧ Hid (RowV wr g 186 ((takenTo l P O u k).map Value.bool)) ∧ Hid (Below w.heap.size w wr)) (fun s _ => O.length - (intOf s).toNat)
  case atStart => exact ⟨0, Nat.zero_le _, rfl, HR0, HW⟩
  case round =>
    obtain ⟨k, hk, rfl, HR, HBr⟩ := hrel
    by_cases hlt : k < O.length
    · have hkn : (k : Int) < (O.length : Int) := by omega
      obtain ⟨j, hj⟩ : ∃ j, j = O.getD k 0 := ⟨_, rfl⟩
      have HJ := Lib.hid hj
      have hjl : j < l.length := by rw [hj]; exact HO.out k hlt
      have hjn : (j : Int) < (l.length : Int) := by omega
      have hun : (u : Int) < (l.length : Int) := by omega
      have hjw : IntKind.i64.wrap (j : Int) = (j : Int) := by rw [IntKind.wrap_i64]; omega
      obtain ⟨b', o', rfl, p0⟩ := (HB.out.keep (Keep.below HBr.out)).at_ (k := k) (by rw [List.length_map]; exact hlt)
      have ej : listI (O.map Int.ofNat) k = (j : Int) := by
        rw [hj]; unfold listI
        rw [List.getD_eq_getElem?_getD, List.getD_eq_getElem?_getD, List.getElem?_map, List.getElem?_eq_getElem hlt]
        rfl
      rw [ej] at p0
      obtain ⟨b, o, rfl, q0, q1, q2⟩ := (HA.out.keep (Keep.below HBr.out)).at_ (k := j) hjl
      obtain ⟨b9, o9, e9, y0, y1, y2⟩ := (HA.out.keep (Keep.below HBr.out)).at_ (k := u) hu
      obtain ⟨rfl, rfl⟩ : b = b9 ∧ o = o9 := by simpa using e9
      obtain ⟨b3, o3, rfl, z0⟩ := (HG.out.keep (Keep.below HBr.out)).at_ (k := j) (by rw [HP.out]; exact hjl)
      obtain ⟨pn, hpn, hpC⟩ : ∃ pn : Nat, listI P j = (pn : Int) ∧ pn < 14 := by
        have := Hb.out k hlt
        rw [← hj] at this
        exact ⟨(listI P j).toNat, by omega, by omega⟩
      rw [hpn] at z0
      have HPN := Lib.hid hpn
      have hjP : (j : Int) < (P.length : Int) := by have := HP.out; omega
      have hpi : (pn : Int) < 14 := by omega
      have hpw : IntKind.i64.wrap (pn : Int) = (pn : Int) := by rw [IntKind.wrap_i64]; omega
      clear e9 ej hj hpn
      go_upto_region 5 with fail
      go_wp2_with fail
      have HBd : Hid (Below wr.heap.size wr wr.drew) := Lib.hid (Below.refl _ _).drew
      have MK : Hid (∀ w', Below wr.heap.size wr w' → w'.cell? ⟨b, o + j * 3, none⟩ = some (.string (listW l j).who) ∧ w'.cell? ⟨b, o + j * 3 + 1, none⟩ = some (.int .i64 (listW l j).beg) ∧ w'.cell? ⟨b, o + j * 3 + 2, none⟩ = some (.int .i64 (listW l j).fin) ∧ w'.cell? ⟨b, o + u * 3, none⟩ = some (.string (listW l u).who) ∧ w'.cell? ⟨b, o + u * 3 + 1, none⟩ = some (.int .i64 (listW l u).beg) ∧ w'.cell? ⟨b, o + u * 3 + 2, none⟩ = some (.int .i64 (listW l u).fin) ∧ w'.cell? ⟨b3, o3 + j, none⟩ = some (.int .i64 pn) ∧ Hid (Below wr.heap.size wr w')) :=
        Lib.hid fun w' hw => ⟨Keep.below hw _ _ q0, Keep.below hw _ _ q1, Keep.below hw _ _ q2, Keep.below hw _ _ y0, Keep.below hw _ _ y1, Keep.below hw _ _ y2, Keep.below hw _ _ z0, Lib.hid hw⟩
      refine wp_region_held_drew (S := fun w' => w'.cell? ⟨b, o + j * 3, none⟩ = some (.string (listW l j).who) ∧ w'.cell? ⟨b, o + j * 3 + 1, none⟩ = some (.int .i64 (listW l j).beg) ∧ w'.cell? ⟨b, o + j * 3 + 2, none⟩ = some (.int .i64 (listW l j).fin) ∧ w'.cell? ⟨b, o + u * 3, none⟩ = some (.string (listW l u).who) ∧ w'.cell? ⟨b, o + u * 3 + 1, none⟩ = some (.int .i64 (listW l u).beg) ∧ w'.cell? ⟨b, o + u * 3 + 2, none⟩ = some (.int .i64 (listW l u).fin) ∧ w'.cell? ⟨b3, o3 + j, none⟩ = some (.int .i64 pn) ∧ Hid (Below wr.heap.size wr w')) (by kernel_rfl) (MK.out _ HBd.out) (fun hHeld => ?_)
      refine wpAnyH_take (i := 0) (v := ?val0x19) rfl (by kernel_rfl) (by kernel_rfl) (by kernel_rfl) (fun _ _ _ h => h) (Or.inl ⟨by rfl, fun w9 hS9 => ?yields0x19⟩) (by assumption) ?later0x19
      case yields0x19 =>
        dsimp only at hS9
        go_simp
        try with_reducible rfl
      try simp only [Act.put, List.getElem_toArray, List.getElem_cons_succ, List.getElem_cons_zero, List.setIfInBounds_toArray, List.set_cons_zero, List.set_cons_succ]
      refine wpAnyH_take (i := 1) (v := ?val1x20) rfl (by kernel_rfl) (by kernel_rfl) (by kernel_rfl) (fun _ _ _ h => h) (Or.inl ⟨by rfl, fun w9 hS9 => ?yields1x20⟩) (by assumption) ?later1x20
      case yields1x20 =>
        dsimp only at hS9
        go_simp
        try with_reducible rfl
      try simp only [Act.put, List.getElem_toArray, List.getElem_cons_succ, List.getElem_cons_zero, List.setIfInBounds_toArray, List.set_cons_zero, List.set_cons_succ]
      refine wpAnyH_take (i := 2) (v := ?val2x21) rfl (by kernel_rfl) (by kernel_rfl) (by kernel_rfl) (fun _ _ _ h => h) (Or.inl ⟨by rfl, fun w9 hS9 => ?yields2x21⟩) (by assumption) ?later2x21
      case yields2x21 =>
        dsimp only at hS9
        go_simp
        try with_reducible rfl
      try simp only [Act.put, List.getElem_toArray, List.getElem_cons_succ, List.getElem_cons_zero, List.setIfInBounds_toArray, List.set_cons_zero, List.set_cons_succ]
      refine wpAnyH_take (i := 3) (v := ?val3x22) rfl (by kernel_rfl) (by kernel_rfl) (by kernel_rfl) (fun _ _ _ h => h) (Or.inl ⟨by rfl, fun w9 hS9 => ?yields3x22⟩) (by assumption) ?later3x22
      case yields3x22 =>
        dsimp only at hS9
        go_simp
        try with_reducible rfl
      try simp only [Act.put, List.getElem_toArray, List.getElem_cons_succ, List.getElem_cons_zero, List.setIfInBounds_toArray, List.set_cons_zero, List.set_cons_succ]
      refine wpAnyH_take (i := 4) (v := ?val4x23) rfl (by kernel_rfl) (by kernel_rfl) (by kernel_rfl) (fun _ _ _ h => h) (Or.inl ⟨by rfl, fun w9 hS9 => ?yields4x23⟩) (by assumption) ?later4x23
      case yields4x23 =>
        dsimp only at hS9
        go_simp
        try with_reducible rfl
      try simp only [Act.put, List.getElem_toArray, List.getElem_cons_succ, List.getElem_cons_zero, List.setIfInBounds_toArray, List.set_cons_zero, List.set_cons_succ]
      refine wpAnyH_take (i := 5) (v := ?val5x24) rfl (by kernel_rfl) (by kernel_rfl) (by kernel_rfl) (fun _ _ _ h => h) (Or.inl ⟨by rfl, fun w9 hS9 => ?yields5x24⟩) (by assumption) ?later5x24
      case yields5x24 =>
        dsimp only at hS9
        go_simp
        try with_reducible rfl
      try simp only [Act.put, List.getElem_toArray, List.getElem_cons_succ, List.getElem_cons_zero, List.setIfInBounds_toArray, List.set_cons_zero, List.set_cons_succ]
      refine wpAnyH_take (i := 6) (v := ?val6x25) rfl (by kernel_rfl) (by kernel_rfl) (by kernel_rfl) (fun _ _ _ h => h) (Or.inl ⟨by rfl, fun w9 hS9 => ?yields6x25⟩) (by assumption) ?later6x25
      case yields6x25 =>
        dsimp only at hS9
        go_simp
        try with_reducible rfl
      try simp only [Act.put, List.getElem_toArray, List.getElem_cons_succ, List.getElem_cons_zero, List.setIfInBounds_toArray, List.set_cons_zero, List.set_cons_succ]
      refine wpAnyH_take (i := 7) (v := ?val7x26) rfl (by kernel_rfl) (by kernel_rfl) (by kernel_rfl) (fun _ _ _ h => h) (Or.inl ⟨by rfl, fun w9 hS9 => ?yields7x26⟩) (by assumption) ?later7x26
      case yields7x26 =>
        dsimp only at hS9
        go_simp
        try with_reducible rfl
      try simp only [Act.put, List.getElem_toArray, List.getElem_cons_succ, List.getElem_cons_zero, List.setIfInBounds_toArray, List.set_cons_zero, List.set_cons_succ]
      refine wpAnyH_ready (rs := [8]) (by kernel_rfl) (by simp) ?_
      refine AllReadyH.cons rfl (fun K hK => ?_) AllReadyH.nil
      go_simp
      go_at_call 155
      go_split_ands
      refine (xOverlap_any (listW l j) (listW l u) _).mono ?_
      rintro e' w5 ⟨rfl, hb1⟩
      go_wp2_with fail
      refine hK.out _ _ ?_ (fun hHeld => ?_)
      · (try dsimp only)
        (go_split_ands; exact MK.out _ (Below.trans (Hid.out (by assumption)) (hb1.mono (Hid.out (by assumption) : Below wr.heap.size wr _).size)))
      clear hK K
      try simp only [Act.put, List.getElem_toArray, List.getElem_cons_succ, List.getElem_cons_zero, List.setIfInBounds_toArray, List.set_cons_zero, List.set_cons_succ]
      refine wpAnyH_done (by kernel_rfl) ?_ _
      obtain ⟨-, -, -, -, -, -, -, HB5⟩ := hHeld
      clear HBd MK
      have z5 := Keep.below HB5.out _ _ z0
      have HB6 := Lib.hid (HBr.out.trans (HB5.out.mono HBr.out.size))
      have HR5 := Lib.hid (HR.out.keep HB5.out)
      have tl := taken_len l P O u k
      obtain ⟨bx, q9⟩ : ∃ bx, w5.cell? ⟨g, pn, none⟩ = some (.bool bx) := by
        refine ⟨(takenTo l P O u k)[pn]'(by omega), ?_⟩
        rw [HR5.out.cell, List.getElem?_map, List.getElem?_eq_getElem (by omega)]; rfl
      have f9 := HR5.out.frozen pn
      clear q0 q1 q2 y0 y1 y2 z0 p0 tl
      cases ho : overlapB (listW l j) (listW l u) with
      | true =>
        have HR7 := Lib.hid ((HR5.out.set pn (.bool true)).cong (show ((takenTo l P O u k).map Value.bool).set pn (.bool true) = (takenTo l P O u (k + 1)).map Value.bool by
          rw [show takenTo l P O u (k + 1) = (takenTo l P O u k).set pn true by rw [takenTo, ← HJ.out, if_pos ho, HPN.out, Int.toNat_natCast], List.map_set]))
        have HB7 := Lib.hid (HB6.out.setCell (p := ⟨g, pn, none⟩) hgw (.bool true))
        clear ho
        go_wp2_with fail
        go_roundw
        case rel => exact ⟨k + 1, by omega, by go_num, HR7, HB7⟩
        case measure => simp [intOf]; omega
      | false =>
        have HR7 := Lib.hid (HR5.out.cong (show (takenTo l P O u k).map Value.bool = (takenTo l P O u (k + 1)).map Value.bool by
          rw [takenTo, ← HJ.out, if_neg (by rw [ho]; decide)]))
        clear ho
        go_wp2_with fail
        go_roundw
        case rel => exact ⟨k + 1, by omega, by go_num, HR7, HB6⟩
        case measure => simp [intOf]; omega
    · obtain rfl : k = O.length := by omega
      have hx := fun c => xIndexB_any (takenTo l P O u O.length) g _ c wr HR.out (by rw [taken_len]; decide)
      rw [taken_len] at hx
      have HX := Lib.hid hx
      clear hx
      go_wp2_with fail
      refine (HX.out _).mono ?_
      rintro e' w9 ⟨⟨r, rfl, hr⟩, rfl⟩
      obtain ⟨p, rfl, hf⟩ := free_is hC Hb.out hr
      have HF := Lib.hid hf
      clear hr hf
      go_wp2_with fail
      go_ret
      exact ⟨⟨_, rfl, HF.out⟩, HBr.out⟩
end Go.Proofs.Ytaihiahoedpbiaa
/- Greedy plates, plainly: they are fine, and as many as the uses at one time. No condition. -/
namespace Go.Proofs.Ytaihiahoedpbiaa
open Go.RowKit Fs

theorem cnt_le {q r : Nat → Bool} : ∀ n, (∀ i, i < n → r i = true → q i = true) → cnt r n ≤ cnt q n
  | 0, _ => Nat.le_refl _
  | n + 1, h => by
    have ih := cnt_le (q := q) (r := r) n fun i hi => h i (by omega)
    rw [cnt, cnt]
    cases hr : r n with
    | true => rw [h n (Nat.lt_succ_self n) hr, if_pos rfl, if_pos rfl]; omega
    | false =>
      rw [if_neg (by decide)]
      split <;> omega
theorem cnt_more {q : Nat → Bool} {f : Nat → Int} {v : Int} : ∀ n, (∃ i, i < n ∧ q i = true ∧ f i = v) → cnt (fun i => q i && decide (f i ≠ v)) n + 1 ≤ cnt q n
  | 0, ⟨_, h, _⟩ => absurd h (Nat.not_lt_zero _)
  | n + 1, ⟨i, hi, h1, h2⟩ => by
    rw [cnt, cnt]
    have mono := cnt_le (q := q) (r := fun i => q i && decide (f i ≠ v)) n fun j _ hh => ((Bool.and_eq_true _ _).mp hh).1
    by_cases e : f n = v
    · rw [if_neg (by simp [e])]
      cases hq : q n with
      | true => rw [if_pos rfl]; omega
      | false =>
        rw [if_neg (by decide)]
        have hin : i < n := by
          by_cases e2 : i = n
          · subst e2; rw [hq] at h1; cases h1
          · omega
        exact cnt_more n ⟨i, hin, h1, h2⟩
    · have hin : i < n := by
        by_cases e2 : i = n
        · subst e2; exact absurd h2 e
        · omega
      have ih := cnt_more (q := q) (f := f) (v := v) n ⟨i, hin, h1, h2⟩
      cases hq : q n with
      | true => rw [if_pos (by simp [e]), if_pos rfl]; omega
      | false => rw [if_neg (by simp), if_neg (by decide)]; exact ih
theorem cnt_ge : ∀ (C : Nat) {q : Nat → Bool} {f : Nat → Int} {n : Nat}, (∀ p : Nat, p < C → ∃ i, i < n ∧ q i = true ∧ f i = (p : Int)) → C ≤ cnt q n
  | 0, _, _, _, _ => Nat.zero_le _
  | C + 1, q, f, n, h => by
    have a := cnt_more (q := q) (f := f) (v := (C : Int)) n (h C (Nat.lt_succ_self C))
    have b := cnt_ge C (q := fun i => q i && decide (f i ≠ (C : Int))) (f := f) (n := n) (fun p hp => by
      obtain ⟨i, hi, h1, h2⟩ := h p (by omega)
      have hne : f i ≠ (C : Int) := by omega
      exact ⟨i, hi, by rw [h1, decide_eq_true hne]; rfl, h2⟩)
    omega
theorem lap_symm (x y : WRec) : overlapB x y = overlapB y x := by unfold overlapB; rw [Bool.and_comm]
theorem lap_iff {x y : WRec} : overlapB x y = true ↔ x.beg < y.fin ∧ y.beg < x.fin := by unfold overlapB; simp
structure Fs.Greedy (l : List WRec) (P : List Int) (O : List Nat) (k C : Nat) (t : Int) : Prop where
  len : P.length = l.length
  le : C ≤ k
  rng : ∀ j, j < k → 0 ≤ listI P (O.getD j 0) ∧ listI P (O.getD j 0) < (C : Int)
  apart : ∀ i j, i < k → j < i → overlapB (listW l (O.getD j 0)) (listW l (O.getD i 0)) = true → listI P (O.getD j 0) ≠ listI P (O.getD i 0)
  none : C = 0 → t = 0
  some : 0 < C → ∃ s, s < k ∧ t = (listW l (O.getD s 0)).beg ∧ ∀ p : Nat, p < C → ∃ j, j < k ∧ inUse l t (O.getD j 0) = true ∧ listI P (O.getD j 0) = (p : Int)
theorem greedy_zero (l : List WRec) (O : List Nat) : Greedy l (List.replicate l.length 0) O 0 0 0 :=
  ⟨by simp, Nat.le_refl _, fun j hj => absurd hj (Nat.not_lt_zero _), fun i _ hi => absurd hi (Nat.not_lt_zero _), fun _ => rfl, fun h => absurd h (Nat.lt_irrefl _)⟩
theorem begun_len {l : List WRec} {O : List Nat} (h : Begun l O) : O.length = l.length := by have := h.perm.length_eq; simpa using this
theorem begun_lt {l : List WRec} {O : List Nat} (h : Begun l O) {j : Nat} (hj : j < O.length) : O.getD j 0 < l.length := by
  have h1 : O.getD j 0 = O[j] := by rw [List.getD_eq_getElem?_getD, List.getElem?_eq_getElem hj]; rfl
  have h2 := h.perm.mem_iff.1 (List.getElem_mem hj)
  rw [h1]
  exact List.mem_range.1 h2
theorem begun_ne {l : List WRec} {O : List Nat} (h : Begun l O) {i j : Nat} (hi : i < O.length) (hj : j < i) : O.getD j 0 ≠ O.getD i 0 := by
  have hn : O.Nodup := h.perm.nodup_iff.2 List.nodup_range
  rw [List.getD_eq_getElem?_getD, List.getD_eq_getElem?_getD, List.getElem?_eq_getElem hi, List.getElem?_eq_getElem (by omega)]
  intro e
  have e2 : O[j] = O[i] := e
  exact List.pairwise_iff_getElem.1 hn j i (by omega) hi hj e2
theorem begun_of {l : List WRec} {O : List Nat} (h : Begun l O) {i : Nat} (hi : i < l.length) : ∃ j, j < O.length ∧ O.getD j 0 = i := by
  have h1 := h.perm.mem_iff.2 (List.mem_range.2 hi)
  obtain ⟨j, hj, e⟩ := List.getElem_of_mem h1
  exact ⟨j, hj, by rw [List.getD_eq_getElem?_getD, List.getElem?_eq_getElem hj]; exact e⟩
theorem listI_set {P : List Int} {i j : Nat} {x : Int} (hi : i < P.length) : listI (P.set i x) j = if i = j then x else listI P j := by
  unfold listI
  rw [List.getD_eq_getElem?_getD, List.getD_eq_getElem?_getD, List.getElem?_set]
  by_cases e : i = j
  · rw [if_pos e, if_pos e, if_pos hi]; rfl
  · rw [if_neg e, if_neg e]
theorem greedy_kept {l : List WRec} {P : List Int} {O : List Nat} (hO : Begun l O) {k : Nat} {x : Int} (hP : P.length = l.length) (hk : k < O.length) {j : Nat} (hj : j < k) : listI (P.set (O.getD k 0) x) (O.getD j 0) = listI P (O.getD j 0) := by
  rw [listI_set (by rw [hP]; exact begun_lt hO hk), if_neg (fun e => begun_ne hO hk hj e.symm)]
theorem greedy_put {l : List WRec} {P : List Int} {O : List Nat} (hO : Begun l O) {k : Nat} {x : Int} (hP : P.length = l.length) (hk : k < O.length) : listI (P.set (O.getD k 0) x) (O.getD k 0) = x := by
  rw [listI_set (by rw [hP]; exact begun_lt hO hk), if_pos rfl]
theorem greedy_old {l : List WRec} {P : List Int} {O : List Nat} {k C p : Nat} {t : Int} (hO : Begun l O) (hk : k < O.length) (g : Greedy l P O k C t) (f : Free l P O (O.getD k 0) k C p) (hp : p ≠ C) : Greedy l (P.set (O.getD k 0) p) O (k + 1) C t := by
  have hK := fun j (hj : j < k) => greedy_kept (x := (p : Int)) hO g.len hk hj
  have hX := greedy_put (x := (p : Int)) hO g.len hk
  have fl := f.le
  refine ⟨by rw [List.length_set]; exact g.len, by have := g.le; omega, ?_, ?_, g.none, ?_⟩
  · intro j hj
    by_cases e : j = k
    · subst e; rw [hX]; omega
    · rw [hK j (by omega)]; exact g.rng j (by omega)
  · intro i j hi hj ho
    rw [hK j (by omega)]
    by_cases e : i = k
    · subst e; rw [hX]; exact f.no j hj ho
    · rw [hK i (by omega)]; exact g.apart i j (by omega) hj ho
  · intro h0
    obtain ⟨s, hs, h1, h2⟩ := g.some h0
    refine ⟨s, by omega, h1, fun q hq => ?_⟩
    obtain ⟨j, hj, h3, h4⟩ := h2 q hq
    exact ⟨j, by omega, h3, by rw [hK j hj]; exact h4⟩
theorem greedy_new {l : List WRec} {P : List Int} {O : List Nat} {k C p : Nat} {t : Int} (hO : Begun l O) (hU : UsesOk l) (hk : k < O.length) (g : Greedy l P O k C t) (f : Free l P O (O.getD k 0) k C p) (hp : p = C) :
    Greedy l (P.set (O.getD k 0) p) O (k + 1) (C + 1) (listW l (O.getD k 0)).beg := by
  have hK := fun j (hj : j < k) => greedy_kept (x := (p : Int)) hO g.len hk hj
  have hX := greedy_put (x := (p : Int)) hO g.len hk
  have hsp := spanErr_ok (hU.one _ (begun_lt hO hk)).2
  subst hp
  refine ⟨by rw [List.length_set]; exact g.len, by have := g.le; omega, ?_, ?_, fun h => absurd h (by omega), ?_⟩
  · intro j hj
    by_cases e : j = k
    · subst e; rw [hX]; omega
    · rw [hK j (by omega)]; have := g.rng j (by omega); omega
  · intro i j hi hj ho
    rw [hK j (by omega)]
    by_cases e : i = k
    · subst e; rw [hX]; exact f.no j hj ho
    · rw [hK i (by omega)]; exact g.apart i j (by omega) hj ho
  · intro _
    refine ⟨k, by omega, rfl, fun q hq => ?_⟩
    by_cases e : q = p
    · refine ⟨k, by omega, ?_, by rw [hX, e]⟩
      exact Fs.within_iff.2 ⟨Int.le_refl _, by omega⟩
    · obtain ⟨j, hj, h3, h4⟩ := f.low q (by omega)
      refine ⟨j, by omega, ?_, by rw [hK j hj]; exact h4⟩
      have h5 := lap_iff.1 h3
      exact Fs.within_iff.2 ⟨hO.up j k hj hk, by omega⟩
theorem count_le {P : List Int} {C : Int} (h0 : 0 ≤ C) : ∀ k, (∀ i, i < k → listI P i + 1 ≤ C) → countTo P k ≤ C
  | 0, _ => h0
  | k + 1, h => by
    rw [countTo]
    have := count_le h0 k fun i hi => h i (by omega)
    have := h k (Nat.lt_succ_self k)
    omega
theorem use_lap {l : List WRec} {t : Int} {a b : Nat} (qa : inUse l t a = true) (qb : inUse l t b = true) : overlapB (listW l a) (listW l b) = true := by
  have x := Fs.within_iff.1 (show within t (listW l a).beg ((listW l a).fin - 1) = true from qa)
  have y := Fs.within_iff.1 (show within t (listW l b).beg ((listW l b).fin - 1) = true from qb)
  exact lap_iff.2 ⟨by omega, by omega⟩
theorem greedy_apart {l : List WRec} {P : List Int} {O : List Nat} {C : Nat} {t : Int} (hO : Begun l O) (g : Greedy l P O O.length C t) {a b : Nat} (ha : a < l.length) (hb : b < l.length) (hab : a ≠ b) (ho : overlapB (listW l a) (listW l b) = true) : listI P a ≠ listI P b := by
  obtain ⟨i, hi, rfl⟩ := begun_of hO ha
  obtain ⟨j, hj, rfl⟩ := begun_of hO hb
  rcases Nat.lt_trichotomy i j with h | h | h
  · exact g.apart j i hj h ho
  · exact absurd (by rw [h]) hab
  · exact fun e => g.apart i j hi h (by rw [lap_symm]; exact ho) e.symm
theorem greedy_end {l : List WRec} {P : List Int} {O : List Nat} {C : Nat} {t : Int} (hO : Begun l O) (hU : UsesOk l) (g : Greedy l P O O.length C t) : PlatesIs l P t := by
  have hz := uses_zero hU
  refine ⟨fun h => absurd hz h, fun _ => ?_⟩
  have hl := begun_len hO
  have h14 := hU.len
  have hC : C ≤ 14 := by have := g.le; omega
  have rng : ∀ i, i < l.length → 0 ≤ listI P i ∧ listI P i < (C : Int) := fun i hi => by
    obtain ⟨j, hj, rfl⟩ := begun_of hO hi
    exact g.rng j hj
  have bad : fst (plateBad P) l.length = 0 := fst_none fun i hi => by
    unfold plateBad
    have := rng i hi
    rw [if_pos (Fs.within_iff.2 ⟨this.1, by omega⟩)]
  have clk : isClock t = true := by
    by_cases h0 : 0 < C
    · obtain ⟨s, hs, rfl, -⟩ := g.some h0
      have := spanErr_ok (hU.one _ (begun_lt hO hs)).2
      unfold isClock
      exact Fs.within_iff.2 ⟨this.1, by omega⟩
    · rw [g.none (by omega)]; decide
  have clash : ¬ ∃ i, i < l.length ∧ ∃ k, k < i ∧ plateClash l P i k := fun ⟨i, hi, k, hk, h1, h2⟩ => greedy_apart hO g hi (by omega) (by omega) h1 h2
  have top : ∀ t', atTo l t' l.length ≤ (C : Int) := fun t' => by
    rw [atTo_cnt]
    have := pigeon C (q := inUse l t') (f := listI P) (n := l.length) (fun i hi _ => rng i hi) (fun a b ha hb qa qb => greedy_apart hO g ha (by omega) (by omega) (use_lap qa qb))
    omega
  have low : (C : Int) ≤ atTo l t l.length := by
    rw [atTo_cnt]
    by_cases h0 : 0 < C
    · obtain ⟨s, hs, -, h2⟩ := g.some h0
      have := cnt_ge C (q := inUse l t) (f := listI P) (n := l.length) (fun p hp => by
        obtain ⟨j, hj, h3, h4⟩ := h2 p hp
        exact ⟨_, begun_lt hO hj, h3, h4⟩)
      omega
    · omega
  have cle : countTo P l.length ≤ (C : Int) := count_le (by omega) _ fun i hi => by have := (rng i hi).2; omega
  have cge : (C : Int) ≤ countTo P l.length := by
    by_cases h0 : 0 < C
    · obtain ⟨s, hs, -, h2⟩ := g.some h0
      obtain ⟨j, hj, -, h4⟩ := h2 (C - 1) (by omega)
      have := count_ge (P := P) (begun_lt hO hj)
      omega
    · have : l.length = 0 := by
        rcases Nat.eq_zero_or_pos l.length with h | h
        · exact h
        · have := rng 0 h; omega
      rw [this, countTo]; omega
  have hat : atTo l t l.length = countTo P l.length := by have := top t; omega
  rw [plate_fine g.len bad clk clash, if_neg (fun h => h hat)]
  have m1 : mostTo l l.length ≤ (C : Int) := most_le (by omega) _ fun i _ => top _
  have m2 : (C : Int) ≤ mostTo l l.length := by
    by_cases h0 : 0 < C
    · obtain ⟨s, hs, e, -⟩ := g.some h0
      have := most_ge (l := l) (begun_lt hO hs)
      rw [← e] at this
      omega
    · have := most_pos l l.length; omega
  rw [show countTo P l.length = mostTo l l.length by omega]
end Go.Proofs.Ytaihiahoedpbiaa

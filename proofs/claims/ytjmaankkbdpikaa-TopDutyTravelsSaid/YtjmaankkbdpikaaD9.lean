/- The small functions of the chapter's laws: few, tripErr, Rules, Ann. No condition. -/
import Derived.Test.YtjmaankkbdpikaaD6
import Derived.Laws.OwnMore
import Derived.ChangeKeysEq
namespace Go.Proofs.Ytjmaankkbdpikaa
open Go.RowKit Fs

def Fs.FewR (l : List WRec) : Prop := (l.length ≤ 12 ∨ (40 ≤ l.length ∧ l.length ≤ 42)) ∧ ∀ j, j < l.length → (listW l j).who.size ≤ 20
open Classical in
noncomputable def Fs.fewR (l : List WRec) : Bool := decide (FewR l)
theorem fewR_yes {l : List WRec} (h : FewR l) : fewR l = true := by unfold fewR; simpa using h
theorem fewR_no {l : List WRec} (h : ¬ FewR l) : fewR l = false := by unfold fewR; simpa using h
theorem fewR_is {l : List WRec} (h : fewR l = true) : FewR l := by unfold fewR at h; simpa using h
def Fs.lawTripErr (R : DRules) (l : List WRec) (t : DTrip) : Int := if bothErr R l ≠ 0 then bothErr R l else dtripErr R l t
theorem Fs.both_ok {R : DRules} {l : List WRec} (h : bothErr R l = 0) : drulesErr R = 0 ∧ recsErr true l = 0 := by
  unfold bothErr at h
  by_cases h1 : drulesErr R = 0
  · rw [if_neg (fun hh => hh h1)] at h; exact ⟨h1, h⟩
  · rw [if_pos h1] at h; exact absurd h h1
theorem Fs.lawTrip_ok {R : DRules} {l : List WRec} {t : DTrip} (h : lawTripErr R l t = 0) : bothErr R l = 0 ∧ dtripErr R l t = 0 := by
  unfold lawTripErr at h
  by_cases h1 : bothErr R l = 0
  · rw [if_neg (fun hh => hh h1)] at h; exact ⟨h1, h⟩
  · rw [if_pos h1] at h; exact absurd h h1

def Fs.annRules : DRules := ⟨900, 36000, 16200, 43200, 200000⟩
def Fs.annName : ByteArray := ⟨#[97, 110, 110]⟩
def Fs.annList : List WRec := [⟨annName, 0, 10000⟩, ⟨annName, 10500, 15000⟩, ⟨annName, 16000, 20000⟩]
set_option maxHeartbeats 800000 in
theorem lawAnn_any (w : World) : Calls Try.prog 17 #[] w fun e w' => (∃ A c, e = .returned (.slice A annList.length c) ∧ ArrW w' A annList c) ∧ Below w.heap.size w w' := by
  go_enter Try.func17, Try.ntmps17
  go_wp2_with fail
  go_ret
  refine ⟨⟨some ⟨w.heap.size, 0, none⟩, 3, rfl, Nat.le_refl _, by omega, fun _ => ⟨w.heap.size, 0, rfl, fun i j hi hj => ?_⟩⟩, (Below.refl _ _).alloc (Nat.le_refl _) _⟩
  obtain rfl | rfl | rfl : i = 0 ∨ i = 1 ∨ i = 2 := by have : i < 3 := hi; omega
  · obtain rfl | rfl | rfl : j = 0 ∨ j = 1 ∨ j = 2 := by omega
    · exact cellNew _ _ _ 0
    · exact cellNew _ _ _ 1
    · exact cellNew _ _ _ 2
  · obtain rfl | rfl | rfl : j = 0 ∨ j = 1 ∨ j = 2 := by omega
    · exact cellNew _ _ _ 3
    · exact cellNew _ _ _ 4
    · exact cellNew _ _ _ 5
  · obtain rfl | rfl | rfl : j = 0 ∨ j = 1 ∨ j = 2 := by omega
    · exact cellNew _ _ _ 6
    · exact cellNew _ _ _ 7
    · exact cellNew _ _ _ 8
set_option maxHeartbeats 800000 in
theorem lawRules_any (w : World) : Calls Try.prog 16 #[] w fun e w' => e = .returned (drulesV annRules) ∧ Below w.heap.size w w' := by
  have c0 := cellNew w #[.int .i64 0, .int .i64 0, .int .i64 0, .int .i64 0, .int .i64 0] 29 0
  have c1 := cellNew w #[.int .i64 0, .int .i64 0, .int .i64 0, .int .i64 0, .int .i64 0] 29 1
  have c2 := cellNew w #[.int .i64 0, .int .i64 0, .int .i64 0, .int .i64 0, .int .i64 0] 29 2
  have c3 := cellNew w #[.int .i64 0, .int .i64 0, .int .i64 0, .int .i64 0, .int .i64 0] 29 3
  have c4 := cellNew w #[.int .i64 0, .int .i64 0, .int .i64 0, .int .i64 0, .int .i64 0] 29 4
  have f0 := frozenNew w #[.int .i64 0, .int .i64 0, .int .i64 0, .int .i64 0, .int .i64 0] 29 0
  have f1 := frozenNew w #[.int .i64 0, .int .i64 0, .int .i64 0, .int .i64 0, .int .i64 0] 29 1
  have f2 := frozenNew w #[.int .i64 0, .int .i64 0, .int .i64 0, .int .i64 0, .int .i64 0] 29 2
  have f3 := frozenNew w #[.int .i64 0, .int .i64 0, .int .i64 0, .int .i64 0, .int .i64 0] 29 3
  have f4 := frozenNew w #[.int .i64 0, .int .i64 0, .int .i64 0, .int .i64 0, .int .i64 0] 29 4
  go_enter Try.func16, Try.ntmps16
  go_upto_region 1 with fail
  generalize hwb : w.alloc _ = wb at *
  have HW : Hid (Below w.heap.size w wb) := by rw [← hwb]; exact Lib.hid ((Below.refl _ _).alloc (Nat.le_refl _) _)
  clear hwb
  go_wp2_with fail
  refine bodyPost_ret (v := drulesV annRules) (by simp [results, Try.results16, go_sem, c0, c1, c2, c3, c4, annRules]) rfl ⟨rfl, ?_⟩
  exact ((((HW.out.setCell (p := ⟨w.heap.size, 0, none⟩) (by simp) _).setCell (p := ⟨w.heap.size, 1, none⟩) (by simp) _).setCell (p := ⟨w.heap.size, 2, none⟩) (by simp) _).setCell (p := ⟨w.heap.size, 3, none⟩) (by simp) _).setCell (p := ⟨w.heap.size, 4, none⟩) (by simp) _
end Go.Proofs.Ytjmaankkbdpikaa
/- Equal lists of records. No condition. -/
namespace Go.Proofs.Ytjmaankkbdpikaa
open Go.RowKit Fs

open Classical in
noncomputable def Fs.sameR (l m : List WRec) : Bool := decide (l = m)
theorem sameR_yes {l m : List WRec} (h : l = m) : sameR l m = true := by unfold sameR; simpa using h
theorem sameR_no {l m : List WRec} (h : ¬ l = m) : sameR l m = false := by unfold sameR; simpa using h
theorem Fs.listW_ext {l m : List WRec} (hn : l.length = m.length) (h : ∀ i, i < l.length → listW l i = listW m i) : l = m := by
  apply List.ext_getElem? 
  intro i
  by_cases hi : i < l.length
  · rw [listW_get hi, listW_get (by omega), h i hi]
  · rw [List.getElem?_eq_none (by omega), List.getElem?_eq_none (by omega)]
theorem Fs.wrec_ext {x y : WRec} (h1 : x.who = y.who) (h2 : x.beg = y.beg) (h3 : x.fin = y.fin) : x = y := by
  cases x; cases y
  dsimp only at h1 h2 h3
  subst h1 h2 h3
  rfl

end Go.Proofs.Ytjmaankkbdpikaa
/- The reference's Groups. Condition: records are in order, of small numbers. -/
namespace Go.Proofs.Ytjmaankkbdpikaa
open Go.RowKit Fs

def pairVals (L : List (Int × Int)) : List Value := L.flatMap fun p => [.int .i64 p.1, .int .i64 p.2]
theorem pairVals_more (L : List (Int × Int)) (a b : Int) : pairVals (L ++ [(a, b)]) = pairVals L ++ [.int .i64 a, .int .i64 b] := by
  unfold pairVals
  rw [List.flatMap_append]
  rfl
theorem pairVals_len (L : List (Int × Int)) : (pairVals L).length = L.length * 2 := by
  induction L with
  | nil => rfl
  | cons x L ih =>
    show (pairVals L).length + 1 + 1 = (L.length + 1) * 2
    rw [ih]
    omega
theorem pairVals_last (M : List (Int × Int)) (a b k : Int) : (pairVals (M ++ [(a, b)])).set (M.length * 2 + 1) (.int .i64 k) = pairVals (M ++ [(a, k)]) := by
  rw [pairVals_more, pairVals_more, List.set_append_right _ _ (by rw [pairVals_len]; omega), pairVals_len, Nat.add_sub_cancel_left]
  rfl
theorem pairVals_get (M : List (Int × Int)) (a b : Int) : (pairVals (M ++ [(a, b)]))[M.length * 2 + 1]? = some (.int .i64 b) := by
  rw [pairVals_more, List.getElem?_append_right (by rw [pairVals_len]; omega), pairVals_len, Nat.add_sub_cancel_left]
  rfl
theorem Fs.groupsTo_pos (l : List WRec) (gap : Int) (k : Nat) : groupsTo l gap (k + 1) ≠ [] := by
  rw [groupsTo]
  split <;> simp
theorem Fs.groupsTo_len (l : List WRec) (gap : Int) : ∀ k, (groupsTo l gap k).length ≤ k
  | 0 => Nat.le_refl _
  | k + 1 => by
    have ih := groupsTo_len l gap k
    rw [groupsTo]
    split
    · rw [List.length_append, List.length_dropLast, List.length_singleton]
      rename_i h
      cases k with
      | zero => exact absurd h (by rw [goesOn_zero]; decide)
      | succ k =>
        have := List.length_pos_iff.2 (groupsTo_pos l gap k)
        omega
    · rw [List.length_append, List.length_singleton]; omega
theorem own_is {w : World} {B : Nat} {e : TypeId} {size n : Nat} {v : Value} {xs : List Value} (h : w.ownsRow B e size v n xs) (hn : 0 < n) : ∃ g c, v = .slice (some ⟨g, 0, none⟩) n c ∧ B ≤ g ∧ n ≤ c ∧ c ≤ maxLen := by
  rcases h.2 with ⟨hv, h0⟩ | ⟨g, cap, cur, hv, hb, hh, h1, h2, -⟩
  · omega
  · exact ⟨g, cap, hv, hb, h1, h2⟩
theorem Try.infoTwo : (Try.prog.info? 134).map (fun i => (i.zero, i.size, i.bytes)) = some (some (.agg #[.int .i64 0, .int .i64 0]), 2, 16) := by kernel_rfl

end Go.Proofs.Ytjmaankkbdpikaa
/- Equal lists of pairs. No condition. -/
namespace Go.Proofs.Ytjmaankkbdpikaa
open Go.RowKit Fs

def Fs.listJ (L : List (Int × Int)) (i : Nat) : Int × Int := L.getD i (0, 0)
theorem Fs.listJ_get {L : List (Int × Int)} {i : Nat} (h : i < L.length) : L[i]? = some (listJ L i) := by
  unfold listJ
  rw [List.getD_eq_getElem?_getD, List.getElem?_eq_getElem h]
  rfl
def pairCellsJ (p : Int × Int) : Nat → Value
  | 0 => .int .i64 p.1
  | _ => .int .i64 p.2
def ArrJ (w : World) (A : Option Addr) (L : List (Int × Int)) (c : Nat) : Prop := Arr w A L.length c 2 fun i j => pairCellsJ (listJ L i) j
theorem ArrJ.keep {w w' : World} (k : Keep w w') {A : Option Addr} {L : List (Int × Int)} {c : Nat} (h : ArrJ w A L c) : ArrJ w' A L c := Arr.keep k h
theorem ArrJ.le {w : World} {A : Option Addr} {L : List (Int × Int)} {c : Nat} (h : ArrJ w A L c) : L.length ≤ c ∧ c ≤ 9223372036854775807 := ⟨h.1, h.2.1⟩
theorem ArrJ.at_ {w : World} {A : Option Addr} {L : List (Int × Int)} {c : Nat} (h : ArrJ w A L c) {k : Nat} (hk : k < L.length) : ∃ b o, A = some ⟨b, o, none⟩ ∧ w.cell? ⟨b, o + k * 2, none⟩ = some (.int .i64 (listJ L k).1) ∧ w.cell? ⟨b, o + k * 2 + 1, none⟩ = some (.int .i64 (listJ L k).2) := by
  obtain ⟨b, o, e, hc⟩ := Arr.at_ h hk
  exact ⟨b, o, e, hc 0 (by omega), hc 1 (by omega)⟩
theorem pairVals_at : ∀ (L : List (Int × Int)) (i : Nat), i < L.length → (pairVals L)[i * 2]? = some (.int .i64 (listJ L i).1) ∧ (pairVals L)[i * 2 + 1]? = some (.int .i64 (listJ L i).2)
  | [], i, h => absurd h (Nat.not_lt_zero _)
  | x :: L, 0, _ => ⟨rfl, rfl⟩
  | x :: L, i + 1, h => by
    have ih := pairVals_at L i (Nat.lt_of_succ_lt_succ h)
    rw [show (i + 1) * 2 = i * 2 + 1 + 1 by omega]
    exact ih
theorem pairVals_flat (L : List (Int × Int)) : pairVals L = flat L.length 2 fun i j => pairCellsJ (listJ L i) j := by
  apply List.ext_getElem?
  intro t
  by_cases h : t < L.length * 2
  · rw [flat_get t h]
    have h1 := pairVals_at L (t / 2) (by omega)
    rcases Nat.mod_two_eq_zero_or_one t with e | e
    · rw [e, show t = t / 2 * 2 by omega, h1.1, show t / 2 * 2 / 2 = t / 2 by omega]; rfl
    · rw [e, show t = t / 2 * 2 + 1 by omega, h1.2, show (t / 2 * 2 + 1) / 2 = t / 2 by omega]; rfl
  · rw [List.getElem?_eq_none (by rw [pairVals_len]; omega), List.getElem?_eq_none (by simp [flat]; omega)]
theorem own_pairs {w : World} {B : Nat} {e : TypeId} {v : Value} {L : List (Int × Int)} (h : w.ownsRow B e 2 v L.length (pairVals L)) : ∃ A c, v = .slice A L.length c ∧ ArrJ w A L c := by
  rw [pairVals_flat] at h
  exact own_row h
open Classical in
noncomputable def Fs.sameJ (l m : List (Int × Int)) : Bool := decide (l = m)
theorem sameJ_yes {l m : List (Int × Int)} (h : l = m) : sameJ l m = true := by unfold sameJ; simpa using h
theorem sameJ_no {l m : List (Int × Int)} (h : ¬ l = m) : sameJ l m = false := by unfold sameJ; simpa using h
theorem Fs.listJ_ext {l m : List (Int × Int)} (hn : l.length = m.length) (h : ∀ i, i < l.length → listJ l i = listJ m i) : l = m := by
  apply List.ext_getElem? 
  intro i
  by_cases hi : i < l.length
  · rw [listJ_get hi, listJ_get (by omega), h i hi]
  · rw [List.getElem?_eq_none (by omega), List.getElem?_eq_none (by omega)]

theorem eqTwo (a b c d : Int) (w : World) : (Op.equalIn 10000 134 (.agg #[.int .i64 a, .int .i64 b]) (.agg #[.int .i64 c, .int .i64 d])).run Try.prog w = .ok (a == c && b == d) w := by
  obtain ⟨i0, hi, hz0, hz1, hz2⟩ := info_parts Try.infoInt
  have hc : Try.prog.cellsOf 3 = 1 := by kernel_rfl
  rw [show (10000 : Nat) = 9999 + 1 from rfl, run_equalIn_array _ 9999 _ _ Try.underlying134 hi, hc]
  show (Op.eqItems 9999 3 1 _ _ [0, 1]).run _ _ = _
  have h0 : ∀ w : World, (part 3 #[.int .i64 a, .int .i64 b] 0).run Try.prog w = .ok (.int .i64 a) w := fun _ => by kernel_rfl
  have h1 : ∀ w : World, (part 3 #[.int .i64 a, .int .i64 b] 1).run Try.prog w = .ok (.int .i64 b) w := fun _ => by kernel_rfl
  have h2 : ∀ w : World, (part 3 #[.int .i64 c, .int .i64 d] 0).run Try.prog w = .ok (.int .i64 c) w := fun _ => by kernel_rfl
  have h3 : ∀ w : World, (part 3 #[.int .i64 c, .int .i64 d] 1).run Try.prog w = .ok (.int .i64 d) w := fun _ => by kernel_rfl
  have e1 : ∀ (x y : Int) (w : World), (Op.equalIn 9999 3 (.int .i64 x) (.int .i64 y)).run Try.prog w = .ok (x == y) w := fun x y w => run_equalIn_int (P := Try.prog) w 9998 3 .i64 .i64 x y Try.underlying3
  simp only [Op.eqItems, Sem.run_bind, Nat.zero_mul, Nat.one_mul, h0, h2, e1, Result.andThen_ok]
  cases a == c with
  | false => simp
  | true =>
    simp only [Bool.not_true, Bool.false_eq_true, if_false, Sem.run_bind, h1, h3, e1, Result.andThen_ok, Bool.true_and]
    cases b == d <;> simp
theorem guardTwo : Try.prog.eqGuardType Try.prog.depth 134 = false := by kernel_rfl
end Go.Proofs.Ytjmaankkbdpikaa
/- The chapter's example, plainly. No condition. -/
namespace Go.Proofs.Ytjmaankkbdpikaa.Fs

theorem ann_rules : drulesErr annRules = 0 := by decide
theorem ann_recs : recsErr true annList = 0 := by decide +kernel
theorem ann_both : bothErr annRules annList = 0 := by decide +kernel
theorem ann_right : Right annList := recs_right ann_recs
theorem ann_stints : groups annList 900 = [(0, 1), (2, 2)] := by decide +kernel
theorem ann_work : workTo annList 9000 11000 3 = 1500 := by decide +kernel
def annTrip : DTrip := ⟨20000, 5000, 13000, -1⟩
theorem ann_trip : dtripErr annRules annList annTrip = 0 := by decide +kernel
theorem ann_allowed : allowed annRules annList annTrip = (1, 1) := by decide +kernel
theorem ann_bare : dtripErr annRules annList (bare 20000) = 0 := by decide +kernel
theorem ann_longest : Longest annRules annList (bare 20000) 12200 := by
  refine ⟨by decide, by decide, by decide +kernel, fun m h1 h2 hm => ?_⟩
  have h3 : breaks annRules annList (bare 20000) 12201 = 0 := breaks_mono ann_right (dtrip_ok ann_bare).1 (by omega) (by omega) hm
  exact absurd h3 (by decide +kernel)
end Go.Proofs.Ytjmaankkbdpikaa.Fs

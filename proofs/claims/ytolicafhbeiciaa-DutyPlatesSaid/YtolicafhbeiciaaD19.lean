/- Uses of plates: the reference's At and Most, copies; the law's licences and uses. Condition of At and Most: the uses' numbers are small. -/
import Derived.Test.YtolicafhbeiciaaD17
namespace Go.Proofs.Ytolicafhbeiciaa
open Go.RowKit Fs

def Fs.FewLicsP (l : List WRec) : Prop := l.length ≤ 22 ∧ ∀ j, j < l.length → (listW l j).who.size ≤ 20
open Classical in
noncomputable def Fs.fewLics (l : List WRec) : Bool := decide (FewLicsP l)
theorem fewLics_yes {l : List WRec} (h : FewLicsP l) : fewLics l = true := by unfold fewLics; simpa using h
theorem fewLics_no {l : List WRec} (h : ¬ FewLicsP l) : fewLics l = false := by unfold fewLics; simpa using h
theorem fewLics_is {l : List WRec} (h : fewLics l = true) : FewLicsP l := by unfold fewLics at h; simpa using h
set_option linter.unusedSimpArgs false in
set_option maxHeartbeats 3200000 in
set_option maxRecDepth 100000 in
theorem lawLicences_any (l : List WRec) (A : Option Addr) (c : Nat) (w : World) (h : ArrW w A l c) :
    Calls Try.prog 43 #[.slice A l.length c] w fun e w' => e = .returned (.bool (fewLics l)) ∧ w = w' := by
  have b1 := h.le.1
  have b2 := h.le.2
  have HA := Lib.hid h
  clear h
  go_enter Try.func43, Try.ntmps43
  by_cases h0 : 22 < l.length
  · have F := Lib.hid (fewLics_no (l := l) fun hh => by have := hh.1; omega)
    have d1 : decide ((l.length : Int) > 22) = true := decide_eq_true (by omega)
    have d2 : decide (22 < (l.length : Int)) = true := decide_eq_true (by omega)
    clear h0
    go_wp2_with fail
    go_ret
    exact ⟨ret_bool F.out.symm, rfl⟩
  · have HN := Lib.hid (show l.length ≤ 22 by omega)
    have d1 : decide ((l.length : Int) > 22) = false := decide_eq_false (by omega)
    have d2 : decide (22 < (l.length : Int)) = false := decide_eq_false (by omega)
    clear h0
    go_wp2_with fail
    go_loop [3] (fun i => ∃ k : Nat, k ≤ l.length ∧ i = .int .i64 k ∧ Hid (∀ j, j < k → (listW l j).who.size ≤ 20)) (fun i => l.length - (intOf i).toNat)
    case atStart => exact ⟨0, Nat.zero_le _, rfl, Lib.hid fun j hj => absurd hj (Nat.not_lt_zero _)⟩
    case round =>
      obtain ⟨k, hk, rfl, Hn⟩ := hrel
      by_cases hlt : k < l.length
      · have hkn : (k : Int) < (l.length : Int) := by omega
        obtain ⟨b, o, rfl, q⟩ := HA.out.at_ hlt
        obtain ⟨q0, q1, q2⟩ := q
        by_cases hx : (listW l k).who.size ≤ 20
        · have e1 : decide (((listW l k).who.size : Int) > 20) = false := decide_eq_false (by omega)
          have e2 : decide (20 < (listW l k).who.size) = false := decide_eq_false (by omega)
          have F : Hid (∀ j, j < k + 1 → (listW l j).who.size ≤ 20) := Lib.hid fun j hj => by
            by_cases e : j = k
            · subst e; exact hx
            · exact Hn.out j (by omega)
          go_wp2_with fail
          go_round
          case rel => exact ⟨k + 1, by omega, by go_num, F⟩
          case measure => simp [intOf]; omega
        · have e1 : decide (((listW l k).who.size : Int) > 20) = true := decide_eq_true (by omega)
          have e2 : decide (20 < (listW l k).who.size) = true := decide_eq_true (by omega)
          have F := Lib.hid (fewLics_no (l := l) fun hh => hx (hh.2 k hlt))
          clear hx
          go_wp2_with fail
          go_ret
          exact ⟨ret_bool F.out.symm, rfl⟩
      · have F := Lib.hid (fewLics_yes (l := l) ⟨HN.out, fun j hj => Hn.out j (by omega)⟩)
        go_wp2_with fail
        go_ret
        exact ⟨ret_bool F.out.symm, rfl⟩
def Fs.FewUsesP (l : List WRec) : Prop := l.length ≤ 16 ∧ ∀ j, j < l.length → (listW l j).who.size ≤ 20
open Classical in
noncomputable def Fs.fewUses (l : List WRec) : Bool := decide (FewUsesP l)
theorem fewUses_yes {l : List WRec} (h : FewUsesP l) : fewUses l = true := by unfold fewUses; simpa using h
theorem fewUses_no {l : List WRec} (h : ¬ FewUsesP l) : fewUses l = false := by unfold fewUses; simpa using h
theorem fewUses_is {l : List WRec} (h : fewUses l = true) : FewUsesP l := by unfold fewUses at h; simpa using h
set_option linter.unusedSimpArgs false in
set_option maxHeartbeats 3200000 in
set_option maxRecDepth 100000 in
theorem lawUses_any (l : List WRec) (A : Option Addr) (c : Nat) (w : World) (h : ArrW w A l c) :
    Calls Try.prog 63 #[.slice A l.length c] w fun e w' => e = .returned (.bool (fewUses l)) ∧ w = w' := by
  have b1 := h.le.1
  have b2 := h.le.2
  have HA := Lib.hid h
  clear h
  go_enter Try.func63, Try.ntmps63
  by_cases h0 : 16 < l.length
  · have F := Lib.hid (fewUses_no (l := l) fun hh => by have := hh.1; omega)
    have d1 : decide ((l.length : Int) > 16) = true := decide_eq_true (by omega)
    have d2 : decide (16 < (l.length : Int)) = true := decide_eq_true (by omega)
    clear h0
    go_wp2_with fail
    go_ret
    exact ⟨ret_bool F.out.symm, rfl⟩
  · have HN := Lib.hid (show l.length ≤ 16 by omega)
    have d1 : decide ((l.length : Int) > 16) = false := decide_eq_false (by omega)
    have d2 : decide (16 < (l.length : Int)) = false := decide_eq_false (by omega)
    clear h0
    go_wp2_with fail
    go_loop [3] (fun i => ∃ k : Nat, k ≤ l.length ∧ i = .int .i64 k ∧ Hid (∀ j, j < k → (listW l j).who.size ≤ 20)) (fun i => l.length - (intOf i).toNat)
    case atStart => exact ⟨0, Nat.zero_le _, rfl, Lib.hid fun j hj => absurd hj (Nat.not_lt_zero _)⟩
    case round =>
      obtain ⟨k, hk, rfl, Hn⟩ := hrel
      by_cases hlt : k < l.length
      · have hkn : (k : Int) < (l.length : Int) := by omega
        obtain ⟨b, o, rfl, q⟩ := HA.out.at_ hlt
        obtain ⟨q0, q1, q2⟩ := q
        by_cases hx : (listW l k).who.size ≤ 20
        · have e1 : decide (((listW l k).who.size : Int) > 20) = false := decide_eq_false (by omega)
          have e2 : decide (20 < (listW l k).who.size) = false := decide_eq_false (by omega)
          have F : Hid (∀ j, j < k + 1 → (listW l j).who.size ≤ 20) := Lib.hid fun j hj => by
            by_cases e : j = k
            · subst e; exact hx
            · exact Hn.out j (by omega)
          go_wp2_with fail
          go_round
          case rel => exact ⟨k + 1, by omega, by go_num, F⟩
          case measure => simp [intOf]; omega
        · have e1 : decide (((listW l k).who.size : Int) > 20) = true := decide_eq_true (by omega)
          have e2 : decide (20 < (listW l k).who.size) = true := decide_eq_true (by omega)
          have F := Lib.hid (fewUses_no (l := l) fun hh => hx (hh.2 k hlt))
          clear hx
          go_wp2_with fail
          go_ret
          exact ⟨ret_bool F.out.symm, rfl⟩
      · have F := Lib.hid (fewUses_yes (l := l) ⟨HN.out, fun j hj => Hn.out j (by omega)⟩)
        go_wp2_with fail
        go_ret
        exact ⟨ret_bool F.out.symm, rfl⟩

def Fs.SmallU (l : List WRec) : Prop := l.length ≤ 100 ∧ ∀ i, i < l.length → 0 ≤ (listW l i).beg ∧ (listW l i).beg < (listW l i).fin ∧ (listW l i).fin ≤ 8640000000
def Fs.atTo (l : List WRec) (t : Int) : Nat → Int
  | 0 => 0
  | k + 1 => if within t (listW l k).beg ((listW l k).fin - 1) = true then atTo l t k + 1 else atTo l t k
def Fs.mostTo (l : List WRec) : Nat → Int
  | 0 => 0
  | k + 1 => max (mostTo l k) (atTo l (listW l k).beg l.length)
theorem Fs.atTo_is (l : List WRec) (t : Int) : ∀ k, 0 ≤ atTo l t k ∧ atTo l t k ≤ k
  | 0 => ⟨Int.le_refl _, Int.le_refl _⟩
  | k + 1 => by
    have ih := atTo_is l t k
    rw [atTo]
    split <;> omega
set_option linter.unusedSimpArgs false in
set_option maxHeartbeats 3200000 in
set_option maxRecDepth 100000 in
theorem rAt_any (l : List WRec) (t : Int) (A : Option Addr) (c : Nat) (w : World) (h : ArrW w A l c) (hS : SmallU l) :
    Calls Try.prog 127 #[.slice A l.length c, .int .i64 t] w fun e w' => e = .returned (.int .i64 (atTo l t l.length)) ∧ Below w.heap.size w w' := by
  have b1 := h.le.1
  have b2 := h.le.2
  have hl := hS.1
  have HS := Lib.hid hS.2
  have HA := Lib.hid h
  clear h hS
  go_enter Try.func127, Try.ntmps127
  go_wp2_with fail
  go_loopw [5, 6] (fun u i wr => ∃ k : Nat, k ≤ l.length ∧ u = .int .i64 (atTo l t k) ∧ i = .int .i64 k ∧ Hid (Below w.heap.size w wr)) (fun _ i _ => l.length - (intOf i).toNat)
  case atStart => exact ⟨0, Nat.zero_le _, rfl, rfl, Lib.hid (Below.refl _ _)⟩
  case round =>
    obtain ⟨k, hk, rfl, rfl, HB⟩ := hrel
    by_cases hlt : k < l.length
    · have hkn : (k : Int) < (l.length : Int) := by omega
      obtain ⟨b, o, rfl, q⟩ := (HA.out.keep (Keep.below HB.out)).at_ hlt
      obtain ⟨q0, q1, q2⟩ := q
      have x1 := HS.out k hlt
      have x2 := atTo_is l t k
      have hw1 : IntKind.i64.wrap ((listW l k).fin - 1) = (listW l k).fin - 1 := by rw [IntKind.wrap_i64]; omega
      have hw2 : IntKind.i64.wrap (atTo l t k + 1) = atTo l t k + 1 := by rw [IntKind.wrap_i64]; omega
      cases hw : within t (listW l k).beg ((listW l k).fin - 1) with
      | true =>
        have G := Lib.hid (show atTo l t (k + 1) = atTo l t k + 1 from if_pos hw)
        go_wp2_with fail
        go_quiet ((go_at_call 34; exact Calls.quiet_of_same ((bwithin_any _ _ _ _).mono fun _ _ h => ⟨h.1.trans (congrArg (fun b => Ending.returned (.bool b)) hw), h.2.symm⟩)))
        go_wp2_with fail
        go_roundw
        case rel => exact ⟨k + 1, by omega, by rw [G.out], by go_num, Lib.hid (bdrewN HB.out _)⟩
        case measure => simp [intOf]; omega
      | false =>
        have G := Lib.hid (show atTo l t (k + 1) = atTo l t k from if_neg (by rw [hw]; decide))
        go_wp2_with fail
        go_quiet ((go_at_call 34; exact Calls.quiet_of_same ((bwithin_any _ _ _ _).mono fun _ _ h => ⟨h.1.trans (congrArg (fun b => Ending.returned (.bool b)) hw), h.2.symm⟩)))
        go_wp2_with fail
        go_roundw
        case rel => exact ⟨k + 1, by omega, by rw [G.out], by go_num, Lib.hid (bdrewN HB.out _)⟩
        case measure => simp [intOf]; omega
    · obtain rfl : k = l.length := by omega
      go_wp2_with fail
      go_ret
      exact ⟨rfl, HB.out⟩
set_option linter.unusedSimpArgs false in
set_option maxHeartbeats 3200000 in
set_option maxRecDepth 100000 in
theorem rMost_any (l : List WRec) (A : Option Addr) (c : Nat) (w : World) (h : ArrW w A l c) (hS : SmallU l) :
    Calls Try.prog 70 #[.slice A l.length c] w fun e w' => e = .returned (.int .i64 (mostTo l l.length)) ∧ Below w.heap.size w w' := by
  have b1 := h.le.1
  have b2 := h.le.2
  have HS := Lib.hid hS
  have HA := Lib.hid h
  clear h hS
  go_enter Try.func70, Try.ntmps70
  go_wp2_with fail
  go_loopw [3, 4] (fun u i wr => ∃ k : Nat, k ≤ l.length ∧ u = .int .i64 (mostTo l k) ∧ i = .int .i64 k ∧ Hid (Below w.heap.size w wr)) (fun _ i _ => l.length - (intOf i).toNat)
  case atStart => exact ⟨0, Nat.zero_le _, rfl, rfl, Lib.hid (Below.refl _ _)⟩
  case round =>
    obtain ⟨k, hk, rfl, rfl, HB⟩ := hrel
    by_cases hlt : k < l.length
    · have hkn : (k : Int) < (l.length : Int) := by omega
      have HA' := Lib.hid (HA.out.keep (Keep.below HB.out))
      obtain ⟨b, o, rfl, q⟩ := HA'.out.at_ hlt
      obtain ⟨q0, q1, q2⟩ := q
      have G := Lib.hid (show mostTo l (k + 1) = max (mostTo l k) (atTo l (listW l k).beg l.length) from rfl)
      go_wp2_with fail
      refine (rAt_any l (listW l k).beg _ c _ HA'.out HS.out).mono ?_
      rintro e' w1 ⟨rfl, hb1⟩
      have HB1 := Lib.hid (HB.out.trans (hb1.mono HB.out.size))
      clear hb1 q0 q1 q2 HA'
      go_wp2_with fail
      go_roundw
      case rel => exact ⟨k + 1, by omega, by rw [G.out], by go_num, HB1⟩
      case measure => simp [intOf]; omega
    · obtain rfl : k = l.length := by omega
      go_wp2_with fail
      go_ret
      exact ⟨rfl, HB.out⟩
theorem Try.infoDUse : (Try.prog.info? 113).map (fun i => (i.zero, i.size, i.bytes)) = some (some (.agg #[.string ⟨#[]⟩, .int .i64 0, .int .i64 0]), 3, 32) := by kernel_rfl
set_option maxHeartbeats 400000 in
theorem rCopyUses_any (l : List WRec) (A : Option Addr) (c : Nat) (w : World) (h : ArrW w A l c) (hn : l.length ≤ 1000000) :
    Calls Try.prog 65 #[.slice A l.length c] w fun e w' => (∃ A' c', e = .returned (.slice A' l.length c') ∧ ArrW w' A' l c') ∧ Below w.heap.size w w' := by
  obtain ⟨i0, hi, hz0, hz1, hz2⟩ := info_parts Try.infoDUse
  go_enter Try.func65, Try.ntmps65
  go_wp2_with (at_builtin
               refine wpList_copy rfl (.tmp 3) (.tmp 4) 101 rfl 113 i0 (.agg #[.string ⟨#[]⟩, .int .i64 0, .int .i64 0]) 3 32 Try.underlying101 hi hz0 hz1 hz2 rfl (by decide) w.heap.size w.heap.size rfl (Nat.le_refl _) (heap_alloc_new _ _) A l.length c _ rfl (Arr.keep (Keep.alloc w _) h) (by intro i j; unfold recCells; split <;> rfl) (by unfold maxLen; omega) (by omega) ?_
               intro A1 c1 w1 ha hb)
  go_ret
  exact ⟨⟨A1, c1, rfl, own_arrN ha⟩, ((Below.refl _ _).alloc (Nat.le_refl _) _).trans hb⟩
end Go.Proofs.Ytolicafhbeiciaa
/- The reference's Handed: the drivers of a car. No condition but a length. -/
namespace Go.Proofs.Ytolicafhbeiciaa
open Go.RowKit Fs

def Fs.newDriver (l : List WRec) (k : Nat) : Prop := k = 0 ∨ (listW l k).who ≠ (listW l (k - 1)).who
open Classical in
noncomputable def Fs.handedTo (l : List WRec) : Nat → List ByteArray
  | 0 => []
  | k + 1 => if newDriver l k then handedTo l k ++ [(listW l k).who] else handedTo l k
theorem Fs.handedTo_len (l : List WRec) : ∀ k, (handedTo l k).length ≤ k
  | 0 => Nat.le_refl _
  | k + 1 => by
    have ih := handedTo_len l k
    rw [handedTo]
    split
    · rw [List.length_append, List.length_singleton]; omega
    · omega
set_option linter.unusedSimpArgs false in
set_option maxHeartbeats 6400000 in
set_option maxRecDepth 100000 in
theorem rHanded_any (l : List WRec) (A : Option Addr) (c : Nat) (w : World) (h : ArrW w A l c) (hn : l.length ≤ 1000) :
    Calls Try.prog 62 #[.slice A l.length c] w fun e w' => (∃ v, e = .returned v ∧ w'.ownsRow w.heap.size 9 1 v (handedTo l l.length).length (strVals (handedTo l l.length))) ∧ Below w.heap.size w w' := by
  obtain ⟨i0, hi, hz0, hz1, hz2⟩ := info_parts Try.infoText
  have b1 := h.le.1
  have b2 := h.le.2
  have HA := Lib.hid h
  clear h
  go_enter Try.func62, Try.ntmps62
  go_upto_region 2 with fail
  go_wp2_with fail
  go_loopw [3, 4] (fun v i wr => ∃ (k : Nat), k ≤ l.length ∧ i = .int .i64 k ∧ Hid (wr.ownsRow w.heap.size 9 1 v (handedTo l k).length (strVals (handedTo l k))) ∧ Hid (Below w.heap.size w wr)) (fun _ i _ => l.length - (intOf i).toNat)
  case atStart => exact ⟨0, Nat.zero_le _, rfl, Lib.hid (World.ownsRow_nil _ _ _ _), Lib.hid (Below.refl _ _)⟩
  case round =>
    obtain ⟨k, hk, rfl, HO, HB⟩ := hrel
    have hgl := handedTo_len l k
    by_cases hlt : k < l.length
    · have hkn : (k : Int) < (l.length : Int) := by omega
      have HD := Lib.hid (fun n => below_of_own HO.out (bdrewN (Below.refl _ _) n))
      by_cases h0 : k = 0
      · have d3 : ((k : Int) == 0) = true := by simp; omega
        have HG := Lib.hid (show handedTo l (k + 1) = handedTo l k ++ [(listW l k).who] by rw [handedTo, if_pos (show newDriver l k from Or.inl h0)])
        obtain ⟨b, o, rfl, q⟩ := (HA.out.keep (Keep.below HB.out)).at_ hlt
        obtain ⟨q0, q1, q2⟩ := q
        have HK0 := Lib.hid h0
        have d4 : decide (k = 0) = true := decide_eq_true h0
        clear h0
        go_wp2_with fail
        go_quiet (fail)
        go_wp2_with (at_builtin
                     refine wpList_append_own _ rfl (.tmp 27) (.tmp 33) 85 rfl w.heap.size 9 i0 _ 1 16 Try.underlying85 hi hz0 hz1 hz2 rfl (by decide) _ _ _ rfl ((HD.out _).alloc _) ⟨_, 0, none⟩ 1 1 [.string (listW l k).who] rfl rfl ?c1 ?c2 ?c3 ?c4 ?c5 ?_)
        case c1 => exact news0 _ _ _
        case c2 => exact oneStr _
        case c3 => unfold maxLen; omega
        case c4 => omega
        case c5 => have := HB.out.size; simp; omega
        intro v9 w9 ho9 hg9 _
        go_wp2_with fail
        go_roundw
        case rel =>
          refine ⟨k + 1, by omega, by go_num, Lib.hid ?_, Lib.hid ?_⟩
          · rw [HG.out, strVals_snoc, List.length_append]
            exact ho9
          · exact ((bdrewN HB.out _).alloc (bdrewN HB.out _).size _).grown hg9 (by have := HB.out.size; simp; omega) (fun j hj => ((HD.out 0).lt j hj).1)
        case measure => simp [intOf]; omega
      · have d3 : ((k : Int) == 0) = false := by simp; omega
        have d4 : decide (k = 0) = false := decide_eq_false h0
        obtain ⟨j, hj⟩ : ∃ j, j = k - 1 := ⟨_, rfl⟩
        have hkp : (k : Int) - 1 = (j : Int) := by omega
        have hk1 : (j : Int) < (l.length : Int) := by omega
        obtain ⟨b, o, rfl, r, q⟩ := (HA.out.keep (Keep.below HB.out)).two (i := j) (by omega) hlt
        obtain ⟨q0, q1, q2⟩ := q
        obtain ⟨r0, r1, r2⟩ := r
        by_cases hw : (listW l k).who = (listW l j).who
        · have e1 := str_eq hw
          have e2 : ((listW l k).who.toList != (listW l j).who.toList) = false := by rw [bne, e1]; rfl
          have HG := Lib.hid (show handedTo l (k + 1) = handedTo l k by rw [handedTo, if_neg (show ¬ newDriver l k from fun hh => hh.elim h0 (fun h => h (by rw [← hj]; exact hw)))])
          clear hw hj
          go_wp2_with fail
          go_quiet (fail)
          go_wp2_with fail
          go_roundw
          case rel => exact ⟨k + 1, by omega, by go_num, Lib.hid (by rw [HG.out]; exact HD.out _), Lib.hid (bdrewN HB.out _)⟩
          case measure => simp [intOf]; omega
        · have e1 := str_ne hw
          have e2 : ((listW l k).who.toList != (listW l j).who.toList) = true := by rw [bne, e1]; rfl
          have HG := Lib.hid (show handedTo l (k + 1) = handedTo l k ++ [(listW l k).who] by rw [handedTo, if_pos (show newDriver l k from Or.inr (by rw [← hj]; exact hw))])
          clear hw hj
          go_wp2_with fail
          go_quiet (fail)
          go_wp2_with (at_builtin
                       refine wpList_append_own _ rfl (.tmp 27) (.tmp 33) 85 rfl w.heap.size 9 i0 _ 1 16 Try.underlying85 hi hz0 hz1 hz2 rfl (by decide) _ _ _ rfl ((HD.out _).alloc _) ⟨_, 0, none⟩ 1 1 [.string (listW l k).who] rfl rfl ?c1 ?c2 ?c3 ?c4 ?c5 ?_)
          case c1 => exact news0 _ _ _
          case c2 => exact oneStr _
          case c3 => unfold maxLen; omega
          case c4 => omega
          case c5 => have := HB.out.size; simp; omega
          intro v9 w9 ho9 hg9 _
          go_wp2_with fail
          go_roundw
          case rel =>
            refine ⟨k + 1, by omega, by go_num, Lib.hid ?_, Lib.hid ?_⟩
            · rw [HG.out, strVals_snoc, List.length_append]
              exact ho9
            · exact ((bdrewN HB.out _).alloc (bdrewN HB.out _).size _).grown hg9 (by have := HB.out.size; simp; omega) (fun j hj => ((HD.out 0).lt j hj).1)
          case measure => simp [intOf]; omega
    · obtain rfl : k = l.length := by omega
      go_wp2_with fail
      go_ret
      exact ⟨⟨_, rfl, HO.out⟩, HB.out⟩
end Go.Proofs.Ytolicafhbeiciaa
/- The reference's CheckPlates. Condition: the uses' numbers are small. -/
namespace Go.Proofs.Ytolicafhbeiciaa
open Go.RowKit Fs

def Fs.plateBad (P : List Int) (i : Nat) : Int := if within (listI P i) 0 13 = true then 0 else 2
def Fs.countTo (P : List Int) : Nat → Int
  | 0 => 0
  | k + 1 => max (countTo P k) (listI P k + 1)
def Fs.plateClash (l : List WRec) (P : List Int) (i k : Nat) : Prop := overlapB (listW l i) (listW l k) = true ∧ listI P i = listI P k
open Classical in
noncomputable def Fs.checkPlates (l : List WRec) (P : List Int) (at_ : Int) : Int × Int :=
  if P.length ≠ l.length then (0, 10) else if fst (plateBad P) l.length ≠ 0 then (0, 2) else if isClock at_ = false then (0, 2)
  else if ∃ i, i < l.length ∧ ∃ k, k < i ∧ plateClash l P i k then (0, 13)
  else if atTo l at_ l.length ≠ countTo P l.length then (0, 20) else (countTo P l.length, 0)
theorem plate_bad {l : List WRec} {P : List Int} {at_ : Int} (h : P.length = l.length) (h1 : fst (plateBad P) l.length = 2) : checkPlates l P at_ = (0, 2) := by
  unfold checkPlates
  rw [if_neg (fun hh => hh h), if_pos (by rw [h1]; decide)]
theorem plate_time {l : List WRec} {P : List Int} {at_ : Int} (h : P.length = l.length) (h1 : fst (plateBad P) l.length = 0) (h2 : isClock at_ = false) : checkPlates l P at_ = (0, 2) := by
  unfold checkPlates
  rw [if_neg (fun hh => hh h), if_neg (fun hh => hh h1), if_pos h2]
theorem plate_clash {l : List WRec} {P : List Int} {at_ : Int} (h : P.length = l.length) (h1 : fst (plateBad P) l.length = 0) (h2 : isClock at_ = true) (h3 : ∃ i, i < l.length ∧ ∃ k, k < i ∧ plateClash l P i k) : checkPlates l P at_ = (0, 13) := by
  unfold checkPlates
  rw [if_neg (fun hh => hh h), if_neg (fun hh => hh h1), if_neg (by rw [h2]; decide), if_pos h3]
theorem plate_fine {l : List WRec} {P : List Int} {at_ : Int} (h : P.length = l.length) (h1 : fst (plateBad P) l.length = 0) (h2 : isClock at_ = true) (h3 : ¬ ∃ i, i < l.length ∧ ∃ k, k < i ∧ plateClash l P i k) :
    checkPlates l P at_ = if atTo l at_ l.length ≠ countTo P l.length then (0, 20) else (countTo P l.length, 0) := by
  unfold checkPlates
  rw [if_neg (fun hh => hh h), if_neg (fun hh => hh h1), if_neg (by rw [h2]; decide), if_neg h3]
/-- The cells of plates in the block g. -/
structure PlatesIn (w : World) (g : Nat) (A : Option Addr) (n c : Nat) (x : Int) : Prop where
  c0 : w.cell? ⟨g, 0, none⟩ = some (.slice A n c)
  c1 : w.cell? ⟨g, 1, none⟩ = some (.int .i64 x)
theorem PlatesIn.keep {w w' : World} (k : Keep w w') {g n c : Nat} {A : Option Addr} {x : Int} (m : PlatesIn w g A n c x) : PlatesIn w' g A n c x := ⟨k _ _ m.c0, k _ _ m.c1⟩
set_option linter.unusedSimpArgs false in
set_option maxHeartbeats 12800000 in
set_option maxRecDepth 100000 in
theorem rCheckPlates_any (l : List WRec) (P : List Int) (at_ : Int) (A B : Option Addr) (c cp : Nat) (w : World) (h : ArrW w A l c) (hP : ArrI w B P cp) (hS : SmallU l) :
    Calls Try.prog 69 #[.slice A l.length c, .agg #[.slice B P.length cp, .int .i64 at_]] w fun e w' => e = .returned (.tuple #[.int .i64 (checkPlates l P at_).1, .int .i64 (checkPlates l P at_).2]) ∧ Below w.heap.size w w' := by
  have b1 := h.le.1
  have b2 := h.le.2
  have b3 := hP.le.1
  have b4 := hP.le.2
  have hl := hS.1
  have HS := Lib.hid hS
  have HA := Lib.hid h
  have HP := Lib.hid hP
  clear h hP hS
  have BP := Lib.hid (show PlatesIn (w.alloc (.cells #[.slice B P.length cp, .int .i64 at_] 103)) w.heap.size B P.length cp at_ from ⟨cellNew _ _ _ 0, cellNew _ _ _ 1⟩)
  go_enter Try.func69, Try.ntmps69
  go_upto_region 1 with fail
  generalize hwb : w.alloc _ = wb at *
  have HW : Hid (Below w.heap.size w wb) := by rw [← hwb]; exact Lib.hid ((Below.refl _ _).alloc (Nat.le_refl _) _)
  clear hwb
  obtain ⟨p0, p1⟩ := BP.out
  by_cases hn : P.length = l.length
  · have HN := Lib.hid hn
    have d1 : ((P.length : Int) == (l.length : Int)) = true := by simp; omega
    have d2 : ((P.length : Int) != (l.length : Int)) = false := by simp; omega
    clear hn
    go_wp2_with fail
    go_loopw [6, 7] (fun u i wr => ∃ k : Nat, k ≤ l.length ∧ u = .int .i64 (countTo P k) ∧ i = .int .i64 k ∧ Hid (∀ j, j < k → plateBad P j = 0) ∧ Hid (Below wb.heap.size wb wr)) (fun _ i _ => l.length - (intOf i).toNat)
    case atStart => exact ⟨0, Nat.zero_le _, rfl, rfl, Lib.hid fun j hj => absurd hj (Nat.not_lt_zero _), Lib.hid (Below.refl _ _)⟩
    case round =>
      obtain ⟨k, hk, rfl, rfl, Hn, HB⟩ := hrel
      by_cases hlt : k < l.length
      · have hkn : (k : Int) < (l.length : Int) := by omega
        have hkp : (k : Int) < (P.length : Int) := by have := HN.out; omega
        clear p0 p1
        obtain ⟨p0, p1⟩ := BP.out.keep (Keep.below HB.out)
        obtain ⟨b, o, rfl, q0⟩ := (HP.out.keep (Keep.below (HW.out.trans (HB.out.mono HW.out.size)))).at_ (k := k) (by have := HN.out; omega)
        cases n1 : within (listI P k) 0 13 with
        | false =>
          have hbad : plateBad P k = 2 := by unfold plateBad; rw [if_neg (by rw [n1]; decide)]
          have F := Lib.hid (plate_bad (l := l) (at_ := at_) HN.out (show fst (plateBad P) l.length = 2 from ((fst_hit hlt Hn.out (by rw [hbad]; decide)).1.trans hbad)))
          clear hbad
          go_wp2_with (go_at_call 34
                       refine (bwithin_any _ _ _ _).mono ?_
                       rintro e w' ⟨rfl, rfl⟩
                       rw [n1])
          go_ret2
          exact ⟨by rw [F.out]; rfl, HW.out.trans (HB.out.mono HW.out.size)⟩
        | true =>
          have hx := Fs.within_iff.1 n1
          have hw1 : IntKind.i64.wrap (listI P k + 1) = listI P k + 1 := by rw [IntKind.wrap_i64]; omega
          have F : Hid (plateBad P k = 0) := Lib.hid (by unfold plateBad; rw [if_pos n1])
          have G := Lib.hid (show countTo P (k + 1) = max (countTo P k) (listI P k + 1) from rfl)
          go_wp2_with (go_at_call 34
                       refine (bwithin_any _ _ _ _).mono ?_
                       rintro e w' ⟨rfl, rfl⟩
                       rw [n1])
          go_roundw
          case rel =>
            exact ⟨k + 1, by omega, by rw [G.out], by go_num, Lib.hid fun j hj => by
              by_cases e : j = k
              · subst e; exact F.out
              · exact Hn.out j (by omega), HB⟩
          case measure => simp [intOf]; omega
      · have HN0 := Lib.hid (show fst (plateBad P) l.length = 0 from fst_none fun j hj => Hn.out j (by omega))
        obtain rfl : k = l.length := by omega
        clear Hn hlt hk p0 p1
        obtain ⟨p0, p1⟩ := BP.out.keep (Keep.below HB.out)
        cases n1 : isClock at_ with
        | false =>
          have F := Lib.hid (plate_time HN.out HN0.out n1)
          go_wp2_with (go_at_call 27
                       refine (rIsTime_any _ _).mono ?_
                       rintro e w' ⟨rfl, rfl⟩
                       rw [n1])
          go_ret2
          exact ⟨by rw [F.out]; rfl, HW.out.trans (HB.out.mono HW.out.size)⟩
        | true =>
          have HA0 := Lib.hid n1
          go_wp2_with (go_at_call 27
                       refine (rIsTime_any _ _).mono ?_
                       rintro e w' ⟨rfl, rfl⟩
                       rw [n1])
          go_loopw [8] (fun i wr => ∃ k : Nat, k ≤ l.length ∧ i = .int .i64 k ∧ Hid (∀ j, j < k → ∀ i, i < j → ¬ plateClash l P j i) ∧ Hid (Below wb.heap.size wb wr)) (fun i _ => l.length - (intOf i).toNat)
          case atStart => exact ⟨0, Nat.zero_le _, rfl, Lib.hid fun j hj => absurd hj (Nat.not_lt_zero _), HB⟩
          case round =>
            clear HB p0 p1
            obtain ⟨k, hk, rfl, Hn, HB⟩ := hrel
            by_cases hlt : k < l.length
            · have hkn : (k : Int) < (l.length : Int) := by omega
              go_wp2_with fail
              go_loopw [9] (fun i wr => ∃ j : Nat, j ≤ k ∧ i = .int .i64 j ∧ Hid (∀ i, i < j → ¬ plateClash l P k i) ∧ Hid (Below wb.heap.size wb wr)) (fun i _ => k - (intOf i).toNat)
              case atStart => exact ⟨0, Nat.zero_le _, rfl, Lib.hid fun j hj => absurd hj (Nat.not_lt_zero _), HB⟩
              case round =>
                obtain ⟨j, hj, rfl, Hj, HB⟩ := hrel
                by_cases hjk : j < k
                · have d1 : decide ((j : Int) < (k : Int)) = true := decide_eq_true (by omega)
                  have hkj : (j : Int) < (l.length : Int) := by omega
                  have hpk : (k : Int) < (P.length : Int) := by have := HN.out; omega
                  have hpj : (j : Int) < (P.length : Int) := by have := HN.out; omega
                  have HWB := Lib.hid (HW.out.trans (HB.out.mono HW.out.size))
                  obtain ⟨p0, p1⟩ := BP.out.keep (Keep.below HB.out)
                  obtain ⟨b, o, rfl, r, q⟩ := (HA.out.keep (Keep.below HWB.out)).two (i := j) (by omega) hlt
                  obtain ⟨q0, q1, q2⟩ := q
                  obtain ⟨r0, r1, r2⟩ := r
                  obtain ⟨b2, o2, rfl, s0⟩ := (HP.out.keep (Keep.below HWB.out)).at_ (k := k) (by have := HN.out; omega)
                  obtain ⟨b3, o3, e3, s1⟩ := (HP.out.keep (Keep.below HWB.out)).at_ (k := j) (by have := HN.out; omega)
                  obtain ⟨rfl, rfl⟩ : b2 = b3 ∧ o2 = o3 := by simpa using e3
                  clear e3
                  by_cases hc : plateClash l P k j
                  · have F := Lib.hid (plate_clash HN.out HN0.out HA0.out ⟨k, hlt, j, hjk, hc⟩)
                    obtain ⟨ho, hs⟩ := hc
                    have e1 : (listI P k == listI P j) = true := by simpa using hs
                    clear hs
                    obtain ⟨wq, hwq⟩ : ∃ wq, wq = wr := ⟨_, rfl⟩
                    subst hwq
                    go_wp2_with fail
                    obtain ⟨C, Ci, Co⟩ := classOf wq
                    refine quietC (C := C) (by kernel_rfl) (by kernel_rfl) (Co.out _ (Below.refl _ _).drew) ?_
                    repeat (first
                      | go_big_quiet_skip
                      | (go_big_quiet_want; go_big_quiet_op; go_big_quiet_on)
                      | (refine quiet_yes (by rfl) ?_
                         apply Exists.intro
                         refine ⟨fun w' hC => ?_, ?_⟩
                         · have hbb := Ci.out _ hC
                           have zz0 := Keep.below hbb _ _ q0
                           have zz1 := Keep.below hbb _ _ q1
                           have zz2 := Keep.below hbb _ _ q2
                           have zz3 := Keep.below hbb _ _ r0
                           have zz4 := Keep.below hbb _ _ r1
                           have zz5 := Keep.below hbb _ _ r2
                           have zz6 := Keep.below hbb _ _ p0
                           have zz7 := Keep.below hbb _ _ s0
                           have zz8 := Keep.below hbb _ _ s1
                           go_simp
                           first
                             | done
                             | rfl
                             | (go_at_call 126
                                refine (rOverlap_any (listW l k) (listW l j) _).mono ?_
                                rintro e' w1 ⟨rfl, hb1⟩
                                rw [ho]
                                exact ⟨rfl, Co.out _ (hbb.trans (hb1.mono hbb.size))⟩)
                         simp only [Act.put, List.setIfInBounds_toArray, List.set_cons_zero, List.set_cons_succ]))
                    refine wpQuiet_nil ?_
                    intro wz hC1
                    have HX := Lib.hid (HB.out.trans ((Ci.out _ hC1).mono HB.out.size))
                    clear hC1 Ci Co
                    go_wp2_with fail
                    go_ret2
                    exact ⟨by rw [F.out]; rfl, HW.out.trans (HX.out.mono HW.out.size)⟩
                  · have G : Hid (∀ i, i < j + 1 → ¬ plateClash l P k i) := Lib.hid fun i hi => by
                      by_cases e : i = j
                      · subst e; exact hc
                      · exact Hj.out i (by omega)
                    cases ho : overlapB (listW l k) (listW l j) with
                    | true =>
                      have e1 : (listI P k == listI P j) = false := by simpa using fun hs => hc ⟨ho, hs⟩
                      clear hc
                      obtain ⟨wq, hwq⟩ : ∃ wq, wq = wr := ⟨_, rfl⟩
                      subst hwq
                      go_wp2_with fail
                      obtain ⟨C, Ci, Co⟩ := classOf wq
                      refine quietC (C := C) (by kernel_rfl) (by kernel_rfl) (Co.out _ (Below.refl _ _).drew) ?_
                      repeat (first
                        | go_big_quiet_skip
                        | (go_big_quiet_want; go_big_quiet_op; go_big_quiet_on)
                        | (refine quiet_yes (by rfl) ?_
                           apply Exists.intro
                           refine ⟨fun w' hC => ?_, ?_⟩
                           · have hbb := Ci.out _ hC
                             have zz0 := Keep.below hbb _ _ q0
                             have zz1 := Keep.below hbb _ _ q1
                             have zz2 := Keep.below hbb _ _ q2
                             have zz3 := Keep.below hbb _ _ r0
                             have zz4 := Keep.below hbb _ _ r1
                             have zz5 := Keep.below hbb _ _ r2
                             have zz6 := Keep.below hbb _ _ p0
                             have zz7 := Keep.below hbb _ _ s0
                             have zz8 := Keep.below hbb _ _ s1
                             go_simp
                             first
                               | done
                               | rfl
                               | (go_at_call 126
                                  refine (rOverlap_any (listW l k) (listW l j) _).mono ?_
                                  rintro e' w1 ⟨rfl, hb1⟩
                                  rw [ho]
                                  exact ⟨rfl, Co.out _ (hbb.trans (hb1.mono hbb.size))⟩)
                           simp only [Act.put, List.setIfInBounds_toArray, List.set_cons_zero, List.set_cons_succ]))
                      refine wpQuiet_nil ?_
                      intro wz hC1
                      have HX := Lib.hid (HB.out.trans ((Ci.out _ hC1).mono HB.out.size))
                      clear hC1 Ci Co
                      go_wp2_with fail
                      go_roundw
                      case rel => exact ⟨j + 1, by omega, by go_num, G, HX⟩
                      case measure => simp [intOf]; omega
                    | false =>
                      clear hc
                      obtain ⟨wq, hwq⟩ : ∃ wq, wq = wr := ⟨_, rfl⟩
                      subst hwq
                      go_wp2_with fail
                      obtain ⟨C, Ci, Co⟩ := classOf wq
                      refine quietC (C := C) (by kernel_rfl) (by kernel_rfl) (Co.out _ (Below.refl _ _).drew) ?_
                      repeat (first
                        | go_big_quiet_skip
                        | (go_big_quiet_want; go_big_quiet_op; go_big_quiet_on)
                        | (refine quiet_yes (by rfl) ?_
                           apply Exists.intro
                           refine ⟨fun w' hC => ?_, ?_⟩
                           · have hbb := Ci.out _ hC
                             have zz0 := Keep.below hbb _ _ q0
                             have zz1 := Keep.below hbb _ _ q1
                             have zz2 := Keep.below hbb _ _ q2
                             have zz3 := Keep.below hbb _ _ r0
                             have zz4 := Keep.below hbb _ _ r1
                             have zz5 := Keep.below hbb _ _ r2
                             have zz6 := Keep.below hbb _ _ p0
                             have zz7 := Keep.below hbb _ _ s0
                             have zz8 := Keep.below hbb _ _ s1
                             go_simp
                             first
                               | done
                               | rfl
                               | (go_at_call 126
                                  refine (rOverlap_any (listW l k) (listW l j) _).mono ?_
                                  rintro e' w1 ⟨rfl, hb1⟩
                                  rw [ho]
                                  exact ⟨rfl, Co.out _ (hbb.trans (hb1.mono hbb.size))⟩)
                           simp only [Act.put, List.setIfInBounds_toArray, List.set_cons_zero, List.set_cons_succ]))
                      refine wpQuiet_nil ?_
                      intro wz hC1
                      have HX := Lib.hid (HB.out.trans ((Ci.out _ hC1).mono HB.out.size))
                      clear hC1 Ci Co
                      go_wp2_with fail
                      go_roundw
                      case rel => exact ⟨j + 1, by omega, by go_num, G, HX⟩
                      case measure => simp [intOf]; omega
                · have d1 : decide ((j : Int) < (k : Int)) = false := decide_eq_false (by omega)
                  go_wp2_with fail
                  go_roundw
                  case rel =>
                    exact ⟨k + 1, by omega, by go_num, Lib.hid fun j hj => by
                      by_cases e : j = k
                      · subst e; exact fun i hi => Hj.out i (by omega)
                      · exact Hn.out j (by omega), HB⟩
                  case measure => simp [intOf]; omega
            · have F0 := Lib.hid (plate_fine HN.out HN0.out HA0.out (fun ⟨i, h1, j, h2, h3⟩ => Hn.out i (by omega) j h2 h3))
              obtain ⟨p0, p1⟩ := BP.out.keep (Keep.below HB.out)
              go_wp2_with fail
              refine (rAt_any l at_ A c _ (HA.out.keep (Keep.below (HW.out.trans (HB.out.mono HW.out.size)))) HS.out).mono ?_
              rintro e' w1 ⟨rfl, hb1⟩
              have HB1 := Lib.hid (HB.out.trans (hb1.mono HB.out.size))
              clear hb1 p0 p1
              by_cases he : atTo l at_ l.length = countTo P l.length
              · have F := Lib.hid (F0.out.trans (if_neg (fun hh => hh he)))
                have e1 : (atTo l at_ l.length == countTo P l.length) = true := by simpa using he
                have e2 : (atTo l at_ l.length != countTo P l.length) = false := by simpa using he
                clear he
                go_wp2_with fail
                go_ret2
                exact ⟨by rw [F.out]; rfl, HW.out.trans (HB1.out.mono HW.out.size)⟩
              · have F := Lib.hid (F0.out.trans (if_pos he))
                have e1 : (atTo l at_ l.length == countTo P l.length) = false := by simpa using he
                have e2 : (atTo l at_ l.length != countTo P l.length) = true := by simpa using he
                clear he
                go_wp2_with fail
                go_ret2
                exact ⟨by rw [F.out]; rfl, HW.out.trans (HB1.out.mono HW.out.size)⟩
  · have F := Lib.hid (show checkPlates l P at_ = (0, 10) from if_pos hn)
    have d1 : ((P.length : Int) == (l.length : Int)) = false := by simp; omega
    have d2 : ((P.length : Int) != (l.length : Int)) = true := by simp; omega
    clear hn
    go_wp2_with fail
    go_ret2
    exact ⟨by rw [F.out]; rfl, HW.out⟩
end Go.Proofs.Ytolicafhbeiciaa

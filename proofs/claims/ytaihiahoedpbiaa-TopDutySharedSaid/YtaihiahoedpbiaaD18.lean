/- Uses of plates: the reference's overlap, UsesErr, At, Most. Condition of At and Most: the uses' numbers are small. -/
import Derived.Test.YtaihiahoedpbiaaD14
namespace Go.Proofs.Ytaihiahoedpbiaa
open Go.RowKit Fs

def Fs.overlapB (x y : WRec) : Bool := decide (x.beg < y.fin) && decide (y.beg < x.fin)
def Fs.clashAt (l : List WRec) (k i : Nat) : Prop := (listW l i).who = (listW l k).who ∧ overlapB (listW l i) (listW l k) = true
open Classical in
noncomputable def Fs.useBad (l : List WRec) (k : Nat) : Int :=
  if isName (listW l k).who = false then 4 else if spanErr (listW l k).beg (listW l k).fin ≠ 0 then spanErr (listW l k).beg (listW l k).fin
  else if ∃ i, i < k ∧ clashAt l k i then 13 else 0
noncomputable def Fs.usesErr (l : List WRec) : Int := if 14 < l.length then 8 else fst (useBad l) l.length
theorem uses_hit {l : List WRec} {k : Nat} {x : Int} (h : ¬ 14 < l.length) (hk : k < l.length) (h1 : ∀ j, j < k → useBad l j = 0) (h2 : useBad l k = x) (h3 : x ≠ 0) : usesErr l = x := by
  unfold usesErr
  rw [if_neg h, (fst_hit hk h1 (by rw [h2]; exact h3)).1, h2]
set_option maxHeartbeats 800000 in
theorem rOverlap_any (x y : WRec) (w : World) : Calls Try.prog 126 #[recV x, recV y] w fun e w' => e = .returned (.bool (overlapB x y)) ∧ Below w.heap.size w w' := by
  have HX := Lib.hid ((show RecAt (w.alloc (.cells #[.string x.who, .int .i64 x.beg, .int .i64 x.fin] 113)) w.heap.size 0 x from ⟨cellNew _ _ _ 0, cellNew _ _ _ 1, cellNew _ _ _ 2⟩).keep (Keep.alloc _ (.cells #[.string y.who, .int .i64 y.beg, .int .i64 y.fin] 113)))
  have HY := Lib.hid (show RecAt ((w.alloc (.cells #[.string x.who, .int .i64 x.beg, .int .i64 x.fin] 113)).alloc (.cells #[.string y.who, .int .i64 y.beg, .int .i64 y.fin] 113)) (w.heap.size + 1) 0 y from ⟨cellNew1 _ _ _ _ 0, cellNew1 _ _ _ _ 1, cellNew1 _ _ _ _ 2⟩)
  go_enter Try.func126, Try.ntmps126
  go_upto_region 1 with fail
  generalize hwb : (w.alloc _).alloc _ = wb at *
  have HW : Hid (Below w.heap.size w wb) := by rw [← hwb]; exact Lib.hid (((Below.refl _ _).alloc (Nat.le_refl _) _).alloc (by simp) _)
  clear hwb
  obtain ⟨x0, x1, x2⟩ := HX.out
  obtain ⟨y0, y1, y2⟩ := HY.out
  by_cases h1 : x.beg < y.fin
  · have d1 : decide (x.beg < y.fin) = true := decide_eq_true h1
    by_cases h2 : y.beg < x.fin
    · have d2 : decide (y.beg < x.fin) = true := decide_eq_true h2
      have F := Lib.hid (show overlapB x y = true by unfold overlapB; rw [d1, d2]; rfl)
      go_wp2_with fail
      go_ret
      exact ⟨ret_bool F.out.symm, HW.out⟩
    · have d2 : decide (y.beg < x.fin) = false := decide_eq_false h2
      have F := Lib.hid (show overlapB x y = false by unfold overlapB; rw [d1, d2]; rfl)
      go_wp2_with fail
      go_ret
      exact ⟨ret_bool F.out.symm, HW.out⟩
  · have d1 : decide (x.beg < y.fin) = false := decide_eq_false h1
    have F := Lib.hid (show overlapB x y = false by unfold overlapB; rw [d1]; rfl)
    go_wp2_with fail
    go_ret
    exact ⟨ret_bool F.out.symm, HW.out⟩
set_option linter.unusedSimpArgs false in
set_option maxHeartbeats 6400000 in
set_option maxRecDepth 100000 in
theorem rUsesErr_any (l : List WRec) (A : Option Addr) (c : Nat) (w : World) (h : ArrW w A l c) :
    Calls Try.prog 68 #[.slice A l.length c] w fun e w' => e = .returned (.int .i64 (usesErr l)) ∧ Below w.heap.size w w' := by
  have b1 := h.le.1
  have b2 := h.le.2
  have HA := Lib.hid h
  clear h
  go_enter Try.func68, Try.ntmps68
  by_cases h14 : 14 < l.length
  · have F := Lib.hid (show usesErr l = 8 from if_pos h14)
    have d1 : decide ((l.length : Int) > 14) = true := decide_eq_true (by omega)
    have d2 : decide ((14 : Int) < (l.length : Int)) = true := decide_eq_true (by omega)
    clear h14
    go_wp2_with fail
    go_ret
    exact ⟨ret_int F.out.symm, Below.refl _ _⟩
  · have H14 := Lib.hid h14
    have d1 : decide ((l.length : Int) > 14) = false := decide_eq_false (by omega)
    have d2 : decide ((14 : Int) < (l.length : Int)) = false := decide_eq_false (by omega)
    have hl14 : l.length ≤ 14 := by omega
    clear h14
    go_wp2_with fail
    go_loopw [3] (fun i wr => ∃ k : Nat, k ≤ l.length ∧ i = .int .i64 k ∧ Hid (∀ j, j < k → useBad l j = 0) ∧ Hid (Below w.heap.size w wr)) (fun i _ => l.length - (intOf i).toNat)
    case atStart => exact ⟨0, Nat.zero_le _, rfl, Lib.hid fun j hj => absurd hj (Nat.not_lt_zero _), Lib.hid (Below.refl _ _)⟩
    case round =>
      obtain ⟨k, hk, rfl, Hn, HB⟩ := hrel
      by_cases hlt : k < l.length
      · have hkn : (k : Int) < (l.length : Int) := by omega
        obtain ⟨b, o, rfl, q⟩ := (HA.out.keep (Keep.below HB.out)).at_ hlt
        obtain ⟨q0, q1, q2⟩ := q
        cases n1 : isName (listW l k).who with
        | false =>
          have hbad : useBad l k = 4 := by unfold useBad; rw [if_pos n1]
          have F := Lib.hid (uses_hit H14.out hlt Hn.out hbad (by decide))
          clear hbad
          go_wp2_with (go_at_call 105
                       refine (bIsName_any _ _).mono ?_
                       rintro e w' ⟨rfl, rfl⟩
                       rw [n1])
          go_ret
          exact ⟨ret_int F.out.symm, HB.out⟩
        | true =>
          have N1 := Lib.hid n1
          by_cases n2 : spanErr (listW l k).beg (listW l k).fin = 0
          · have N2 := Lib.hid n2
            go_wp2_with (go_at_call 105
                         refine (bIsName_any _ _).mono ?_
                         rintro e w' ⟨rfl, rfl⟩
                         rw [n1])
            go_quiet ((go_at_call 125; exact Calls.quiet_of_same ((rSpanErr_any _ _ _).mono fun _ _ h => ⟨h.1, h.2.symm⟩)))
            rw [n2]
            clear n1 n2
            go_wp2_with fail
            go_loopw [5] (fun i wr => ∃ j : Nat, j ≤ k ∧ i = .int .i64 j ∧ Hid (∀ i, i < j → ¬ clashAt l k i) ∧ Hid (Below w.heap.size w wr)) (fun i _ => k - (intOf i).toNat)
            case atStart => exact ⟨0, Nat.zero_le _, rfl, Lib.hid fun j hj => absurd hj (Nat.not_lt_zero _), Lib.hid (bdrewN HB.out _)⟩
            case round =>
              obtain ⟨j, hj, rfl, Hj, HB⟩ := hrel
              by_cases hjk : j < k
              · have d1 : decide ((j : Int) < (k : Int)) = true := decide_eq_true (by omega)
                have hkj : (j : Int) < (l.length : Int) := by omega
                obtain ⟨b', o', e', r, q⟩ := (HA.out.keep (Keep.below HB.out)).two (i := j) (by omega) hlt
                obtain ⟨rfl, rfl⟩ : b = b' ∧ o = o' := by simpa using e'
                clear e'
                obtain ⟨q0, q1, q2⟩ := q
                obtain ⟨r0, r1, r2⟩ := r
                by_cases hc : clashAt l k j
                · have hbad : useBad l k = 13 := by unfold useBad; rw [if_neg (by rw [N1.out]; decide), if_neg (fun hh => hh N2.out), if_pos ⟨j, hjk, hc⟩]
                  have F := Lib.hid (uses_hit H14.out hlt Hn.out hbad (by decide))
                  obtain ⟨hs, ho⟩ := hc
                  have e1 := str_eq hs
                  clear hs hbad
                  obtain ⟨wq, hwq⟩ : ∃ wq, wq = wr := ⟨_, rfl⟩
                  subst hwq
                  go_wp2_with fail
                  obtain ⟨C, Ci, Co⟩ := classOf wq
                  refine quietC (C := C) (by kernel_rfl) (by kernel_rfl) (Co.out _ (Below.refl _ _).drew) ?_
                  repeat (first
                    | go_big_quiet_skip
                    | (go_big_quiet_want; go_big_quiet_op; go_big_quiet_on)
                    | (refine quiet_yes (by rfl) ?_
                       apply Exists.intro
                       refine ⟨fun w' hC => ?_, ?_⟩
                       · have hbb := Ci.out _ hC
                         have zz0 := Keep.below hbb _ _ q0
                         have zz1 := Keep.below hbb _ _ q1
                         have zz2 := Keep.below hbb _ _ q2
                         have zz3 := Keep.below hbb _ _ r0
                         have zz4 := Keep.below hbb _ _ r1
                         have zz5 := Keep.below hbb _ _ r2
                         go_simp
                         first
                           | done
                           | rfl
                           | (go_at_call 126
                              refine (rOverlap_any (listW l j) (listW l k) _).mono ?_
                              rintro e' w1 ⟨rfl, hb1⟩
                              rw [ho]
                              exact ⟨rfl, Co.out _ (hbb.trans (hb1.mono hbb.size))⟩)
                       simp only [Act.put, List.setIfInBounds_toArray, List.set_cons_zero, List.set_cons_succ]))
                  refine wpQuiet_nil ?_
                  intro wz hC1
                  have HX := Lib.hid (HB.out.trans ((Ci.out _ hC1).mono HB.out.size))
                  clear hC1 Ci Co
                  go_wp2_with fail
                  go_ret
                  exact ⟨ret_int F.out.symm, HX.out⟩
                · have G : Hid (∀ i, i < j + 1 → ¬ clashAt l k i) := Lib.hid fun i hi => by
                    by_cases e : i = j
                    · subst e; exact hc
                    · exact Hj.out i (by omega)
                  by_cases hs : (listW l j).who = (listW l k).who
                  · have e1 := str_eq hs
                    have ho : overlapB (listW l j) (listW l k) = false := by
                      cases ho : overlapB (listW l j) (listW l k) with
                      | false => rfl
                      | true => exact absurd ⟨hs, ho⟩ hc
                    clear hs hc
                    obtain ⟨wq, hwq⟩ : ∃ wq, wq = wr := ⟨_, rfl⟩
                    subst hwq
                    go_wp2_with fail
                    obtain ⟨C, Ci, Co⟩ := classOf wq
                    refine quietC (C := C) (by kernel_rfl) (by kernel_rfl) (Co.out _ (Below.refl _ _).drew) ?_
                    repeat (first
                      | go_big_quiet_skip
                      | (go_big_quiet_want; go_big_quiet_op; go_big_quiet_on)
                      | (refine quiet_yes (by rfl) ?_
                         apply Exists.intro
                         refine ⟨fun w' hC => ?_, ?_⟩
                         · have hbb := Ci.out _ hC
                           have zz0 := Keep.below hbb _ _ q0
                           have zz1 := Keep.below hbb _ _ q1
                           have zz2 := Keep.below hbb _ _ q2
                           have zz3 := Keep.below hbb _ _ r0
                           have zz4 := Keep.below hbb _ _ r1
                           have zz5 := Keep.below hbb _ _ r2
                           go_simp
                           first
                             | done
                             | rfl
                             | (go_at_call 126
                                refine (rOverlap_any (listW l j) (listW l k) _).mono ?_
                                rintro e' w1 ⟨rfl, hb1⟩
                                rw [ho]
                                exact ⟨rfl, Co.out _ (hbb.trans (hb1.mono hbb.size))⟩)
                         simp only [Act.put, List.setIfInBounds_toArray, List.set_cons_zero, List.set_cons_succ]))
                    refine wpQuiet_nil ?_
                    intro wz hC1
                    have HX := Lib.hid (HB.out.trans ((Ci.out _ hC1).mono HB.out.size))
                    clear hC1 Ci Co
                    go_wp2_with fail
                    go_roundw
                    case rel => exact ⟨j + 1, by omega, by go_num, G, HX⟩
                    case measure => simp [intOf]; omega
                  · have e1 := str_ne hs
                    clear hs hc
                    go_wp2_with fail
                    go_quiet (fail)
                    go_wp2_with fail
                    go_roundw
                    case rel => exact ⟨j + 1, by omega, by go_num, G, Lib.hid (bdrewN HB.out _)⟩
                    case measure => simp [intOf]; omega
              · have d1 : decide ((j : Int) < (k : Int)) = false := decide_eq_false (by omega)
                have F : Hid (useBad l k = 0) := Lib.hid (by unfold useBad; rw [if_neg (by rw [N1.out]; decide), if_neg (fun hh => hh N2.out), if_neg (fun ⟨i, h1, h2⟩ => Hj.out i (by omega) h2)])
                go_wp2_with fail
                go_roundw
                case rel =>
                  exact ⟨k + 1, by omega, by go_num, Lib.hid fun j hj => by
                    by_cases e : j = k
                    · subst e; exact F.out
                    · exact Hn.out j (by omega), HB⟩
                case measure => simp [intOf]; omega
          · have e3 : (spanErr (listW l k).beg (listW l k).fin == 0) = false := by simpa using n2
            have e4 : (spanErr (listW l k).beg (listW l k).fin != 0) = true := by simpa using n2
            have hbad : useBad l k = spanErr (listW l k).beg (listW l k).fin := by unfold useBad; rw [if_neg (by rw [n1]; decide), if_pos n2]
            have F := Lib.hid (uses_hit H14.out hlt Hn.out hbad n2)
            clear hbad n2
            go_wp2_with (go_at_call 105
                         refine (bIsName_any _ _).mono ?_
                         rintro e w' ⟨rfl, rfl⟩
                         rw [n1])
            go_quiet ((go_at_call 125; exact Calls.quiet_of_same ((rSpanErr_any _ _ _).mono fun _ _ h => ⟨h.1, h.2.symm⟩)))
            go_wp2_with fail
            go_ret
            exact ⟨ret_int F.out.symm, bdrewN HB.out _⟩
      · have F := Lib.hid (show usesErr l = 0 by unfold usesErr; rw [if_neg H14.out]; exact fst_none fun j hj => Hn.out j (by omega))
        go_wp2_with fail
        go_ret
        exact ⟨ret_int F.out.symm, HB.out⟩
end Go.Proofs.Ytaihiahoedpbiaa
/- Uses of plates: the reference's At and Most, copies; the law's licences and uses. Condition of At and Most: the uses' numbers are small. -/
namespace Go.Proofs.Ytaihiahoedpbiaa
open Go.RowKit Fs

def Fs.FewLicsP (l : List WRec) : Prop := l.length ≤ 22 ∧ ∀ j, j < l.length → (listW l j).who.size ≤ 20
open Classical in
noncomputable def Fs.fewLics (l : List WRec) : Bool := decide (FewLicsP l)
theorem fewLics_yes {l : List WRec} (h : FewLicsP l) : fewLics l = true := by unfold fewLics; simpa using h
theorem fewLics_no {l : List WRec} (h : ¬ FewLicsP l) : fewLics l = false := by unfold fewLics; simpa using h
theorem fewLics_is {l : List WRec} (h : fewLics l = true) : FewLicsP l := by unfold fewLics at h; simpa using h
set_option linter.unusedSimpArgs false in
set_option maxHeartbeats 3200000 in
set_option maxRecDepth 100000 in
theorem lawLicences_any (l : List WRec) (A : Option Addr) (c : Nat) (w : World) (h : ArrW w A l c) :
    Calls Try.prog 43 #[.slice A l.length c] w fun e w' => e = .returned (.bool (fewLics l)) ∧ w = w' := by
  have b1 := h.le.1
  have b2 := h.le.2
  have HA := Lib.hid h
  clear h
  go_enter Try.func43, Try.ntmps43
  by_cases h0 : 22 < l.length
  · have F := Lib.hid (fewLics_no (l := l) fun hh => by have := hh.1; omega)
    have d1 : decide ((l.length : Int) > 22) = true := decide_eq_true (by omega)
    have d2 : decide (22 < (l.length : Int)) = true := decide_eq_true (by omega)
    clear h0
    go_wp2_with fail
    go_ret
    exact ⟨ret_bool F.out.symm, rfl⟩
  · have HN := Lib.hid (show l.length ≤ 22 by omega)
    have d1 : decide ((l.length : Int) > 22) = false := decide_eq_false (by omega)
    have d2 : decide (22 < (l.length : Int)) = false := decide_eq_false (by omega)
    clear h0
    go_wp2_with fail
    go_loop [3] (fun i => ∃ k : Nat, k ≤ l.length ∧ i = .int .i64 k ∧ Hid (∀ j, j < k → (listW l j).who.size ≤ 20)) (fun i => l.length - (intOf i).toNat)
    case atStart => exact ⟨0, Nat.zero_le _, rfl, Lib.hid fun j hj => absurd hj (Nat.not_lt_zero _)⟩
    case round =>
      obtain ⟨k, hk, rfl, Hn⟩ := hrel
      by_cases hlt : k < l.length
      · have hkn : (k : Int) < (l.length : Int) := by omega
        obtain ⟨b, o, rfl, q⟩ := HA.out.at_ hlt
        obtain ⟨q0, q1, q2⟩ := q
        by_cases hx : (listW l k).who.size ≤ 20
        · have e1 : decide (((listW l k).who.size : Int) > 20) = false := decide_eq_false (by omega)
          have e2 : decide (20 < (listW l k).who.size) = false := decide_eq_false (by omega)
          have F : Hid (∀ j, j < k + 1 → (listW l j).who.size ≤ 20) := Lib.hid fun j hj => by
            by_cases e : j = k
            · subst e; exact hx
            · exact Hn.out j (by omega)
          go_wp2_with fail
          go_round
          case rel => exact ⟨k + 1, by omega, by go_num, F⟩
          case measure => simp [intOf]; omega
        · have e1 : decide (((listW l k).who.size : Int) > 20) = true := decide_eq_true (by omega)
          have e2 : decide (20 < (listW l k).who.size) = true := decide_eq_true (by omega)
          have F := Lib.hid (fewLics_no (l := l) fun hh => hx (hh.2 k hlt))
          clear hx
          go_wp2_with fail
          go_ret
          exact ⟨ret_bool F.out.symm, rfl⟩
      · have F := Lib.hid (fewLics_yes (l := l) ⟨HN.out, fun j hj => Hn.out j (by omega)⟩)
        go_wp2_with fail
        go_ret
        exact ⟨ret_bool F.out.symm, rfl⟩
def Fs.FewUsesP (l : List WRec) : Prop := l.length ≤ 16 ∧ ∀ j, j < l.length → (listW l j).who.size ≤ 20
open Classical in
noncomputable def Fs.fewUses (l : List WRec) : Bool := decide (FewUsesP l)
theorem fewUses_yes {l : List WRec} (h : FewUsesP l) : fewUses l = true := by unfold fewUses; simpa using h
theorem fewUses_no {l : List WRec} (h : ¬ FewUsesP l) : fewUses l = false := by unfold fewUses; simpa using h
theorem fewUses_is {l : List WRec} (h : fewUses l = true) : FewUsesP l := by unfold fewUses at h; simpa using h
set_option linter.unusedSimpArgs false in
set_option maxHeartbeats 3200000 in
set_option maxRecDepth 100000 in
theorem lawUses_any (l : List WRec) (A : Option Addr) (c : Nat) (w : World) (h : ArrW w A l c) :
    Calls Try.prog 63 #[.slice A l.length c] w fun e w' => e = .returned (.bool (fewUses l)) ∧ w = w' := by
  have b1 := h.le.1
  have b2 := h.le.2
  have HA := Lib.hid h
  clear h
  go_enter Try.func63, Try.ntmps63
  by_cases h0 : 16 < l.length
  · have F := Lib.hid (fewUses_no (l := l) fun hh => by have := hh.1; omega)
    have d1 : decide ((l.length : Int) > 16) = true := decide_eq_true (by omega)
    have d2 : decide (16 < (l.length : Int)) = true := decide_eq_true (by omega)
    clear h0
    go_wp2_with fail
    go_ret
    exact ⟨ret_bool F.out.symm, rfl⟩
  · have HN := Lib.hid (show l.length ≤ 16 by omega)
    have d1 : decide ((l.length : Int) > 16) = false := decide_eq_false (by omega)
    have d2 : decide (16 < (l.length : Int)) = false := decide_eq_false (by omega)
    clear h0
    go_wp2_with fail
    go_loop [3] (fun i => ∃ k : Nat, k ≤ l.length ∧ i = .int .i64 k ∧ Hid (∀ j, j < k → (listW l j).who.size ≤ 20)) (fun i => l.length - (intOf i).toNat)
    case atStart => exact ⟨0, Nat.zero_le _, rfl, Lib.hid fun j hj => absurd hj (Nat.not_lt_zero _)⟩
    case round =>
      obtain ⟨k, hk, rfl, Hn⟩ := hrel
      by_cases hlt : k < l.length
      · have hkn : (k : Int) < (l.length : Int) := by omega
        obtain ⟨b, o, rfl, q⟩ := HA.out.at_ hlt
        obtain ⟨q0, q1, q2⟩ := q
        by_cases hx : (listW l k).who.size ≤ 20
        · have e1 : decide (((listW l k).who.size : Int) > 20) = false := decide_eq_false (by omega)
          have e2 : decide (20 < (listW l k).who.size) = false := decide_eq_false (by omega)
          have F : Hid (∀ j, j < k + 1 → (listW l j).who.size ≤ 20) := Lib.hid fun j hj => by
            by_cases e : j = k
            · subst e; exact hx
            · exact Hn.out j (by omega)
          go_wp2_with fail
          go_round
          case rel => exact ⟨k + 1, by omega, by go_num, F⟩
          case measure => simp [intOf]; omega
        · have e1 : decide (((listW l k).who.size : Int) > 20) = true := decide_eq_true (by omega)
          have e2 : decide (20 < (listW l k).who.size) = true := decide_eq_true (by omega)
          have F := Lib.hid (fewUses_no (l := l) fun hh => hx (hh.2 k hlt))
          clear hx
          go_wp2_with fail
          go_ret
          exact ⟨ret_bool F.out.symm, rfl⟩
      · have F := Lib.hid (fewUses_yes (l := l) ⟨HN.out, fun j hj => Hn.out j (by omega)⟩)
        go_wp2_with fail
        go_ret
        exact ⟨ret_bool F.out.symm, rfl⟩

def Fs.SmallU (l : List WRec) : Prop := l.length ≤ 100 ∧ ∀ i, i < l.length → 0 ≤ (listW l i).beg ∧ (listW l i).beg < (listW l i).fin ∧ (listW l i).fin ≤ 8640000000
def Fs.atTo (l : List WRec) (t : Int) : Nat → Int
  | 0 => 0
  | k + 1 => if within t (listW l k).beg ((listW l k).fin - 1) = true then atTo l t k + 1 else atTo l t k
def Fs.mostTo (l : List WRec) : Nat → Int
  | 0 => 0
  | k + 1 => max (mostTo l k) (atTo l (listW l k).beg l.length)
theorem Fs.atTo_is (l : List WRec) (t : Int) : ∀ k, 0 ≤ atTo l t k ∧ atTo l t k ≤ k
  | 0 => ⟨Int.le_refl _, Int.le_refl _⟩
  | k + 1 => by
    have ih := atTo_is l t k
    rw [atTo]
    split <;> omega
set_option linter.unusedSimpArgs false in
set_option maxHeartbeats 3200000 in
set_option maxRecDepth 100000 in
theorem rAt_any (l : List WRec) (t : Int) (A : Option Addr) (c : Nat) (w : World) (h : ArrW w A l c) (hS : SmallU l) :
    Calls Try.prog 127 #[.slice A l.length c, .int .i64 t] w fun e w' => e = .returned (.int .i64 (atTo l t l.length)) ∧ Below w.heap.size w w' := by
  have b1 := h.le.1
  have b2 := h.le.2
  have hl := hS.1
  have HS := Lib.hid hS.2
  have HA := Lib.hid h
  clear h hS
  go_enter Try.func127, Try.ntmps127
  go_wp2_with fail
  go_loopw [5, 6] (fun u i wr => ∃ k : Nat, k ≤ l.length ∧ u = .int .i64 (atTo l t k) ∧ i = .int .i64 k ∧ Hid (Below w.heap.size w wr)) (fun _ i _ => l.length - (intOf i).toNat)
  case atStart => exact ⟨0, Nat.zero_le _, rfl, rfl, Lib.hid (Below.refl _ _)⟩
  case round =>
    obtain ⟨k, hk, rfl, rfl, HB⟩ := hrel
    by_cases hlt : k < l.length
    · have hkn : (k : Int) < (l.length : Int) := by omega
      obtain ⟨b, o, rfl, q⟩ := (HA.out.keep (Keep.below HB.out)).at_ hlt
      obtain ⟨q0, q1, q2⟩ := q
      have x1 := HS.out k hlt
      have x2 := atTo_is l t k
      have hw1 : IntKind.i64.wrap ((listW l k).fin - 1) = (listW l k).fin - 1 := by rw [IntKind.wrap_i64]; omega
      have hw2 : IntKind.i64.wrap (atTo l t k + 1) = atTo l t k + 1 := by rw [IntKind.wrap_i64]; omega
      cases hw : within t (listW l k).beg ((listW l k).fin - 1) with
      | true =>
        have G := Lib.hid (show atTo l t (k + 1) = atTo l t k + 1 from if_pos hw)
        go_wp2_with fail
        go_quiet ((go_at_call 34; exact Calls.quiet_of_same ((bwithin_any _ _ _ _).mono fun _ _ h => ⟨h.1.trans (congrArg (fun b => Ending.returned (.bool b)) hw), h.2.symm⟩)))
        go_wp2_with fail
        go_roundw
        case rel => exact ⟨k + 1, by omega, by rw [G.out], by go_num, Lib.hid (bdrewN HB.out _)⟩
        case measure => simp [intOf]; omega
      | false =>
        have G := Lib.hid (show atTo l t (k + 1) = atTo l t k from if_neg (by rw [hw]; decide))
        go_wp2_with fail
        go_quiet ((go_at_call 34; exact Calls.quiet_of_same ((bwithin_any _ _ _ _).mono fun _ _ h => ⟨h.1.trans (congrArg (fun b => Ending.returned (.bool b)) hw), h.2.symm⟩)))
        go_wp2_with fail
        go_roundw
        case rel => exact ⟨k + 1, by omega, by rw [G.out], by go_num, Lib.hid (bdrewN HB.out _)⟩
        case measure => simp [intOf]; omega
    · obtain rfl : k = l.length := by omega
      go_wp2_with fail
      go_ret
      exact ⟨rfl, HB.out⟩
set_option linter.unusedSimpArgs false in
set_option maxHeartbeats 3200000 in
set_option maxRecDepth 100000 in
theorem rMost_any (l : List WRec) (A : Option Addr) (c : Nat) (w : World) (h : ArrW w A l c) (hS : SmallU l) :
    Calls Try.prog 70 #[.slice A l.length c] w fun e w' => e = .returned (.int .i64 (mostTo l l.length)) ∧ Below w.heap.size w w' := by
  have b1 := h.le.1
  have b2 := h.le.2
  have HS := Lib.hid hS
  have HA := Lib.hid h
  clear h hS
  go_enter Try.func70, Try.ntmps70
  go_wp2_with fail
  go_loopw [3, 4] (fun u i wr => ∃ k : Nat, k ≤ l.length ∧ u = .int .i64 (mostTo l k) ∧ i = .int .i64 k ∧ Hid (Below w.heap.size w wr)) (fun _ i _ => l.length - (intOf i).toNat)
  case atStart => exact ⟨0, Nat.zero_le _, rfl, rfl, Lib.hid (Below.refl _ _)⟩
  case round =>
    obtain ⟨k, hk, rfl, rfl, HB⟩ := hrel
    by_cases hlt : k < l.length
    · have hkn : (k : Int) < (l.length : Int) := by omega
      have HA' := Lib.hid (HA.out.keep (Keep.below HB.out))
      obtain ⟨b, o, rfl, q⟩ := HA'.out.at_ hlt
      obtain ⟨q0, q1, q2⟩ := q
      have G := Lib.hid (show mostTo l (k + 1) = max (mostTo l k) (atTo l (listW l k).beg l.length) from rfl)
      go_wp2_with fail
      refine (rAt_any l (listW l k).beg _ c _ HA'.out HS.out).mono ?_
      rintro e' w1 ⟨rfl, hb1⟩
      have HB1 := Lib.hid (HB.out.trans (hb1.mono HB.out.size))
      clear hb1 q0 q1 q2 HA'
      go_wp2_with fail
      go_roundw
      case rel => exact ⟨k + 1, by omega, by rw [G.out], by go_num, HB1⟩
      case measure => simp [intOf]; omega
    · obtain rfl : k = l.length := by omega
      go_wp2_with fail
      go_ret
      exact ⟨rfl, HB.out⟩
theorem Try.infoDUse : (Try.prog.info? 113).map (fun i => (i.zero, i.size, i.bytes)) = some (some (.agg #[.string ⟨#[]⟩, .int .i64 0, .int .i64 0]), 3, 32) := by kernel_rfl
set_option maxHeartbeats 400000 in
theorem rCopyUses_any (l : List WRec) (A : Option Addr) (c : Nat) (w : World) (h : ArrW w A l c) (hn : l.length ≤ 1000000) :
    Calls Try.prog 65 #[.slice A l.length c] w fun e w' => (∃ A' c', e = .returned (.slice A' l.length c') ∧ ArrW w' A' l c') ∧ Below w.heap.size w w' := by
  obtain ⟨i0, hi, hz0, hz1, hz2⟩ := info_parts Try.infoDUse
  go_enter Try.func65, Try.ntmps65
  go_wp2_with (at_builtin
               refine wpList_copy rfl (.tmp 3) (.tmp 4) 101 rfl 113 i0 (.agg #[.string ⟨#[]⟩, .int .i64 0, .int .i64 0]) 3 32 Try.underlying101 hi hz0 hz1 hz2 rfl (by decide) w.heap.size w.heap.size rfl (Nat.le_refl _) (heap_alloc_new _ _) A l.length c _ rfl (Arr.keep (Keep.alloc w _) h) (by intro i j; unfold recCells; split <;> rfl) (by unfold maxLen; omega) (by omega) ?_
               intro A1 c1 w1 ha hb)
  go_ret
  exact ⟨⟨A1, c1, rfl, own_arrN ha⟩, ((Below.refl _ _).alloc (Nat.le_refl _) _).trans hb⟩
end Go.Proofs.Ytaihiahoedpbiaa
/- The reference's Handed: the drivers of a car. No condition but a length. -/
namespace Go.Proofs.Ytaihiahoedpbiaa
open Go.RowKit Fs

def Fs.newDriver (l : List WRec) (k : Nat) : Prop := k = 0 ∨ (listW l k).who ≠ (listW l (k - 1)).who
open Classical in
noncomputable def Fs.handedTo (l : List WRec) : Nat → List ByteArray
  | 0 => []
  | k + 1 => if newDriver l k then handedTo l k ++ [(listW l k).who] else handedTo l k
theorem Fs.handedTo_len (l : List WRec) : ∀ k, (handedTo l k).length ≤ k
  | 0 => Nat.le_refl _
  | k + 1 => by
    have ih := handedTo_len l k
    rw [handedTo]
    split
    · rw [List.length_append, List.length_singleton]; omega
    · omega
set_option linter.unusedSimpArgs false in
set_option maxHeartbeats 6400000 in
set_option maxRecDepth 100000 in
theorem rHanded_any (l : List WRec) (A : Option Addr) (c : Nat) (w : World) (h : ArrW w A l c) (hn : l.length ≤ 1000) :
    Calls Try.prog 62 #[.slice A l.length c] w fun e w' => (∃ v, e = .returned v ∧ w'.ownsRow w.heap.size 9 1 v (handedTo l l.length).length (strVals (handedTo l l.length))) ∧ Below w.heap.size w w' := by
  obtain ⟨i0, hi, hz0, hz1, hz2⟩ := info_parts Try.infoText
  have b1 := h.le.1
  have b2 := h.le.2
  have HA := Lib.hid h
  clear h
  go_enter Try.func62, Try.ntmps62
  go_upto_region 2 with fail
  go_wp2_with fail
  go_loopw [3, 4] (fun v i wr => ∃ (k : Nat), k ≤ l.length ∧ i = .int .i64 k ∧ Hid (wr.ownsRow w.heap.size 9 1 v (handedTo l k).length (strVals (handedTo l k))) ∧ Hid (Below w.heap.size w wr)) (fun _ i _ => l.length - (intOf i).toNat)
  case atStart => exact ⟨0, Nat.zero_le _, rfl, Lib.hid (World.ownsRow_nil _ _ _ _), Lib.hid (Below.refl _ _)⟩
  case round =>
    obtain ⟨k, hk, rfl, HO, HB⟩ := hrel
    have hgl := handedTo_len l k
    by_cases hlt : k < l.length
    · have hkn : (k : Int) < (l.length : Int) := by omega
      have HD := Lib.hid (fun n => below_of_own HO.out (bdrewN (Below.refl _ _) n))
      by_cases h0 : k = 0
      · have d3 : ((k : Int) == 0) = true := by simp; omega
        have HG := Lib.hid (show handedTo l (k + 1) = handedTo l k ++ [(listW l k).who] by rw [handedTo, if_pos (show newDriver l k from Or.inl h0)])
        obtain ⟨b, o, rfl, q⟩ := (HA.out.keep (Keep.below HB.out)).at_ hlt
        obtain ⟨q0, q1, q2⟩ := q
        have HK0 := Lib.hid h0
        have d4 : decide (k = 0) = true := decide_eq_true h0
        clear h0
        go_wp2_with fail
        go_quiet (fail)
        go_wp2_with (at_builtin
                     refine wpList_append_own _ rfl (.tmp 27) (.tmp 33) 85 rfl w.heap.size 9 i0 _ 1 16 Try.underlying85 hi hz0 hz1 hz2 rfl (by decide) _ _ _ rfl ((HD.out _).alloc _) ⟨_, 0, none⟩ 1 1 [.string (listW l k).who] rfl rfl ?c1 ?c2 ?c3 ?c4 ?c5 ?_)
        case c1 => exact news0 _ _ _
        case c2 => exact oneStr _
        case c3 => unfold maxLen; omega
        case c4 => omega
        case c5 => have := HB.out.size; simp; omega
        intro v9 w9 ho9 hg9 _
        go_wp2_with fail
        go_roundw
        case rel =>
          refine ⟨k + 1, by omega, by go_num, Lib.hid ?_, Lib.hid ?_⟩
          · rw [HG.out, strVals_snoc, List.length_append]
            exact ho9
          · exact ((bdrewN HB.out _).alloc (bdrewN HB.out _).size _).grown hg9 (by have := HB.out.size; simp; omega) (fun j hj => ((HD.out 0).lt j hj).1)
        case measure => simp [intOf]; omega
      · have d3 : ((k : Int) == 0) = false := by simp; omega
        have d4 : decide (k = 0) = false := decide_eq_false h0
        obtain ⟨j, hj⟩ : ∃ j, j = k - 1 := ⟨_, rfl⟩
        have hkp : (k : Int) - 1 = (j : Int) := by omega
        have hk1 : (j : Int) < (l.length : Int) := by omega
        obtain ⟨b, o, rfl, r, q⟩ := (HA.out.keep (Keep.below HB.out)).two (i := j) (by omega) hlt
        obtain ⟨q0, q1, q2⟩ := q
        obtain ⟨r0, r1, r2⟩ := r
        by_cases hw : (listW l k).who = (listW l j).who
        · have e1 := str_eq hw
          have e2 : ((listW l k).who.toList != (listW l j).who.toList) = false := by rw [bne, e1]; rfl
          have HG := Lib.hid (show handedTo l (k + 1) = handedTo l k by rw [handedTo, if_neg (show ¬ newDriver l k from fun hh => hh.elim h0 (fun h => h (by rw [← hj]; exact hw)))])
          clear hw hj
          go_wp2_with fail
          go_quiet (fail)
          go_wp2_with fail
          go_roundw
          case rel => exact ⟨k + 1, by omega, by go_num, Lib.hid (by rw [HG.out]; exact HD.out _), Lib.hid (bdrewN HB.out _)⟩
          case measure => simp [intOf]; omega
        · have e1 := str_ne hw
          have e2 : ((listW l k).who.toList != (listW l j).who.toList) = true := by rw [bne, e1]; rfl
          have HG := Lib.hid (show handedTo l (k + 1) = handedTo l k ++ [(listW l k).who] by rw [handedTo, if_pos (show newDriver l k from Or.inr (by rw [← hj]; exact hw))])
          clear hw hj
          go_wp2_with fail
          go_quiet (fail)
          go_wp2_with (at_builtin
                       refine wpList_append_own _ rfl (.tmp 27) (.tmp 33) 85 rfl w.heap.size 9 i0 _ 1 16 Try.underlying85 hi hz0 hz1 hz2 rfl (by decide) _ _ _ rfl ((HD.out _).alloc _) ⟨_, 0, none⟩ 1 1 [.string (listW l k).who] rfl rfl ?c1 ?c2 ?c3 ?c4 ?c5 ?_)
          case c1 => exact news0 _ _ _
          case c2 => exact oneStr _
          case c3 => unfold maxLen; omega
          case c4 => omega
          case c5 => have := HB.out.size; simp; omega
          intro v9 w9 ho9 hg9 _
          go_wp2_with fail
          go_roundw
          case rel =>
            refine ⟨k + 1, by omega, by go_num, Lib.hid ?_, Lib.hid ?_⟩
            · rw [HG.out, strVals_snoc, List.length_append]
              exact ho9
            · exact ((bdrewN HB.out _).alloc (bdrewN HB.out _).size _).grown hg9 (by have := HB.out.size; simp; omega) (fun j hj => ((HD.out 0).lt j hj).1)
          case measure => simp [intOf]; omega
    · obtain rfl : k = l.length := by omega
      go_wp2_with fail
      go_ret
      exact ⟨⟨_, rfl, HO.out⟩, HB.out⟩
end Go.Proofs.Ytaihiahoedpbiaa

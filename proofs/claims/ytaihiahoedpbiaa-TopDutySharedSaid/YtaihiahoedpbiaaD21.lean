/- The reference's CheckPlates. Condition: the uses' numbers are small. -/
import Derived.Test.YtaihiahoedpbiaaD18
namespace Go.Proofs.Ytaihiahoedpbiaa
open Go.RowKit Fs

def Fs.plateBad (P : List Int) (i : Nat) : Int := if within (listI P i) 0 13 = true then 0 else 2
def Fs.countTo (P : List Int) : Nat → Int
  | 0 => 0
  | k + 1 => max (countTo P k) (listI P k + 1)
def Fs.plateClash (l : List WRec) (P : List Int) (i k : Nat) : Prop := overlapB (listW l i) (listW l k) = true ∧ listI P i = listI P k
open Classical in
noncomputable def Fs.checkPlates (l : List WRec) (P : List Int) (at_ : Int) : Int × Int :=
  if P.length ≠ l.length then (0, 10) else if fst (plateBad P) l.length ≠ 0 then (0, 2) else if isClock at_ = false then (0, 2)
  else if ∃ i, i < l.length ∧ ∃ k, k < i ∧ plateClash l P i k then (0, 13)
  else if atTo l at_ l.length ≠ countTo P l.length then (0, 20) else (countTo P l.length, 0)
theorem plate_bad {l : List WRec} {P : List Int} {at_ : Int} (h : P.length = l.length) (h1 : fst (plateBad P) l.length = 2) : checkPlates l P at_ = (0, 2) := by
  unfold checkPlates
  rw [if_neg (fun hh => hh h), if_pos (by rw [h1]; decide)]
theorem plate_time {l : List WRec} {P : List Int} {at_ : Int} (h : P.length = l.length) (h1 : fst (plateBad P) l.length = 0) (h2 : isClock at_ = false) : checkPlates l P at_ = (0, 2) := by
  unfold checkPlates
  rw [if_neg (fun hh => hh h), if_neg (fun hh => hh h1), if_pos h2]
theorem plate_clash {l : List WRec} {P : List Int} {at_ : Int} (h : P.length = l.length) (h1 : fst (plateBad P) l.length = 0) (h2 : isClock at_ = true) (h3 : ∃ i, i < l.length ∧ ∃ k, k < i ∧ plateClash l P i k) : checkPlates l P at_ = (0, 13) := by
  unfold checkPlates
  rw [if_neg (fun hh => hh h), if_neg (fun hh => hh h1), if_neg (by rw [h2]; decide), if_pos h3]
theorem plate_fine {l : List WRec} {P : List Int} {at_ : Int} (h : P.length = l.length) (h1 : fst (plateBad P) l.length = 0) (h2 : isClock at_ = true) (h3 : ¬ ∃ i, i < l.length ∧ ∃ k, k < i ∧ plateClash l P i k) :
    checkPlates l P at_ = if atTo l at_ l.length ≠ countTo P l.length then (0, 20) else (countTo P l.length, 0) := by
  unfold checkPlates
  rw [if_neg (fun hh => hh h), if_neg (fun hh => hh h1), if_neg (by rw [h2]; decide), if_neg h3]
/-- The cells of plates in the block g. -/
structure PlatesIn (w : World) (g : Nat) (A : Option Addr) (n c : Nat) (x : Int) : Prop where
  c0 : w.cell? ⟨g, 0, none⟩ = some (.slice A n c)
  c1 : w.cell? ⟨g, 1, none⟩ = some (.int .i64 x)
theorem PlatesIn.keep {w w' : World} (k : Keep w w') {g n c : Nat} {A : Option Addr} {x : Int} (m : PlatesIn w g A n c x) : PlatesIn w' g A n c x := ⟨k _ _ m.c0, k _ _ m.c1⟩
set_option linter.unusedSimpArgs false in
set_option maxHeartbeats 12800000 in
set_option maxRecDepth 100000 in
theorem rCheckPlates_any (l : List WRec) (P : List Int) (at_ : Int) (A B : Option Addr) (c cp : Nat) (w : World) (h : ArrW w A l c) (hP : ArrI w B P cp) (hS : SmallU l) :
    Calls Try.prog 69 #[.slice A l.length c, .agg #[.slice B P.length cp, .int .i64 at_]] w fun e w' => e = .returned (.tuple #[.int .i64 (checkPlates l P at_).1, .int .i64 (checkPlates l P at_).2]) ∧ Below w.heap.size w w' := by
  have b1 := h.le.1
  have b2 := h.le.2
  have b3 := hP.le.1
  have b4 := hP.le.2
  have hl := hS.1
  have HS := Lib.hid hS
  have HA := Lib.hid h
  have HP := Lib.hid hP
  clear h hP hS
  have BP := Lib.hid (show PlatesIn (w.alloc (.cells #[.slice B P.length cp, .int .i64 at_] 103)) w.heap.size B P.length cp at_ from ⟨cellNew _ _ _ 0, cellNew _ _ _ 1⟩)
  go_enter Try.func69, Try.ntmps69
  go_upto_region 1 with fail
  generalize hwb : w.alloc _ = wb at *
  have HW : Hid (Below w.heap.size w wb) := by rw [← hwb]; exact Lib.hid ((Below.refl _ _).alloc (Nat.le_refl _) _)
  clear hwb
  obtain ⟨p0, p1⟩ := BP.out
  by_cases hn : P.length = l.length
  · have HN := Lib.hid hn
    have d1 : ((P.length : Int) == (l.length : Int)) = true := by simp; omega
    have d2 : ((P.length : Int) != (l.length : Int)) = false := by simp; omega
    clear hn
    go_wp2_with fail
    go_loopw [6, 7] (fun u i wr => ∃ k : Nat, k ≤ l.length ∧ u = .int .i64 (countTo P k) ∧ i = .int .i64 k ∧ Hid (∀ j, j < k → plateBad P j = 0) ∧ Hid (Below wb.heap.size wb wr)) (fun _ i _ => l.length - (intOf i).toNat)
    case atStart => exact ⟨0, Nat.zero_le _, rfl, rfl, Lib.hid fun j hj => absurd hj (Nat.not_lt_zero _), Lib.hid (Below.refl _ _)⟩
    case round =>
      obtain ⟨k, hk, rfl, rfl, Hn, HB⟩ := hrel
      by_cases hlt : k < l.length
      · have hkn : (k : Int) < (l.length : Int) := by omega
        have hkp : (k : Int) < (P.length : Int) := by have := HN.out; omega
        clear p0 p1
        obtain ⟨p0, p1⟩ := BP.out.keep (Keep.below HB.out)
        obtain ⟨b, o, rfl, q0⟩ := (HP.out.keep (Keep.below (HW.out.trans (HB.out.mono HW.out.size)))).at_ (k := k) (by have := HN.out; omega)
        cases n1 : within (listI P k) 0 13 with
        | false =>
          have hbad : plateBad P k = 2 := by unfold plateBad; rw [if_neg (by rw [n1]; decide)]
          have F := Lib.hid (plate_bad (l := l) (at_ := at_) HN.out (show fst (plateBad P) l.length = 2 from ((fst_hit hlt Hn.out (by rw [hbad]; decide)).1.trans hbad)))
          clear hbad
          go_wp2_with (go_at_call 34
                       refine (bwithin_any _ _ _ _).mono ?_
                       rintro e w' ⟨rfl, rfl⟩
                       rw [n1])
          go_ret2
          exact ⟨by rw [F.out]; rfl, HW.out.trans (HB.out.mono HW.out.size)⟩
        | true =>
          have hx := Fs.within_iff.1 n1
          have hw1 : IntKind.i64.wrap (listI P k + 1) = listI P k + 1 := by rw [IntKind.wrap_i64]; omega
          have F : Hid (plateBad P k = 0) := Lib.hid (by unfold plateBad; rw [if_pos n1])
          have G := Lib.hid (show countTo P (k + 1) = max (countTo P k) (listI P k + 1) from rfl)
          go_wp2_with (go_at_call 34
                       refine (bwithin_any _ _ _ _).mono ?_
                       rintro e w' ⟨rfl, rfl⟩
                       rw [n1])
          go_roundw
          case rel =>
            exact ⟨k + 1, by omega, by rw [G.out], by go_num, Lib.hid fun j hj => by
              by_cases e : j = k
              · subst e; exact F.out
              · exact Hn.out j (by omega), HB⟩
          case measure => simp [intOf]; omega
      · have HN0 := Lib.hid (show fst (plateBad P) l.length = 0 from fst_none fun j hj => Hn.out j (by omega))
        obtain rfl : k = l.length := by omega
        clear Hn hlt hk p0 p1
        obtain ⟨p0, p1⟩ := BP.out.keep (Keep.below HB.out)
        cases n1 : isClock at_ with
        | false =>
          have F := Lib.hid (plate_time HN.out HN0.out n1)
          go_wp2_with (go_at_call 27
                       refine (rIsTime_any _ _).mono ?_
                       rintro e w' ⟨rfl, rfl⟩
                       rw [n1])
          go_ret2
          exact ⟨by rw [F.out]; rfl, HW.out.trans (HB.out.mono HW.out.size)⟩
        | true =>
          have HA0 := Lib.hid n1
          go_wp2_with (go_at_call 27
                       refine (rIsTime_any _ _).mono ?_
                       rintro e w' ⟨rfl, rfl⟩
                       rw [n1])
          go_loopw [8] (fun i wr => ∃ k : Nat, k ≤ l.length ∧ i = .int .i64 k ∧ Hid (∀ j, j < k → ∀ i, i < j → ¬ plateClash l P j i) ∧ Hid (Below wb.heap.size wb wr)) (fun i _ => l.length - (intOf i).toNat)
          case atStart => exact ⟨0, Nat.zero_le _, rfl, Lib.hid fun j hj => absurd hj (Nat.not_lt_zero _), HB⟩
          case round =>
            clear HB p0 p1
            obtain ⟨k, hk, rfl, Hn, HB⟩ := hrel
            by_cases hlt : k < l.length
            · have hkn : (k : Int) < (l.length : Int) := by omega
              go_wp2_with fail
              go_loopw [9] (fun i wr => ∃ j : Nat, j ≤ k ∧ i = .int .i64 j ∧ Hid (∀ i, i < j → ¬ plateClash l P k i) ∧ Hid (Below wb.heap.size wb wr)) (fun i _ => k - (intOf i).toNat)
              case atStart => exact ⟨0, Nat.zero_le _, rfl, Lib.hid fun j hj => absurd hj (Nat.not_lt_zero _), HB⟩
              case round =>
                obtain ⟨j, hj, rfl, Hj, HB⟩ := hrel
                by_cases hjk : j < k
                · have d1 : decide ((j : Int) < (k : Int)) = true := decide_eq_true (by omega)
                  have hkj : (j : Int) < (l.length : Int) := by omega
                  have hpk : (k : Int) < (P.length : Int) := by have := HN.out; omega
                  have hpj : (j : Int) < (P.length : Int) := by have := HN.out; omega
                  have HWB := Lib.hid (HW.out.trans (HB.out.mono HW.out.size))
                  obtain ⟨p0, p1⟩ := BP.out.keep (Keep.below HB.out)
                  obtain ⟨b, o, rfl, r, q⟩ := (HA.out.keep (Keep.below HWB.out)).two (i := j) (by omega) hlt
                  obtain ⟨q0, q1, q2⟩ := q
                  obtain ⟨r0, r1, r2⟩ := r
                  obtain ⟨b2, o2, rfl, s0⟩ := (HP.out.keep (Keep.below HWB.out)).at_ (k := k) (by have := HN.out; omega)
                  obtain ⟨b3, o3, e3, s1⟩ := (HP.out.keep (Keep.below HWB.out)).at_ (k := j) (by have := HN.out; omega)
                  obtain ⟨rfl, rfl⟩ : b2 = b3 ∧ o2 = o3 := by simpa using e3
                  clear e3
                  by_cases hc : plateClash l P k j
                  · have F := Lib.hid (plate_clash HN.out HN0.out HA0.out ⟨k, hlt, j, hjk, hc⟩)
                    obtain ⟨ho, hs⟩ := hc
                    have e1 : (listI P k == listI P j) = true := by simpa using hs
                    clear hs
                    obtain ⟨wq, hwq⟩ : ∃ wq, wq = wr := ⟨_, rfl⟩
                    subst hwq
                    go_wp2_with fail
                    obtain ⟨C, Ci, Co⟩ := classOf wq
                    refine quietC (C := C) (by kernel_rfl) (by kernel_rfl) (Co.out _ (Below.refl _ _).drew) ?_
                    repeat (first
                      | go_big_quiet_skip
                      | (go_big_quiet_want; go_big_quiet_op; go_big_quiet_on)
                      | (refine quiet_yes (by rfl) ?_
                         apply Exists.intro
                         refine ⟨fun w' hC => ?_, ?_⟩
                         · have hbb := Ci.out _ hC
                           have zz0 := Keep.below hbb _ _ q0
                           have zz1 := Keep.below hbb _ _ q1
                           have zz2 := Keep.below hbb _ _ q2
                           have zz3 := Keep.below hbb _ _ r0
                           have zz4 := Keep.below hbb _ _ r1
                           have zz5 := Keep.below hbb _ _ r2
                           have zz6 := Keep.below hbb _ _ p0
                           have zz7 := Keep.below hbb _ _ s0
                           have zz8 := Keep.below hbb _ _ s1
                           go_simp
                           first
                             | done
                             | rfl
                             | (go_at_call 126
                                refine (rOverlap_any (listW l k) (listW l j) _).mono ?_
                                rintro e' w1 ⟨rfl, hb1⟩
                                rw [ho]
                                exact ⟨rfl, Co.out _ (hbb.trans (hb1.mono hbb.size))⟩)
                         simp only [Act.put, List.setIfInBounds_toArray, List.set_cons_zero, List.set_cons_succ]))
                    refine wpQuiet_nil ?_
                    intro wz hC1
                    have HX := Lib.hid (HB.out.trans ((Ci.out _ hC1).mono HB.out.size))
                    clear hC1 Ci Co
                    go_wp2_with fail
                    go_ret2
                    exact ⟨by rw [F.out]; rfl, HW.out.trans (HX.out.mono HW.out.size)⟩
                  · have G : Hid (∀ i, i < j + 1 → ¬ plateClash l P k i) := Lib.hid fun i hi => by
                      by_cases e : i = j
                      · subst e; exact hc
                      · exact Hj.out i (by omega)
                    cases ho : overlapB (listW l k) (listW l j) with
                    | true =>
                      have e1 : (listI P k == listI P j) = false := by simpa using fun hs => hc ⟨ho, hs⟩
                      clear hc
                      obtain ⟨wq, hwq⟩ : ∃ wq, wq = wr := ⟨_, rfl⟩
                      subst hwq
                      go_wp2_with fail
                      obtain ⟨C, Ci, Co⟩ := classOf wq
                      refine quietC (C := C) (by kernel_rfl) (by kernel_rfl) (Co.out _ (Below.refl _ _).drew) ?_
                      repeat (first
                        | go_big_quiet_skip
                        | (go_big_quiet_want; go_big_quiet_op; go_big_quiet_on)
                        | (refine quiet_yes (by rfl) ?_
                           apply Exists.intro
                           refine ⟨fun w' hC => ?_, ?_⟩
                           · have hbb := Ci.out _ hC
                             have zz0 := Keep.below hbb _ _ q0
                             have zz1 := Keep.below hbb _ _ q1
                             have zz2 := Keep.below hbb _ _ q2
                             have zz3 := Keep.below hbb _ _ r0
                             have zz4 := Keep.below hbb _ _ r1
                             have zz5 := Keep.below hbb _ _ r2
                             have zz6 := Keep.below hbb _ _ p0
                             have zz7 := Keep.below hbb _ _ s0
                             have zz8 := Keep.below hbb _ _ s1
                             go_simp
                             first
                               | done
                               | rfl
                               | (go_at_call 126
                                  refine (rOverlap_any (listW l k) (listW l j) _).mono ?_
                                  rintro e' w1 ⟨rfl, hb1⟩
                                  rw [ho]
                                  exact ⟨rfl, Co.out _ (hbb.trans (hb1.mono hbb.size))⟩)
                           simp only [Act.put, List.setIfInBounds_toArray, List.set_cons_zero, List.set_cons_succ]))
                      refine wpQuiet_nil ?_
                      intro wz hC1
                      have HX := Lib.hid (HB.out.trans ((Ci.out _ hC1).mono HB.out.size))
                      clear hC1 Ci Co
                      go_wp2_with fail
                      go_roundw
                      case rel => exact ⟨j + 1, by omega, by go_num, G, HX⟩
                      case measure => simp [intOf]; omega
                    | false =>
                      clear hc
                      obtain ⟨wq, hwq⟩ : ∃ wq, wq = wr := ⟨_, rfl⟩
                      subst hwq
                      go_wp2_with fail
                      obtain ⟨C, Ci, Co⟩ := classOf wq
                      refine quietC (C := C) (by kernel_rfl) (by kernel_rfl) (Co.out _ (Below.refl _ _).drew) ?_
                      repeat (first
                        | go_big_quiet_skip
                        | (go_big_quiet_want; go_big_quiet_op; go_big_quiet_on)
                        | (refine quiet_yes (by rfl) ?_
                           apply Exists.intro
                           refine ⟨fun w' hC => ?_, ?_⟩
                           · have hbb := Ci.out _ hC
                             have zz0 := Keep.below hbb _ _ q0
                             have zz1 := Keep.below hbb _ _ q1
                             have zz2 := Keep.below hbb _ _ q2
                             have zz3 := Keep.below hbb _ _ r0
                             have zz4 := Keep.below hbb _ _ r1
                             have zz5 := Keep.below hbb _ _ r2
                             have zz6 := Keep.below hbb _ _ p0
                             have zz7 := Keep.below hbb _ _ s0
                             have zz8 := Keep.below hbb _ _ s1
                             go_simp
                             first
                               | done
                               | rfl
                               | (go_at_call 126
                                  refine (rOverlap_any (listW l k) (listW l j) _).mono ?_
                                  rintro e' w1 ⟨rfl, hb1⟩
                                  rw [ho]
                                  exact ⟨rfl, Co.out _ (hbb.trans (hb1.mono hbb.size))⟩)
                           simp only [Act.put, List.setIfInBounds_toArray, List.set_cons_zero, List.set_cons_succ]))
                      refine wpQuiet_nil ?_
                      intro wz hC1
                      have HX := Lib.hid (HB.out.trans ((Ci.out _ hC1).mono HB.out.size))
                      clear hC1 Ci Co
                      go_wp2_with fail
                      go_roundw
                      case rel => exact ⟨j + 1, by omega, by go_num, G, HX⟩
                      case measure => simp [intOf]; omega
                · have d1 : decide ((j : Int) < (k : Int)) = false := decide_eq_false (by omega)
                  go_wp2_with fail
                  go_roundw
                  case rel =>
                    exact ⟨k + 1, by omega, by go_num, Lib.hid fun j hj => by
                      by_cases e : j = k
                      · subst e; exact fun i hi => Hj.out i (by omega)
                      · exact Hn.out j (by omega), HB⟩
                  case measure => simp [intOf]; omega
            · have F0 := Lib.hid (plate_fine HN.out HN0.out HA0.out (fun ⟨i, h1, j, h2, h3⟩ => Hn.out i (by omega) j h2 h3))
              obtain ⟨p0, p1⟩ := BP.out.keep (Keep.below HB.out)
              go_wp2_with fail
              refine (rAt_any l at_ A c _ (HA.out.keep (Keep.below (HW.out.trans (HB.out.mono HW.out.size)))) HS.out).mono ?_
              rintro e' w1 ⟨rfl, hb1⟩
              have HB1 := Lib.hid (HB.out.trans (hb1.mono HB.out.size))
              clear hb1 p0 p1
              by_cases he : atTo l at_ l.length = countTo P l.length
              · have F := Lib.hid (F0.out.trans (if_neg (fun hh => hh he)))
                have e1 : (atTo l at_ l.length == countTo P l.length) = true := by simpa using he
                have e2 : (atTo l at_ l.length != countTo P l.length) = false := by simpa using he
                clear he
                go_wp2_with fail
                go_ret2
                exact ⟨by rw [F.out]; rfl, HW.out.trans (HB1.out.mono HW.out.size)⟩
              · have F := Lib.hid (F0.out.trans (if_pos he))
                have e1 : (atTo l at_ l.length == countTo P l.length) = false := by simpa using he
                have e2 : (atTo l at_ l.length != countTo P l.length) = true := by simpa using he
                clear he
                go_wp2_with fail
                go_ret2
                exact ⟨by rw [F.out]; rfl, HW.out.trans (HB1.out.mono HW.out.size)⟩
  · have F := Lib.hid (show checkPlates l P at_ = (0, 10) from if_pos hn)
    have d1 : ((P.length : Int) == (l.length : Int)) = false := by simp; omega
    have d2 : ((P.length : Int) != (l.length : Int)) = true := by simp; omega
    clear hn
    go_wp2_with fail
    go_ret2
    exact ⟨by rw [F.out]; rfl, HW.out⟩
end Go.Proofs.Ytaihiahoedpbiaa
/- The reference's Joined. Condition: both lists are right. -/
namespace Go.Proofs.Ytaihiahoedpbiaa
open Go.RowKit Fs

def Fs.mergeL : List WRec → List WRec → List WRec
  | [], b => b
  | x :: a, [] => x :: a
  | x :: a, y :: b => if x.beg < y.beg then x :: mergeL a (y :: b) else y :: mergeL (x :: a) b
termination_by a b => a.length + b.length
open Classical in
noncomputable def Fs.djoinErr (a b : List WRec) : Int :=
  if 0 < a.length ∧ 0 < b.length ∧ (listW a 0).who ≠ (listW b 0).who then 13
  else if ∃ i, i < a.length ∧ ∃ k, k < b.length ∧ overlapB (listW a i) (listW b k) = true then 26
  else if 40 < a.length + b.length then 8 else 0
open Classical in
noncomputable def Fs.clash0 (a b : List WRec) : Bool := decide (0 < a.length ∧ 0 < b.length ∧ (listW a 0).who ≠ (listW b 0).who)
theorem clash0_yes {a b : List WRec} (h : 0 < a.length ∧ 0 < b.length ∧ (listW a 0).who ≠ (listW b 0).who) : clash0 a b = true := by unfold clash0; simpa using h
theorem clash0_no {a b : List WRec} (h : ¬ (0 < a.length ∧ 0 < b.length ∧ (listW a 0).who ≠ (listW b 0).who)) : clash0 a b = false := by unfold clash0; simp only [decide_eq_false_iff_not]; exact h
theorem clash0_is {a b : List WRec} (h : clash0 a b = true) : 0 < a.length ∧ 0 < b.length ∧ (listW a 0).who ≠ (listW b 0).who := by unfold clash0 at h; simpa using h
theorem clash0_isno {a b : List WRec} (h : clash0 a b = false) : ¬ (0 < a.length ∧ 0 < b.length ∧ (listW a 0).who ≠ (listW b 0).who) := by unfold clash0 at h; simpa only [decide_eq_false_iff_not] using h
theorem Fs.drop_w {l : List WRec} {i : Nat} (h : i < l.length) : l.drop i = listW l i :: l.drop (i + 1) := by
  rw [List.drop_eq_getElem_cons h]
  congr 1
  have := listW_get h
  rw [List.getElem?_eq_getElem h] at this
  exact Option.some.inj this
theorem Fs.mergeL_nil (a : List WRec) : mergeL a [] = a := by cases a <;> simp [mergeL]
theorem Fs.mergeL_none (b : List WRec) : mergeL [] b = b := by simp [mergeL]
theorem merge_a {a b out : List WRec} {i k : Nat} (hi : i < a.length) (hk : k < b.length) (h : (listW a i).beg < (listW b k).beg) : out ++ ([listW a i] ++ mergeL (a.drop (i + 1)) (b.drop k)) = out ++ mergeL (a.drop i) (b.drop k) := by
  rw [drop_w hi, drop_w hk, mergeL, if_pos h]
  rfl
theorem merge_b {a b out : List WRec} {i k : Nat} (hi : i < a.length) (hk : k < b.length) (h : ¬ (listW a i).beg < (listW b k).beg) : out ++ ([listW b k] ++ mergeL (a.drop i) (b.drop (k + 1))) = out ++ mergeL (a.drop i) (b.drop k) := by
  rw [drop_w hi, drop_w hk, mergeL, if_neg h]
  rfl
theorem merge_nb {a b out : List WRec} {i k : Nat} (hi : a.length ≤ i) (hk : k < b.length) : out ++ ([listW b k] ++ mergeL (a.drop i) (b.drop (k + 1))) = out ++ mergeL (a.drop i) (b.drop k) := by
  rw [List.drop_eq_nil_of_le hi, mergeL_none, mergeL_none, drop_w hk]
  rfl
theorem merge_na {a b out : List WRec} {i k : Nat} (hi : i < a.length) (hk : b.length ≤ k) : out ++ ([listW a i] ++ mergeL (a.drop (i + 1)) (b.drop k)) = out ++ mergeL (a.drop i) (b.drop k) := by
  rw [List.drop_eq_nil_of_le hk, mergeL_nil, mergeL_nil, drop_w hi]
  rfl
theorem recFlat_more (l : List WRec) (x : WRec) : recFlat (l ++ [x]) = recFlat l ++ [.string x.who, .int .i64 x.beg, .int .i64 x.fin] := by
  rw [show [Value.string x.who, .int .i64 x.beg, .int .i64 x.fin] = flat 1 3 (fun _ j => recCells x j) from rfl]
  unfold recFlat
  have h := flat_join (n := l.length) (m := 1) (size := 3) (C := fun i j => recCells (listW l i) j) (D := fun _ j => recCells x j) (E := fun i j => recCells (listW (l ++ [x]) i) j) (by decide) (fun i j hi _ => by rw [listW_left hi]) (fun i j hi _ => by
    have e : i = 0 := by omega
    subst e
    rw [Nat.add_zero, listW_last])
  rw [h, List.length_append, List.length_singleton]
theorem recOne (x : WRec) : ∀ u ∈ [Value.string x.who, .int .i64 x.beg, .int .i64 x.fin], u.oneCell' = true := by
  intro u hu
  simp at hu
  rcases hu with rfl | rfl | rfl <;> rfl
set_option linter.unusedSimpArgs false in
set_option maxHeartbeats 12800000 in
set_option maxRecDepth 100000 in
theorem rJoined_any (a b : List WRec) (A B : Option Addr) (c d : Nat) (w : World) (h : ArrW w A a c) (h' : ArrW w B b d) (hna : a.length ≤ 40) (hnb : b.length ≤ 40) :
    Calls Try.prog 41 #[.slice A a.length c, .slice B b.length d] w fun e w' => (∃ v, e = .returned (.tuple #[v, .int .i64 (djoinErr a b)]) ∧ (djoinErr a b ≠ 0 → v = .slice none 0 0) ∧ (djoinErr a b = 0 → w'.ownsRow w.heap.size 39 3 v (mergeL a b).length (recFlat (mergeL a b)))) ∧ Below w.heap.size w w' := by
  obtain ⟨i0, hi, hz0, hz1, hz2⟩ := info_parts Try.infoDRec
  have b1 := h.le.1
  have b2 := h.le.2
  have b3 := h'.le.1
  have b4 := h'.le.2
  have HA := Lib.hid h
  have HBB := Lib.hid h'
  clear h h'
  go_enter Try.func41, Try.ntmps41
  go_upto_region 1 with fail
  go_cut [29] from 11 to 29 (fun s wx => s = .bool (clash0 a b) ∧ Hid (Below w.heap.size w wx))
  case first =>
    by_cases ha : 0 < a.length
    · have x1 : decide ((a.length : Int) > 0) = true := decide_eq_true (by omega)
      have x2 : decide (0 < (a.length : Int)) = true := decide_eq_true (by omega)
      have x3 : decide (0 < a.length) = true := decide_eq_true (by omega)
      have x4 : decide (a.length = 0) = false := decide_eq_false (by omega)
      by_cases hb : 0 < b.length
      · have y1 : decide ((b.length : Int) > 0) = true := decide_eq_true (by omega)
        have y2 : decide (0 < (b.length : Int)) = true := decide_eq_true (by omega)
        have y3 : decide (0 < b.length) = true := decide_eq_true (by omega)
        have y4 : decide (b.length = 0) = false := decide_eq_false (by omega)
        have hka : (0 : Int) < (a.length : Int) := by omega
        have hkb : (0 : Int) < (b.length : Int) := by omega
        obtain ⟨b1', o1, rfl, q⟩ := HA.out.at_ ha
        obtain ⟨b2', o2, rfl, r⟩ := HBB.out.at_ hb
        obtain ⟨q0, q1, q2⟩ := q
        obtain ⟨r0, r1, r2⟩ := r
        simp only [Nat.zero_mul, Nat.add_zero] at q0 r0
        by_cases hw : (listW a 0).who = (listW b 0).who
        · have e1 := str_eq hw
          have e2 : ((listW a 0).who.toList != (listW b 0).who.toList) = false := by rw [bne, e1]; rfl
          have Z := Lib.hid (clash0_no (a := a) (b := b) fun hh => hh.2.2 hw)
          clear hw q1 q2 r1 r2
          go_wp2_with fail
          go_quiet (fail)
          go_wp2_with fail
          go_meet
          exact ⟨by rw [Z.out], Lib.hid (bdrewN (Below.refl _ _) _)⟩
        · have e1 := str_ne hw
          have e2 : ((listW a 0).who.toList != (listW b 0).who.toList) = true := by rw [bne, e1]; rfl
          have Z := Lib.hid (clash0_yes ⟨ha, hb, hw⟩)
          clear hw q1 q2 r1 r2
          go_wp2_with fail
          go_quiet (fail)
          go_wp2_with fail
          go_meet
          exact ⟨by rw [Z.out], Lib.hid (bdrewN (Below.refl _ _) _)⟩
      · have y1 : decide ((b.length : Int) > 0) = false := decide_eq_false (by omega)
        have y2 : decide (0 < (b.length : Int)) = false := decide_eq_false (by omega)
        have y3 : decide (0 < b.length) = false := decide_eq_false (by omega)
        have y4 : decide (b.length = 0) = true := decide_eq_true (by omega)
        have Z := Lib.hid (clash0_no (a := a) (b := b) fun hh => hb hh.2.1)
        go_wp2_with fail
        go_quiet (fail)
        go_wp2_with fail
        go_meet
        exact ⟨by rw [Z.out], Lib.hid (bdrewN (Below.refl _ _) _)⟩
    · have x1 : decide ((a.length : Int) > 0) = false := decide_eq_false (by omega)
      have x2 : decide (0 < (a.length : Int)) = false := decide_eq_false (by omega)
      have x3 : decide (0 < a.length) = false := decide_eq_false (by omega)
      have x4 : decide (a.length = 0) = true := decide_eq_true (by omega)
      have Z := Lib.hid (clash0_no (a := a) (b := b) fun hh => ha hh.1)
      go_wp2_with fail
      go_quiet (fail)
      go_wp2_with fail
      go_meet
      exact ⟨by rw [Z.out], Lib.hid (bdrewN (Below.refl _ _) _)⟩
  case rest =>
    obtain ⟨rfl, HB0⟩ := hcut
    cases hz : clash0 a b with
    | true =>
      have F := Lib.hid (show djoinErr a b = 13 from if_pos (clash0_is hz))
      clear hz
      go_wp2_with fail
      go_ret2
      exact ⟨⟨.slice none 0 0, by rw [F.out]; rfl, fun _ => rfl, fun hh => absurd (F.out.symm.trans hh) (by decide)⟩, HB0.out⟩
    | false =>
      have HZ := Lib.hid (clash0_isno hz)
      clear hz
      go_wp2_with fail
      go_loopw [6] (fun s wr => ∃ i : Nat, i ≤ a.length ∧ s = .int .i64 i ∧ Hid (∀ j, j < i → ∀ k, k < b.length → overlapB (listW a j) (listW b k) ≠ true) ∧ Hid (Below w.heap.size w wr)) (fun s _ => a.length - (intOf s).toNat)
      case atStart => exact ⟨0, Nat.zero_le _, rfl, Lib.hid fun j hj => absurd hj (Nat.not_lt_zero _), HB0⟩
      case round =>
        obtain ⟨i, hi', rfl, Hn, HB⟩ := hrel
        by_cases hia : i < a.length
        · have hka : (i : Int) < (a.length : Int) := by omega
          go_wp2_with fail
          go_loopw [7] (fun s wr => ∃ k : Nat, k ≤ b.length ∧ s = .int .i64 k ∧ Hid (∀ j, j < k → overlapB (listW a i) (listW b j) ≠ true) ∧ Hid (Below w.heap.size w wr)) (fun s _ => b.length - (intOf s).toNat)
          case atStart => exact ⟨0, Nat.zero_le _, rfl, Lib.hid fun j hj => absurd hj (Nat.not_lt_zero _), HB⟩
          case round =>
            obtain ⟨k, hk, rfl, Hk, HB⟩ := hrel
            by_cases hib : k < b.length
            · have hkb : (k : Int) < (b.length : Int) := by omega
              obtain ⟨b1', o1, rfl, q⟩ := (HA.out.keep (Keep.below HB.out)).at_ hia
              obtain ⟨b2', o2, rfl, r⟩ := (HBB.out.keep (Keep.below HB.out)).at_ hib
              obtain ⟨q0, q1, q2⟩ := q
              obtain ⟨r0, r1, r2⟩ := r
              by_cases h1 : (listW a i).beg < (listW b k).fin
              · have e1 : decide ((listW a i).beg < (listW b k).fin) = true := decide_eq_true h1
                by_cases h2 : (listW b k).beg < (listW a i).fin
                · have e2 : decide ((listW b k).beg < (listW a i).fin) = true := decide_eq_true h2
                  have F := Lib.hid (show djoinErr a b = 26 by unfold djoinErr; rw [if_neg HZ.out, if_pos ⟨i, hia, k, hib, by unfold overlapB; rw [e1, e2]; rfl⟩])
                  clear h1 h2
                  go_wp2_with fail
                  go_quiet (fail)
                  go_wp2_with fail
                  go_ret2
                  exact ⟨⟨.slice none 0 0, by rw [F.out]; rfl, fun _ => rfl, fun hh => absurd (F.out.symm.trans hh) (by decide)⟩, bdrewN HB.out _⟩
                · have e2 : decide ((listW b k).beg < (listW a i).fin) = false := decide_eq_false h2
                  have G : Hid (overlapB (listW a i) (listW b k) ≠ true) := Lib.hid (by unfold overlapB; rw [e1, e2]; decide)
                  clear h1 h2
                  go_wp2_with fail
                  go_quiet (fail)
                  go_wp2_with fail
                  go_roundw
                  case rel =>
                    exact ⟨k + 1, by omega, by go_num, Lib.hid fun j hj => by
                      by_cases e : j = k
                      · subst e; exact G.out
                      · exact Hk.out j (by omega), Lib.hid (bdrewN HB.out _)⟩
                  case measure => simp [intOf]; omega
              · have e1 : decide ((listW a i).beg < (listW b k).fin) = false := decide_eq_false h1
                have G : Hid (overlapB (listW a i) (listW b k) ≠ true) := Lib.hid (by unfold overlapB; rw [e1, Bool.false_and]; decide)
                clear h1
                go_wp2_with fail
                go_quiet (fail)
                go_wp2_with fail
                go_roundw
                case rel =>
                  exact ⟨k + 1, by omega, by go_num, Lib.hid fun j hj => by
                    by_cases e : j = k
                    · subst e; exact G.out
                    · exact Hk.out j (by omega), Lib.hid (bdrewN HB.out _)⟩
                case measure => simp [intOf]; omega
            · go_wp2_with fail
              go_roundw
              case rel =>
                exact ⟨i + 1, by omega, by go_num, Lib.hid fun j hj => by
                  by_cases e : j = i
                  · subst e; exact fun k hk => Hk.out k (by omega)
                  · exact Hn.out j (by omega), HB⟩
              case measure => simp [intOf]; omega
        · have HNO := Lib.hid (show ¬ ∃ i, i < a.length ∧ ∃ k, k < b.length ∧ overlapB (listW a i) (listW b k) = true from fun ⟨j, h1, k, h2, h3⟩ => Hn.out j (by omega) k h2 h3)
          clear Hn
          have hws : IntKind.i64.wrap ((a.length : Int) + (b.length : Int)) = (a.length : Int) + (b.length : Int) := by rw [IntKind.wrap_i64]; omega
          by_cases h40 : 40 < a.length + b.length
          · have F := Lib.hid (show djoinErr a b = 8 by unfold djoinErr; rw [if_neg HZ.out, if_neg HNO.out, if_pos h40])
            have d1 : decide ((a.length : Int) + (b.length : Int) > 40) = true := decide_eq_true (by omega)
            have d2 : decide (40 < (a.length : Int) + (b.length : Int)) = true := decide_eq_true (by omega)
            clear h40
            go_wp2_with fail
            go_ret2
            exact ⟨⟨.slice none 0 0, by rw [F.out]; rfl, fun _ => rfl, fun hh => absurd (F.out.symm.trans hh) (by decide)⟩, HB.out⟩
          · have F0 := Lib.hid (show djoinErr a b = 0 by unfold djoinErr; rw [if_neg HZ.out, if_neg HNO.out, if_neg h40])
            have d1 : decide ((a.length : Int) + (b.length : Int) > 40) = false := decide_eq_false (by omega)
            have d2 : decide (40 < (a.length : Int) + (b.length : Int)) = false := decide_eq_false (by omega)
            have d3 : decide (40 < a.length + b.length) = false := decide_eq_false (by omega)
            go_wp2_with fail
            clear d1 d2 d3 hws hia hi'
            go_loopw [8, 9, 10] (fun v s u wr => ∃ (i k : Nat) (out : List WRec), i ≤ a.length ∧ k ≤ b.length ∧ s = .int .i64 i ∧ u = .int .i64 k ∧ Hid (out.length = i + k) ∧ Hid (out ++ mergeL (a.drop i) (b.drop k) = mergeL a b) ∧ Hid (wr.ownsRow w.heap.size 39 3 v out.length (recFlat out)) ∧ Hid (Below w.heap.size w wr)) (fun _ s u _ => a.length + b.length - ((intOf s).toNat + (intOf u).toNat))
            case atStart => exact ⟨0, 0, [], Nat.zero_le _, Nat.zero_le _, rfl, rfl, Lib.hid rfl, Lib.hid rfl, Lib.hid (World.ownsRow_nil _ _ _ _), HB⟩
            case round =>
              clear HB
              obtain ⟨i, k, out, hi1, hk1, rfl, rfl, HLO, HM, HO, HB⟩ := hrel
              have hol := HLO.out
              have HD := Lib.hid (fun n => below_of_own HO.out (bdrewN (Below.refl _ _) n))
              by_cases hib : k < b.length
              · have d2 : decide ((k : Int) < (b.length : Int)) = true := decide_eq_true (by omega)
                have d2n : decide (k < b.length) = true := decide_eq_true (by omega)
                have d4 : ((k : Int) == (b.length : Int)) = false := by simp; omega
                have hkb : (k : Int) < (b.length : Int) := by omega
                obtain ⟨b2, o2, rfl, r⟩ := (HBB.out.keep (Keep.below HB.out)).at_ hib
                obtain ⟨r0, r1, r2⟩ := r
                by_cases hia : i < a.length
                · have d1 : decide ((i : Int) < (a.length : Int)) = true := decide_eq_true (by omega)
                  have d1n : decide (i < a.length) = true := decide_eq_true (by omega)
                  have hka : (i : Int) < (a.length : Int) := by omega
                  obtain ⟨b1', o1, rfl, q⟩ := (HA.out.keep (Keep.below HB.out)).at_ hia
                  obtain ⟨q0, q1, q2⟩ := q
                  by_cases hc : (listW a i).beg < (listW b k).beg
                  · have d3 : decide ((listW a i).beg < (listW b k).beg) = true := decide_eq_true hc
                    have HG := Lib.hid ((merge_a (out := out) hia hib hc).trans HM.out)
                    clear hc
                    go_wp2_with fail
                    go_quiet (fail)
                    go_wp2_with (at_builtin
                                 refine wpList_append_own _ rfl (.tmp 105) (.tmp 110) 24 rfl w.heap.size 39 i0 _ 3 32 Try.underlying24 hi hz0 hz1 hz2 rfl (by decide) _ _ _ rfl ((HD.out _).alloc _) ⟨_, 0, none⟩ 1 1 [.string (listW a i).who, .int .i64 (listW a i).beg, .int .i64 (listW a i).fin] rfl rfl ?c1 ?c2 ?c3 ?c4 ?c5 ?_)
                    case c1 => exact World.news_of_block (heap_alloc_new _ _)
                    case c2 => exact recOne _
                    case c3 => unfold maxLen; omega
                    case c4 => omega
                    case c5 => have := HB.out.size; simp; omega
                    intro v9 w9 ho9 hg9 _
                    go_wp2_with fail
                    go_roundw
                    case rel =>
                      refine ⟨i + 1, k, out ++ [listW a i], by omega, by omega, by go_num, by go_num, Lib.hid ?_, Lib.hid ?_, Lib.hid ?_, Lib.hid ?_⟩
                      · rw [List.length_append, HLO.out, List.length_singleton]; omega
                      · rw [List.append_assoc]; exact HG.out
                      · rw [recFlat_more, List.length_append, HLO.out]
                        exact ho9
                      · exact ((bdrewN HB.out _).alloc (bdrewN HB.out _).size _).grown hg9 (by have := HB.out.size; simp; omega) (fun j hj => ((HD.out 0).lt j hj).1)
                    case measure => simp [intOf]; omega
                  · have d3 : decide ((listW a i).beg < (listW b k).beg) = false := decide_eq_false hc
                    have HG := Lib.hid ((merge_b (out := out) hia hib hc).trans HM.out)
                    clear hc
                    go_wp2_with fail
                    go_quiet (fail)
                    go_wp2_with (at_builtin
                                 refine wpList_append_own _ rfl (.tmp 114) (.tmp 119) 24 rfl w.heap.size 39 i0 _ 3 32 Try.underlying24 hi hz0 hz1 hz2 rfl (by decide) _ _ _ rfl ((HD.out _).alloc _) ⟨_, 0, none⟩ 1 1 [.string (listW b k).who, .int .i64 (listW b k).beg, .int .i64 (listW b k).fin] rfl rfl ?c1 ?c2 ?c3 ?c4 ?c5 ?_)
                    case c1 => exact World.news_of_block (heap_alloc_new _ _)
                    case c2 => exact recOne _
                    case c3 => unfold maxLen; omega
                    case c4 => omega
                    case c5 => have := HB.out.size; simp; omega
                    intro v9 w9 ho9 hg9 _
                    go_wp2_with fail
                    go_roundw
                    case rel =>
                      refine ⟨i, k + 1, out ++ [listW b k], by omega, by omega, by go_num, by go_num, Lib.hid ?_, Lib.hid ?_, Lib.hid ?_, Lib.hid ?_⟩
                      · rw [List.length_append, HLO.out, List.length_singleton]; omega
                      · rw [List.append_assoc]; exact HG.out
                      · rw [recFlat_more, List.length_append, HLO.out]
                        exact ho9
                      · exact ((bdrewN HB.out _).alloc (bdrewN HB.out _).size _).grown hg9 (by have := HB.out.size; simp; omega) (fun j hj => ((HD.out 0).lt j hj).1)
                    case measure => simp [intOf]; omega
                · have d1 : decide ((i : Int) < (a.length : Int)) = false := decide_eq_false (by omega)
                  have d1n : decide (i < a.length) = false := decide_eq_false (by omega)
                  have HG := Lib.hid ((merge_nb (out := out) (i := i) (by omega) hib).trans HM.out)
                  go_wp2_with fail
                  go_quiet (fail)
                  go_wp2_with (at_builtin
                               refine wpList_append_own _ rfl (.tmp 114) (.tmp 119) 24 rfl w.heap.size 39 i0 _ 3 32 Try.underlying24 hi hz0 hz1 hz2 rfl (by decide) _ _ _ rfl ((HD.out _).alloc _) ⟨_, 0, none⟩ 1 1 [.string (listW b k).who, .int .i64 (listW b k).beg, .int .i64 (listW b k).fin] rfl rfl ?c1 ?c2 ?c3 ?c4 ?c5 ?_)
                  case c1 => exact World.news_of_block (heap_alloc_new _ _)
                  case c2 => exact recOne _
                  case c3 => unfold maxLen; omega
                  case c4 => omega
                  case c5 => have := HB.out.size; simp; omega
                  intro v9 w9 ho9 hg9 _
                  go_wp2_with fail
                  go_roundw
                  case rel =>
                    refine ⟨i, k + 1, out ++ [listW b k], by omega, by omega, by go_num, by go_num, Lib.hid ?_, Lib.hid ?_, Lib.hid ?_, Lib.hid ?_⟩
                    · rw [List.length_append, HLO.out, List.length_singleton]; omega
                    · rw [List.append_assoc]; exact HG.out
                    · rw [recFlat_more, List.length_append, HLO.out]
                      exact ho9
                    · exact ((bdrewN HB.out _).alloc (bdrewN HB.out _).size _).grown hg9 (by have := HB.out.size; simp; omega) (fun j hj => ((HD.out 0).lt j hj).1)
                  case measure => simp [intOf]; omega
              · by_cases hia : i < a.length
                · have d1 : decide ((i : Int) < (a.length : Int)) = true := decide_eq_true (by omega)
                  have d1n : decide (i < a.length) = true := decide_eq_true (by omega)
                  have d2 : decide ((k : Int) < (b.length : Int)) = false := decide_eq_false (by omega)
                  have d2n : decide (k < b.length) = false := decide_eq_false (by omega)
                  have d4 : ((k : Int) == (b.length : Int)) = true := by simp; omega
                  have hka : (i : Int) < (a.length : Int) := by omega
                  obtain ⟨b1', o1, rfl, q⟩ := (HA.out.keep (Keep.below HB.out)).at_ hia
                  obtain ⟨q0, q1, q2⟩ := q
                  have HG := Lib.hid ((merge_na (out := out) hia (k := k) (by omega)).trans HM.out)
                  go_wp2_with fail
                  go_quiet (fail)
                  go_wp2_with (at_builtin
                               refine wpList_append_own _ rfl (.tmp 105) (.tmp 110) 24 rfl w.heap.size 39 i0 _ 3 32 Try.underlying24 hi hz0 hz1 hz2 rfl (by decide) _ _ _ rfl ((HD.out _).alloc _) ⟨_, 0, none⟩ 1 1 [.string (listW a i).who, .int .i64 (listW a i).beg, .int .i64 (listW a i).fin] rfl rfl ?c1 ?c2 ?c3 ?c4 ?c5 ?_)
                  case c1 => exact World.news_of_block (heap_alloc_new _ _)
                  case c2 => exact recOne _
                  case c3 => unfold maxLen; omega
                  case c4 => omega
                  case c5 => have := HB.out.size; simp; omega
                  intro v9 w9 ho9 hg9 _
                  go_wp2_with fail
                  go_roundw
                  case rel =>
                    refine ⟨i + 1, k, out ++ [listW a i], by omega, by omega, by go_num, by go_num, Lib.hid ?_, Lib.hid ?_, Lib.hid ?_, Lib.hid ?_⟩
                    · rw [List.length_append, HLO.out, List.length_singleton]; omega
                    · rw [List.append_assoc]; exact HG.out
                    · rw [recFlat_more, List.length_append, HLO.out]
                      exact ho9
                    · exact ((bdrewN HB.out _).alloc (bdrewN HB.out _).size _).grown hg9 (by have := HB.out.size; simp; omega) (fun j hj => ((HD.out 0).lt j hj).1)
                  case measure => simp [intOf]; omega
                · have d1 : decide ((i : Int) < (a.length : Int)) = false := decide_eq_false (by omega)
                  have d1n : decide (i < a.length) = false := decide_eq_false (by omega)
                  have d2 : decide ((k : Int) < (b.length : Int)) = false := decide_eq_false (by omega)
                  have d2n : decide (k < b.length) = false := decide_eq_false (by omega)
                  have hend : out = mergeL a b := by have := HM.out; rw [List.drop_eq_nil_of_le (by omega), List.drop_eq_nil_of_le (by omega)] at this; rw [← this, mergeL, List.append_nil]
                  go_wp2_with fail
                  go_ret2
                  exact ⟨⟨_, by rw [F0.out]; rfl, fun hh => absurd F0.out hh, fun _ => by rw [← hend]; exact HO.out⟩, HB.out⟩
end Go.Proofs.Ytaihiahoedpbiaa
/- The reference's weekly: the work of the week up to a trip's end. Condition: records are right, the numbers small. -/
namespace Go.Proofs.Ytaihiahoedpbiaa
open Go.RowKit Fs

def Fs.weekly (l : List WRec) (s n : Int) : Int := n + workTo l (s + n - 604800) s l.length
set_option maxHeartbeats 1600000 in
theorem rWeekly_any (l : List WRec) (s n : Int) (A : Option Addr) (c : Nat) (w : World) (h : ArrW w A l c) (hR : Right l) (hs : 0 ≤ s ∧ s ≤ 8640000000) (hn : 0 ≤ n ∧ n ≤ 200000) :
    Calls Try.prog 95 #[.slice A l.length c, .int .i64 s, .int .i64 n] w fun e w' => e = .returned (.int .i64 (weekly l s n)) ∧ Below w.heap.size w w' := by
  have x1 := workTo_is hR.fit (s + n - 604800) s l.length (Nat.le_refl _)
  have x2 := hR.len
  have F := Lib.hid (show weekly l s n = n + workTo l (s + n - 604800) s l.length from rfl)
  have hw1 : IntKind.i64.wrap (s + n) = s + n := by rw [IntKind.wrap_i64]; omega
  have hw2 : IntKind.i64.wrap (s + n - 604800) = s + n - 604800 := by rw [IntKind.wrap_i64]; omega
  have hw3 : IntKind.i64.wrap (n + workTo l (s + n - 604800) s l.length) = n + workTo l (s + n - 604800) s l.length := by rw [IntKind.wrap_i64]; omega
  go_enter Try.func95, Try.ntmps95
  go_wp2_with fail
  refine (rWorkIn_any l A c l.length (s + n - 604800) s _ h hR.fit (Nat.le_refl _) (by omega) (by omega)).mono ?_
  rintro e' w1 ⟨rfl, hb1⟩
  have HW := Lib.hid hb1
  clear hb1
  go_wp2_with fail
  go_ret
  exact ⟨ret_int F.out.symm, HW.out⟩
/-- Below its end the week's work up to a trip's end has the trip itself: what brokenAt asks. -/
theorem Fs.weekly_is {l : List WRec} (h : Right l) {s n : Int} (hn : 0 ≤ n) (hs : 0 < l.length → (listW l (l.length - 1)).fin ≤ s) : workTo l (s + n - 604800) (s + n) l.length = workTo l (s + n - 604800) s l.length := by
  have hh : ∀ k, k ≤ l.length → workTo l (s + n - 604800) (s + n) k = workTo l (s + n - 604800) s k := by
    intro k
    induction k with
    | zero => intro _; rfl
    | succ k ih =>
      intro hk
      have h1 := fin_le h (l.length - 1) (by omega) k (by omega)
      have h2 := hs (by omega)
      rw [workTo_next, workTo_next, ih (by omega)]
      unfold overlapOf
      omega
  exact hh _ (Nat.le_refl _)
/-- A later start has no more work in its week: weekly does not rise. -/
theorem Fs.weekly_falls {l : List WRec} {s s' n : Int} (h : Right l) (hs : s ≤ s') (hl : 0 < l.length → (listW l (l.length - 1)).fin ≤ s) : weekly l s' n ≤ weekly l s n := by
  unfold weekly
  have hh : ∀ k, k ≤ l.length → workTo l (s' + n - 604800) s' k ≤ workTo l (s + n - 604800) s k := by
    intro k
    induction k with
    | zero => intro _; exact Int.le_refl _
    | succ k ih =>
      intro hk
      have h1 := fin_le h (l.length - 1) (by omega) k (by omega)
      have h2 := hl (by omega)
      have h3 := ih (by omega)
      rw [workTo_next, workTo_next]
      unfold overlapOf
      omega
  have := hh _ (Nat.le_refl _)
  omega
end Go.Proofs.Ytaihiahoedpbiaa

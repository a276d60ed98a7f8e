/- The small functions of the chapter's laws: few, tripErr, Rules, Ann. No condition. -/
import Derived.Test.YtaihiahoedpbiaaD6
import Derived.Laws.OwnMore
import Derived.ChangeKeysEq
namespace Go.Proofs.Ytaihiahoedpbiaa
open Go.RowKit Fs

def Fs.FewR (l : List WRec) : Prop := (l.length ≤ 12 ∨ (40 ≤ l.length ∧ l.length ≤ 42)) ∧ ∀ j, j < l.length → (listW l j).who.size ≤ 20
open Classical in
noncomputable def Fs.fewR (l : List WRec) : Bool := decide (FewR l)
theorem fewR_yes {l : List WRec} (h : FewR l) : fewR l = true := by unfold fewR; simpa using h
theorem fewR_no {l : List WRec} (h : ¬ FewR l) : fewR l = false := by unfold fewR; simpa using h
theorem fewR_is {l : List WRec} (h : fewR l = true) : FewR l := by unfold fewR at h; simpa using h
def Fs.lawTripErr (R : DRules) (l : List WRec) (t : DTrip) : Int := if bothErr R l ≠ 0 then bothErr R l else dtripErr R l t
theorem Fs.both_ok {R : DRules} {l : List WRec} (h : bothErr R l = 0) : drulesErr R = 0 ∧ recsErr true l = 0 := by
  unfold bothErr at h
  by_cases h1 : drulesErr R = 0
  · rw [if_neg (fun hh => hh h1)] at h; exact ⟨h1, h⟩
  · rw [if_pos h1] at h; exact absurd h h1
theorem Fs.lawTrip_ok {R : DRules} {l : List WRec} {t : DTrip} (h : lawTripErr R l t = 0) : bothErr R l = 0 ∧ dtripErr R l t = 0 := by
  unfold lawTripErr at h
  by_cases h1 : bothErr R l = 0
  · rw [if_neg (fun hh => hh h1)] at h; exact ⟨h1, h⟩
  · rw [if_pos h1] at h; exact absurd h h1

set_option linter.unusedSimpArgs false in
set_option maxHeartbeats 3200000 in
set_option maxRecDepth 100000 in
theorem lawFew_any (l : List WRec) (A : Option Addr) (c : Nat) (w : World) (h : ArrW w A l c) :
    Calls Try.prog 18 #[.slice A l.length c] w fun e w' => e = .returned (.bool (fewR l)) ∧ w = w' := by
  have b1 := h.le.1
  have b2 := h.le.2
  have HA := Lib.hid h
  clear h
  go_enter Try.func18, Try.ntmps18
  by_cases c1 : l.length ≤ 12
  · have da0 : decide ((l.length : Int) > 12) = false := decide_eq_false (by omega)
    have da1 : decide (12 < (l.length : Int)) = false := decide_eq_false (by omega)
    have da2 : decide (12 < l.length) = false := decide_eq_false (by omega)
    have dc0 : decide ((l.length : Int) > 42) = false := decide_eq_false (by omega)
    have dc1 : decide (42 < (l.length : Int)) = false := decide_eq_false (by omega)
    have dc2 : decide (42 < l.length) = false := decide_eq_false (by omega)
    have HN := Lib.hid (show l.length ≤ 12 ∨ (40 ≤ l.length ∧ l.length ≤ 42) by omega)
    go_wp2_with fail
    go_loop [3] (fun i => ∃ k : Nat, k ≤ l.length ∧ i = .int .i64 k ∧ Hid (∀ j, j < k → (listW l j).who.size ≤ 20)) (fun i => l.length - (intOf i).toNat)
    case atStart => exact ⟨0, Nat.zero_le _, rfl, Lib.hid fun j hj => absurd hj (Nat.not_lt_zero _)⟩
    case round =>
      obtain ⟨k, hk, rfl, Hn⟩ := hrel
      by_cases hlt : k < l.length
      · have hkn : (k : Int) < (l.length : Int) := by omega
        obtain ⟨b, o, rfl, q⟩ := HA.out.at_ hlt
        obtain ⟨q0, q1, q2⟩ := q
        by_cases hx : (listW l k).who.size ≤ 20
        · have e1 : decide (((listW l k).who.size : Int) > 20) = false := decide_eq_false (by omega)
          have e2 : decide (20 < (listW l k).who.size) = false := decide_eq_false (by omega)
          have F : Hid (∀ j, j < k + 1 → (listW l j).who.size ≤ 20) := Lib.hid fun j hj => by
            by_cases e : j = k
            · subst e; exact hx
            · exact Hn.out j (by omega)
          go_wp2_with fail
          go_round
          case rel => exact ⟨k + 1, by omega, by go_num, F⟩
          case measure => simp [intOf]; omega
        · have e1 : decide (((listW l k).who.size : Int) > 20) = true := decide_eq_true (by omega)
          have e2 : decide (20 < (listW l k).who.size) = true := decide_eq_true (by omega)
          have F := Lib.hid (fewR_no (l := l) fun hh => hx (hh.2 k hlt))
          clear hx
          go_wp2_with fail
          go_ret
          exact ⟨ret_bool F.out.symm, rfl⟩
      · have F := Lib.hid (fewR_yes (l := l) ⟨HN.out, fun j hj => Hn.out j (by omega)⟩)
        go_wp2_with fail
        go_ret
        exact ⟨ret_bool F.out.symm, rfl⟩
  · have da0 : decide ((l.length : Int) > 12) = true := decide_eq_true (by omega)
    have da1 : decide (12 < (l.length : Int)) = true := decide_eq_true (by omega)
    have da2 : decide (12 < l.length) = true := decide_eq_true (by omega)
    by_cases c2 : l.length < 40
    · have db0 : decide ((l.length : Int) < 40) = true := decide_eq_true (by omega)
      have db1 : decide (l.length < 40) = true := decide_eq_true (by omega)
      have F := Lib.hid (fewR_no (l := l) fun hh => by have := hh.1; omega)
      go_wp2_with fail
      go_ret
      exact ⟨ret_bool F.out.symm, rfl⟩
    · have db0 : decide ((l.length : Int) < 40) = false := decide_eq_false (by omega)
      have db1 : decide (l.length < 40) = false := decide_eq_false (by omega)
      by_cases c3 : l.length ≤ 42
      · have dc0 : decide ((l.length : Int) > 42) = false := decide_eq_false (by omega)
        have dc1 : decide (42 < (l.length : Int)) = false := decide_eq_false (by omega)
        have dc2 : decide (42 < l.length) = false := decide_eq_false (by omega)
        have HN := Lib.hid (show l.length ≤ 12 ∨ (40 ≤ l.length ∧ l.length ≤ 42) by omega)
        go_wp2_with fail
        go_loop [3] (fun i => ∃ k : Nat, k ≤ l.length ∧ i = .int .i64 k ∧ Hid (∀ j, j < k → (listW l j).who.size ≤ 20)) (fun i => l.length - (intOf i).toNat)
        case atStart => exact ⟨0, Nat.zero_le _, rfl, Lib.hid fun j hj => absurd hj (Nat.not_lt_zero _)⟩
        case round =>
          obtain ⟨k, hk, rfl, Hn⟩ := hrel
          by_cases hlt : k < l.length
          · have hkn : (k : Int) < (l.length : Int) := by omega
            obtain ⟨b, o, rfl, q⟩ := HA.out.at_ hlt
            obtain ⟨q0, q1, q2⟩ := q
            by_cases hx : (listW l k).who.size ≤ 20
            · have e1 : decide (((listW l k).who.size : Int) > 20) = false := decide_eq_false (by omega)
              have e2 : decide (20 < (listW l k).who.size) = false := decide_eq_false (by omega)
              have F : Hid (∀ j, j < k + 1 → (listW l j).who.size ≤ 20) := Lib.hid fun j hj => by
                by_cases e : j = k
                · subst e; exact hx
                · exact Hn.out j (by omega)
              go_wp2_with fail
              go_round
              case rel => exact ⟨k + 1, by omega, by go_num, F⟩
              case measure => simp [intOf]; omega
            · have e1 : decide (((listW l k).who.size : Int) > 20) = true := decide_eq_true (by omega)
              have e2 : decide (20 < (listW l k).who.size) = true := decide_eq_true (by omega)
              have F := Lib.hid (fewR_no (l := l) fun hh => hx (hh.2 k hlt))
              clear hx
              go_wp2_with fail
              go_ret
              exact ⟨ret_bool F.out.symm, rfl⟩
          · have F := Lib.hid (fewR_yes (l := l) ⟨HN.out, fun j hj => Hn.out j (by omega)⟩)
            go_wp2_with fail
            go_ret
            exact ⟨ret_bool F.out.symm, rfl⟩
      · have dc0 : decide ((l.length : Int) > 42) = true := decide_eq_true (by omega)
        have dc1 : decide (42 < (l.length : Int)) = true := decide_eq_true (by omega)
        have dc2 : decide (42 < l.length) = true := decide_eq_true (by omega)
        have F := Lib.hid (fewR_no (l := l) fun hh => by have := hh.1; omega)
        go_wp2_with fail
        go_ret
        exact ⟨ret_bool F.out.symm, rfl⟩

set_option maxHeartbeats 1600000 in
set_option maxRecDepth 100000 in
theorem lawTripErr_any (R : DRules) (l : List WRec) (t : DTrip) (A : Option Addr) (c : Nat) (w : World) (h : ArrW w A l c) :
    Calls Try.prog 32 #[drulesV R, .slice A l.length c, dtripV t] w fun e w' => e = .returned (.int .i64 (lawTripErr R l t)) ∧ Below w.heap.size w w' := by
  have b1 := h.le.1
  have b2 := h.le.2
  have HA := Lib.hid h
  clear h
  have BR := Lib.hid ((RulesIn.new w R 23).keep (Keep.alloc _ (.cells #[.int .i64 t.start, .int .i64 t.lo, .int .i64 t.hi, .int .i64 t.next] 54)))
  have BT := Lib.hid (show TripIn ((w.alloc (.cells #[.int .i64 R.brk, .int .i64 R.rest, .int .i64 R.stint, .int .i64 R.shift, .int .i64 R.week] 23)).alloc (.cells #[.int .i64 t.start, .int .i64 t.lo, .int .i64 t.hi, .int .i64 t.next] 54)) (w.heap.size + 1) t from ⟨cellNew1 _ _ _ _ 0, cellNew1 _ _ _ _ 1, cellNew1 _ _ _ _ 2, cellNew1 _ _ _ _ 3⟩)
  go_enter Try.func32, Try.ntmps32
  go_upto_region 1 with fail
  generalize hwb : (w.alloc _).alloc _ = wb at *
  have HW : Hid (Below w.heap.size w wb) := by rw [← hwb]; exact Lib.hid (((Below.refl _ _).alloc (Nat.le_refl _) _).alloc (by simp) _)
  clear hwb
  obtain ⟨t0, t1, t2, t3⟩ := BT.out
  obtain ⟨a0, a1, a2, a3, a4⟩ := BR.out
  go_wp2_with fail
  refine (rBothErr_any R l A c _ (HA.out.keep (Keep.below HW.out))).mono ?_
  rintro e' w1 ⟨rfl, hb1⟩
  replace BR := Lib.hid (BR.out.keep (Keep.below hb1))
  replace BT := Lib.hid (BT.out.keep (Keep.below hb1))
  replace HW := Lib.hid (HW.out.trans (hb1.mono HW.out.size))
  clear hb1 t0 t1 t2 t3 a0 a1 a2 a3 a4
  by_cases hk : bothErr R l = 0
  · have F := Lib.hid (show lawTripErr R l t = dtripErr R l t from if_neg (fun hh => hh hk))
    have HF := Lib.hid (recs_right (both_ok hk).2).fit
    rw [hk]
    clear hk
    obtain ⟨t0, t1, t2, t3⟩ := BT.out
    obtain ⟨a0, a1, a2, a3, a4⟩ := BR.out
    go_wp2_with fail
    refine (rdTripErr_any R l t A c _ (HA.out.keep (Keep.below HW.out)) HF.out).mono ?_
    rintro e' w2 ⟨rfl, hb1⟩
    go_wp2_with fail
    go_ret
    exact ⟨ret_int F.out.symm, HW.out.trans (hb1.mono HW.out.size)⟩
  · have F := Lib.hid (show lawTripErr R l t = bothErr R l from if_pos hk)
    have e5 : (bothErr R l == 0) = false := by simpa using hk
    have e6 : (bothErr R l != 0) = true := by simpa using hk
    clear hk
    go_wp2_with fail
    go_ret
    exact ⟨ret_int F.out.symm, HW.out⟩

def Fs.annRules : DRules := ⟨900, 36000, 16200, 43200, 200000⟩
def Fs.annName : ByteArray := ⟨#[97, 110, 110]⟩
def Fs.annList : List WRec := [⟨annName, 0, 10000⟩, ⟨annName, 10500, 15000⟩, ⟨annName, 16000, 20000⟩]
set_option maxHeartbeats 800000 in
theorem lawAnn_any (w : World) : Calls Try.prog 74 #[] w fun e w' => (∃ A c, e = .returned (.slice A annList.length c) ∧ ArrW w' A annList c) ∧ Below w.heap.size w w' := by
  go_enter Try.func74, Try.ntmps74
  go_wp2_with fail
  go_ret
  refine ⟨⟨some ⟨w.heap.size, 0, none⟩, 3, rfl, Nat.le_refl _, by omega, fun _ => ⟨w.heap.size, 0, rfl, fun i j hi hj => ?_⟩⟩, (Below.refl _ _).alloc (Nat.le_refl _) _⟩
  obtain rfl | rfl | rfl : i = 0 ∨ i = 1 ∨ i = 2 := by have : i < 3 := hi; omega
  · obtain rfl | rfl | rfl : j = 0 ∨ j = 1 ∨ j = 2 := by omega
    · exact cellNew _ _ _ 0
    · exact cellNew _ _ _ 1
    · exact cellNew _ _ _ 2
  · obtain rfl | rfl | rfl : j = 0 ∨ j = 1 ∨ j = 2 := by omega
    · exact cellNew _ _ _ 3
    · exact cellNew _ _ _ 4
    · exact cellNew _ _ _ 5
  · obtain rfl | rfl | rfl : j = 0 ∨ j = 1 ∨ j = 2 := by omega
    · exact cellNew _ _ _ 6
    · exact cellNew _ _ _ 7
    · exact cellNew _ _ _ 8
set_option maxHeartbeats 800000 in
theorem lawRules_any (w : World) : Calls Try.prog 73 #[] w fun e w' => e = .returned (drulesV annRules) ∧ Below w.heap.size w w' := by
  have c0 := cellNew w #[.int .i64 0, .int .i64 0, .int .i64 0, .int .i64 0, .int .i64 0] 23 0
  have c1 := cellNew w #[.int .i64 0, .int .i64 0, .int .i64 0, .int .i64 0, .int .i64 0] 23 1
  have c2 := cellNew w #[.int .i64 0, .int .i64 0, .int .i64 0, .int .i64 0, .int .i64 0] 23 2
  have c3 := cellNew w #[.int .i64 0, .int .i64 0, .int .i64 0, .int .i64 0, .int .i64 0] 23 3
  have c4 := cellNew w #[.int .i64 0, .int .i64 0, .int .i64 0, .int .i64 0, .int .i64 0] 23 4
  have f0 := frozenNew w #[.int .i64 0, .int .i64 0, .int .i64 0, .int .i64 0, .int .i64 0] 23 0
  have f1 := frozenNew w #[.int .i64 0, .int .i64 0, .int .i64 0, .int .i64 0, .int .i64 0] 23 1
  have f2 := frozenNew w #[.int .i64 0, .int .i64 0, .int .i64 0, .int .i64 0, .int .i64 0] 23 2
  have f3 := frozenNew w #[.int .i64 0, .int .i64 0, .int .i64 0, .int .i64 0, .int .i64 0] 23 3
  have f4 := frozenNew w #[.int .i64 0, .int .i64 0, .int .i64 0, .int .i64 0, .int .i64 0] 23 4
  go_enter Try.func73, Try.ntmps73
  go_upto_region 1 with fail
  generalize hwb : w.alloc _ = wb at *
  have HW : Hid (Below w.heap.size w wb) := by rw [← hwb]; exact Lib.hid ((Below.refl _ _).alloc (Nat.le_refl _) _)
  clear hwb
  go_wp2_with fail
  refine bodyPost_ret (v := drulesV annRules) (by simp [results, Try.results73, go_sem, c0, c1, c2, c3, c4, annRules]) rfl ⟨rfl, ?_⟩
  exact ((((HW.out.setCell (p := ⟨w.heap.size, 0, none⟩) (by simp) _).setCell (p := ⟨w.heap.size, 1, none⟩) (by simp) _).setCell (p := ⟨w.heap.size, 2, none⟩) (by simp) _).setCell (p := ⟨w.heap.size, 3, none⟩) (by simp) _).setCell (p := ⟨w.heap.size, 4, none⟩) (by simp) _
end Go.Proofs.Ytaihiahoedpbiaa
/- Equal lists of records. No condition. -/
namespace Go.Proofs.Ytaihiahoedpbiaa
open Go.RowKit Fs

open Classical in
noncomputable def Fs.sameR (l m : List WRec) : Bool := decide (l = m)
theorem sameR_yes {l m : List WRec} (h : l = m) : sameR l m = true := by unfold sameR; simpa using h
theorem sameR_no {l m : List WRec} (h : ¬ l = m) : sameR l m = false := by unfold sameR; simpa using h
theorem Fs.listW_ext {l m : List WRec} (hn : l.length = m.length) (h : ∀ i, i < l.length → listW l i = listW m i) : l = m := by
  apply List.ext_getElem? 
  intro i
  by_cases hi : i < l.length
  · rw [listW_get hi, listW_get (by omega), h i hi]
  · rw [List.getElem?_eq_none (by omega), List.getElem?_eq_none (by omega)]
theorem Fs.wrec_ext {x y : WRec} (h1 : x.who = y.who) (h2 : x.beg = y.beg) (h3 : x.fin = y.fin) : x = y := by
  cases x; cases y
  dsimp only at h1 h2 h3
  subst h1 h2 h3
  rfl

set_option linter.unusedSimpArgs false in
set_option maxHeartbeats 3200000 in
set_option maxRecDepth 100000 in
theorem rSame_any (l m : List WRec) (A B : Option Addr) (c d : Nat) (w : World) (h : ArrW w A l c) (h' : ArrW w B m d) :
    Calls Try.prog 42 #[.slice A l.length c, .slice B m.length d] w fun e w' => e = .returned (.bool (sameR l m)) ∧ Below w.heap.size w w' := by
  have b1 := h.le.1
  have b2 := h.le.2
  have b3 := h'.le.1
  have b4 := h'.le.2
  have HA := Lib.hid h
  have HB := Lib.hid h'
  clear h h'
  go_enter Try.func42, Try.ntmps42
  by_cases hn : l.length = m.length
  · have HN := Lib.hid hn
    have d1 : ((l.length : Int) == (m.length : Int)) = true := by simp; omega
    have d2 : ((l.length : Int) != (m.length : Int)) = false := by simp; omega
    clear hn
    go_wp2_with fail
    go_loopw [5] (fun i wr => ∃ k : Nat, k ≤ l.length ∧ i = .int .i64 k ∧ Hid (∀ j, j < k → listW l j = listW m j) ∧ Hid (Below w.heap.size w wr)) (fun i _ => l.length - (intOf i).toNat)
    case atStart => exact ⟨0, Nat.zero_le _, rfl, Lib.hid fun j hj => absurd hj (Nat.not_lt_zero _), Lib.hid (Below.refl _ _)⟩
    case round =>
      obtain ⟨k, hk, rfl, Hn, HW⟩ := hrel
      by_cases hlt : k < l.length
      · have hlm : k < m.length := by rw [← HN.out]; exact hlt
        have hkn : (k : Int) < (l.length : Int) := by omega
        have hkm : (k : Int) < (m.length : Int) := by omega
        obtain ⟨b, o, rfl, q⟩ := (HA.out.keep (Keep.below HW.out)).at_ hlt
        obtain ⟨q0, q1, q2⟩ := q
        obtain ⟨b', o', rfl, r⟩ := (HB.out.keep (Keep.below HW.out)).at_ hlm
        obtain ⟨r0, r1, r2⟩ := r
        by_cases he : listW l k = listW m k
        · have Hq := Lib.hid he
          have e1 := str_eq (congrArg WRec.who he)
          have e2 : ((listW l k).beg == (listW m k).beg) = true := by rw [he]; simp
          have e3 : ((listW l k).fin == (listW m k).fin) = true := by rw [he]; simp
          clear he
          go_wp2_with fail
          go_quiet (fail)
          go_wp2_with fail
          go_roundw
          case rel =>
            exact ⟨k + 1, by omega, by go_num, Lib.hid fun j hj => by
              by_cases e : j = k
              · subst e; exact Hq.out
              · exact Hn.out j (by omega), Lib.hid (bdrewN HW.out _)⟩
          case measure => simp [intOf]; omega
        · have F := Lib.hid (sameR_no (l := l) (m := m) fun hh => he (by rw [hh]))
          by_cases h1 : (listW l k).who = (listW m k).who
          · have e1 := str_eq h1
            by_cases h2 : (listW l k).beg = (listW m k).beg
            · have e2 : ((listW l k).beg == (listW m k).beg) = true := by simpa using h2
              have e3 : ((listW l k).fin == (listW m k).fin) = false := by simpa using fun h3 => he (wrec_ext h1 h2 h3)
              clear he h1 h2
              go_wp2_with fail
              go_quiet (fail)
              go_wp2_with fail
              go_ret
              exact ⟨ret_bool F.out.symm, bdrewN HW.out _⟩
            · have e2 : ((listW l k).beg == (listW m k).beg) = false := by simpa using h2
              clear he h1 h2
              go_wp2_with fail
              go_quiet (fail)
              go_wp2_with fail
              go_ret
              exact ⟨ret_bool F.out.symm, bdrewN HW.out _⟩
          · have e1 := str_ne h1
            clear he h1
            go_wp2_with fail
            go_quiet (fail)
            go_wp2_with fail
            go_ret
            exact ⟨ret_bool F.out.symm, bdrewN HW.out _⟩
      · have F := Lib.hid (sameR_yes (listW_ext HN.out fun j hj => Hn.out j (by omega)))
        go_wp2_with fail
        go_ret
        exact ⟨ret_bool F.out.symm, HW.out⟩
  · have F := Lib.hid (sameR_no (l := l) (m := m) fun hh => hn (by rw [hh]))
    have d1 : ((l.length : Int) == (m.length : Int)) = false := by simp; omega
    have d2 : ((l.length : Int) != (m.length : Int)) = true := by simp; omega
    clear hn
    go_wp2_with fail
    go_ret
    exact ⟨ret_bool F.out.symm, Below.refl _ _⟩

end Go.Proofs.Ytaihiahoedpbiaa
/- The reference's Groups. Condition: records are in order, of small numbers. -/
namespace Go.Proofs.Ytaihiahoedpbiaa
open Go.RowKit Fs

def pairVals (L : List (Int × Int)) : List Value := L.flatMap fun p => [.int .i64 p.1, .int .i64 p.2]
theorem pairVals_more (L : List (Int × Int)) (a b : Int) : pairVals (L ++ [(a, b)]) = pairVals L ++ [.int .i64 a, .int .i64 b] := by
  unfold pairVals
  rw [List.flatMap_append]
  rfl
theorem pairVals_len (L : List (Int × Int)) : (pairVals L).length = L.length * 2 := by
  induction L with
  | nil => rfl
  | cons x L ih =>
    show (pairVals L).length + 1 + 1 = (L.length + 1) * 2
    rw [ih]
    omega
theorem pairVals_last (M : List (Int × Int)) (a b k : Int) : (pairVals (M ++ [(a, b)])).set (M.length * 2 + 1) (.int .i64 k) = pairVals (M ++ [(a, k)]) := by
  rw [pairVals_more, pairVals_more, List.set_append_right _ _ (by rw [pairVals_len]; omega), pairVals_len, Nat.add_sub_cancel_left]
  rfl
theorem pairVals_get (M : List (Int × Int)) (a b : Int) : (pairVals (M ++ [(a, b)]))[M.length * 2 + 1]? = some (.int .i64 b) := by
  rw [pairVals_more, List.getElem?_append_right (by rw [pairVals_len]; omega), pairVals_len, Nat.add_sub_cancel_left]
  rfl
theorem Fs.groupsTo_pos (l : List WRec) (gap : Int) (k : Nat) : groupsTo l gap (k + 1) ≠ [] := by
  rw [groupsTo]
  split <;> simp
theorem Fs.groupsTo_len (l : List WRec) (gap : Int) : ∀ k, (groupsTo l gap k).length ≤ k
  | 0 => Nat.le_refl _
  | k + 1 => by
    have ih := groupsTo_len l gap k
    rw [groupsTo]
    split
    · rw [List.length_append, List.length_dropLast, List.length_singleton]
      rename_i h
      cases k with
      | zero => exact absurd h (by rw [goesOn_zero]; decide)
      | succ k =>
        have := List.length_pos_iff.2 (groupsTo_pos l gap k)
        omega
    · rw [List.length_append, List.length_singleton]; omega
theorem own_is {w : World} {B : Nat} {e : TypeId} {size n : Nat} {v : Value} {xs : List Value} (h : w.ownsRow B e size v n xs) (hn : 0 < n) : ∃ g c, v = .slice (some ⟨g, 0, none⟩) n c ∧ B ≤ g ∧ n ≤ c ∧ c ≤ maxLen := by
  rcases h.2 with ⟨hv, h0⟩ | ⟨g, cap, cur, hv, hb, hh, h1, h2, -⟩
  · omega
  · exact ⟨g, cap, hv, hb, h1, h2⟩
theorem Try.infoTwo : (Try.prog.info? 37).map (fun i => (i.zero, i.size, i.bytes)) = some (some (.agg #[.int .i64 0, .int .i64 0]), 2, 16) := by kernel_rfl

set_option linter.unusedSimpArgs false in
set_option maxHeartbeats 6400000 in
set_option maxRecDepth 100000 in
theorem rGroups_any (l : List WRec) (A : Option Addr) (c : Nat) (gap : Int) (w : World) (h : ArrW w A l c) (hF : Fit l) :
    Calls Try.prog 24 #[.slice A l.length c, .int .i64 gap] w fun e w' => (∃ v, e = .returned v ∧ w'.ownsRow w.heap.size 37 2 v (groups l gap).length (pairVals (groups l gap))) ∧ Below w.heap.size w w' := by
  obtain ⟨i0, hi, hz0, hz1, hz2⟩ := info_parts Try.infoTwo
  have b1 := h.le.1
  have b2 := h.le.2
  have HA := Lib.hid h
  clear h
  have HFT := Lib.hid hF
  have hlen := hF.len
  clear hF
  go_enter Try.func24, Try.ntmps24
  go_upto_region 2 with fail
  go_wp2_with fail
  go_loopw [5, 6] (fun v i wr => ∃ (k : Nat), k ≤ l.length ∧ i = .int .i64 k ∧ Hid (wr.ownsRow w.heap.size 37 2 v (groupsTo l gap k).length (pairVals (groupsTo l gap k))) ∧ Hid (Below w.heap.size w wr)) (fun _ i _ => l.length - (intOf i).toNat)
  case atStart => exact ⟨0, Nat.zero_le _, rfl, Lib.hid (World.ownsRow_nil _ _ _ _), Lib.hid (Below.refl _ _)⟩
  case round =>
    obtain ⟨k, hk, rfl, HO, HB⟩ := hrel
    have hgl := groupsTo_len l gap k
    by_cases hlt : k < l.length
    · have hkn : (k : Int) < (l.length : Int) := by omega
      by_cases h0 : 0 < k
      · have d3 : decide ((k : Int) > 0) = true := decide_eq_true (by omega)
        have d4 : decide (0 < (k : Int)) = true := decide_eq_true (by omega)
        have d5 : decide (0 < k) = true := decide_eq_true h0
        have d6 : decide (k = 0) = false := decide_eq_false (by omega)
        obtain ⟨j, hj⟩ : ∃ j, k = j + 1 := ⟨k - 1, by omega⟩
        have hkp : (k : Int) - 1 = (j : Int) := by omega
        have hk1 : (j : Int) < (l.length : Int) := by omega
        obtain ⟨b, o, rfl, r, q⟩ := (HA.out.keep (Keep.below HB.out)).two (i := j) (by omega) hlt
        obtain ⟨q0, q1, q2⟩ := q
        obtain ⟨r0, r1, r2⟩ := r
        have x1 := HFT.out.one k hlt
        have x2 := HFT.out.one j (by omega)
        have HD := Lib.hid (fun n => below_of_own HO.out (bdrewN (Below.refl _ _) n))
        by_cases hg : (listW l k).beg - (listW l j).fin < gap
        · have e2 : decide ((listW l k).beg - (listW l j).fin < gap) = true := decide_eq_true hg
          have HC := Lib.hid (show goesOn l gap k = true by rw [hj, goesOn_succ, ← hj]; exact e2)
          have hpos : 0 < (groupsTo l gap k).length := by rw [hj]; exact List.length_pos_iff.2 (groupsTo_pos l gap j)
          obtain ⟨M, x, y, hM⟩ : ∃ M x y, groupsTo l gap k = M ++ [(x, y)] := by
            rcases List.eq_nil_or_concat (groupsTo l gap k) with e | ⟨M, p, e⟩
            · rw [e] at hpos; exact absurd hpos (by simp)
            · exact ⟨M, p.1, p.2, by rw [e, List.concat_eq_append]⟩
          have HG := Lib.hid (show groupsTo l gap (k + 1) = M ++ [(x, (k : Int))] by rw [groupsTo, if_pos HC.out, hM, List.dropLast_concat, List.getLastD_concat])
          obtain ⟨n, hn⟩ : ∃ n, n = (groupsTo l gap k).length := ⟨_, rfl⟩
          have hnm : n = M.length + 1 := by rw [hn, hM]; simp
          have hng : n ≤ k := by omega
          rw [← hn, hM] at HO
          clear HD
          obtain ⟨g, c5, rfl, hgw, hc5, hc6⟩ := own_is HO.out (by omega)
          have HD := Lib.hid (fun n => below_of_own HO.out (bdrewN (Below.refl _ _) n))
          obtain ⟨m, hm⟩ : ∃ m, m = M.length := ⟨_, rfl⟩
          have cF := HO.out.cellAt (m * 2 + 1) (by omega)
          rw [hm, pairVals_get, ← hm] at cF
          have fF := HO.out.frozenAt (m * 2 + 1)
          have hw1 : IntKind.i64.wrap ((n : Int) - 1) = (m : Int) := by rw [IntKind.wrap_i64]; omega
          have hw0 : (n : Int) - 1 = (m : Int) := by omega
          have hmn : (m : Int) < (n : Int) := by omega
          have hcm : c5 ≤ 9223372036854775807 := hc6
          have HGN := Lib.hid (show (groupsTo l gap (k + 1)).length = n by rw [HG.out, hnm]; simp)
          have HM := Lib.hid hm
          clear hg hj h0 hpos hnm hn hM hm
          go_wp2_with fail
          go_quiet (fail)
          go_wp2_with fail
          go_roundw
          case rel =>
            refine ⟨k + 1, by omega, by go_num, Lib.hid ?_, Lib.hid ?_⟩
            · rw [HGN.out, HG.out, ← pairVals_last M x y k, ← HM.out]
              exact ((HD.out _).stored (m * 2 + 1) (.int .i64 k)).1
            · exact (bdrewN HB.out _).setCell (p := ⟨g, m * 2 + 1, none⟩) hgw _
          case measure => simp [intOf]; omega
        · have e2 : decide ((listW l k).beg - (listW l j).fin < gap) = false := decide_eq_false hg
          have HC := Lib.hid (show goesOn l gap k = false by rw [hj, goesOn_succ, ← hj]; exact e2)
          have HG := Lib.hid (show groupsTo l gap (k + 1) = groupsTo l gap k ++ [((k : Int), (k : Int))] by rw [groupsTo, if_neg (by rw [HC.out]; decide)])
          clear hg hj h0
          go_wp2_with fail
          go_quiet (fail)
          go_wp2_with (at_builtin
                       refine wpList_append_own _ rfl (.tmp 38) (.tmp 42) 27 rfl w.heap.size 37 i0 _ 2 16 Try.underlying27 hi hz0 hz1 hz2 rfl (by decide) _ _ _ rfl ((HD.out _).alloc _) ⟨_, 0, none⟩ 1 1 [.int .i64 k, .int .i64 k] rfl rfl ?c1 ?c2 ?c3 ?c4 ?c5 ?_)
          case c1 => exact World.news_of_block (heap_alloc_new _ _)
          case c2 => intro u hu; simp at hu; rw [hu]; rfl
          case c3 => unfold maxLen; omega
          case c4 => omega
          case c5 => have := HB.out.size; simp; omega
          intro v9 w9 ho9 hg9 _
          go_wp2_with fail
          go_roundw
          case rel =>
            refine ⟨k + 1, by omega, by go_num, Lib.hid ?_, Lib.hid ?_⟩
            · rw [HG.out, pairVals_more, List.length_append]
              exact ho9
            · exact ((bdrewN HB.out _).alloc (bdrewN HB.out _).size _).grown hg9 (by have := HB.out.size; simp; omega) (fun j hj => ((HD.out 0).lt j hj).1)
          case measure => simp [intOf]; omega
      · have d3 : decide ((k : Int) > 0) = false := decide_eq_false (by omega)
        have d4 : decide (0 < (k : Int)) = false := decide_eq_false (by omega)
        have d5 : decide (0 < k) = false := decide_eq_false h0
        have d6 : decide (k = 0) = true := decide_eq_true (by omega)
        have HC := Lib.hid (show goesOn l gap k = false by obtain rfl : k = 0 := by omega
                                                           rfl)
        have HD := Lib.hid (fun n => below_of_own HO.out (bdrewN (Below.refl _ _) n))
        have HG := Lib.hid (show groupsTo l gap (k + 1) = groupsTo l gap k ++ [((k : Int), (k : Int))] by rw [groupsTo, if_neg (by rw [HC.out]; decide)])
        clear h0
        go_wp2_with fail
        go_quiet (fail)
        go_wp2_with (at_builtin
                     refine wpList_append_own _ rfl (.tmp 38) (.tmp 42) 27 rfl w.heap.size 37 i0 _ 2 16 Try.underlying27 hi hz0 hz1 hz2 rfl (by decide) _ _ _ rfl ((HD.out _).alloc _) ⟨_, 0, none⟩ 1 1 [.int .i64 k, .int .i64 k] rfl rfl ?c1 ?c2 ?c3 ?c4 ?c5 ?_)
        case c1 => exact World.news_of_block (heap_alloc_new _ _)
        case c2 => intro u hu; simp at hu; rw [hu]; rfl
        case c3 => unfold maxLen; omega
        case c4 => omega
        case c5 => have := HB.out.size; simp; omega
        intro v9 w9 ho9 hg9 _
        go_wp2_with fail
        go_roundw
        case rel =>
          refine ⟨k + 1, by omega, by go_num, Lib.hid ?_, Lib.hid ?_⟩
          · rw [HG.out, pairVals_more, List.length_append]
            exact ho9
          · exact ((bdrewN HB.out _).alloc (bdrewN HB.out _).size _).grown hg9 (by have := HB.out.size; simp; omega) (fun j hj => ((HD.out 0).lt j hj).1)
        case measure => simp [intOf]; omega
    · obtain rfl : k = l.length := by omega
      go_wp2_with fail
      go_ret
      exact ⟨⟨_, rfl, HO.out⟩, HB.out⟩
end Go.Proofs.Ytaihiahoedpbiaa
/- Equal lists of pairs. No condition. -/
namespace Go.Proofs.Ytaihiahoedpbiaa
open Go.RowKit Fs

def Fs.listJ (L : List (Int × Int)) (i : Nat) : Int × Int := L.getD i (0, 0)
theorem Fs.listJ_get {L : List (Int × Int)} {i : Nat} (h : i < L.length) : L[i]? = some (listJ L i) := by
  unfold listJ
  rw [List.getD_eq_getElem?_getD, List.getElem?_eq_getElem h]
  rfl
def pairCellsJ (p : Int × Int) : Nat → Value
  | 0 => .int .i64 p.1
  | _ => .int .i64 p.2
def ArrJ (w : World) (A : Option Addr) (L : List (Int × Int)) (c : Nat) : Prop := Arr w A L.length c 2 fun i j => pairCellsJ (listJ L i) j
theorem ArrJ.keep {w w' : World} (k : Keep w w') {A : Option Addr} {L : List (Int × Int)} {c : Nat} (h : ArrJ w A L c) : ArrJ w' A L c := Arr.keep k h
theorem ArrJ.le {w : World} {A : Option Addr} {L : List (Int × Int)} {c : Nat} (h : ArrJ w A L c) : L.length ≤ c ∧ c ≤ 9223372036854775807 := ⟨h.1, h.2.1⟩
theorem ArrJ.at_ {w : World} {A : Option Addr} {L : List (Int × Int)} {c : Nat} (h : ArrJ w A L c) {k : Nat} (hk : k < L.length) : ∃ b o, A = some ⟨b, o, none⟩ ∧ w.cell? ⟨b, o + k * 2, none⟩ = some (.int .i64 (listJ L k).1) ∧ w.cell? ⟨b, o + k * 2 + 1, none⟩ = some (.int .i64 (listJ L k).2) := by
  obtain ⟨b, o, e, hc⟩ := Arr.at_ h hk
  exact ⟨b, o, e, hc 0 (by omega), hc 1 (by omega)⟩
theorem pairVals_at : ∀ (L : List (Int × Int)) (i : Nat), i < L.length → (pairVals L)[i * 2]? = some (.int .i64 (listJ L i).1) ∧ (pairVals L)[i * 2 + 1]? = some (.int .i64 (listJ L i).2)
  | [], i, h => absurd h (Nat.not_lt_zero _)
  | x :: L, 0, _ => ⟨rfl, rfl⟩
  | x :: L, i + 1, h => by
    have ih := pairVals_at L i (Nat.lt_of_succ_lt_succ h)
    rw [show (i + 1) * 2 = i * 2 + 1 + 1 by omega]
    exact ih
theorem pairVals_flat (L : List (Int × Int)) : pairVals L = flat L.length 2 fun i j => pairCellsJ (listJ L i) j := by
  apply List.ext_getElem?
  intro t
  by_cases h : t < L.length * 2
  · rw [flat_get t h]
    have h1 := pairVals_at L (t / 2) (by omega)
    rcases Nat.mod_two_eq_zero_or_one t with e | e
    · rw [e, show t = t / 2 * 2 by omega, h1.1, show t / 2 * 2 / 2 = t / 2 by omega]; rfl
    · rw [e, show t = t / 2 * 2 + 1 by omega, h1.2, show (t / 2 * 2 + 1) / 2 = t / 2 by omega]; rfl
  · rw [List.getElem?_eq_none (by rw [pairVals_len]; omega), List.getElem?_eq_none (by simp [flat]; omega)]
theorem own_pairs {w : World} {B : Nat} {e : TypeId} {v : Value} {L : List (Int × Int)} (h : w.ownsRow B e 2 v L.length (pairVals L)) : ∃ A c, v = .slice A L.length c ∧ ArrJ w A L c := by
  rw [pairVals_flat] at h
  exact own_row h
open Classical in
noncomputable def Fs.sameJ (l m : List (Int × Int)) : Bool := decide (l = m)
theorem sameJ_yes {l m : List (Int × Int)} (h : l = m) : sameJ l m = true := by unfold sameJ; simpa using h
theorem sameJ_no {l m : List (Int × Int)} (h : ¬ l = m) : sameJ l m = false := by unfold sameJ; simpa using h
theorem Fs.listJ_ext {l m : List (Int × Int)} (hn : l.length = m.length) (h : ∀ i, i < l.length → listJ l i = listJ m i) : l = m := by
  apply List.ext_getElem? 
  intro i
  by_cases hi : i < l.length
  · rw [listJ_get hi, listJ_get (by omega), h i hi]
  · rw [List.getElem?_eq_none (by omega), List.getElem?_eq_none (by omega)]

theorem eqTwo (a b c d : Int) (w : World) : (Op.equalIn 10000 37 (.agg #[.int .i64 a, .int .i64 b]) (.agg #[.int .i64 c, .int .i64 d])).run Try.prog w = .ok (a == c && b == d) w := by
  obtain ⟨i0, hi, hz0, hz1, hz2⟩ := info_parts Try.infoInt
  have hc : Try.prog.cellsOf 3 = 1 := by kernel_rfl
  rw [show (10000 : Nat) = 9999 + 1 from rfl, run_equalIn_array _ 9999 _ _ Try.underlying37 hi, hc]
  show (Op.eqItems 9999 3 1 _ _ [0, 1]).run _ _ = _
  have h0 : ∀ w : World, (part 3 #[.int .i64 a, .int .i64 b] 0).run Try.prog w = .ok (.int .i64 a) w := fun _ => by kernel_rfl
  have h1 : ∀ w : World, (part 3 #[.int .i64 a, .int .i64 b] 1).run Try.prog w = .ok (.int .i64 b) w := fun _ => by kernel_rfl
  have h2 : ∀ w : World, (part 3 #[.int .i64 c, .int .i64 d] 0).run Try.prog w = .ok (.int .i64 c) w := fun _ => by kernel_rfl
  have h3 : ∀ w : World, (part 3 #[.int .i64 c, .int .i64 d] 1).run Try.prog w = .ok (.int .i64 d) w := fun _ => by kernel_rfl
  have e1 : ∀ (x y : Int) (w : World), (Op.equalIn 9999 3 (.int .i64 x) (.int .i64 y)).run Try.prog w = .ok (x == y) w := fun x y w => run_equalIn_int (P := Try.prog) w 9998 3 .i64 .i64 x y Try.underlying3
  simp only [Op.eqItems, Sem.run_bind, Nat.zero_mul, Nat.one_mul, h0, h2, e1, Result.andThen_ok]
  cases a == c with
  | false => simp
  | true =>
    simp only [Bool.not_true, Bool.false_eq_true, if_false, Sem.run_bind, h1, h3, e1, Result.andThen_ok, Bool.true_and]
    cases b == d <;> simp
theorem guardTwo : Try.prog.eqGuardType Try.prog.depth 37 = false := by kernel_rfl
set_option linter.unusedSimpArgs false in
set_option maxHeartbeats 3200000 in
set_option maxRecDepth 100000 in
theorem lawPairs_any (l m : List (Int × Int)) (A B : Option Addr) (c d : Nat) (w : World) (h : ArrJ w A l c) (h' : ArrJ w B m d) :
    Calls Try.prog 23 #[.slice A l.length c, .slice B m.length d] w fun e w' => e = .returned (.bool (sameJ l m)) ∧ Below w.heap.size w w' := by
  have b1 := h.le.1
  have b2 := h.le.2
  have b3 := h'.le.1
  have b4 := h'.le.2
  have HA := Lib.hid h
  have HB := Lib.hid h'
  clear h h'
  have heq := eqTwo
  have hgt := guardTwo
  go_enter Try.func23, Try.ntmps23
  by_cases hn : l.length = m.length
  · have HN := Lib.hid hn
    have d1 : ((l.length : Int) == (m.length : Int)) = true := by simp; omega
    have d2 : ((l.length : Int) != (m.length : Int)) = false := by simp; omega
    clear hn
    go_wp2_with fail
    go_loopw [5] (fun i wr => ∃ k : Nat, k ≤ l.length ∧ i = .int .i64 k ∧ Hid (∀ j, j < k → listJ l j = listJ m j) ∧ Hid (Below w.heap.size w wr)) (fun i _ => l.length - (intOf i).toNat)
    case atStart => exact ⟨0, Nat.zero_le _, rfl, Lib.hid fun j hj => absurd hj (Nat.not_lt_zero _), Lib.hid (Below.refl _ _)⟩
    case round =>
      obtain ⟨k, hk, rfl, Hn, HW⟩ := hrel
      by_cases hlt : k < l.length
      · have hlm : k < m.length := by rw [← HN.out]; exact hlt
        have hkn : (k : Int) < (l.length : Int) := by omega
        have hkm : (k : Int) < (m.length : Int) := by omega
        obtain ⟨b, o, rfl, q0, q1⟩ := (HA.out.keep (Keep.below HW.out)).at_ hlt
        obtain ⟨b', o', rfl, r0, r1⟩ := (HB.out.keep (Keep.below HW.out)).at_ hlm
        by_cases he : listJ l k = listJ m k
        · have Hq := Lib.hid he
          have e2 : ((listJ l k).1 == (listJ m k).1) = true := by rw [he]; simp
          have e3 : ((listJ l k).2 == (listJ m k).2) = true := by rw [he]; simp
          clear he
          go_wp2_with fail
          go_quiet (fail)
          go_wp2_with fail
          go_roundw
          case rel =>
            exact ⟨k + 1, by omega, by go_num, Lib.hid fun j hj => by
              by_cases e : j = k
              · subst e; exact Hq.out
              · exact Hn.out j (by omega), Lib.hid (bdrewN HW.out _)⟩
          case measure => simp [intOf]; omega
        · have F := Lib.hid (sameJ_no (l := l) (m := m) fun hh => he (by rw [hh]))
          by_cases h2 : (listJ l k).1 = (listJ m k).1
          · have e2 : ((listJ l k).1 == (listJ m k).1) = true := by simpa using h2
            have e3 : ((listJ l k).2 == (listJ m k).2) = false := by simpa using fun h3 => he (Prod.ext h2 h3)
            clear he h2
            go_wp2_with fail
            go_quiet (fail)
            go_wp2_with fail
            go_ret
            exact ⟨ret_bool F.out.symm, bdrewN HW.out _⟩
          · have e2 : ((listJ l k).1 == (listJ m k).1) = false := by simpa using h2
            clear he h2
            go_wp2_with fail
            go_quiet (fail)
            go_wp2_with fail
            go_ret
            exact ⟨ret_bool F.out.symm, bdrewN HW.out _⟩
      · have F := Lib.hid (sameJ_yes (listJ_ext HN.out fun j hj => Hn.out j (by omega)))
        go_wp2_with fail
        go_ret
        exact ⟨ret_bool F.out.symm, HW.out⟩
  · have F := Lib.hid (sameJ_no (l := l) (m := m) fun hh => hn (by rw [hh]))
    have d1 : ((l.length : Int) == (m.length : Int)) = false := by simp; omega
    have d2 : ((l.length : Int) != (m.length : Int)) = true := by simp; omega
    clear hn
    go_wp2_with fail
    go_ret
    exact ⟨ret_bool F.out.symm, Below.refl _ _⟩

end Go.Proofs.Ytaihiahoedpbiaa
/- The chapter's example, plainly. No condition. -/
namespace Go.Proofs.Ytaihiahoedpbiaa.Fs

theorem ann_rules : drulesErr annRules = 0 := by decide
theorem ann_recs : recsErr true annList = 0 := by decide +kernel
theorem ann_both : bothErr annRules annList = 0 := by decide +kernel
theorem ann_right : Right annList := recs_right ann_recs
theorem ann_stints : groups annList 900 = [(0, 1), (2, 2)] := by decide +kernel
theorem ann_work : workTo annList 9000 11000 3 = 1500 := by decide +kernel
def annTrip : DTrip := ⟨20000, 5000, 13000, -1⟩
theorem ann_trip : dtripErr annRules annList annTrip = 0 := by decide +kernel
theorem ann_allowed : allowed annRules annList annTrip = (1, 1) := by decide +kernel
theorem ann_bare : dtripErr annRules annList (bare 20000) = 0 := by decide +kernel
theorem ann_longest : Longest annRules annList (bare 20000) 12200 := by
  refine ⟨by decide, by decide, by decide +kernel, fun m h1 h2 hm => ?_⟩
  have h3 : breaks annRules annList (bare 20000) 12201 = 0 := breaks_mono ann_right (dtrip_ok ann_bare).1 (by omega) (by omega) hm
  exact absurd h3 (by decide +kernel)
end Go.Proofs.Ytaihiahoedpbiaa.Fs

/- The reference's NextInspection. No condition. -/
import Derived.Test.YtolicafhbeiciaaD14
namespace Go.Proofs.Ytolicafhbeiciaa
open Go.RowKit Fs

def Fs.dateBad (L : List Int) (i : Nat) : Int := if dateErr (listI L i) ≠ 0 then dateErr (listI L i) else if 0 < i ∧ listI L i ≤ listI L (i - 1) then 9 else 0
def Fs.lastTo (L : List Int) (date : Int) : Nat → Int
  | 0 => -1
  | k + 1 => if listI L k ≤ date then listI L k else lastTo L date k
def Fs.inspect (L : List Int) (every date : Int) : Int × Int :=
  if 20 < L.length then (0, 8) else if fst (dateBad L) L.length ≠ 0 then (0, fst (dateBad L) L.length)
  else if ¬ (within every 1 1000 = true ∧ dateErr date = 0) then (0, 2)
  else if lastTo L date L.length < 0 then (0, 12) else if lastTo L date L.length + every < date then (0, 22) else (lastTo L date L.length + every, 0)
theorem insp_bad {L : List Int} {every date x : Int} (h : ¬ 20 < L.length) (h1 : fst (dateBad L) L.length = x) (h2 : x ≠ 0) : inspect L every date = (0, x) := by
  unfold inspect
  rw [if_neg h, if_pos (by rw [h1]; exact h2), h1]
theorem insp_range {L : List Int} {every date : Int} (h : ¬ 20 < L.length) (h1 : fst (dateBad L) L.length = 0) (h2 : ¬ (within every 1 1000 = true ∧ dateErr date = 0)) : inspect L every date = (0, 2) := by
  unfold inspect
  rw [if_neg h, if_neg (fun hh => hh h1), if_pos h2]
theorem insp_ok {L : List Int} {every date : Int} (h : ¬ 20 < L.length) (h1 : fst (dateBad L) L.length = 0) (h2 : within every 1 1000 = true) (h3 : dateErr date = 0) :
    inspect L every date = if lastTo L date L.length < 0 then (0, 12) else if lastTo L date L.length + every < date then (0, 22) else (lastTo L date L.length + every, 0) := by
  unfold inspect
  rw [if_neg h, if_neg (fun hh => hh h1), if_neg (fun hh => hh ⟨h2, h3⟩)]
theorem Fs.dateErr_ok {n : Int} (h : dateErr n = 0) : 0 ≤ n ∧ n ≤ 100000 := by
  unfold dateErr at h
  by_cases hw : within n 0 100000 = true
  · exact Fs.within_iff.1 hw
  · rw [if_neg hw] at h; exact absurd h (by decide)
theorem Fs.dateBad_ok {L : List Int} {i : Nat} (h : dateBad L i = 0) : 0 ≤ listI L i ∧ listI L i ≤ 100000 := by
  unfold dateBad at h
  by_cases h1 : dateErr (listI L i) = 0
  · exact dateErr_ok h1
  · rw [if_pos h1] at h; exact absurd h h1
theorem Fs.lastTo_is {L : List Int} (h : ∀ i, i < L.length → 0 ≤ listI L i ∧ listI L i ≤ 100000) (date : Int) : ∀ k, k ≤ L.length → -1 ≤ lastTo L date k ∧ lastTo L date k ≤ 100000
  | 0, _ => by show (-1 : Int) ≤ -1 ∧ (-1 : Int) ≤ 100000; omega
  | k + 1, hk => by
    have ih := lastTo_is h date k (by omega)
    have h1 := h k (by omega)
    rw [lastTo]
    split <;> omega
set_option linter.unusedSimpArgs false in
set_option maxHeartbeats 6400000 in
set_option maxRecDepth 100000 in
theorem rInspect_any (L : List Int) (every date : Int) (A : Option Addr) (c : Nat) (w : World) (h : ArrI w A L c) :
    Calls Try.prog 59 #[.slice A L.length c, .int .i64 every, .int .i64 date] w fun e w' => e = .returned (.tuple #[.int .i64 (inspect L every date).1, .int .i64 (inspect L every date).2]) ∧ Below w.heap.size w w' := by
  have b1 := h.le.1
  have b2 := h.le.2
  have HA := Lib.hid h
  clear h
  go_enter Try.func59, Try.ntmps59
  by_cases h40 : 20 < L.length
  · have F := Lib.hid (show inspect L every date = (0, 8) from if_pos h40)
    have d1 : decide ((L.length : Int) > 20) = true := decide_eq_true (by omega)
    have d2 : decide ((20 : Int) < (L.length : Int)) = true := decide_eq_true (by omega)
    clear h40
    go_wp2_with fail
    go_ret2
    exact ⟨by rw [F.out]; rfl, Below.refl _ _⟩
  · have H20 := Lib.hid h40
    have d1 : decide ((L.length : Int) > 20) = false := decide_eq_false (by omega)
    have d2 : decide ((20 : Int) < (L.length : Int)) = false := decide_eq_false (by omega)
    have hL20 : L.length ≤ 20 := by omega
    clear h40
    go_wp2_with fail
    go_loopw [8] (fun i wr => ∃ k : Nat, k ≤ L.length ∧ i = .int .i64 k ∧ Hid (∀ j, j < k → dateBad L j = 0) ∧ Hid (Below w.heap.size w wr)) (fun i _ => L.length - (intOf i).toNat)
    case atStart => exact ⟨0, Nat.zero_le _, rfl, Lib.hid fun j hj => absurd hj (Nat.not_lt_zero _), Lib.hid (Below.refl _ _)⟩
    case round =>
      obtain ⟨k, hk, rfl, Hn, HB⟩ := hrel
      by_cases hlt : k < L.length
      · have hkn : (k : Int) < (L.length : Int) := by omega
        obtain ⟨b, o, rfl, q0⟩ := (HA.out.keep (Keep.below HB.out)).at_ hlt
        by_cases n2 : dateErr (listI L k) = 0
        · by_cases h0 : 0 < k
          · have d3 : decide ((k : Int) > 0) = true := decide_eq_true (by omega)
            have d4 : decide (0 < (k : Int)) = true := decide_eq_true (by omega)
            have d5 : decide (0 < k) = true := decide_eq_true h0
            have d6 : decide (k = 0) = false := decide_eq_false (by omega)
            obtain ⟨j, hj⟩ : ∃ j, j = k - 1 := ⟨_, rfl⟩
            have hkp : (k : Int) - 1 = (j : Int) := by omega
            have hwk : IntKind.i64.wrap ((k : Int) - 1) = (j : Int) := by rw [IntKind.wrap_i64]; omega
            have hk1 : (j : Int) < (L.length : Int) := by omega
            obtain ⟨b', o', e', r0⟩ := (HA.out.keep (Keep.below HB.out)).at_ (k := j) (by omega)
            obtain ⟨rfl, rfl⟩ : b = b' ∧ o = o' := by simpa using e'
            clear e'
            by_cases hle : listI L k ≤ listI L j
            · have e9 : decide (listI L k ≤ listI L j) = true := decide_eq_true hle
              have hbad : dateBad L k = 9 := by unfold dateBad; rw [if_neg (fun hh => hh n2), if_pos ⟨h0, by rw [← hj]; exact hle⟩]
              have F := Lib.hid (insp_bad (every := every) (date := date) H20.out (show fst (dateBad L) L.length = 9 from ((fst_hit hlt Hn.out (by rw [hbad]; decide)).1.trans hbad)) (by decide))
              clear hle hbad hj h0
              go_wp2_with (go_at_call 106
                           refine (rDateErr_any _ _).mono ?_
                           rintro e w' ⟨rfl, rfl⟩
                           try rw [n2])
              go_quiet (fail)
              go_wp2_with fail
              go_ret2
              exact ⟨by rw [F.out]; rfl, bdrewN HB.out _⟩
            · have e9 : decide (listI L k ≤ listI L j) = false := decide_eq_false hle
              have G : Hid (dateBad L k = 0) := Lib.hid (by unfold dateBad; rw [if_neg (fun hh => hh n2), if_neg (fun hh => hle (by rw [hj]; exact hh.2))])
              clear hle hj h0
              go_wp2_with (go_at_call 106
                           refine (rDateErr_any _ _).mono ?_
                           rintro e w' ⟨rfl, rfl⟩
                           try rw [n2])
              go_quiet (fail)
              go_wp2_with fail
              go_roundw
              case rel =>
                exact ⟨k + 1, by omega, by go_num, Lib.hid fun j hj => by
                  by_cases e : j = k
                  · subst e; exact G.out
                  · exact Hn.out j (by omega), Lib.hid (bdrewN HB.out _)⟩
              case measure => simp [intOf]; omega
          · have d3 : decide ((k : Int) > 0) = false := decide_eq_false (by omega)
            have d4 : decide (0 < (k : Int)) = false := decide_eq_false (by omega)
            have d5 : decide (0 < k) = false := decide_eq_false h0
            have d6 : decide (k = 0) = true := decide_eq_true (by omega)
            have G : Hid (dateBad L k = 0) := Lib.hid (by unfold dateBad; rw [if_neg (fun hh => hh n2), if_neg (fun hh => h0 hh.1)])
            clear h0
            go_wp2_with (go_at_call 106
                         refine (rDateErr_any _ _).mono ?_
                         rintro e w' ⟨rfl, rfl⟩
                         try rw [n2])
            go_quiet (fail)
            go_wp2_with fail
            go_roundw
            case rel =>
              exact ⟨k + 1, by omega, by go_num, Lib.hid fun j hj => by
                by_cases e : j = k
                · subst e; exact G.out
                · exact Hn.out j (by omega), Lib.hid (bdrewN HB.out _)⟩
            case measure => simp [intOf]; omega
        · have e3 : (dateErr (listI L k) == 0) = false := by simpa using n2
          have e4 : (dateErr (listI L k) != 0) = true := by simpa using n2
          have hbad : dateBad L k = dateErr (listI L k) := if_pos n2
          have F := Lib.hid (insp_bad (every := every) (date := date) H20.out ((fst_hit hlt Hn.out (by rw [hbad]; exact n2)).1.trans hbad) n2)
          clear n2 hbad
          go_wp2_with (go_at_call 106
                       refine (rDateErr_any _ _).mono ?_
                       rintro e w' ⟨rfl, rfl⟩
                       skip)
          go_ret2
          exact ⟨by rw [F.out]; rfl, HB.out⟩
      · have HN0 := Lib.hid (show fst (dateBad L) L.length = 0 from fst_none fun j hj => Hn.out j (by omega))
        have HDD := Lib.hid (fun i (hi : i < L.length) => dateBad_ok (Hn.out i (by omega)))
        clear Hn
        by_cases hb : within every 1 1000 = true ∧ dateErr date = 0
        · obtain ⟨h1, h2⟩ := hb
          have hev := Fs.within_iff.1 h1
          have F0 := Lib.hid (insp_ok H20.out HN0.out h1 h2)
          go_wp2_with (first
            | (go_at_call 34
               refine (bwithin_any _ _ _ _).mono ?_
               rintro e w' ⟨rfl, rfl⟩
               rw [h1])
            | (go_at_call 106
               refine (rDateErr_any _ _).mono ?_
               rintro e w' ⟨rfl, rfl⟩
               try rw [h2]))
          go_loopw [10, 11] (fun u i wr => ∃ k : Nat, k ≤ L.length ∧ u = .int .i64 (lastTo L date k) ∧ i = .int .i64 k ∧ Hid (Below w.heap.size w wr)) (fun _ i _ => L.length - (intOf i).toNat)
          case atStart => exact ⟨0, Nat.zero_le _, rfl, rfl, HB⟩
          case round =>
            obtain ⟨k, hk, rfl, rfl, HB⟩ := hrel
            by_cases hlt : k < L.length
            · have hkn : (k : Int) < (L.length : Int) := by omega
              obtain ⟨b, o, rfl, q0⟩ := (HA.out.keep (Keep.below HB.out)).at_ hlt
              by_cases hle : listI L k ≤ date
              · have e9 : decide (listI L k ≤ date) = true := decide_eq_true hle
                have G := Lib.hid (show lastTo L date (k + 1) = listI L k from if_pos hle)
                clear hle
                go_wp2_with fail
                go_roundw
                case rel => exact ⟨k + 1, by omega, by rw [G.out], by go_num, HB⟩
                case measure => simp [intOf]; omega
              · have e9 : decide (listI L k ≤ date) = false := decide_eq_false hle
                have G := Lib.hid (show lastTo L date (k + 1) = lastTo L date k from if_neg hle)
                clear hle
                go_wp2_with fail
                go_roundw
                case rel => exact ⟨k + 1, by omega, by rw [G.out], by go_num, HB⟩
                case measure => simp [intOf]; omega
            · obtain rfl : k = L.length := by omega
              have hla := lastTo_is HDD.out date L.length (Nat.le_refl _)
              obtain ⟨z, hz⟩ : ∃ z, z = lastTo L date L.length := ⟨_, rfl⟩
              rw [← hz] at hla F0 ⊢
              clear hz
              have hwz : IntKind.i64.wrap (z + every) = z + every := by rw [IntKind.wrap_i64]; omega
              by_cases hz0 : z < 0
              · have F := Lib.hid (F0.out.trans (if_pos hz0))
                have e8 : decide (z < 0) = true := decide_eq_true hz0
                go_wp2_with fail
                go_ret2
                exact ⟨by rw [F.out]; rfl, HB.out⟩
              · have F1 := Lib.hid (F0.out.trans (if_neg hz0))
                have e8 : decide (z < 0) = false := decide_eq_false hz0
                by_cases hzd : z + every < date
                · have F := Lib.hid (F1.out.trans (if_pos hzd))
                  have e9 : decide (date > z + every) = true := decide_eq_true hzd
                  have e10 : decide (z + every < date) = true := decide_eq_true hzd
                  go_wp2_with fail
                  go_ret2
                  exact ⟨by rw [F.out]; rfl, HB.out⟩
                · have F := Lib.hid (F1.out.trans (if_neg hzd))
                  have e9 : decide (date > z + every) = false := decide_eq_false hzd
                  have e10 : decide (z + every < date) = false := decide_eq_false hzd
                  go_wp2_with fail
                  go_ret2
                  exact ⟨by rw [F.out]; rfl, HB.out⟩
        · have F := Lib.hid (insp_range H20.out HN0.out hb)
          cases h1 : within every 1 1000 with
          | false =>
            go_wp2_with (first
              | (go_at_call 34
                 refine (bwithin_any _ _ _ _).mono ?_
                 rintro e w' ⟨rfl, rfl⟩
                 rw [h1])
              | (go_at_call 106
                 refine (rDateErr_any _ _).mono ?_
                 rintro e w' ⟨rfl, rfl⟩
                 try rw [h2]))
            go_ret2
            exact ⟨by rw [F.out]; rfl, HB.out⟩
          | true =>
            have h2n : dateErr date ≠ 0 := fun h => hb ⟨h1, h⟩
            have e3 : (dateErr date == 0) = false := by simpa using h2n
            have e4 : (dateErr date != 0) = true := by simpa using h2n
            clear h2n hb
            go_wp2_with (first
              | (go_at_call 34
                 refine (bwithin_any _ _ _ _).mono ?_
                 rintro e w' ⟨rfl, rfl⟩
                 rw [h1])
              | (go_at_call 106
                 refine (rDateErr_any _ _).mono ?_
                 rintro e w' ⟨rfl, rfl⟩
                 skip))
            go_ret2
            exact ⟨by rw [F.out]; rfl, HB.out⟩
end Go.Proofs.Ytolicafhbeiciaa
/- Uses of plates: the reference's overlap, UsesErr, At, Most. Condition of At and Most: the uses' numbers are small. -/
namespace Go.Proofs.Ytolicafhbeiciaa
open Go.RowKit Fs

def Fs.overlapB (x y : WRec) : Bool := decide (x.beg < y.fin) && decide (y.beg < x.fin)
def Fs.clashAt (l : List WRec) (k i : Nat) : Prop := (listW l i).who = (listW l k).who ∧ overlapB (listW l i) (listW l k) = true
open Classical in
noncomputable def Fs.useBad (l : List WRec) (k : Nat) : Int :=
  if isName (listW l k).who = false then 4 else if spanErr (listW l k).beg (listW l k).fin ≠ 0 then spanErr (listW l k).beg (listW l k).fin
  else if ∃ i, i < k ∧ clashAt l k i then 13 else 0
noncomputable def Fs.usesErr (l : List WRec) : Int := if 14 < l.length then 8 else fst (useBad l) l.length
theorem uses_hit {l : List WRec} {k : Nat} {x : Int} (h : ¬ 14 < l.length) (hk : k < l.length) (h1 : ∀ j, j < k → useBad l j = 0) (h2 : useBad l k = x) (h3 : x ≠ 0) : usesErr l = x := by
  unfold usesErr
  rw [if_neg h, (fst_hit hk h1 (by rw [h2]; exact h3)).1, h2]
set_option maxHeartbeats 800000 in
theorem rOverlap_any (x y : WRec) (w : World) : Calls Try.prog 126 #[recV x, recV y] w fun e w' => e = .returned (.bool (overlapB x y)) ∧ Below w.heap.size w w' := by
  have HX := Lib.hid ((show RecAt (w.alloc (.cells #[.string x.who, .int .i64 x.beg, .int .i64 x.fin] 113)) w.heap.size 0 x from ⟨cellNew _ _ _ 0, cellNew _ _ _ 1, cellNew _ _ _ 2⟩).keep (Keep.alloc _ (.cells #[.string y.who, .int .i64 y.beg, .int .i64 y.fin] 113)))
  have HY := Lib.hid (show RecAt ((w.alloc (.cells #[.string x.who, .int .i64 x.beg, .int .i64 x.fin] 113)).alloc (.cells #[.string y.who, .int .i64 y.beg, .int .i64 y.fin] 113)) (w.heap.size + 1) 0 y from ⟨cellNew1 _ _ _ _ 0, cellNew1 _ _ _ _ 1, cellNew1 _ _ _ _ 2⟩)
  go_enter Try.func126, Try.ntmps126
  go_upto_region 1 with fail
  generalize hwb : (w.alloc _).alloc _ = wb at *
  have HW : Hid (Below w.heap.size w wb) := by rw [← hwb]; exact Lib.hid (((Below.refl _ _).alloc (Nat.le_refl _) _).alloc (by simp) _)
  clear hwb
  obtain ⟨x0, x1, x2⟩ := HX.out
  obtain ⟨y0, y1, y2⟩ := HY.out
  by_cases h1 : x.beg < y.fin
  · have d1 : decide (x.beg < y.fin) = true := decide_eq_true h1
    by_cases h2 : y.beg < x.fin
    · have d2 : decide (y.beg < x.fin) = true := decide_eq_true h2
      have F := Lib.hid (show overlapB x y = true by unfold overlapB; rw [d1, d2]; rfl)
      go_wp2_with fail
      go_ret
      exact ⟨ret_bool F.out.symm, HW.out⟩
    · have d2 : decide (y.beg < x.fin) = false := decide_eq_false h2
      have F := Lib.hid (show overlapB x y = false by unfold overlapB; rw [d1, d2]; rfl)
      go_wp2_with fail
      go_ret
      exact ⟨ret_bool F.out.symm, HW.out⟩
  · have d1 : decide (x.beg < y.fin) = false := decide_eq_false h1
    have F := Lib.hid (show overlapB x y = false by unfold overlapB; rw [d1]; rfl)
    go_wp2_with fail
    go_ret
    exact ⟨ret_bool F.out.symm, HW.out⟩
set_option linter.unusedSimpArgs false in
set_option maxHeartbeats 6400000 in
set_option maxRecDepth 100000 in
theorem rUsesErr_any (l : List WRec) (A : Option Addr) (c : Nat) (w : World) (h : ArrW w A l c) :
    Calls Try.prog 68 #[.slice A l.length c] w fun e w' => e = .returned (.int .i64 (usesErr l)) ∧ Below w.heap.size w w' := by
  have b1 := h.le.1
  have b2 := h.le.2
  have HA := Lib.hid h
  clear h
  go_enter Try.func68, Try.ntmps68
  by_cases h14 : 14 < l.length
  · have F := Lib.hid (show usesErr l = 8 from if_pos h14)
    have d1 : decide ((l.length : Int) > 14) = true := decide_eq_true (by omega)
    have d2 : decide ((14 : Int) < (l.length : Int)) = true := decide_eq_true (by omega)
    clear h14
    go_wp2_with fail
    go_ret
    exact ⟨ret_int F.out.symm, Below.refl _ _⟩
  · have H14 := Lib.hid h14
    have d1 : decide ((l.length : Int) > 14) = false := decide_eq_false (by omega)
    have d2 : decide ((14 : Int) < (l.length : Int)) = false := decide_eq_false (by omega)
    have hl14 : l.length ≤ 14 := by omega
    clear h14
    go_wp2_with fail
    go_loopw [3] (fun i wr => ∃ k : Nat, k ≤ l.length ∧ i = .int .i64 k ∧ Hid (∀ j, j < k → useBad l j = 0) ∧ Hid (Below w.heap.size w wr)) (fun i _ => l.length - (intOf i).toNat)
    case atStart => exact ⟨0, Nat.zero_le _, rfl, Lib.hid fun j hj => absurd hj (Nat.not_lt_zero _), Lib.hid (Below.refl _ _)⟩
    case round =>
      obtain ⟨k, hk, rfl, Hn, HB⟩ := hrel
      by_cases hlt : k < l.length
      · have hkn : (k : Int) < (l.length : Int) := by omega
        obtain ⟨b, o, rfl, q⟩ := (HA.out.keep (Keep.below HB.out)).at_ hlt
        obtain ⟨q0, q1, q2⟩ := q
        cases n1 : isName (listW l k).who with
        | false =>
          have hbad : useBad l k = 4 := by unfold useBad; rw [if_pos n1]
          have F := Lib.hid (uses_hit H14.out hlt Hn.out hbad (by decide))
          clear hbad
          go_wp2_with (go_at_call 105
                       refine (bIsName_any _ _).mono ?_
                       rintro e w' ⟨rfl, rfl⟩
                       rw [n1])
          go_ret
          exact ⟨ret_int F.out.symm, HB.out⟩
        | true =>
          have N1 := Lib.hid n1
          by_cases n2 : spanErr (listW l k).beg (listW l k).fin = 0
          · have N2 := Lib.hid n2
            go_wp2_with (go_at_call 105
                         refine (bIsName_any _ _).mono ?_
                         rintro e w' ⟨rfl, rfl⟩
                         rw [n1])
            go_quiet ((go_at_call 125; exact Calls.quiet_of_same ((rSpanErr_any _ _ _).mono fun _ _ h => ⟨h.1, h.2.symm⟩)))
            rw [n2]
            clear n1 n2
            go_wp2_with fail
            go_loopw [5] (fun i wr => ∃ j : Nat, j ≤ k ∧ i = .int .i64 j ∧ Hid (∀ i, i < j → ¬ clashAt l k i) ∧ Hid (Below w.heap.size w wr)) (fun i _ => k - (intOf i).toNat)
            case atStart => exact ⟨0, Nat.zero_le _, rfl, Lib.hid fun j hj => absurd hj (Nat.not_lt_zero _), Lib.hid (bdrewN HB.out _)⟩
            case round =>
              obtain ⟨j, hj, rfl, Hj, HB⟩ := hrel
              by_cases hjk : j < k
              · have d1 : decide ((j : Int) < (k : Int)) = true := decide_eq_true (by omega)
                have hkj : (j : Int) < (l.length : Int) := by omega
                obtain ⟨b', o', e', r, q⟩ := (HA.out.keep (Keep.below HB.out)).two (i := j) (by omega) hlt
                obtain ⟨rfl, rfl⟩ : b = b' ∧ o = o' := by simpa using e'
                clear e'
                obtain ⟨q0, q1, q2⟩ := q
                obtain ⟨r0, r1, r2⟩ := r
                by_cases hc : clashAt l k j
                · have hbad : useBad l k = 13 := by unfold useBad; rw [if_neg (by rw [N1.out]; decide), if_neg (fun hh => hh N2.out), if_pos ⟨j, hjk, hc⟩]
                  have F := Lib.hid (uses_hit H14.out hlt Hn.out hbad (by decide))
                  obtain ⟨hs, ho⟩ := hc
                  have e1 := str_eq hs
                  clear hs hbad
                  obtain ⟨wq, hwq⟩ : ∃ wq, wq = wr := ⟨_, rfl⟩
                  subst hwq
                  go_wp2_with fail
                  obtain ⟨C, Ci, Co⟩ := classOf wq
                  refine quietC (C := C) (by kernel_rfl) (by kernel_rfl) (Co.out _ (Below.refl _ _).drew) ?_
                  repeat (first
                    | go_big_quiet_skip
                    | (go_big_quiet_want; go_big_quiet_op; go_big_quiet_on)
                    | (refine quiet_yes (by rfl) ?_
                       apply Exists.intro
                       refine ⟨fun w' hC => ?_, ?_⟩
                       · have hbb := Ci.out _ hC
                         have zz0 := Keep.below hbb _ _ q0
                         have zz1 := Keep.below hbb _ _ q1
                         have zz2 := Keep.below hbb _ _ q2
                         have zz3 := Keep.below hbb _ _ r0
                         have zz4 := Keep.below hbb _ _ r1
                         have zz5 := Keep.below hbb _ _ r2
                         go_simp
                         first
                           | done
                           | rfl
                           | (go_at_call 126
                              refine (rOverlap_any (listW l j) (listW l k) _).mono ?_
                              rintro e' w1 ⟨rfl, hb1⟩
                              rw [ho]
                              exact ⟨rfl, Co.out _ (hbb.trans (hb1.mono hbb.size))⟩)
                       simp only [Act.put, List.setIfInBounds_toArray, List.set_cons_zero, List.set_cons_succ]))
                  refine wpQuiet_nil ?_
                  intro wz hC1
                  have HX := Lib.hid (HB.out.trans ((Ci.out _ hC1).mono HB.out.size))
                  clear hC1 Ci Co
                  go_wp2_with fail
                  go_ret
                  exact ⟨ret_int F.out.symm, HX.out⟩
                · have G : Hid (∀ i, i < j + 1 → ¬ clashAt l k i) := Lib.hid fun i hi => by
                    by_cases e : i = j
                    · subst e; exact hc
                    · exact Hj.out i (by omega)
                  by_cases hs : (listW l j).who = (listW l k).who
                  · have e1 := str_eq hs
                    have ho : overlapB (listW l j) (listW l k) = false := by
                      cases ho : overlapB (listW l j) (listW l k) with
                      | false => rfl
                      | true => exact absurd ⟨hs, ho⟩ hc
                    clear hs hc
                    obtain ⟨wq, hwq⟩ : ∃ wq, wq = wr := ⟨_, rfl⟩
                    subst hwq
                    go_wp2_with fail
                    obtain ⟨C, Ci, Co⟩ := classOf wq
                    refine quietC (C := C) (by kernel_rfl) (by kernel_rfl) (Co.out _ (Below.refl _ _).drew) ?_
                    repeat (first
                      | go_big_quiet_skip
                      | (go_big_quiet_want; go_big_quiet_op; go_big_quiet_on)
                      | (refine quiet_yes (by rfl) ?_
                         apply Exists.intro
                         refine ⟨fun w' hC => ?_, ?_⟩
                         · have hbb := Ci.out _ hC
                           have zz0 := Keep.below hbb _ _ q0
                           have zz1 := Keep.below hbb _ _ q1
                           have zz2 := Keep.below hbb _ _ q2
                           have zz3 := Keep.below hbb _ _ r0
                           have zz4 := Keep.below hbb _ _ r1
                           have zz5 := Keep.below hbb _ _ r2
                           go_simp
                           first
                             | done
                             | rfl
                             | (go_at_call 126
                                refine (rOverlap_any (listW l j) (listW l k) _).mono ?_
                                rintro e' w1 ⟨rfl, hb1⟩
                                rw [ho]
                                exact ⟨rfl, Co.out _ (hbb.trans (hb1.mono hbb.size))⟩)
                         simp only [Act.put, List.setIfInBounds_toArray, List.set_cons_zero, List.set_cons_succ]))
                    refine wpQuiet_nil ?_
                    intro wz hC1
                    have HX := Lib.hid (HB.out.trans ((Ci.out _ hC1).mono HB.out.size))
                    clear hC1 Ci Co
                    go_wp2_with fail
                    go_roundw
                    case rel => exact ⟨j + 1, by omega, by go_num, G, HX⟩
                    case measure => simp [intOf]; omega
                  · have e1 := str_ne hs
                    clear hs hc
                    go_wp2_with fail
                    go_quiet (fail)
                    go_wp2_with fail
                    go_roundw
                    case rel => exact ⟨j + 1, by omega, by go_num, G, Lib.hid (bdrewN HB.out _)⟩
                    case measure => simp [intOf]; omega
              · have d1 : decide ((j : Int) < (k : Int)) = false := decide_eq_false (by omega)
                have F : Hid (useBad l k = 0) := Lib.hid (by unfold useBad; rw [if_neg (by rw [N1.out]; decide), if_neg (fun hh => hh N2.out), if_neg (fun ⟨i, h1, h2⟩ => Hj.out i (by omega) h2)])
                go_wp2_with fail
                go_roundw
                case rel =>
                  exact ⟨k + 1, by omega, by go_num, Lib.hid fun j hj => by
                    by_cases e : j = k
                    · subst e; exact F.out
                    · exact Hn.out j (by omega), HB⟩
                case measure => simp [intOf]; omega
          · have e3 : (spanErr (listW l k).beg (listW l k).fin == 0) = false := by simpa using n2
            have e4 : (spanErr (listW l k).beg (listW l k).fin != 0) = true := by simpa using n2
            have hbad : useBad l k = spanErr (listW l k).beg (listW l k).fin := by unfold useBad; rw [if_neg (by rw [n1]; decide), if_pos n2]
            have F := Lib.hid (uses_hit H14.out hlt Hn.out hbad n2)
            clear hbad n2
            go_wp2_with (go_at_call 105
                         refine (bIsName_any _ _).mono ?_
                         rintro e w' ⟨rfl, rfl⟩
                         rw [n1])
            go_quiet ((go_at_call 125; exact Calls.quiet_of_same ((rSpanErr_any _ _ _).mono fun _ _ h => ⟨h.1, h.2.symm⟩)))
            go_wp2_with fail
            go_ret
            exact ⟨ret_int F.out.symm, bdrewN HB.out _⟩
      · have F := Lib.hid (show usesErr l = 0 by unfold usesErr; rw [if_neg H14.out]; exact fst_none fun j hj => Hn.out j (by omega))
        go_wp2_with fail
        go_ret
        exact ⟨ret_int F.out.symm, HB.out⟩
end Go.Proofs.Ytolicafhbeiciaa

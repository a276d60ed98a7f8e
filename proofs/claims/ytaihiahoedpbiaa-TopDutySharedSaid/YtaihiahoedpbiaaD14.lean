/- Licences: the reference's DateErr, CheckLicences, CopyLicences; the law's licences. No condition. -/
import Derived.Test.YtaihiahoedpbiaaD9
import Derived.Deep.QuietTactic
import Derived.BigQuiet
namespace Go.Proofs.Ytaihiahoedpbiaa
open Go.RowKit Fs

def Fs.dateErr (n : Int) : Int := if within n 0 100000 = true then 0 else 2
def Fs.licErr (x : WRec) : Int := if isName x.who = false then 4 else if dateErr x.beg ≠ 0 ∨ dateErr x.fin ≠ 0 then 2 else if x.fin < x.beg then 9 else 0
def Fs.licsErr (l : List WRec) : Int := if 20 < l.length then 8 else fst (fun i => licErr (listW l i)) l.length
def Fs.licsAt (l : List WRec) : Nat := if 20 < l.length then 0 else idx (fun i => licErr (listW l i)) l.length
theorem Fs.lics_long {l : List WRec} (h : 20 < l.length) : licsErr l = 8 ∧ licsAt l = 0 := ⟨if_pos h, if_pos h⟩
theorem Fs.lics_hit {l : List WRec} {k : Nat} (h : ¬ 20 < l.length) (hk : k < l.length) (h1 : ∀ j, j < k → licErr (listW l j) = 0) (h2 : licErr (listW l k) ≠ 0) : licsErr l = licErr (listW l k) ∧ licsAt l = k := by
  unfold licsErr licsAt
  rw [if_neg h, if_neg h]
  exact fst_hit (f := fun i => licErr (listW l i)) hk h1 h2
theorem Fs.lics_none {l : List WRec} (h : ¬ 20 < l.length) (h1 : ∀ j, j < l.length → licErr (listW l j) = 0) : licsErr l = 0 ∧ licsAt l = 0 := by
  unfold licsErr licsAt
  rw [if_neg h, if_neg h]
  exact ⟨fst_none h1, idx_none h1⟩
set_option maxHeartbeats 400000 in
theorem rDateErr_any (n : Int) (w : World) : Calls Try.prog 106 #[.int .i64 n] w fun e w' => e = .returned (.int .i64 (dateErr n)) ∧ w = w' := by
  cases h1 : within n 0 100000 with
  | true =>
    have F := Lib.hid (show dateErr n = 0 from if_pos h1)
    go_enter Try.func106, Try.ntmps106
    go_wp2_with (go_at_call 34; refine (bwithin_any _ _ _ _).mono ?_; rintro e w' ⟨rfl, rfl⟩; rw [h1])
    go_ret
    exact ⟨ret_int F.out.symm, rfl⟩
  | false =>
    have F := Lib.hid (show dateErr n = 2 from if_neg (by rw [h1]; decide))
    go_enter Try.func106, Try.ntmps106
    go_wp2_with (go_at_call 34; refine (bwithin_any _ _ _ _).mono ?_; rintro e w' ⟨rfl, rfl⟩; rw [h1])
    go_ret
    exact ⟨ret_int F.out.symm, rfl⟩
set_option linter.unusedSimpArgs false in
set_option maxHeartbeats 6400000 in
set_option maxRecDepth 100000 in
theorem rCheckLicences_any (l : List WRec) (A : Option Addr) (c : Nat) (w : World) (h : ArrW w A l c) :
    Calls Try.prog 46 #[.slice A l.length c] w fun e w' => e = .returned (.tuple #[.int .i64 (licsAt l : Nat), .int .i64 (licsErr l)]) ∧ Below w.heap.size w w' := by
  have b1 := h.le.1
  have b2 := h.le.2
  have HA := Lib.hid h
  clear h
  go_enter Try.func46, Try.ntmps46
  by_cases h40 : 20 < l.length
  · obtain ⟨F1, F2⟩ := lics_long h40
    have G1 := Lib.hid F1
    have G2 := Lib.hid F2
    have d1 : decide ((l.length : Int) > 20) = true := decide_eq_true (by omega)
    have d2 : decide ((20 : Int) < (l.length : Int)) = true := decide_eq_true (by omega)
    clear F1 F2 h40
    go_wp2_with fail
    go_ret2
    exact ⟨by rw [G1.out, G2.out]; rfl, Below.refl _ _⟩
  · have H40 := Lib.hid h40
    have d1 : decide ((l.length : Int) > 20) = false := decide_eq_false (by omega)
    have d2 : decide ((20 : Int) < (l.length : Int)) = false := decide_eq_false (by omega)
    go_wp2_with fail
    go_loopw [4] (fun i wr => ∃ k : Nat, k ≤ l.length ∧ i = .int .i64 k ∧ Hid (∀ j, j < k → licErr (listW l j) = 0) ∧ Hid (Below w.heap.size w wr)) (fun i _ => l.length - (intOf i).toNat)
    case atStart => exact ⟨0, Nat.zero_le _, rfl, Lib.hid fun j hj => absurd hj (Nat.not_lt_zero _), Lib.hid (Below.refl _ _)⟩
    case round =>
      obtain ⟨k, hk, rfl, Hn, HB⟩ := hrel
      by_cases hlt : k < l.length
      · have hkn : (k : Int) < (l.length : Int) := by omega
        obtain ⟨b, o, rfl, q⟩ := (HA.out.keep (Keep.below HB.out)).at_ hlt
        obtain ⟨q0, q1, q2⟩ := q
        cases n1 : isName (listW l k).who with
        | false =>
          have F : Hid (licErr (listW l k) = 4) := Lib.hid (by unfold licErr; rw [n1]; rfl)
          obtain ⟨F1, F2⟩ := lics_hit H40.out hlt Hn.out (by rw [F.out]; decide)
          have G1 := Lib.hid (F1.trans F.out)
          have G2 := Lib.hid F2
          clear F1 F2
          go_wp2_with (first
            | (go_at_call 105
               refine (bIsName_any _ _).mono ?_
               rintro e w' ⟨rfl, rfl⟩
               rw [n1])
            | (go_at_call 106
               refine (rDateErr_any _ _).mono ?_
               rintro e w' ⟨rfl, rfl⟩
               first | rw [n2] | rw [n3]))
          go_ret2
          exact ⟨by rw [G1.out, G2.out]; rfl, HB.out⟩
        | true =>
          by_cases n2 : dateErr (listW l k).beg = 0
          · by_cases n3 : dateErr (listW l k).fin = 0
            · by_cases hd : (listW l k).fin < (listW l k).beg
              · have d5 : decide ((listW l k).fin < (listW l k).beg) = true := decide_eq_true hd
                have F : Hid (licErr (listW l k) = 9) := Lib.hid (by unfold licErr; rw [n1, if_neg (by decide), if_neg (fun hh => hh.elim (fun h => h n2) (fun h => h n3)), if_pos hd])
                obtain ⟨F1, F2⟩ := lics_hit H40.out hlt Hn.out (by rw [F.out]; decide)
                have G1 := Lib.hid (F1.trans F.out)
                have G2 := Lib.hid F2
                clear F1 F2
                clear hd
                go_wp2_with (first
                  | (go_at_call 105
                     refine (bIsName_any _ _).mono ?_
                     rintro e w' ⟨rfl, rfl⟩
                     rw [n1])
                  | (go_at_call 106
                     refine (rDateErr_any _ _).mono ?_
                     rintro e w' ⟨rfl, rfl⟩
                     first | rw [n2] | rw [n3]))
                go_quiet (fail)
                go_wp2_with fail
                go_ret2
                exact ⟨by rw [G1.out, G2.out]; rfl, bdrewN HB.out _⟩
              · have d5 : decide ((listW l k).fin < (listW l k).beg) = false := decide_eq_false hd
                have F : Hid (licErr (listW l k) = 0) := Lib.hid (by unfold licErr; rw [n1, if_neg (by decide), if_neg (fun hh => hh.elim (fun h => h n2) (fun h => h n3)), if_neg hd])
                clear hd
                go_wp2_with (first
                  | (go_at_call 105
                     refine (bIsName_any _ _).mono ?_
                     rintro e w' ⟨rfl, rfl⟩
                     rw [n1])
                  | (go_at_call 106
                     refine (rDateErr_any _ _).mono ?_
                     rintro e w' ⟨rfl, rfl⟩
                     first | rw [n2] | rw [n3]))
                go_quiet (fail)
                go_wp2_with fail
                go_roundw
                case rel =>
                  exact ⟨k + 1, by omega, by go_num, Lib.hid fun j hj => by
                    by_cases e : j = k
                    · subst e; exact F.out
                    · exact Hn.out j (by omega), Lib.hid (bdrewN HB.out _)⟩
                case measure => simp [intOf]; omega
            · have e3 : (dateErr (listW l k).fin == 0) = false := by simpa using n3
              have e4 : (dateErr (listW l k).fin != 0) = true := by simpa using n3
              have F : Hid (licErr (listW l k) = 2) := Lib.hid (by unfold licErr; rw [n1, if_neg (by decide), if_pos (Or.inr n3)])
              obtain ⟨F1, F2⟩ := lics_hit H40.out hlt Hn.out (by rw [F.out]; decide)
              have G1 := Lib.hid (F1.trans F.out)
              have G2 := Lib.hid F2
              clear F1 F2
              clear n3
              have n3 : dateErr (listW l k).fin = dateErr (listW l k).fin := rfl
              go_wp2_with (first
                | (go_at_call 105
                   refine (bIsName_any _ _).mono ?_
                   rintro e w' ⟨rfl, rfl⟩
                   rw [n1])
                | (go_at_call 106
                   refine (rDateErr_any _ _).mono ?_
                   rintro e w' ⟨rfl, rfl⟩
                   first | rw [n2] | skip))
              go_ret2
              exact ⟨by rw [G1.out, G2.out]; rfl, HB.out⟩
          · have e3 : (dateErr (listW l k).beg == 0) = false := by simpa using n2
            have e4 : (dateErr (listW l k).beg != 0) = true := by simpa using n2
            have F : Hid (licErr (listW l k) = 2) := Lib.hid (by unfold licErr; rw [n1, if_neg (by decide), if_pos (Or.inl n2)])
            obtain ⟨F1, F2⟩ := lics_hit H40.out hlt Hn.out (by rw [F.out]; decide)
            have G1 := Lib.hid (F1.trans F.out)
            have G2 := Lib.hid F2
            clear F1 F2
            clear n2
            go_wp2_with (first
              | (go_at_call 105
                 refine (bIsName_any _ _).mono ?_
                 rintro e w' ⟨rfl, rfl⟩
                 rw [n1])
              | (go_at_call 106
                 refine (rDateErr_any _ _).mono ?_
                 rintro e w' ⟨rfl, rfl⟩
                 skip))
            go_ret2
            exact ⟨by rw [G1.out, G2.out]; rfl, HB.out⟩
      · obtain ⟨F1, F2⟩ := lics_none H40.out (fun j hj => Hn.out j (by omega) : ∀ j, j < l.length → licErr (listW l j) = 0)
        have G1 := Lib.hid F1
        have G2 := Lib.hid F2
        clear F1 F2
        go_wp2_with fail
        go_ret2
        exact ⟨by rw [G1.out, G2.out]; rfl, HB.out⟩
theorem Try.infoDLic : (Try.prog.info? 148).map (fun i => (i.zero, i.size, i.bytes)) = some (some (.agg #[.string ⟨#[]⟩, .int .i64 0, .int .i64 0]), 3, 32) := by kernel_rfl
set_option maxHeartbeats 400000 in
theorem rCopyLicences_any (l : List WRec) (A : Option Addr) (c : Nat) (w : World) (h : ArrW w A l c) (hn : l.length ≤ 1000000) :
    Calls Try.prog 45 #[.slice A l.length c] w fun e w' => (∃ A' c', e = .returned (.slice A' l.length c') ∧ ArrW w' A' l c') ∧ Below w.heap.size w w' := by
  obtain ⟨i0, hi, hz0, hz1, hz2⟩ := info_parts Try.infoDLic
  go_enter Try.func45, Try.ntmps45
  go_wp2_with (at_builtin
               refine wpList_copy rfl (.tmp 3) (.tmp 4) 75 rfl 148 i0 (.agg #[.string ⟨#[]⟩, .int .i64 0, .int .i64 0]) 3 32 Try.underlying75 hi hz0 hz1 hz2 rfl (by decide) w.heap.size w.heap.size rfl (Nat.le_refl _) (heap_alloc_new _ _) A l.length c _ rfl (Arr.keep (Keep.alloc w _) h) (by intro i j; unfold recCells; split <;> rfl) (by unfold maxLen; omega) (by omega) ?_
               intro A1 c1 w1 ha hb)
  go_ret
  exact ⟨⟨A1, c1, rfl, own_arrN ha⟩, ((Below.refl _ _).alloc (Nat.le_refl _) _).trans hb⟩
end Go.Proofs.Ytaihiahoedpbiaa
/- Licences: Holds, KindErr, Lapses; the law's licences. Condition of Lapses: the licences and the date are right. -/
namespace Go.Proofs.Ytaihiahoedpbiaa
open Go.RowKit Fs

def Fs.holdsAt (l : List WRec) (s : ByteArray) (d : Int) (k : Nat) : Prop := (listW l k).who = s ∧ within d (listW l k).beg (listW l k).fin = true
def Fs.HoldsL (l : List WRec) (s : ByteArray) (d : Int) : Prop := ∃ k, k < l.length ∧ holdsAt l s d k
open Classical in
noncomputable def Fs.licHolds (l : List WRec) (s : ByteArray) (d : Int) : Bool := decide (HoldsL l s d)
theorem licHolds_yes {l : List WRec} {s : ByteArray} {d : Int} (h : HoldsL l s d) : licHolds l s d = true := by unfold licHolds; simpa using h
theorem licHolds_no {l : List WRec} {s : ByteArray} {d : Int} (h : ∀ k, k < l.length → ¬ holdsAt l s d k) : licHolds l s d = false := by
  unfold licHolds
  simp only [decide_eq_false_iff_not]
  exact fun ⟨k, h1, h2⟩ => h k h1 h2
theorem licHolds_is {l : List WRec} {s : ByteArray} {d : Int} (h : licHolds l s d = true) : HoldsL l s d := by unfold licHolds at h; simpa using h
theorem licHolds_not {l : List WRec} {s : ByteArray} {d : Int} (h : licHolds l s d = false) : ¬ HoldsL l s d := by unfold licHolds at h; simpa using h
set_option linter.unusedSimpArgs false in
set_option maxHeartbeats 3200000 in
set_option maxRecDepth 100000 in
theorem rHolds_any (l : List WRec) (s : ByteArray) (d : Int) (A : Option Addr) (c : Nat) (w : World) (h : ArrW w A l c) :
    Calls Try.prog 50 #[.slice A l.length c, .string s, .int .i64 d] w fun e w' => e = .returned (.bool (licHolds l s d)) ∧ Below w.heap.size w w' := by
  have b1 := h.le.1
  have b2 := h.le.2
  have HA := Lib.hid h
  clear h
  go_enter Try.func50, Try.ntmps50
  go_wp2_with fail
  go_loopw [7] (fun i wr => ∃ k : Nat, k ≤ l.length ∧ i = .int .i64 k ∧ Hid (∀ j, j < k → ¬ holdsAt l s d j) ∧ Hid (Below w.heap.size w wr)) (fun i _ => l.length - (intOf i).toNat)
  case atStart => exact ⟨0, Nat.zero_le _, rfl, Lib.hid fun j hj => absurd hj (Nat.not_lt_zero _), Lib.hid (Below.refl _ _)⟩
  case round =>
    obtain ⟨k, hk, rfl, Hn, HB⟩ := hrel
    by_cases hlt : k < l.length
    · have hkn : (k : Int) < (l.length : Int) := by omega
      obtain ⟨b, o, rfl, q⟩ := (HA.out.keep (Keep.below HB.out)).at_ hlt
      obtain ⟨q0, q1, q2⟩ := q
      by_cases he : holdsAt l s d k
      · obtain ⟨hs, hw⟩ := he
        have e1 := str_eq hs
        have F := Lib.hid (licHolds_yes (l := l) (s := s) (d := d) ⟨k, hlt, hs, hw⟩)
        clear hs
        go_wp2_with fail
        go_quiet ((go_at_call 34; exact Calls.quiet_of_same ((bwithin_any _ _ _ _).mono fun _ _ h => ⟨h.1, h.2.symm⟩)))
        go_wp2_with fail
        go_ret
        exact ⟨ret_bool F.out.symm, bdrewN HB.out _⟩
      · have NX : Hid (∀ j, j < k + 1 → ¬ holdsAt l s d j) := Lib.hid fun j hj => by
          by_cases e : j = k
          · subst e; exact he
          · exact Hn.out j (by omega)
        by_cases hs : (listW l k).who = s
        · have e1 := str_eq hs
          have hw : within d (listW l k).beg (listW l k).fin = false := by
            cases hw : within d (listW l k).beg (listW l k).fin with
            | false => rfl
            | true => exact absurd ⟨hs, hw⟩ he
          clear hs he
          go_wp2_with fail
          go_quiet ((go_at_call 34; exact Calls.quiet_of_same ((bwithin_any _ _ _ _).mono fun _ _ h => ⟨h.1, h.2.symm⟩)))
          go_wp2_with fail
          go_roundw
          case rel => exact ⟨k + 1, by omega, by go_num, NX, Lib.hid (bdrewN HB.out _)⟩
          case measure => simp [intOf]; omega
        · have e1 := str_ne hs
          clear hs he
          go_wp2_with fail
          go_quiet (fail)
          go_wp2_with fail
          go_roundw
          case rel => exact ⟨k + 1, by omega, by go_num, NX, Lib.hid (bdrewN HB.out _)⟩
          case measure => simp [intOf]; omega
    · have F := Lib.hid (licHolds_no (l := l) (s := s) (d := d) fun j hj => Hn.out j (by omega))
      go_wp2_with fail
      go_ret
      exact ⟨ret_bool F.out.symm, HB.out⟩

/-- The last date up to which a licence holds from a date on, or -1. -/
structure Fs.LapsesAt (l : List WRec) (s : ByteArray) (d n : Int) : Prop where
  up : ∀ z, d ≤ z → z ≤ n → HoldsL l s z
  no : d ≤ n → ¬ HoldsL l s (n + 1)
  none : n < d → n = -1 ∧ ¬ HoldsL l s d
  top : n ≤ 100000
theorem Fs.LapsesAt.same {l : List WRec} {s : ByteArray} {d n m : Int} (h : LapsesAt l s d n) (h' : LapsesAt l s d m) : n = m := by
  by_cases e : n < d
  · by_cases e' : m < d
    · rw [(h.none e).1, (h'.none e').1]
    · exact absurd (h'.up d (Int.le_refl _) (by omega)) (h.none e).2
  · by_cases e' : m < d
    · exact absurd (h.up d (Int.le_refl _) (by omega)) (h'.none e').2
    · rcases Int.lt_trichotomy n m with x | x | x
      · exact absurd (h'.up (n + 1) (by omega) (by omega)) (h.no (by omega))
      · exact x
      · exact absurd (h.up (m + 1) (by omega) (by omega)) (h'.no (by omega))
theorem Fs.licErr_ok {x : WRec} (h : licErr x = 0) : isName x.who = true ∧ (0 ≤ x.beg ∧ x.beg ≤ 100000) ∧ (0 ≤ x.fin ∧ x.fin ≤ 100000) ∧ x.beg ≤ x.fin := by
  unfold licErr at h
  cases hn : isName x.who with
  | false => rw [hn, if_pos rfl] at h; exact absurd h (by decide)
  | true =>
    rw [hn, if_neg (by decide)] at h
    by_cases hd : dateErr x.beg ≠ 0 ∨ dateErr x.fin ≠ 0
    · rw [if_pos hd] at h; exact absurd h (by decide)
    · rw [if_neg hd] at h
      have hh : ∀ n, dateErr n = 0 → 0 ≤ n ∧ n ≤ 100000 := fun n hn => by
        unfold dateErr at hn
        by_cases hw : within n 0 100000 = true
        · exact Fs.within_iff.1 hw
        · rw [if_neg hw] at hn; exact absurd hn (by decide)
      have h1 := hh x.beg (Classical.byContradiction fun hc => hd (Or.inl hc))
      have h2 := hh x.fin (Classical.byContradiction fun hc => hd (Or.inr hc))
      by_cases hl : x.fin < x.beg
      · rw [if_pos hl] at h; exact absurd h (by decide)
      · exact ⟨rfl, h1, h2, by omega⟩
theorem Fs.lics_ok {l : List WRec} (h : licsErr l = 0) : l.length ≤ 20 ∧ ∀ i, i < l.length → licErr (listW l i) = 0 := by
  unfold licsErr at h
  by_cases h0 : 20 < l.length
  · rw [if_pos h0] at h; exact absurd h (by decide)
  · rw [if_neg h0] at h
    exact ⟨by omega, fst_zero h⟩
set_option linter.unusedSimpArgs false in
set_option maxHeartbeats 6400000 in
set_option maxRecDepth 100000 in
theorem rLapses_any (l : List WRec) (s : ByteArray) (d : Int) (A : Option Addr) (c : Nat) (w : World) (h : ArrW w A l c) (hL : licsErr l = 0) (hd0 : 0 ≤ d) (hd1 : d ≤ 100000) :
    Calls Try.prog 51 #[.slice A l.length c, .string s, .int .i64 d] w fun e w' => (∃ n, e = .returned (.int .i64 n) ∧ LapsesAt l s d n) ∧ Below w.heap.size w w' := by
  have b1 := h.le.1
  have b2 := h.le.2
  have HA := Lib.hid h
  clear h
  have HD := Lib.hid (fun i hi => (licErr_ok ((lics_ok hL).2 i hi)).2.2.1)
  have hl20 := (lics_ok hL).1
  clear hL
  have hwd : IntKind.i64.wrap (d - 1) = d - 1 := by rw [IntKind.wrap_i64]; omega
  go_enter Try.func51, Try.ntmps51
  go_wp2_with fail
  go_loopw [7] (fun u wr => ∃ x : Int, u = .int .i64 x ∧ d - 1 ≤ x ∧ x ≤ 100000 ∧ Hid (∀ z, d ≤ z → z ≤ x → HoldsL l s z) ∧ Hid (Below w.heap.size w wr)) (fun u _ => (100001 - intOf u).toNat)
  case atStart => exact ⟨d - 1, rfl, Int.le_refl _, by omega, Lib.hid fun z h1 h2 => absurd h1 (by omega), Lib.hid (Below.refl _ _)⟩
  case round =>
    obtain ⟨x, rfl, hx0, hx1, HX, HB0⟩ := hrel
    have hwx : IntKind.i64.wrap (x + 1) = x + 1 := by rw [IntKind.wrap_i64]; omega
    go_wp2_with fail
    refine (rHolds_any l s (x + 1) A c _ (HA.out.keep (Keep.below HB0.out))).mono ?_
    rintro e' w1 ⟨rfl, hb1⟩
    have HB1 := Lib.hid (HB0.out.trans (hb1.mono HB0.out.size))
    clear hb1
    cases hh : licHolds l s (x + 1) with
    | true =>
      have HH := Lib.hid (licHolds_is hh)
      clear hh
      go_wp2_with fail
      go_loopw [7, 8] (fun u i wr => ∃ (j : Nat) (y : Int), j ≤ l.length ∧ u = .int .i64 y ∧ i = .int .i64 j ∧ x ≤ y ∧ y ≤ 100000 ∧ Hid (∀ z, d ≤ z → z ≤ y → HoldsL l s z) ∧ Hid (y = x → ∀ i, i < j → ¬ holdsAt l s (x + 1) i) ∧ Hid (Below w.heap.size w wr)) (fun _ i _ => l.length - (intOf i).toNat)
      case atStart => exact ⟨0, x, Nat.zero_le _, rfl, rfl, Int.le_refl _, hx1, HX, Lib.hid fun _ i hi => absurd hi (Nat.not_lt_zero _), HB1⟩
      case round =>
        obtain ⟨j, y, hj, rfl, rfl, hy0, hy1, HY, HN, HB⟩ := hrel
        have hwy : IntKind.i64.wrap (y + 1) = y + 1 := by rw [IntKind.wrap_i64]; omega
        by_cases hlt : j < l.length
        · have hkn : (j : Int) < (l.length : Int) := by omega
          obtain ⟨b, o, rfl, q⟩ := (HA.out.keep (Keep.below HB.out)).at_ hlt
          obtain ⟨q0, q1, q2⟩ := q
          by_cases he : holdsAt l s (y + 1) j
          · have HE := Lib.hid he
            obtain ⟨hs, hw⟩ := he
            have hb := Fs.within_iff.1 hw
            have e1 := str_eq hs
            have hfin := HD.out j hlt
            clear hs
            go_wp2_with fail
            go_quiet ((go_at_call 34; exact Calls.quiet_of_same ((bwithin_any _ _ _ _).mono fun _ _ h => ⟨h.1, h.2.symm⟩)))
            go_wp2_with fail
            go_roundw
            case rel =>
              refine ⟨j + 1, (listW l j).fin, by omega, rfl, by go_num, by omega, by omega, Lib.hid fun z h1 h2 => ?_, Lib.hid fun h => absurd h (by omega), Lib.hid (bdrewN HB.out _)⟩
              by_cases e : z ≤ y
              · exact HY.out z h1 e
              · exact ⟨j, hlt, HE.out.1, Fs.within_iff.2 (by omega)⟩
            case measure => simp [intOf]; omega
          · have NX : Hid (y = x → ∀ i, i < j + 1 → ¬ holdsAt l s (x + 1) i) := Lib.hid fun hyx i hi => by
              by_cases e : i = j
              · subst e; rw [← hyx]; exact he
              · exact HN.out hyx i (by omega)
            have hy2 : y ≤ 100000 := hy1
            by_cases hs : (listW l j).who = s
            · have e1 := str_eq hs
              have hw : within (y + 1) (listW l j).beg (listW l j).fin = false := by
                cases hw : within (y + 1) (listW l j).beg (listW l j).fin with
                | false => rfl
                | true => exact absurd ⟨hs, hw⟩ he
              clear hs he
              go_wp2_with fail
              go_quiet ((go_at_call 34; exact Calls.quiet_of_same ((bwithin_any _ _ _ _).mono fun _ _ h => ⟨h.1, h.2.symm⟩)))
              go_wp2_with fail
              go_roundw
              case rel => exact ⟨j + 1, y, by omega, rfl, by go_num, hy0, hy1, HY, NX, Lib.hid (bdrewN HB.out _)⟩
              case measure => simp [intOf]; omega
            · have e1 := str_ne hs
              clear hs he
              go_wp2_with fail
              go_quiet (fail)
              go_wp2_with fail
              go_roundw
              case rel => exact ⟨j + 1, y, by omega, rfl, by go_num, hy0, hy1, HY, NX, Lib.hid (bdrewN HB.out _)⟩
              case measure => simp [intOf]; omega
        · have hxy : x < y := by
            rcases Int.lt_or_eq_of_le hy0 with e | e
            · exact e
            · obtain ⟨i, h1, h2⟩ := HH.out
              exact absurd h2 (HN.out e.symm i (by omega))
          go_wp2_with fail
          go_roundw
          case rel => exact ⟨y, rfl, by omega, hy1, HY, HB⟩
          case measure => simp [intOf]; omega
    | false =>
      have HH := Lib.hid (licHolds_not hh)
      clear hh
      by_cases hlt : x < d
      · have d1 : decide (x < d) = true := decide_eq_true hlt
        have L : Hid (LapsesAt l s d (-1)) := Lib.hid ⟨fun z h1 h2 => absurd h1 (by omega), fun h => absurd h (by omega), fun _ => ⟨rfl, by have := HH.out; rwa [show x + 1 = d by omega] at this⟩, by omega⟩
        go_wp2_with fail
        go_ret
        exact ⟨⟨_, rfl, L.out⟩, HB1.out⟩
      · have d1 : decide (x < d) = false := decide_eq_false hlt
        have L : Hid (LapsesAt l s d x) := Lib.hid ⟨HX.out, fun _ => HH.out, fun h => absurd h hlt, hx1⟩
        go_wp2_with fail
        go_ret
        exact ⟨⟨_, rfl, L.out⟩, HB1.out⟩
end Go.Proofs.Ytaihiahoedpbiaa
/- Licences: KindErr, MayDriveErr, MayDrive; the law's licences. No condition. -/
namespace Go.Proofs.Ytaihiahoedpbiaa
open Go.RowKit Fs

def Fs.kindErr (l : List WRec) (s : ByteArray) (d : Int) : Int := if licsErr l ≠ 0 then licsErr l else if isName s = false then 4 else dateErr d
set_option maxHeartbeats 1600000 in
theorem rKindErr_any (l : List WRec) (s : ByteArray) (d : Int) (A : Option Addr) (c : Nat) (w : World) (h : ArrW w A l c) :
    Calls Try.prog 49 #[.slice A l.length c, .string s, .int .i64 d] w fun e w' => e = .returned (.int .i64 (kindErr l s d)) ∧ Below w.heap.size w w' := by
  go_enter Try.func49, Try.ntmps49
  go_wp2_with fail
  refine (rCheckLicences_any l A c _ h).mono ?_
  rintro e' w1 ⟨rfl, hb1⟩
  have HW := Lib.hid hb1
  clear hb1
  by_cases hl : licsErr l = 0
  · have F0 := Lib.hid (show kindErr l s d = if isName s = false then 4 else dateErr d from if_neg (fun hh => hh hl))
    rw [hl]
    clear hl
    cases hn : isName s with
    | false =>
      have F := Lib.hid (F0.out.trans (if_pos hn))
      go_wp2_with (first
        | (go_at_call 105
           refine (bIsName_any _ _).mono ?_
           rintro e w' ⟨rfl, rfl⟩
           rw [hn])
        | (go_at_call 106
           refine (rDateErr_any _ _).mono ?_
           rintro e w' ⟨rfl, rfl⟩))
      go_ret
      exact ⟨ret_int F.out.symm, HW.out⟩
    | true =>
      have F := Lib.hid (F0.out.trans (if_neg (by rw [hn]; decide)))
      go_wp2_with (first
        | (go_at_call 105
           refine (bIsName_any _ _).mono ?_
           rintro e w' ⟨rfl, rfl⟩
           rw [hn])
        | (go_at_call 106
           refine (rDateErr_any _ _).mono ?_
           rintro e w' ⟨rfl, rfl⟩))
      go_ret
      exact ⟨ret_int F.out.symm, HW.out⟩
  · have F := Lib.hid (show kindErr l s d = licsErr l from if_pos hl)
    have e5 : (licsErr l == 0) = false := by simpa using hl
    have e6 : (licsErr l != 0) = true := by simpa using hl
    clear hl
    go_wp2_with fail
    go_ret
    exact ⟨ret_int F.out.symm, HW.out⟩

def Fs.noName (K : List ByteArray) (i : Nat) : Int := if isName (listS K i) = true then 0 else 4
def Fs.mayErr (l : List WRec) (K : List ByteArray) (d : Int) : Int := if licsErr l ≠ 0 then licsErr l else if 20 < K.length then 8 else if fst (noName K) K.length ≠ 0 then 4 else dateErr d
set_option linter.unusedSimpArgs false in
set_option maxHeartbeats 3200000 in
theorem rMayErr_any (l : List WRec) (K : List ByteArray) (d : Int) (A B : Option Addr) (c cb : Nat) (w : World) (h : ArrW w A l c) (hK : ArrS w B K cb) :
    Calls Try.prog 54 #[.slice A l.length c, .slice B K.length cb, .int .i64 d] w fun e w' => e = .returned (.int .i64 (mayErr l K d)) ∧ Below w.heap.size w w' := by
  have b1 := hK.le.1
  have b2 := hK.le.2
  have HK := Lib.hid hK
  clear hK
  go_enter Try.func54, Try.ntmps54
  go_wp2_with fail
  refine (rCheckLicences_any l A c _ h).mono ?_
  rintro e' w1 ⟨rfl, hb1⟩
  have HW := Lib.hid hb1
  clear hb1
  by_cases hl : licsErr l = 0
  · have F0 := Lib.hid (show mayErr l K d = if 20 < K.length then 8 else if fst (noName K) K.length ≠ 0 then 4 else dateErr d from if_neg (fun hh => hh hl))
    rw [hl]
    clear hl
    by_cases hm : 20 < K.length
    · have F := Lib.hid (F0.out.trans (if_pos hm))
      have d1 : decide ((K.length : Int) > 20) = true := decide_eq_true (by omega)
      have d2 : decide ((20 : Int) < (K.length : Int)) = true := decide_eq_true (by omega)
      clear hm
      go_wp2_with fail
      go_ret
      exact ⟨ret_int F.out.symm, HW.out⟩
    · have F1 := Lib.hid (F0.out.trans (if_neg hm))
      have d1 : decide ((K.length : Int) > 20) = false := decide_eq_false (by omega)
      have d2 : decide ((20 : Int) < (K.length : Int)) = false := decide_eq_false (by omega)
      go_wp2_with fail
      go_loopw [9] (fun i wr => ∃ k : Nat, k ≤ K.length ∧ i = .int .i64 k ∧ Hid (∀ j, j < k → noName K j = 0) ∧ Hid (Below w.heap.size w wr)) (fun i _ => K.length - (intOf i).toNat)
      case atStart => exact ⟨0, Nat.zero_le _, rfl, Lib.hid fun j hj => absurd hj (Nat.not_lt_zero _), HW⟩
      case round =>
        obtain ⟨k, hk, rfl, Hn, HB⟩ := hrel
        by_cases hlt : k < K.length
        · have hkn : (k : Int) < (K.length : Int) := by omega
          obtain ⟨b, o, rfl, q0⟩ := (HK.out.keep (Keep.below HB.out)).at_ hlt
          cases hn : isName (listS K k) with
          | false =>
            have F := Lib.hid (F1.out.trans (if_pos (by rw [(fst_hit hlt Hn.out (show noName K k ≠ 0 by unfold noName; rw [hn]; decide)).1]; unfold noName; rw [hn]; decide)))
            go_wp2_with (first
              | (go_at_call 105
                 refine (bIsName_any _ _).mono ?_
                 rintro e w' ⟨rfl, rfl⟩
                 rw [hn])
              | (go_at_call 106
                 refine (rDateErr_any _ _).mono ?_
                 rintro e w' ⟨rfl, rfl⟩))
            go_ret
            exact ⟨ret_int F.out.symm, HB.out⟩
          | true =>
            have F : Hid (noName K k = 0) := Lib.hid (by unfold noName; rw [hn]; rfl)
            go_wp2_with (first
              | (go_at_call 105
                 refine (bIsName_any _ _).mono ?_
                 rintro e w' ⟨rfl, rfl⟩
                 rw [hn])
              | (go_at_call 106
                 refine (rDateErr_any _ _).mono ?_
                 rintro e w' ⟨rfl, rfl⟩))
            go_roundw
            case rel =>
              exact ⟨k + 1, by omega, by go_num, Lib.hid fun j hj => by
                by_cases e : j = k
                · subst e; exact F.out
                · exact Hn.out j (by omega), HB⟩
            case measure => simp [intOf]; omega
        · have F := Lib.hid (F1.out.trans (if_neg (fun hh => hh (fst_none fun j hj => Hn.out j (by omega)))))
          go_wp2_with (go_at_call 106; refine (rDateErr_any _ _).mono ?_; rintro e w' ⟨rfl, rfl⟩)
          go_ret
          exact ⟨ret_int F.out.symm, HB.out⟩
  · have F := Lib.hid (show mayErr l K d = licsErr l from if_pos hl)
    have e5 : (licsErr l == 0) = false := by simpa using hl
    have e6 : (licsErr l != 0) = true := by simpa using hl
    clear hl
    go_wp2_with fail
    go_ret
    exact ⟨ret_int F.out.symm, HW.out⟩

noncomputable def Fs.noLic (l : List WRec) (K : List ByteArray) (d : Int) (i : Nat) : Int := if licHolds l (listS K i) d = true then 0 else 1
noncomputable def Fs.mayDrive (l : List WRec) (K : List ByteArray) (d : Int) : ByteArray := if fst (noLic l K d) K.length = 0 then ⟨#[]⟩ else listS K (idx (noLic l K d) K.length)
set_option linter.unusedSimpArgs false in
set_option maxHeartbeats 3200000 in
theorem rMayDrive_any (l : List WRec) (K : List ByteArray) (d : Int) (A B : Option Addr) (c cb : Nat) (w : World) (h : ArrW w A l c) (hK : ArrS w B K cb) :
    Calls Try.prog 55 #[.slice A l.length c, .slice B K.length cb, .int .i64 d] w fun e w' => e = .returned (.string (mayDrive l K d)) ∧ Below w.heap.size w w' := by
  have b1 := hK.le.1
  have b2 := hK.le.2
  have HK := Lib.hid hK
  have HA := Lib.hid h
  clear hK h
  go_enter Try.func55, Try.ntmps55
  go_wp2_with fail
  go_loopw [7] (fun i wr => ∃ k : Nat, k ≤ K.length ∧ i = .int .i64 k ∧ Hid (∀ j, j < k → noLic l K d j = 0) ∧ Hid (Below w.heap.size w wr)) (fun i _ => K.length - (intOf i).toNat)
  case atStart => exact ⟨0, Nat.zero_le _, rfl, Lib.hid fun j hj => absurd hj (Nat.not_lt_zero _), Lib.hid (Below.refl _ _)⟩
  case round =>
    obtain ⟨k, hk, rfl, Hn, HB⟩ := hrel
    by_cases hlt : k < K.length
    · have hkn : (k : Int) < (K.length : Int) := by omega
      obtain ⟨b, o, rfl, q0⟩ := (HK.out.keep (Keep.below HB.out)).at_ hlt
      go_wp2_with fail
      refine (rHolds_any l (listS K k) d A c _ (HA.out.keep (Keep.below HB.out))).mono ?_
      rintro e' w1 ⟨rfl, hb1⟩
      have HB1 := Lib.hid (HB.out.trans (hb1.mono HB.out.size))
      have Q1 := Lib.hid (Keep.below hb1 _ _ q0)
      clear hb1 q0
      have q0 := Q1.out
      cases hh : licHolds l (listS K k) d with
      | true =>
        have F : Hid (noLic l K d k = 0) := Lib.hid (by unfold noLic; rw [hh]; rfl)
        clear hh
        go_wp2_with fail
        go_roundw
        case rel =>
          exact ⟨k + 1, by omega, by go_num, Lib.hid fun j hj => by
            by_cases e : j = k
            · subst e; exact F.out
            · exact Hn.out j (by omega), HB1⟩
        case measure => simp [intOf]; omega
      | false =>
        obtain ⟨F1, F2⟩ := fst_hit hlt Hn.out (show noLic l K d k ≠ 0 by unfold noLic; rw [hh]; decide)
        have F := Lib.hid (show mayDrive l K d = listS K k by
          unfold mayDrive
          rw [F1, F2, if_neg (by unfold noLic; rw [hh]; decide)])
        clear hh F1 F2
        go_wp2_with fail
        go_ret
        exact ⟨by rw [F.out]; rfl, HB1.out⟩
    · have F := Lib.hid (show mayDrive l K d = ⟨#[]⟩ from if_pos (fst_none fun j hj => Hn.out j (by omega)))
      go_wp2_with fail
      go_ret
      exact ⟨by rw [F.out]; rfl, HB.out⟩
end Go.Proofs.Ytaihiahoedpbiaa
/- The reference's NextInspection. No condition. -/
namespace Go.Proofs.Ytaihiahoedpbiaa
open Go.RowKit Fs

def Fs.dateBad (L : List Int) (i : Nat) : Int := if dateErr (listI L i) ≠ 0 then dateErr (listI L i) else if 0 < i ∧ listI L i ≤ listI L (i - 1) then 9 else 0
def Fs.lastTo (L : List Int) (date : Int) : Nat → Int
  | 0 => -1
  | k + 1 => if listI L k ≤ date then listI L k else lastTo L date k
def Fs.inspect (L : List Int) (every date : Int) : Int × Int :=
  if 20 < L.length then (0, 8) else if fst (dateBad L) L.length ≠ 0 then (0, fst (dateBad L) L.length)
  else if ¬ (within every 1 1000 = true ∧ dateErr date = 0) then (0, 2)
  else if lastTo L date L.length < 0 then (0, 12) else if lastTo L date L.length + every < date then (0, 22) else (lastTo L date L.length + every, 0)
theorem insp_bad {L : List Int} {every date x : Int} (h : ¬ 20 < L.length) (h1 : fst (dateBad L) L.length = x) (h2 : x ≠ 0) : inspect L every date = (0, x) := by
  unfold inspect
  rw [if_neg h, if_pos (by rw [h1]; exact h2), h1]
theorem insp_range {L : List Int} {every date : Int} (h : ¬ 20 < L.length) (h1 : fst (dateBad L) L.length = 0) (h2 : ¬ (within every 1 1000 = true ∧ dateErr date = 0)) : inspect L every date = (0, 2) := by
  unfold inspect
  rw [if_neg h, if_neg (fun hh => hh h1), if_pos h2]
theorem insp_ok {L : List Int} {every date : Int} (h : ¬ 20 < L.length) (h1 : fst (dateBad L) L.length = 0) (h2 : within every 1 1000 = true) (h3 : dateErr date = 0) :
    inspect L every date = if lastTo L date L.length < 0 then (0, 12) else if lastTo L date L.length + every < date then (0, 22) else (lastTo L date L.length + every, 0) := by
  unfold inspect
  rw [if_neg h, if_neg (fun hh => hh h1), if_neg (fun hh => hh ⟨h2, h3⟩)]
theorem Fs.dateErr_ok {n : Int} (h : dateErr n = 0) : 0 ≤ n ∧ n ≤ 100000 := by
  unfold dateErr at h
  by_cases hw : within n 0 100000 = true
  · exact Fs.within_iff.1 hw
  · rw [if_neg hw] at h; exact absurd h (by decide)
theorem Fs.dateBad_ok {L : List Int} {i : Nat} (h : dateBad L i = 0) : 0 ≤ listI L i ∧ listI L i ≤ 100000 := by
  unfold dateBad at h
  by_cases h1 : dateErr (listI L i) = 0
  · exact dateErr_ok h1
  · rw [if_pos h1] at h; exact absurd h h1
theorem Fs.lastTo_is {L : List Int} (h : ∀ i, i < L.length → 0 ≤ listI L i ∧ listI L i ≤ 100000) (date : Int) : ∀ k, k ≤ L.length → -1 ≤ lastTo L date k ∧ lastTo L date k ≤ 100000
  | 0, _ => by show (-1 : Int) ≤ -1 ∧ (-1 : Int) ≤ 100000; omega
  | k + 1, hk => by
    have ih := lastTo_is h date k (by omega)
    have h1 := h k (by omega)
    rw [lastTo]
    split <;> omega
set_option linter.unusedSimpArgs false in
set_option maxHeartbeats 6400000 in
set_option maxRecDepth 100000 in
theorem rInspect_any (L : List Int) (every date : Int) (A : Option Addr) (c : Nat) (w : World) (h : ArrI w A L c) :
    Calls Try.prog 59 #[.slice A L.length c, .int .i64 every, .int .i64 date] w fun e w' => e = .returned (.tuple #[.int .i64 (inspect L every date).1, .int .i64 (inspect L every date).2]) ∧ Below w.heap.size w w' := by
  have b1 := h.le.1
  have b2 := h.le.2
  have HA := Lib.hid h
  clear h
  go_enter Try.func59, Try.ntmps59
  by_cases h40 : 20 < L.length
  · have F := Lib.hid (show inspect L every date = (0, 8) from if_pos h40)
    have d1 : decide ((L.length : Int) > 20) = true := decide_eq_true (by omega)
    have d2 : decide ((20 : Int) < (L.length : Int)) = true := decide_eq_true (by omega)
    clear h40
    go_wp2_with fail
    go_ret2
    exact ⟨by rw [F.out]; rfl, Below.refl _ _⟩
  · have H20 := Lib.hid h40
    have d1 : decide ((L.length : Int) > 20) = false := decide_eq_false (by omega)
    have d2 : decide ((20 : Int) < (L.length : Int)) = false := decide_eq_false (by omega)
    have hL20 : L.length ≤ 20 := by omega
    clear h40
    go_wp2_with fail
    go_loopw [8] (fun i wr => ∃ k : Nat, k ≤ L.length ∧ i = .int .i64 k ∧ Hid (∀ j, j < k → dateBad L j = 0) ∧ Hid (Below w.heap.size w wr)) (fun i _ => L.length - (intOf i).toNat)
    case atStart => exact ⟨0, Nat.zero_le _, rfl, Lib.hid fun j hj => absurd hj (Nat.not_lt_zero _), Lib.hid (Below.refl _ _)⟩
    case round =>
      obtain ⟨k, hk, rfl, Hn, HB⟩ := hrel
      by_cases hlt : k < L.length
      · have hkn : (k : Int) < (L.length : Int) := by omega
        obtain ⟨b, o, rfl, q0⟩ := (HA.out.keep (Keep.below HB.out)).at_ hlt
        by_cases n2 : dateErr (listI L k) = 0
        · by_cases h0 : 0 < k
          · have d3 : decide ((k : Int) > 0) = true := decide_eq_true (by omega)
            have d4 : decide (0 < (k : Int)) = true := decide_eq_true (by omega)
            have d5 : decide (0 < k) = true := decide_eq_true h0
            have d6 : decide (k = 0) = false := decide_eq_false (by omega)
            obtain ⟨j, hj⟩ : ∃ j, j = k - 1 := ⟨_, rfl⟩
            have hkp : (k : Int) - 1 = (j : Int) := by omega
            have hwk : IntKind.i64.wrap ((k : Int) - 1) = (j : Int) := by rw [IntKind.wrap_i64]; omega
            have hk1 : (j : Int) < (L.length : Int) := by omega
            obtain ⟨b', o', e', r0⟩ := (HA.out.keep (Keep.below HB.out)).at_ (k := j) (by omega)
            obtain ⟨rfl, rfl⟩ : b = b' ∧ o = o' := by simpa using e'
            clear e'
            by_cases hle : listI L k ≤ listI L j
            · have e9 : decide (listI L k ≤ listI L j) = true := decide_eq_true hle
              have hbad : dateBad L k = 9 := by unfold dateBad; rw [if_neg (fun hh => hh n2), if_pos ⟨h0, by rw [← hj]; exact hle⟩]
              have F := Lib.hid (insp_bad (every := every) (date := date) H20.out (show fst (dateBad L) L.length = 9 from ((fst_hit hlt Hn.out (by rw [hbad]; decide)).1.trans hbad)) (by decide))
              clear hle hbad hj h0
              go_wp2_with (go_at_call 106
                           refine (rDateErr_any _ _).mono ?_
                           rintro e w' ⟨rfl, rfl⟩
                           try rw [n2])
              go_quiet (fail)
              go_wp2_with fail
              go_ret2
              exact ⟨by rw [F.out]; rfl, bdrewN HB.out _⟩
            · have e9 : decide (listI L k ≤ listI L j) = false := decide_eq_false hle
              have G : Hid (dateBad L k = 0) := Lib.hid (by unfold dateBad; rw [if_neg (fun hh => hh n2), if_neg (fun hh => hle (by rw [hj]; exact hh.2))])
              clear hle hj h0
              go_wp2_with (go_at_call 106
                           refine (rDateErr_any _ _).mono ?_
                           rintro e w' ⟨rfl, rfl⟩
                           try rw [n2])
              go_quiet (fail)
              go_wp2_with fail
              go_roundw
              case rel =>
                exact ⟨k + 1, by omega, by go_num, Lib.hid fun j hj => by
                  by_cases e : j = k
                  · subst e; exact G.out
                  · exact Hn.out j (by omega), Lib.hid (bdrewN HB.out _)⟩
              case measure => simp [intOf]; omega
          · have d3 : decide ((k : Int) > 0) = false := decide_eq_false (by omega)
            have d4 : decide (0 < (k : Int)) = false := decide_eq_false (by omega)
            have d5 : decide (0 < k) = false := decide_eq_false h0
            have d6 : decide (k = 0) = true := decide_eq_true (by omega)
            have G : Hid (dateBad L k = 0) := Lib.hid (by unfold dateBad; rw [if_neg (fun hh => hh n2), if_neg (fun hh => h0 hh.1)])
            clear h0
            go_wp2_with (go_at_call 106
                         refine (rDateErr_any _ _).mono ?_
                         rintro e w' ⟨rfl, rfl⟩
                         try rw [n2])
            go_quiet (fail)
            go_wp2_with fail
            go_roundw
            case rel =>
              exact ⟨k + 1, by omega, by go_num, Lib.hid fun j hj => by
                by_cases e : j = k
                · subst e; exact G.out
                · exact Hn.out j (by omega), Lib.hid (bdrewN HB.out _)⟩
            case measure => simp [intOf]; omega
        · have e3 : (dateErr (listI L k) == 0) = false := by simpa using n2
          have e4 : (dateErr (listI L k) != 0) = true := by simpa using n2
          have hbad : dateBad L k = dateErr (listI L k) := if_pos n2
          have F := Lib.hid (insp_bad (every := every) (date := date) H20.out ((fst_hit hlt Hn.out (by rw [hbad]; exact n2)).1.trans hbad) n2)
          clear n2 hbad
          go_wp2_with (go_at_call 106
                       refine (rDateErr_any _ _).mono ?_
                       rintro e w' ⟨rfl, rfl⟩
                       skip)
          go_ret2
          exact ⟨by rw [F.out]; rfl, HB.out⟩
      · have HN0 := Lib.hid (show fst (dateBad L) L.length = 0 from fst_none fun j hj => Hn.out j (by omega))
        have HDD := Lib.hid (fun i (hi : i < L.length) => dateBad_ok (Hn.out i (by omega)))
        clear Hn
        by_cases hb : within every 1 1000 = true ∧ dateErr date = 0
        · obtain ⟨h1, h2⟩ := hb
          have hev := Fs.within_iff.1 h1
          have F0 := Lib.hid (insp_ok H20.out HN0.out h1 h2)
          go_wp2_with (first
            | (go_at_call 34
               refine (bwithin_any _ _ _ _).mono ?_
               rintro e w' ⟨rfl, rfl⟩
               rw [h1])
            | (go_at_call 106
               refine (rDateErr_any _ _).mono ?_
               rintro e w' ⟨rfl, rfl⟩
               try rw [h2]))
          go_loopw [10, 11] (fun u i wr => ∃ k : Nat, k ≤ L.length ∧ u = .int .i64 (lastTo L date k) ∧ i = .int .i64 k ∧ Hid (Below w.heap.size w wr)) (fun _ i _ => L.length - (intOf i).toNat)
          case atStart => exact ⟨0, Nat.zero_le _, rfl, rfl, HB⟩
          case round =>
            obtain ⟨k, hk, rfl, rfl, HB⟩ := hrel
            by_cases hlt : k < L.length
            · have hkn : (k : Int) < (L.length : Int) := by omega
              obtain ⟨b, o, rfl, q0⟩ := (HA.out.keep (Keep.below HB.out)).at_ hlt
              by_cases hle : listI L k ≤ date
              · have e9 : decide (listI L k ≤ date) = true := decide_eq_true hle
                have G := Lib.hid (show lastTo L date (k + 1) = listI L k from if_pos hle)
                clear hle
                go_wp2_with fail
                go_roundw
                case rel => exact ⟨k + 1, by omega, by rw [G.out], by go_num, HB⟩
                case measure => simp [intOf]; omega
              · have e9 : decide (listI L k ≤ date) = false := decide_eq_false hle
                have G := Lib.hid (show lastTo L date (k + 1) = lastTo L date k from if_neg hle)
                clear hle
                go_wp2_with fail
                go_roundw
                case rel => exact ⟨k + 1, by omega, by rw [G.out], by go_num, HB⟩
                case measure => simp [intOf]; omega
            · obtain rfl : k = L.length := by omega
              have hla := lastTo_is HDD.out date L.length (Nat.le_refl _)
              obtain ⟨z, hz⟩ : ∃ z, z = lastTo L date L.length := ⟨_, rfl⟩
              rw [← hz] at hla F0 ⊢
              clear hz
              have hwz : IntKind.i64.wrap (z + every) = z + every := by rw [IntKind.wrap_i64]; omega
              by_cases hz0 : z < 0
              · have F := Lib.hid (F0.out.trans (if_pos hz0))
                have e8 : decide (z < 0) = true := decide_eq_true hz0
                go_wp2_with fail
                go_ret2
                exact ⟨by rw [F.out]; rfl, HB.out⟩
              · have F1 := Lib.hid (F0.out.trans (if_neg hz0))
                have e8 : decide (z < 0) = false := decide_eq_false hz0
                by_cases hzd : z + every < date
                · have F := Lib.hid (F1.out.trans (if_pos hzd))
                  have e9 : decide (date > z + every) = true := decide_eq_true hzd
                  have e10 : decide (z + every < date) = true := decide_eq_true hzd
                  go_wp2_with fail
                  go_ret2
                  exact ⟨by rw [F.out]; rfl, HB.out⟩
                · have F := Lib.hid (F1.out.trans (if_neg hzd))
                  have e9 : decide (date > z + every) = false := decide_eq_false hzd
                  have e10 : decide (z + every < date) = false := decide_eq_false hzd
                  go_wp2_with fail
                  go_ret2
                  exact ⟨by rw [F.out]; rfl, HB.out⟩
        · have F := Lib.hid (insp_range H20.out HN0.out hb)
          cases h1 : within every 1 1000 with
          | false =>
            go_wp2_with (first
              | (go_at_call 34
                 refine (bwithin_any _ _ _ _).mono ?_
                 rintro e w' ⟨rfl, rfl⟩
                 rw [h1])
              | (go_at_call 106
                 refine (rDateErr_any _ _).mono ?_
                 rintro e w' ⟨rfl, rfl⟩
                 try rw [h2]))
            go_ret2
            exact ⟨by rw [F.out]; rfl, HB.out⟩
          | true =>
            have h2n : dateErr date ≠ 0 := fun h => hb ⟨h1, h⟩
            have e3 : (dateErr date == 0) = false := by simpa using h2n
            have e4 : (dateErr date != 0) = true := by simpa using h2n
            clear h2n hb
            go_wp2_with (first
              | (go_at_call 34
                 refine (bwithin_any _ _ _ _).mono ?_
                 rintro e w' ⟨rfl, rfl⟩
                 rw [h1])
              | (go_at_call 106
                 refine (rDateErr_any _ _).mono ?_
                 rintro e w' ⟨rfl, rfl⟩
                 skip))
            go_ret2
            exact ⟨by rw [F.out]; rfl, HB.out⟩
end Go.Proofs.Ytaihiahoedpbiaa

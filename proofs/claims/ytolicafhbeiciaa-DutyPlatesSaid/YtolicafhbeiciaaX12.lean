/- Licences: their check, which hold on a date, up to when, which kind is missing. No condition. -/
import Derived.Test.YtolicafhbeiciaaX1
import Derived.Test.YtolicafhbeiciaaD14
import Derived.Test.YtolicafhbeiciaaD25
import Derived.Test.YtolicafhbeiciaaX11
import Derived.Test.YtolicafhbeiciaaV1
import Derived.Test.YtolicafhbeiciaaT8
namespace Go.Proofs.Ytolicafhbeiciaa
open Go.RowKit Fs

set_option maxHeartbeats 400000 in
theorem xIsDate_any (n : Int) (w : World) : Calls Try.prog 104 #[.int .i64 n] w fun e w' => e = .returned (.bool (within n 0 100000)) ∧ w = w' := by
  go_enter Try.func104, Try.ntmps104
  go_wp2_with (go_at_call 93; refine (within_any _ _ _ _).mono ?_; rintro e w' ⟨rfl, rfl⟩)
  go_ret
  exact ⟨rfl, rfl⟩
set_option maxHeartbeats 400000 in
theorem xDateErr_any (n : Int) (w : World) : Calls Try.prog 109 #[.int .i64 n] w fun e w' => e = .returned (.int .i64 (dateErr n)) ∧ w = w' := by
  cases h1 : within n 0 100000 with
  | false =>
    have F := Lib.hid (show dateErr n = 2 by unfold dateErr; rw [h1]; rfl)
    go_enter Try.func109, Try.ntmps109
    go_wp2_with fail
    refine (xIsDate_any _ _).mono ?_
    rintro e w' ⟨rfl, rfl⟩
    rw [h1]
    go_wp2_with fail
    go_ret
    exact ⟨ret_int F.out.symm, rfl⟩
  | true =>
    have F := Lib.hid (show dateErr n = 0 by unfold dateErr; rw [h1]; rfl)
    go_enter Try.func109, Try.ntmps109
    go_wp2_with fail
    refine (xIsDate_any _ _).mono ?_
    rintro e w' ⟨rfl, rfl⟩
    rw [h1]
    go_wp2_with fail
    go_ret
    exact ⟨ret_int F.out.symm, rfl⟩
def Fs.sortErr (s : ByteArray) : Int := if isName s = true then 0 else 4
set_option maxHeartbeats 400000 in
theorem xKindErr_any (s : ByteArray) (w : World) : Calls Try.prog 108 #[.string s] w fun e w' => e = .returned (.int .i64 (sortErr s)) ∧ w = w' := by
  cases h1 : isName s with
  | false =>
    have F := Lib.hid (show sortErr s = 4 by unfold sortErr; rw [h1]; rfl)
    go_enter Try.func108, Try.ntmps108
    go_wp2_with fail
    refine (isName_any _ _).mono ?_
    rintro e w' ⟨rfl, rfl⟩
    rw [h1]
    go_wp2_with fail
    go_ret
    exact ⟨ret_int F.out.symm, rfl⟩
  | true =>
    have F := Lib.hid (show sortErr s = 0 by unfold sortErr; rw [h1]; rfl)
    go_enter Try.func108, Try.ntmps108
    go_wp2_with fail
    refine (isName_any _ _).mono ?_
    rintro e w' ⟨rfl, rfl⟩
    rw [h1]
    go_wp2_with fail
    go_ret
    exact ⟨ret_int F.out.symm, rfl⟩
set_option linter.unusedSimpArgs false in
set_option maxHeartbeats 12800000 in
set_option maxRecDepth 100000 in
theorem xLicBad_any (l : List WRec) (A : Option Addr) (c g k : Nat) (w : World) (hB : w.cell? ⟨g, 0, none⟩ = some (.slice A l.length c)) (h : ArrW w A l c) (hlt : k < l.length) :
    Calls Try.prog 102 #[.int .i64 k, .pointer (some ⟨g, 0, none⟩)] w fun e w' => e = .returned (.int .i64 (licErr (listW l k))) ∧ Below w.heap.size w w' := by
  have b1 := h.le.1
  have b2 := h.le.2
  obtain ⟨b, o, rfl, q⟩ := h.at_ hlt
  obtain ⟨q0, q1, q2⟩ := q
  have hkn : (k : Int) < (l.length : Int) := by omega
  have n0 := cellNew w #[.string (listW l k).who, .int .i64 (listW l k).beg, .int .i64 (listW l k).fin] 148 0
  have n1 := cellNew w #[.string (listW l k).who, .int .i64 (listW l k).beg, .int .i64 (listW l k).fin] 148 1
  have n2 := cellNew w #[.string (listW l k).who, .int .i64 (listW l k).beg, .int .i64 (listW l k).fin] 148 2
  have HW := Lib.hid ((Below.refl w.heap.size w).alloc (Nat.le_refl _) (.cells #[.string (listW l k).who, .int .i64 (listW l k).beg, .int .i64 (listW l k).fin] 148))
  clear h hlt
  generalize hx : listW l k = x at *
  clear hx
  go_enter Try.func102, Try.ntmps102
  go_upto_region 2 with fail
  generalize w.alloc _ = wb at *
  cases h1 : isName x.who with
  | false =>
    have F := Lib.hid (show licErr x = 4 by unfold licErr; rw [h1]; rfl)
    go_wp2_with fail
    refine (isName_any _ _).mono ?_
    rintro e wx ⟨rfl, rfl⟩
    rw [h1]
    go_wp2_with fail
    go_ret
    exact ⟨ret_int F.out.symm, HW.out⟩
  | true =>
    cases h2 : within x.beg 0 100000 with
    | false =>
      have F := Lib.hid (show licErr x = 2 by unfold licErr; rw [h1, if_neg (by decide), if_pos (Or.inl (show dateErr x.beg ≠ 0 by unfold dateErr; rw [h2]; decide))])
      go_wp2_with fail
      refine (isName_any _ _).mono ?_
      rintro e wx ⟨rfl, rfl⟩
      rw [h1]
      go_wp2_with fail
      refine (xIsDate_any _ _).mono ?_
      rintro e wx ⟨rfl, rfl⟩
      rw [h2]
      go_wp2_with fail
      go_ret
      exact ⟨ret_int F.out.symm, HW.out⟩
    | true =>
      cases h3 : within x.fin 0 100000 with
      | false =>
        have F := Lib.hid (show licErr x = 2 by unfold licErr; rw [h1, if_neg (by decide), if_pos (Or.inr (show dateErr x.fin ≠ 0 by unfold dateErr; rw [h3]; decide))])
        go_wp2_with fail
        refine (isName_any _ _).mono ?_
        rintro e wx ⟨rfl, rfl⟩
        rw [h1]
        go_wp2_with fail
        refine (xIsDate_any _ _).mono ?_
        rintro e wx ⟨rfl, rfl⟩
        rw [h2]
        go_wp2_with fail
        refine (xIsDate_any _ _).mono ?_
        rintro e wx ⟨rfl, rfl⟩
        rw [h3]
        go_wp2_with fail
        go_ret
        exact ⟨ret_int F.out.symm, HW.out⟩
      | true =>
        have F0 := Lib.hid (show licErr x = if x.fin < x.beg then 9 else 0 by unfold licErr; rw [h1, if_neg (by decide), if_neg (fun hh => hh.elim (fun h => h (show dateErr x.beg = 0 by unfold dateErr; rw [h2]; decide)) (fun h => h (show dateErr x.fin = 0 by unfold dateErr; rw [h3]; decide)))])
        go_wp2_with fail
        refine (isName_any _ _).mono ?_
        rintro e wx ⟨rfl, rfl⟩
        rw [h1]
        go_wp2_with fail
        refine (xIsDate_any _ _).mono ?_
        rintro e wx ⟨rfl, rfl⟩
        rw [h2]
        go_wp2_with fail
        refine (xIsDate_any _ _).mono ?_
        rintro e wx ⟨rfl, rfl⟩
        rw [h3]
        by_cases h4 : x.fin < x.beg
        · have F := Lib.hid (F0.out.trans (if_pos h4))
          have d1 := decide_eq_true h4
          go_wp2_with fail
          go_ret
          exact ⟨ret_int F.out.symm, HW.out⟩
        · have F := Lib.hid (F0.out.trans (if_neg h4))
          have d1 := decide_eq_false h4
          go_wp2_with fail
          go_ret
          exact ⟨ret_int F.out.symm, HW.out⟩
set_option maxHeartbeats 400000 in
theorem xLicences_any (l : List WRec) (A : Option Addr) (c : Nat) (w : World) (h : ArrW w A l c) :
    Calls Try.prog 44 #[.slice A l.length c] w fun e w' => e = .returned (.tuple #[.int .i64 (licsAt l : Nat), .int .i64 (licsErr l)]) ∧ Below w.heap.size w w' := by
  have b1 := h.le.1
  have b2 := h.le.2
  have HA := Lib.hid (h.keep (Keep.alloc w (.cells #[.slice A l.length c] 75)))
  clear h
  have HC := Lib.hid (cellNew w #[.slice A l.length c] 75 0)
  have c0 := HC.out
  go_enter Try.func44, Try.ntmps44
  go_wp2_with fail
  refine (xList_any 102 (.pointer (some ⟨w.heap.size, 0, none⟩)) l.length 20 (fun i => licErr (listW l i)) _ (by omega) (by omega) (fun args w => by kernel_rfl) (fun w' hb i hi => xLicBad_any l A c _ i w' (Keep.below hb _ _ HC.out) (HA.out.keep (Keep.below hb)) hi)).mono ?_
  rintro e w1 ⟨rfl, hb1⟩
  go_wp2_with fail
  go_ret2
  exact ⟨rfl, ((Below.refl _ _).alloc (Nat.le_refl _) _).trans (hb1.mono (by simp))⟩
set_option maxHeartbeats 400000 in
theorem xLicsErr_any (l : List WRec) (A : Option Addr) (c : Nat) (w : World) (h : ArrW w A l c) :
    Calls Try.prog 107 #[.slice A l.length c] w fun e w' => e = .returned (.int .i64 (licsErr l)) ∧ Below w.heap.size w w' := by
  go_enter Try.func107, Try.ntmps107
  go_wp2_with fail
  refine (xLicences_any l A c _ h).mono ?_
  rintro e w1 ⟨rfl, hb1⟩
  go_wp2_with fail
  go_ret
  exact ⟨rfl, hb1⟩

/-! ### which hold -/
open Classical in
noncomputable def Fs.heldTo (l : List WRec) (s : ByteArray) (d : Int) : Nat → Int
  | 0 => d - 1
  | k + 1 => if holdsAt l s d k then max (heldTo l s d k) (listW l k).fin else heldTo l s d k
theorem Fs.held_ge (l : List WRec) (s : ByteArray) (d : Int) : ∀ n, (∃ k, k < n ∧ holdsAt l s d k ∧ heldTo l s d n = (listW l k).fin ∧ d ≤ heldTo l s d n) ∨ (heldTo l s d n = d - 1 ∧ ∀ k, k < n → ¬ holdsAt l s d k)
  | 0 => Or.inr ⟨rfl, fun k hk => absurd hk (Nat.not_lt_zero _)⟩
  | n + 1 => by
    by_cases h : holdsAt l s d n
    · have e : heldTo l s d (n + 1) = max (heldTo l s d n) (listW l n).fin := if_pos h
      have hw := Fs.within_iff.1 h.2
      rw [e]
      refine Or.inl ?_
      rcases held_ge l s d n with ⟨k, hk, h1, h2, h3⟩ | ⟨h1, h2⟩
      · by_cases hc : (listW l n).fin ≤ heldTo l s d n
        · exact ⟨k, by omega, h1, by omega, by omega⟩
        · exact ⟨n, by omega, h, by omega, by omega⟩
      · exact ⟨n, by omega, h, by omega, by omega⟩
    · have e : heldTo l s d (n + 1) = heldTo l s d n := if_neg h
      rw [e]
      rcases held_ge l s d n with ⟨k, hk, h1, h2, h3⟩ | ⟨h1, h2⟩
      · exact Or.inl ⟨k, by omega, h1, h2, h3⟩
      · refine Or.inr ⟨h1, fun k hk => ?_⟩
        by_cases ek : k = n
        · subst ek; exact h
        · exact h2 k (by omega)
theorem Fs.held_holds (l : List WRec) (s : ByteArray) (d : Int) : decide (d ≤ heldTo l s d l.length) = licHolds l s d := by
  rcases held_ge l s d l.length with ⟨k, hk, h1, h2, h3⟩ | ⟨h1, h2⟩
  · rw [licHolds_yes ⟨k, hk, h1⟩, decide_eq_true h3]
  · rw [licHolds_no h2, decide_eq_false (by omega)]
theorem Fs.held_is {l : List WRec} (hL : licsErr l = 0) {s : ByteArray} {d : Int} (h0 : -1 ≤ d) (h1 : d ≤ 100002) : ∀ n, n ≤ l.length → -2 ≤ heldTo l s d n ∧ heldTo l s d n ≤ 100002 := by
  intro n hn
  rcases held_ge l s d n with ⟨k, hk, h2, h3, h4⟩ | ⟨h2, -⟩
  · have := (licErr_ok ((lics_ok hL).2 k (by omega))).2.2.1
    omega
  · omega
set_option linter.unusedSimpArgs false in
set_option maxHeartbeats 12800000 in
set_option maxRecDepth 100000 in
theorem xHeld_any (l : List WRec) (A : Option Addr) (c : Nat) (s : ByteArray) (d : Int) (w : World) (h : ArrW w A l c) (hL : licsErr l = 0) (h0 : 0 ≤ d) (h1 : d ≤ 100001) :
    Calls Try.prog 111 #[.slice A l.length c, .string s, .int .i64 d] w fun e w' => e = .returned (.int .i64 (heldTo l s d l.length)) ∧ Below w.heap.size w w' := by
  have b1 := h.le.1
  have b2 := h.le.2
  have HA := Lib.hid h
  have HL := Lib.hid hL
  have hl20 := (lics_ok hL).1
  clear h hL
  have hw0 : IntKind.i64.wrap (d - 1) = d - 1 := by rw [IntKind.wrap_i64]; omega
  go_enter Try.func111, Try.ntmps111
  go_wp2_with fail
  go_loopw [7, 14] (fun u i wr => ∃ k : Nat, k ≤ l.length ∧ u = .int .i64 (heldTo l s d k) ∧ i = .int .i64 k ∧ Hid (Below w.heap.size w wr)) (fun _ i _ => l.length - (intOf i).toNat)
  case atStart => exact ⟨0, Nat.zero_le _, rfl, rfl, Lib.hid (Below.refl _ _)⟩
  case round =>
    obtain ⟨k, hk, rfl, rfl, HB⟩ := hrel
    by_cases hlt : k < l.length
    · have hkn : (k : Int) < (l.length : Int) := by omega
      obtain ⟨b, o, rfl, q⟩ := (HA.out.keep (Keep.below HB.out)).at_ hlt
      obtain ⟨q0, q1, q2⟩ := q
      have n0 := cellNew wr #[.string (listW l k).who, .int .i64 (listW l k).beg, .int .i64 (listW l k).fin] 148 0
      have n1 := cellNew wr #[.string (listW l k).who, .int .i64 (listW l k).beg, .int .i64 (listW l k).fin] 148 1
      have n2 := cellNew wr #[.string (listW l k).who, .int .i64 (listW l k).beg, .int .i64 (listW l k).fin] 148 2
      have HB1 := Lib.hid (HB.out.alloc HB.out.size (.cells #[.string (listW l k).who, .int .i64 (listW l k).beg, .int .i64 (listW l k).fin] 148))
      by_cases he : holdsAt l s d k
      · have F := Lib.hid (show heldTo l s d (k + 1) = max (heldTo l s d k) (listW l k).fin from if_pos he)
        obtain ⟨hs, hw⟩ := he
        have e1 := str_eq hs
        have HWI := Lib.hid hw
        clear hs hw
        go_wp2_with fail
        refine (within_any _ _ _ _).mono ?_
        rintro e' wx ⟨rfl, rfl⟩
        rw [HWI.out]
        go_wp2_with fail
        rw [← F.out]
        go_roundw
        case rel => exact ⟨k + 1, by omega, rfl, by go_num, HB1⟩
        case measure => simp [intOf]; omega
      · have F := Lib.hid (show heldTo l s d (k + 1) = heldTo l s d k from if_neg he)
        by_cases hs : (listW l k).who = s
        · have e1 := str_eq hs
          have hw : within d (listW l k).beg (listW l k).fin = false := by
            cases hw : within d (listW l k).beg (listW l k).fin with
            | false => rfl
            | true => exact absurd ⟨hs, hw⟩ he
          have HWI := Lib.hid hw
          clear hs hw he
          go_wp2_with fail
          refine (within_any _ _ _ _).mono ?_
          rintro e' wx ⟨rfl, rfl⟩
          rw [HWI.out]
          go_wp2_with fail
          rw [← F.out]
          go_roundw
          case rel => exact ⟨k + 1, by omega, rfl, by go_num, HB1⟩
          case measure => simp [intOf]; omega
        · have e1 := str_ne hs
          clear hs he
          go_wp2_with fail
          rw [← F.out]
          go_roundw
          case rel => exact ⟨k + 1, by omega, rfl, by go_num, HB1⟩
          case measure => simp [intOf]; omega
    · obtain rfl : k = l.length := by omega
      go_wp2_with fail
      go_ret
      exact ⟨rfl, HB.out⟩
set_option maxHeartbeats 400000 in
theorem xHoldsIn_any (l : List WRec) (A : Option Addr) (c : Nat) (s : ByteArray) (d : Int) (w : World) (h : ArrW w A l c) (hL : licsErr l = 0) (h0 : 0 ≤ d) (h1 : d ≤ 100001) :
    Calls Try.prog 110 #[.slice A l.length c, .string s, .int .i64 d] w fun e w' => e = .returned (.bool (licHolds l s d)) ∧ Below w.heap.size w w' := by
  go_enter Try.func110, Try.ntmps110
  go_wp2_with fail
  refine (xHeld_any l A c s d _ h hL h0 h1).mono ?_
  rintro e' w1 ⟨rfl, hb1⟩
  go_wp2_with fail
  go_ret
  exact ⟨ret_bool (held_holds l s d), hb1⟩
theorem Fs.kindX_is (l : List WRec) (s : ByteArray) (d : Int) : (if licsErr l ≠ 0 then licsErr l else if sortErr s ≠ 0 then sortErr s else dateErr d) = kindErr l s d := by
  unfold kindErr sortErr
  cases h1 : isName s <;> rfl
theorem Fs.kindX_ok {l : List WRec} {s : ByteArray} {d : Int} (h : kindErr l s d = 0) : licsErr l = 0 ∧ 0 ≤ d ∧ d ≤ 100000 := by
  unfold kindErr at h
  by_cases h1 : licsErr l = 0
  · rw [if_neg (fun hh => hh h1)] at h
    cases h2 : isName s with
    | false => rw [h2, if_pos rfl] at h; exact absurd h (by decide)
    | true =>
      rw [h2, if_neg (by decide)] at h
      refine ⟨h1, ?_⟩
      unfold dateErr at h
      by_cases hw : within d 0 100000 = true
      · exact Fs.within_iff.1 hw
      · rw [if_neg hw] at h; exact absurd h (by decide)
  · rw [if_pos h1] at h; exact absurd h h1
set_option linter.unusedSimpArgs false in
set_option maxHeartbeats 12800000 in
set_option maxRecDepth 100000 in
theorem xHolds_any (l : List WRec) (A : Option Addr) (c : Nat) (s : ByteArray) (d : Int) (w : World) (h : ArrW w A l c) :
    Calls Try.prog 47 #[.slice A l.length c, .string s, .int .i64 d] w fun e w' => e = .returned (.tuple #[.bool (holdsOut l s d), .int .i64 (kindErr l s d)]) ∧ Below w.heap.size w w' := by
  have HA := Lib.hid h
  clear h
  go_enter Try.func47, Try.ntmps47
  go_wp2_with fail
  refine (xLicsErr_any l A c _ HA.out).mono ?_
  rintro e w1 ⟨rfl, hb1⟩
  have HW := Lib.hid hb1
  clear hb1
  go_wp2_with fail
  refine (xKindErr_any _ _).mono ?_
  rintro e wx ⟨rfl, rfl⟩
  go_wp2_with fail
  refine (xDateErr_any _ _).mono ?_
  rintro e wx ⟨rfl, rfl⟩
  have HL := Lib.hid (arr3New w1 (licsErr l) (sortErr s) (dateErr d) 28)
  have HX := Lib.hid (HW.out.alloc HW.out.size (.cells #[.int .i64 (licsErr l), .int .i64 (sortErr s), .int .i64 (dateErr d)] 28))
  go_wp2_with fail
  refine (firstError_any [licsErr l, sortErr s, dateErr d] _ _ _ HL.out).mono ?_
  rintro e wx ⟨rfl, rfl⟩
  rw [show [licsErr l, sortErr s, dateErr d].length = 3 from rfl, fst_three, kindX_is]
  clear HL
  generalize hwy : w1.alloc _ = wy at *
  clear hwy
  by_cases he : kindErr l s d = 0
  · have HE := Lib.hid he
    have HO := Lib.hid (show holdsOut l s d = licHolds l s d from if_pos he)
    obtain ⟨hL, h0, h1⟩ := kindX_ok he
    have HLL := Lib.hid hL
    rw [he]
    clear he hL
    go_wp2_with fail
    refine (xHoldsIn_any l A c s d _ (HA.out.keep (Keep.below HX.out)) HLL.out h0 (by omega)).mono ?_
    rintro e w2 ⟨rfl, hb2⟩
    go_wp2_with fail
    go_ret2
    exact ⟨by rw [HO.out, HE.out]; rfl, HX.out.trans (hb2.mono HX.out.size)⟩
  · have HO := Lib.hid (show holdsOut l s d = false from if_neg he)
    have e1 : (kindErr l s d != 0) = true := by simpa using he
    have e2 : (kindErr l s d == 0) = false := by simpa using he
    clear he
    go_wp2_with fail
    go_ret2
    exact ⟨by rw [HO.out]; rfl, HX.out⟩
set_option linter.unusedSimpArgs false in
set_option maxHeartbeats 12800000 in
set_option maxRecDepth 100000 in
theorem xLapses_any (l : List WRec) (A : Option Addr) (c : Nat) (s : ByteArray) (d : Int) (w : World) (h : ArrW w A l c) :
    Calls Try.prog 48 #[.slice A l.length c, .string s, .int .i64 d] w fun e w' => (∃ n z, e = .returned (.tuple #[.int .i64 n, .int .i64 z]) ∧ LapsesIs l s d n z) ∧ Below w.heap.size w w' := by
  have HA := Lib.hid h
  clear h
  go_enter Try.func48, Try.ntmps48
  go_wp2_with fail
  refine (xLicsErr_any l A c _ HA.out).mono ?_
  rintro e w1 ⟨rfl, hb1⟩
  have HW := Lib.hid hb1
  clear hb1
  go_wp2_with fail
  refine (xKindErr_any _ _).mono ?_
  rintro e wx ⟨rfl, rfl⟩
  go_wp2_with fail
  refine (xDateErr_any _ _).mono ?_
  rintro e wx ⟨rfl, rfl⟩
  have HL := Lib.hid (arr3New w1 (licsErr l) (sortErr s) (dateErr d) 28)
  have HX := Lib.hid (HW.out.alloc HW.out.size (.cells #[.int .i64 (licsErr l), .int .i64 (sortErr s), .int .i64 (dateErr d)] 28))
  go_wp2_with fail
  refine (firstError_any [licsErr l, sortErr s, dateErr d] _ _ _ HL.out).mono ?_
  rintro e wx ⟨rfl, rfl⟩
  rw [show [licsErr l, sortErr s, dateErr d].length = 3 from rfl, fst_three, kindX_is]
  clear HL
  generalize hwy : w1.alloc _ = wy at *
  clear hwy
  by_cases he : kindErr l s d = 0
  · have HE := Lib.hid he
    obtain ⟨hL, h0, h1⟩ := kindX_ok he
    have HLL := Lib.hid hL
    rw [he]
    clear he hL
    go_wp2_with fail
    refine (xHoldsIn_any l A c s d _ (HA.out.keep (Keep.below HX.out)) HLL.out h0 (by omega)).mono ?_
    rintro e w2 ⟨rfl, hb2⟩
    replace HX := Lib.hid (HX.out.trans (hb2.mono HX.out.size))
    clear hb2
    cases hh : licHolds l s d with
    | false =>
      have HN := Lib.hid (licHolds_not hh)
      clear hh
      go_wp2_with fail
      refine bodyPost_ret (v := .tuple #[.int .i64 0, .int .i64 12]) (by simp [results, Try.results48, go_sem]) rfl ⟨⟨_, _, rfl, ⟨fun h => absurd HE.out h, fun _ => ⟨-1, ⟨fun z h2 h3 => absurd h2 (by omega), fun h2 => absurd h2 (by omega), fun _ => ⟨rfl, HN.out⟩, by decide⟩, Or.inl ⟨by omega, rfl, rfl⟩⟩⟩⟩, HX.out⟩
    | true =>
      have HY := Lib.hid (licHolds_is hh)
      clear hh
      go_wp2_with fail
      go_loopw [9] (fun u wr => ∃ z : Int, u = .int .i64 z ∧ d ≤ z ∧ z ≤ 100000 ∧ Hid (∀ y, d ≤ y → y ≤ z → HoldsL l s y) ∧ Hid (Below w.heap.size w wr)) (fun u _ => (100001 - intOf u).toNat)
      case atStart => exact ⟨d, rfl, Int.le_refl _, h1, Lib.hid fun y h2 h3 => by rw [show y = d by omega]; exact HY.out, HX⟩
      case round =>
        obtain ⟨z, rfl, hz0, hz1, Hn, HB⟩ := hrel
        have hw1 : IntKind.i64.wrap (z + 1) = z + 1 := by rw [IntKind.wrap_i64]; omega
        go_wp2_with fail
        refine (xHoldsIn_any l A c s (z + 1) _ (HA.out.keep (Keep.below HB.out)) HLL.out (by omega) (by omega)).mono ?_
        rintro e w3 ⟨rfl, hb2⟩
        have HB1 := Lib.hid (HB.out.trans (hb2.mono HB.out.size))
        clear hb2
        cases hh : licHolds l s (z + 1) with
        | false =>
          have HN := Lib.hid (licHolds_not hh)
          clear hh
          go_wp2_with fail
          refine bodyPost_ret (v := .tuple #[.int .i64 z, .int .i64 0]) (by simp [results, Try.results48, go_sem]) rfl ⟨⟨_, _, rfl, ⟨fun h => absurd HE.out h, fun _ => ⟨z, ⟨Hn.out, fun _ => HN.out, fun h2 => absurd h2 (by omega), hz1⟩, Or.inr ⟨hz0, rfl, rfl⟩⟩⟩⟩, HB1.out⟩
        | true =>
          obtain ⟨m, hm⟩ : ∃ m, m = heldTo l s (z + 1) l.length := ⟨_, rfl⟩
          have HM : Hid (z + 1 ≤ m ∧ m ≤ 100000 ∧ ∀ y, d ≤ y → y ≤ m → HoldsL l s y) := by
            refine Lib.hid ?_
            rw [hm]
            rcases held_ge l s (z + 1) l.length with ⟨k, hk, h2, h3, h4⟩ | ⟨-, h3⟩
            · have h5 := (licErr_ok ((lics_ok HLL.out).2 k hk)).2.2.1
              have h6 := Fs.within_iff.1 h2.2
              refine ⟨h4, by omega, fun y y1 y2 => ?_⟩
              by_cases hy : y ≤ z
              · exact Hn.out y y1 hy
              · exact ⟨k, hk, h2.1, Fs.within_iff.2 ⟨by omega, by omega⟩⟩
            · obtain ⟨k, hk, h4⟩ := licHolds_is hh
              exact absurd h4 (h3 k hk)
          have HMM := Lib.hid hm
          clear hh hm
          go_wp2_with fail
          refine (xHeld_any l A c s (z + 1) _ (HA.out.keep (Keep.below HB1.out)) HLL.out (by omega) (by omega)).mono ?_
          rintro e w4 ⟨rfl, hb2⟩
          rw [← HMM.out]
          go_wp2_with fail
          go_roundw
          case rel => exact ⟨m, rfl, by have := HM.out.1; omega, HM.out.2.1, Lib.hid HM.out.2.2, Lib.hid (HB1.out.trans (hb2.mono HB1.out.size))⟩
          case measure => have := HM.out.1; simp [intOf]; omega
  · have HE := Lib.hid he
    have e1 : (kindErr l s d != 0) = true := by simpa using he
    have e2 : (kindErr l s d == 0) = false := by simpa using he
    clear he
    go_wp2_with fail
    refine bodyPost_ret (v := .tuple #[.int .i64 0, .int .i64 (kindErr l s d)]) (by simp [results, Try.results48, go_sem]) rfl ⟨⟨_, _, rfl, ⟨fun _ => ⟨rfl, rfl⟩, fun h => absurd h HE.out⟩⟩, HX.out⟩
end Go.Proofs.Ytolicafhbeiciaa
/- The first kind of which no licence holds. No condition. -/
namespace Go.Proofs.Ytolicafhbeiciaa
open Go.RowKit Fs

set_option maxHeartbeats 400000 in
theorem xKindBad_any (K : List ByteArray) (B : Option Addr) (cb g k : Nat) (w : World) (hB : w.cell? ⟨g, 0, none⟩ = some (.slice B K.length cb)) (h : ArrS w B K cb) (hlt : k < K.length) :
    Calls Try.prog 146 #[.int .i64 k, .pointer (some ⟨g, 0, none⟩)] w fun e w' => e = .returned (.int .i64 (noName K k)) ∧ Below w.heap.size w w' := by
  have b1 := h.le.1
  have b2 := h.le.2
  obtain ⟨b, o, rfl, q0⟩ := h.at_ hlt
  have hkn : (k : Int) < (K.length : Int) := by omega
  clear h
  go_enter Try.func146, Try.ntmps146
  go_wp2_with fail
  refine (xKindErr_any _ _).mono ?_
  rintro e wx ⟨rfl, rfl⟩
  go_wp2_with fail
  go_ret
  exact ⟨rfl, Below.refl _ _⟩
set_option maxHeartbeats 400000 in
theorem xKindsErr_any (K : List ByteArray) (B : Option Addr) (cb : Nat) (w : World) (h : ArrS w B K cb) :
    Calls Try.prog 112 #[.slice B K.length cb] w fun e w' => e = .returned (.int .i64 (manyErr K.length 20 (noName K))) ∧ Below w.heap.size w w' := by
  have b1 := h.le.1
  have b2 := h.le.2
  have HA := Lib.hid (h.keep (Keep.alloc w (.cells #[.slice B K.length cb] 85)))
  clear h
  have HC := Lib.hid (cellNew w #[.slice B K.length cb] 85 0)
  have c0 := HC.out
  go_enter Try.func112, Try.ntmps112
  go_wp2_with fail
  refine (xList_any 146 (.pointer (some ⟨w.heap.size, 0, none⟩)) K.length 20 (noName K) _ (by omega) (by omega) (fun args w => by kernel_rfl) (fun w' hb i hi => xKindBad_any K B cb _ i w' (Keep.below hb _ _ HC.out) (HA.out.keep (Keep.below hb)) hi)).mono ?_
  rintro e w1 ⟨rfl, hb1⟩
  go_wp2_with fail
  go_ret
  exact ⟨rfl, ((Below.refl _ _).alloc (Nat.le_refl _) _).trans (hb1.mono (by simp))⟩
theorem Fs.mayX_is (l : List WRec) (K : List ByteArray) (d : Int) : (if licsErr l ≠ 0 then licsErr l else if manyErr K.length 20 (noName K) ≠ 0 then manyErr K.length 20 (noName K) else dateErr d) = mayErr l K d := by
  have hv : ∀ n, fst (noName K) n = 0 ∨ fst (noName K) n = 4 := by
    intro n
    by_cases h : ∃ k, k < n ∧ (∀ j, j < k → noName K j = 0) ∧ noName K k ≠ 0
    · obtain ⟨k, hk, h1, h2⟩ := h
      rw [(fst_hit hk h1 h2).1]
      unfold noName at h2 ⊢
      by_cases h3 : isName (listS K k) = true
      · rw [if_pos h3] at h2; exact absurd rfl h2
      · rw [if_neg h3]; exact Or.inr rfl
    · refine Or.inl (fst_none fun j hj => ?_)
      have key : ∀ j, j < n → noName K j = 0 := by
        intro j
        induction j using Nat.strongRecOn with
        | _ j ih =>
          intro hj
          by_cases h4 : noName K j = 0
          · exact h4
          · exact absurd ⟨j, hj, fun i hi => ih i hi (by omega), h4⟩ h
      exact key j hj
  have hm : manyErr K.length 20 (noName K) = if 20 < K.length then 8 else fst (noName K) K.length := rfl
  unfold mayErr
  by_cases h1 : licsErr l = 0
  · rw [if_neg (fun hh : licsErr l ≠ 0 => hh h1), if_neg (fun hh : licsErr l ≠ 0 => hh h1)]
    by_cases h2 : 20 < K.length
    · rw [if_pos h2] at hm
      rw [hm, if_pos h2]
      exact if_pos (by decide)
    · rw [if_neg h2] at hm
      rw [hm, if_neg h2]
      rcases hv K.length with h3 | h3
      · rw [h3]
        exact (if_neg (fun h => h rfl)).trans (if_neg (fun h => h rfl)).symm
      · rw [h3]
  · rw [if_pos (show licsErr l ≠ 0 from h1), if_pos (show licsErr l ≠ 0 from h1)]
theorem Fs.mayX_ok {l : List WRec} {K : List ByteArray} {d : Int} (h : mayErr l K d = 0) : licsErr l = 0 ∧ 0 ≤ d ∧ d ≤ 100000 ∧ K.length ≤ 20 := by
  unfold mayErr at h
  by_cases h1 : licsErr l = 0
  · rw [if_neg (fun hh => hh h1)] at h
    by_cases h2 : 20 < K.length
    · rw [if_pos h2] at h; exact absurd h (by decide)
    · rw [if_neg h2] at h
      by_cases h3 : fst (noName K) K.length = 0
      · rw [if_neg (fun hh => hh h3)] at h
        refine ⟨h1, ?_⟩
        unfold dateErr at h
        by_cases hw : within d 0 100000 = true
        · have := Fs.within_iff.1 hw; omega
        · rw [if_neg hw] at h; exact absurd h (by decide)
      · rw [if_pos h3] at h; exact absurd h (by decide)
  · rw [if_pos h1] at h; exact absurd h h1
set_option linter.unusedSimpArgs false in
set_option maxHeartbeats 12800000 in
set_option maxRecDepth 100000 in
theorem xMay_any (l : List WRec) (A : Option Addr) (c : Nat) (K : List ByteArray) (B : Option Addr) (cb : Nat) (d : Int) (w : World) (h : ArrW w A l c) (hK : ArrS w B K cb) :
    Calls Try.prog 52 #[.slice A l.length c, .slice B K.length cb, .int .i64 d] w fun e w' => e = .returned (.tuple #[.string (mayOut l K d), .int .i64 (mayErr l K d)]) ∧ Below w.heap.size w w' := by
  have b1 := hK.le.1
  have b2 := hK.le.2
  have HA := Lib.hid h
  have HK := Lib.hid hK
  clear h hK
  go_enter Try.func52, Try.ntmps52
  go_wp2_with fail
  refine (xLicsErr_any l A c _ HA.out).mono ?_
  rintro e w1 ⟨rfl, hb1⟩
  have HW := Lib.hid hb1
  clear hb1
  go_wp2_with fail
  refine (xKindsErr_any K B cb _ (HK.out.keep (Keep.below HW.out))).mono ?_
  rintro e w2 ⟨rfl, hb1⟩
  replace HW := Lib.hid (HW.out.trans (hb1.mono HW.out.size))
  clear hb1
  go_wp2_with fail
  refine (xDateErr_any _ _).mono ?_
  rintro e wx ⟨rfl, rfl⟩
  have HL := Lib.hid (arr3New w2 (licsErr l) (manyErr K.length 20 (noName K)) (dateErr d) 28)
  have HX := Lib.hid (HW.out.alloc HW.out.size (.cells #[.int .i64 (licsErr l), .int .i64 (manyErr K.length 20 (noName K)), .int .i64 (dateErr d)] 28))
  go_wp2_with fail
  refine (firstError_any [licsErr l, manyErr K.length 20 (noName K), dateErr d] _ _ _ HL.out).mono ?_
  rintro e wx ⟨rfl, rfl⟩
  rw [show [licsErr l, manyErr K.length 20 (noName K), dateErr d].length = 3 from rfl, fst_three, mayX_is]
  clear HL
  generalize hwy : w2.alloc _ = wy at *
  clear hwy
  by_cases he : mayErr l K d = 0
  · have HE := Lib.hid he
    have HO := Lib.hid (show mayOut l K d = mayDrive l K d from if_pos he)
    obtain ⟨hL, h0, h1, hK20⟩ := mayX_ok he
    have HLL := Lib.hid hL
    rw [he]
    clear he hL
    go_wp2_with fail
    go_loopw [24] (fun i wr => ∃ k : Nat, k ≤ K.length ∧ i = .int .i64 k ∧ Hid (∀ j, j < k → noLic l K d j = 0) ∧ Hid (Below w.heap.size w wr)) (fun i _ => K.length - (intOf i).toNat)
    case atStart => exact ⟨0, Nat.zero_le _, rfl, Lib.hid fun j hj => absurd hj (Nat.not_lt_zero _), HX⟩
    case round =>
      obtain ⟨k, hk, rfl, Hn, HB⟩ := hrel
      by_cases hlt : k < K.length
      · have hkn : (k : Int) < (K.length : Int) := by omega
        obtain ⟨b, o, rfl, q0⟩ := (HK.out.keep (Keep.below HB.out)).at_ hlt
        go_wp2_with fail
        refine (xHoldsIn_any l A c (listS K k) d _ (HA.out.keep (Keep.below HB.out)) HLL.out h0 (by omega)).mono ?_
        rintro e' w1 ⟨rfl, hb1⟩
        have HB1 := Lib.hid (HB.out.trans (hb1.mono HB.out.size))
        clear hb1 q0
        cases hh : licHolds l (listS K k) d with
        | true =>
          have F : Hid (noLic l K d k = 0) := Lib.hid (by unfold noLic; rw [hh]; rfl)
          clear hh
          go_wp2_with fail
          go_roundw
          case rel =>
            exact ⟨k + 1, by omega, by go_num, Lib.hid fun j hj => by
              by_cases e : j = k
              · subst e; exact F.out
              · exact Hn.out j (by omega), HB1⟩
          case measure => simp [intOf]; omega
        | false =>
          obtain ⟨F1, F2⟩ := fst_hit hlt Hn.out (show noLic l K d k ≠ 0 by unfold noLic; rw [hh]; decide)
          have F := Lib.hid (show mayDrive l K d = listS K k by
            unfold mayDrive
            rw [F1, F2, if_neg (by unfold noLic; rw [hh]; decide)])
          clear hh F1 F2
          go_wp2_with fail
          refine bodyPost_ret (v := .tuple #[.string (listS K k), .int .i64 0]) (by simp [results, Try.results52, go_sem]) rfl ⟨by rw [HO.out, F.out, HE.out], HB1.out⟩
      · have F := Lib.hid (show mayDrive l K d = ⟨#[]⟩ from if_pos (fst_none fun j hj => Hn.out j (by omega)))
        go_wp2_with fail
        refine bodyPost_ret (v := .tuple #[.string ⟨#[]⟩, .int .i64 0]) (by simp [results, Try.results52, go_sem]) rfl ⟨by rw [HO.out, F.out, HE.out], HB.out⟩
  · have HO := Lib.hid (show mayOut l K d = ⟨#[]⟩ from if_neg he)
    have e1 : (mayErr l K d != 0) = true := by simpa using he
    have e2 : (mayErr l K d == 0) = false := by simpa using he
    clear he
    go_wp2_with fail
    refine bodyPost_ret (v := .tuple #[.string ⟨#[]⟩, .int .i64 (mayErr l K d)]) (by simp [results, Try.results52, go_sem]) rfl ⟨by rw [HO.out], HX.out⟩
end Go.Proofs.Ytolicafhbeiciaa
/- Contracts of the functions of licences. No condition. -/

/- The law of licences: which are right, whether a kind holds on a date and up to when, as specified. No condition. -/
namespace Go.Proofs.Ytolicafhbeiciaa
open Go.RowKit Fs

theorem Fs.kind_ok {l : List WRec} {s : ByteArray} {d : Int} (h : kindErr l s d = 0) : licsErr l = 0 ∧ isName s = true ∧ dateErr d = 0 := by
  unfold kindErr at h
  by_cases h1 : licsErr l = 0
  · rw [if_neg (fun hh => hh h1)] at h
    cases h2 : isName s with
    | false => rw [h2, if_pos rfl] at h; exact absurd h (by decide)
    | true => rw [h2, if_neg (by decide)] at h; exact ⟨h1, rfl, h⟩
  · rw [if_pos h1] at h; exact absurd h h1
theorem Fs.dateErr_zero {d : Int} (h0 : 0 ≤ d) (h1 : d ≤ 100000) : dateErr d = 0 := if_pos (within_iff.2 ⟨h0, h1⟩)
theorem Fs.kind_zero {l : List WRec} {s : ByteArray} {d : Int} (h1 : licsErr l = 0) (h2 : isName s = true) (h3 : dateErr d = 0) : kindErr l s d = 0 := by
  unfold kindErr; rw [if_neg (fun hh => hh h1), h2, if_neg (by decide)]; exact h3
theorem Fs.holds_bad {l : List WRec} {s : ByteArray} {d : Int} (h : kindErr l s d ≠ 0) : holdsOut l s d = false := if_neg h
theorem Fs.holds_good {l : List WRec} {s : ByteArray} {d : Int} (h : kindErr l s d = 0) : holdsOut l s d = licHolds l s d := if_pos h
theorem Fs.licHolds_never {l : List WRec} {s : ByteArray} {d : Int} (h : ¬ HoldsL l s d) : licHolds l s d = false := by
  cases e : licHolds l s d with
  | false => rfl
  | true => exact absurd (licHolds_is e) h
set_option linter.unusedSimpArgs false in
set_option maxHeartbeats 12800000 in
set_option maxRecDepth 100000 in
theorem lawLic_any (l : List WRec) (s : ByteArray) (d : Int) (A : Option Addr) (c : Nat) (w : World) (h : ArrW w A l c) :
    Calls Try.prog 11 #[.slice A l.length c, .string s, .int .i64 d] w fun e w' => e = .returned (.bool true) ∧ Below w.heap.size w w' := by
  have b1 := h.le.1
  have b2 := h.le.2
  have HA := Lib.hid h
  clear h
  have HW := Lib.hid (Below.refl w.heap.size w)
  go_enter Try.func11, Try.ntmps11
  go_wp2_with fail
  refine (lawAwake_any _).mono ?_
  rintro e' w1 ⟨rfl, hb1⟩
  replace HW := Lib.hid (HW.out.trans (hb1.mono HW.out.size))
  clear hb1
  go_wp2_with fail
  refine (lawLicences_any l A c _ (HA.out.keep (Keep.below HW.out))).mono ?_
  rintro e' wA ⟨rfl, rfl⟩
  cases hf : fewLics l with
  | false =>
    go_wp2_with fail
    go_ret
    exact ⟨rfl, HW.out⟩
  | true =>
    have hl := (fewLics_is hf).1
    clear hf
    by_cases hs : s.size ≤ 20
    · have s1 : decide ((s.size : Int) > 20) = false := decide_eq_false (by omega)
      have s2 : decide (20 < (s.size : Int)) = false := decide_eq_false (by omega)
      have s3 : decide (20 < s.size) = false := decide_eq_false (by omega)
      clear hs
      go_wp2_with fail
      refine (rCopyLicences_any l A c _ (HA.out.keep (Keep.below HW.out)) (by omega)).mono ?_
      rintro e' w5 ⟨⟨A5, c5, rfl, h5⟩, hb1⟩
      replace HW := Lib.hid (HW.out.trans (hb1.mono HW.out.size))
      have H5 := Lib.hid h5
      clear h5
      clear hb1
      go_wp2_with fail
      refine (xLicences_any l A5 c5 _ H5.out).mono ?_
      rintro e' w6 ⟨rfl, hb1⟩
      replace HW := Lib.hid (HW.out.trans (hb1.mono HW.out.size))
      clear H5
      clear hb1
      go_wp2_with fail
      refine (rCheckLicences_any l A c _ (HA.out.keep (Keep.below HW.out))).mono ?_
      rintro e' w7 ⟨rfl, hb1⟩
      replace HW := Lib.hid (HW.out.trans (hb1.mono HW.out.size))
      clear hb1
      go_wp2_with fail
      refine (rCopyLicences_any l A c _ (HA.out.keep (Keep.below HW.out)) (by omega)).mono ?_
      rintro e' w5 ⟨⟨A5, c5, rfl, h5⟩, hb1⟩
      replace HW := Lib.hid (HW.out.trans (hb1.mono HW.out.size))
      have H5 := Lib.hid h5
      clear h5
      clear hb1
      go_wp2_with fail
      refine (xHolds_any l A5 c5 s d _ H5.out).mono ?_
      rintro e' w6 ⟨rfl, hb1⟩
      replace HW := Lib.hid (HW.out.trans (hb1.mono HW.out.size))
      clear H5
      clear hb1
      go_wp2_with fail
      refine (rCopyLicences_any l A c _ (HA.out.keep (Keep.below HW.out)) (by omega)).mono ?_
      rintro e' w5 ⟨⟨A5, c5, rfl, h5⟩, hb1⟩
      replace HW := Lib.hid (HW.out.trans (hb1.mono HW.out.size))
      have H5 := Lib.hid h5
      clear h5
      clear hb1
      go_wp2_with fail
      refine (xLapses_any l A5 c5 s d _ H5.out).mono ?_
      rintro e' w6 ⟨⟨n, z, rfl, hn⟩, hb1⟩
      replace HW := Lib.hid (HW.out.trans (hb1.mono HW.out.size))
      have HN := Lib.hid hn
      clear H5 hn
      clear hb1
      go_wp2_with fail
      refine (rKindErr_any l s d A c _ (HA.out.keep (Keep.below HW.out))).mono ?_
      rintro e' w7 ⟨rfl, hb1⟩
      replace HW := Lib.hid (HW.out.trans (hb1.mono HW.out.size))
      clear hb1
      by_cases he : kindErr l s d = 0
      · have HE := Lib.hid (kind_ok he)
        have d0 := (dateErr_ok HE.out.2.2).1
        have d1 := (dateErr_ok HE.out.2.2).2
        rw [he, holds_good he]
        have HE0 := Lib.hid he
        clear he
        go_wp2_with fail
        refine (rHolds_any l s d A c _ (HA.out.keep (Keep.below HW.out))).mono ?_
        rintro e' w8 ⟨rfl, hb1⟩
        replace HW := Lib.hid (HW.out.trans (hb1.mono HW.out.size))
        clear hb1
        obtain ⟨m, hm, hrest⟩ := HN.out.good HE0.out
        have HM := Lib.hid hm
        clear hm HN
        cases hh : licHolds l s d with
        | false =>
          have HH := Lib.hid hh
          clear hh
          go_wp2_with fail
          refine (rLapses_any l s d A c _ (HA.out.keep (Keep.below HW.out)) HE.out.1 d0 d1).mono ?_
          rintro e' w9 ⟨⟨n', rfl, hn'⟩, hb1⟩
          replace HW := Lib.hid (HW.out.trans (hb1.mono HW.out.size))
          obtain rfl := HM.out.same hn'
          clear hn'
          clear hb1
          rcases hrest with ⟨hlt, rfl, rfl⟩ | ⟨hle, rfl, rfl⟩
          · obtain ⟨rfl, hno⟩ := HM.out.none hlt
            clear hno hlt
            go_wp2_with fail
            go_ret
            exact ⟨rfl, HW.out⟩
          · have q0 : decide (n < 0) = false := decide_eq_false (by omega)
            by_cases hx : n = 100000
            · have d3 : (n == 100000) = true := by simpa using hx
              clear hx
              go_wp2_with fail
              go_ret
              exact ⟨rfl, HW.out⟩
            · have d3 : (n == 100000) = false := by simpa using hx
              have ht := HM.out.top
              have K := Lib.hid (kind_zero (s := s) HE.out.1 HE.out.2.1 (dateErr_zero (d := n + 1) (by omega) (by omega)))
              have NO := Lib.hid (licHolds_never (HM.out.no hle))
              have hw1 : IntKind.i64.wrap (n + 1) = n + 1 := by rw [IntKind.wrap_i64]; omega
              clear hx
              go_wp2_with fail
              refine (rCopyLicences_any l A c _ (HA.out.keep (Keep.below HW.out)) (by omega)).mono ?_
              rintro e' w5 ⟨⟨A5, c5, rfl, h5⟩, hb1⟩
              replace HW := Lib.hid (HW.out.trans (hb1.mono HW.out.size))
              have H5 := Lib.hid h5
              clear h5
              clear hb1
              go_wp2_with fail
              refine (xHolds_any l A5 c5 s (n + 1) _ H5.out).mono ?_
              rintro e' w6 ⟨rfl, hb1⟩
              replace HW := Lib.hid (HW.out.trans (hb1.mono HW.out.size))
              clear H5
              rw [K.out, holds_good K.out, NO.out]
              clear hb1
              go_wp2_with fail
              go_ret
              exact ⟨rfl, HW.out⟩
        | true =>
          have HH := Lib.hid hh
          clear hh
          go_wp2_with fail
          refine (rLapses_any l s d A c _ (HA.out.keep (Keep.below HW.out)) HE.out.1 d0 d1).mono ?_
          rintro e' w9 ⟨⟨n', rfl, hn'⟩, hb1⟩
          replace HW := Lib.hid (HW.out.trans (hb1.mono HW.out.size))
          obtain rfl := HM.out.same hn'
          clear hn'
          clear hb1
          rcases hrest with ⟨hlt, rfl, rfl⟩ | ⟨hle, rfl, rfl⟩
          · obtain ⟨rfl, hno⟩ := HM.out.none hlt
            have e1 := licHolds_never hno
            rw [HH.out] at e1
            exact absurd e1 (by decide)
          · have q0 : decide (n < 0) = false := decide_eq_false (by omega)
            by_cases hx : n = 100000
            · have d3 : (n == 100000) = true := by simpa using hx
              clear hx
              go_wp2_with fail
              go_ret
              exact ⟨rfl, HW.out⟩
            · have d3 : (n == 100000) = false := by simpa using hx
              have ht := HM.out.top
              have K := Lib.hid (kind_zero (s := s) HE.out.1 HE.out.2.1 (dateErr_zero (d := n + 1) (by omega) (by omega)))
              have NO := Lib.hid (licHolds_never (HM.out.no hle))
              have hw1 : IntKind.i64.wrap (n + 1) = n + 1 := by rw [IntKind.wrap_i64]; omega
              clear hx
              go_wp2_with fail
              refine (rCopyLicences_any l A c _ (HA.out.keep (Keep.below HW.out)) (by omega)).mono ?_
              rintro e' w5 ⟨⟨A5, c5, rfl, h5⟩, hb1⟩
              replace HW := Lib.hid (HW.out.trans (hb1.mono HW.out.size))
              have H5 := Lib.hid h5
              clear h5
              clear hb1
              go_wp2_with fail
              refine (xHolds_any l A5 c5 s (n + 1) _ H5.out).mono ?_
              rintro e' w6 ⟨rfl, hb1⟩
              replace HW := Lib.hid (HW.out.trans (hb1.mono HW.out.size))
              clear H5
              rw [K.out, holds_good K.out, NO.out]
              clear hb1
              go_wp2_with fail
              go_ret
              exact ⟨rfl, HW.out⟩
      · have e1 : (kindErr l s d == 0) = false := by simpa using he
        have e2 : (kindErr l s d != 0) = true := by simpa using he
        obtain ⟨rfl, rfl⟩ := HN.out.bad he
        rw [holds_bad he]
        clear he HN
        go_wp2_with fail
        go_ret
        exact ⟨rfl, HW.out⟩
    · have s1 : decide ((s.size : Int) > 20) = true := decide_eq_true (by omega)
      have s2 : decide (20 < (s.size : Int)) = true := decide_eq_true (by omega)
      have s3 : decide (20 < s.size) = true := decide_eq_true (by omega)
      clear hs
      go_wp2_with fail
      go_ret
      exact ⟨rfl, HW.out⟩
end Go.Proofs.Ytolicafhbeiciaa
/- The law of kinds: the first kind for which no licence holds is as specified. No condition. -/
namespace Go.Proofs.Ytolicafhbeiciaa
open Go.RowKit Fs

theorem Fs.may_bad {l : List WRec} {K : List ByteArray} {d : Int} (h : mayErr l K d ≠ 0) : mayOut l K d = ⟨#[]⟩ := if_neg h
theorem Fs.may_good {l : List WRec} {K : List ByteArray} {d : Int} (h : mayErr l K d = 0) : mayOut l K d = mayDrive l K d := if_pos h
set_option linter.unusedSimpArgs false in
set_option maxHeartbeats 12800000 in
set_option maxRecDepth 100000 in
theorem lawKinds_any (l : List WRec) (K : List ByteArray) (d : Int) (A B : Option Addr) (c cb : Nat) (w : World) (h : ArrW w A l c) (hK : ArrS w B K cb) :
    Calls Try.prog 12 #[.slice A l.length c, .slice B K.length cb, .int .i64 d] w fun e w' => e = .returned (.bool true) ∧ Below w.heap.size w w' := by
  have b1 := h.le.1
  have b2 := h.le.2
  have b3 := hK.le.1
  have b4 := hK.le.2
  have HA := Lib.hid h
  have HK := Lib.hid hK
  clear h hK
  have HW := Lib.hid (Below.refl w.heap.size w)
  go_enter Try.func12, Try.ntmps12
  go_wp2_with fail
  refine (lawAwake_any _).mono ?_
  rintro e' w1 ⟨rfl, hb1⟩
  replace HW := Lib.hid (HW.out.trans (hb1.mono HW.out.size))
  clear hb1
  go_wp2_with fail
  refine (lawLicences_any l A c _ (HA.out.keep (Keep.below HW.out))).mono ?_
  rintro e' wA ⟨rfl, rfl⟩
  cases hf : fewLics l with
  | false =>
    go_wp2_with fail
    go_ret
    exact ⟨rfl, HW.out⟩
  | true =>
    have hl := (fewLics_is hf).1
    clear hf
    by_cases hs : K.length ≤ 22
    · have s1 : decide ((K.length : Int) > 22) = false := decide_eq_false (by omega)
      have s2 : decide (22 < (K.length : Int)) = false := decide_eq_false (by omega)
      have s3 : decide (22 < K.length) = false := decide_eq_false (by omega)
      have HS := Lib.hid hs
      clear hs
      go_wp2_with fail
      go_loop [7] (fun i => ∃ k : Nat, k ≤ K.length ∧ i = .int .i64 k) (fun i => K.length - (intOf i).toNat)
      case atStart => exact ⟨0, Nat.zero_le _, rfl⟩
      case round =>
        obtain ⟨k, hk, rfl⟩ := hrel
        by_cases hlt : k < K.length
        · have hkn : (k : Int) < (K.length : Int) := by omega
          obtain ⟨b, o, rfl, q0⟩ := (HK.out.keep (Keep.below HW.out)).at_ hlt
          by_cases hx : (listS K k).size ≤ 20
          · have e1 : decide (((listS K k).size : Int) > 20) = false := decide_eq_false (by omega)
            have e2 : decide (20 < (listS K k).size) = false := decide_eq_false (by omega)
            go_wp2_with fail
            go_round
            case rel => exact ⟨k + 1, by omega, by go_num⟩
            case measure => simp [intOf]; omega
          · have e1 : decide (((listS K k).size : Int) > 20) = true := decide_eq_true (by omega)
            have e2 : decide (20 < (listS K k).size) = true := decide_eq_true (by omega)
            go_wp2_with fail
            go_ret
            exact ⟨rfl, HW.out⟩
        · obtain rfl : k = K.length := by omega
          clear hlt hk
          go_wp2_with fail
          refine (rCopyLicences_any l A c _ (HA.out.keep (Keep.below HW.out)) (by omega)).mono ?_
          rintro e' w5 ⟨⟨A5, c5, rfl, h5⟩, hb1⟩
          replace HW := Lib.hid (HW.out.trans (hb1.mono HW.out.size))
          have H5 := Lib.hid h5
          clear h5
          clear hb1
          go_wp2_with fail
          refine (copyTexts_any K B cb _ (HK.out.keep (Keep.below HW.out)) (by have := HS.out; omega)).mono ?_
          rintro e' w6 ⟨A6, c6, rfl, h6, -, hb1⟩
          replace HW := Lib.hid (HW.out.trans (hb1.mono HW.out.size))
          replace H5 := Lib.hid (H5.out.keep (Keep.below hb1))
          have H6 := Lib.hid h6
          clear h6
          clear hb1
          go_wp2_with fail
          refine (xMay_any l A5 c5 K A6 c6 d _ H5.out H6.out).mono ?_
          rintro e' w7 ⟨rfl, hb1⟩
          replace HW := Lib.hid (HW.out.trans (hb1.mono HW.out.size))
          clear H5 H6
          clear hb1
          go_wp2_with fail
          refine (rMayErr_any l K d A B c cb _ (HA.out.keep (Keep.below HW.out)) (HK.out.keep (Keep.below HW.out))).mono ?_
          rintro e' w8 ⟨rfl, hb1⟩
          replace HW := Lib.hid (HW.out.trans (hb1.mono HW.out.size))
          clear hb1
          by_cases he : mayErr l K d = 0
          · rw [he, may_good he]
            clear he
            go_wp2_with fail
            refine (rMayDrive_any l K d A B c cb _ (HA.out.keep (Keep.below HW.out)) (HK.out.keep (Keep.below HW.out))).mono ?_
            rintro e' w9 ⟨rfl, hb1⟩
            replace HW := Lib.hid (HW.out.trans (hb1.mono HW.out.size))
            clear hb1
            have e1 : ((mayDrive l K d).toList == (mayDrive l K d).toList) = true := by simp
            generalize mayDrive l K d = x at *
            go_wp2_with fail
            go_ret
            exact ⟨rfl, HW.out⟩
          · have e1 : (mayErr l K d == 0) = false := by simpa using he
            have e2 : (mayErr l K d != 0) = true := by simpa using he
            rw [may_bad he]
            clear he
            go_wp2_with fail
            go_ret
            exact ⟨rfl, HW.out⟩
    · have s1 : decide ((K.length : Int) > 22) = true := decide_eq_true (by omega)
      have s2 : decide (22 < (K.length : Int)) = true := decide_eq_true (by omega)
      have s3 : decide (22 < K.length) = true := decide_eq_true (by omega)
      clear hs
      go_wp2_with fail
      go_ret
      exact ⟨rfl, HW.out⟩
end Go.Proofs.Ytolicafhbeiciaa

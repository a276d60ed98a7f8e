/- Names, and the errors of the names in lists of names. No condition. -/
import Derived.Test.YtbehabaoeicgeaaW2
namespace Go.Proofs.Ytbehabaoeicgeaa
open Go.RowKit Fs

theorem byteAt_eq (s : ByteArray) (k : Nat) (h : k < s.size) : s[k] = byteAt s k := by
  unfold byteAt
  rw [List.getD_eq_getElem?_getD, List.getElem?_eq_getElem (by simpa using h)]
  rfl
theorem isName_no1 {s : ByteArray} (h : s.size < 1) : isName s = false := by
  unfold isName
  have : decide (1 ≤ s.size) = false := decide_eq_false (by omega)
  rw [this]; rfl
theorem isName_no2 {s : ByteArray} (h : 12 < s.size) : isName s = false := by
  unfold isName
  have : decide (s.size ≤ 12) = false := decide_eq_false (by omega)
  rw [this, Bool.and_false]; rfl
theorem isName_no3 {s : ByteArray} (h : letter (byteAt s 0) = false) : isName s = false := by
  unfold isName
  rw [h, Bool.and_false]; rfl
theorem isName_no4 {s : ByteArray} {k : Nat} (hk : k < s.size) (h : nameByte (byteAt s k) = false) : isName s = false := by
  unfold isName
  have : decide (∀ j, j < s.size → nameByte (byteAt s j) = true) = false := by
    simp only [decide_eq_false_iff_not]
    intro hh
    rw [hh k hk] at h
    cases h
  rw [this, Bool.and_false]
theorem isName_yes {s : ByteArray} (h1 : 1 ≤ s.size) (h2 : s.size ≤ 12) (h3 : letter (byteAt s 0) = true) (h4 : ∀ j, j < s.size → nameByte (byteAt s j) = true) : isName s = true := by
  unfold isName
  simp only [h1, h2, h3, decide_true, Bool.true_and]
  simpa using h4

set_option maxHeartbeats 400000 in
theorem isName_any (s : ByteArray) (w : World) : Calls Try.prog 64 #[.string s] w fun e w' => e = .returned (.bool (isName s)) ∧ w = w' := by
  by_cases h1 : 1 ≤ s.size
  · by_cases h2 : s.size ≤ 12
    · have g0 := byteAt_eq s 0 (by omega)
      have G0 := Lib.hid g0
      clear g0
      cases h3 : letter (byteAt s 0) with
      | false =>
        have F := Lib.hid (isName_no3 h3)
        have H3 := Lib.hid h3
        clear h3
        go_enter Try.func64, Try.ntmps64
        go_wp2_with (go_at_call 83; refine (letter_any _ _).mono ?_; rintro e w' ⟨rfl, rfl⟩; rw [G0.out, H3.out])
        go_ret
        exact ⟨ret_bool F.out.symm, rfl⟩
      | true =>
        have H3 := Lib.hid h3
        clear h3
        go_enter Try.func64, Try.ntmps64
        go_wp2_with (go_at_call 83; refine (letter_any _ _).mono ?_; rintro e w' ⟨rfl, rfl⟩; rw [G0.out, H3.out])
        go_loop [20] (fun i => ∃ k : Nat, k ≤ s.size ∧ i = .int .i64 k ∧ Hid (∀ j, j < k → nameByte (byteAt s j) = true)) (fun i => s.size - (intOf i).toNat)
        case atStart => exact ⟨0, Nat.zero_le _, rfl, fun j hj => absurd hj (Nat.not_lt_zero _)⟩
        case round =>
          obtain ⟨k, hk, rfl, Hn⟩ := hrel
          by_cases hlt : k < s.size
          · have gk := Lib.hid (byteAt_eq s k hlt)
            cases hl : letter (byteAt s k) with
            | true =>
              have F : Hid (∀ j, j < k + 1 → nameByte (byteAt s j) = true) := fun j hj => by
                by_cases e : j = k
                · subst e; simp [nameByte, hl]
                · exact Hn.out j (by omega)
              have HL := Lib.hid hl
              clear hl
              go_wp2_with (go_at_call 83; refine (letter_any _ _).mono ?_; rintro e w' ⟨rfl, rfl⟩; rw [gk.out, HL.out])
              go_round
              case rel => exact ⟨k + 1, by omega, by go_num, F⟩
              case measure => simp [intOf]; omega
            | false =>
              cases hd : digit (byteAt s k) with
              | true =>
                have F : Hid (∀ j, j < k + 1 → nameByte (byteAt s j) = true) := fun j hj => by
                  by_cases e : j = k
                  · subst e; simp [nameByte, hd]
                  · exact Hn.out j (by omega)
                have HL := Lib.hid hl
                have HD := Lib.hid hd
                clear hl hd
                go_wp2_with (first | (go_at_call 83; refine (letter_any _ _).mono ?_; rintro e w' ⟨rfl, rfl⟩; rw [gk.out, HL.out]) | (go_at_call 84; refine (digit_any _ _).mono ?_; rintro e w' ⟨rfl, rfl⟩; rw [gk.out, HD.out]))
                go_round
                case rel => exact ⟨k + 1, by omega, by go_num, F⟩
                case measure => simp [intOf]; omega
              | false =>
                by_cases h45 : (byteAt s k).toNat = 45
                · have F : Hid (∀ j, j < k + 1 → nameByte (byteAt s j) = true) := fun j hj => by
                    by_cases e : j = k
                    · subst e; simp [nameByte, h45]
                    · exact Hn.out j (by omega)
                  have HL := Lib.hid hl
                  have HD := Lib.hid hd
                  have h45' : ((s[k].toNat : Int) != 45) = false := by rw [gk.out, h45]; rfl
                  clear hl hd h45
                  go_wp2_with (first | (go_at_call 83; refine (letter_any _ _).mono ?_; rintro e w' ⟨rfl, rfl⟩; rw [gk.out, HL.out]) | (go_at_call 84; refine (digit_any _ _).mono ?_; rintro e w' ⟨rfl, rfl⟩; rw [gk.out, HD.out]))
                  go_round
                  case rel => exact ⟨k + 1, by omega, by go_num, F⟩
                  case measure => simp [intOf]; omega
                · have F := Lib.hid (isName_no4 hlt (show nameByte (byteAt s k) = false by simp [nameByte, hl, hd, h45]))
                  have HL := Lib.hid hl
                  have HD := Lib.hid hd
                  have h45' : ((s[k].toNat : Int) != 45) = true := by rw [gk.out]; simp; omega
                  clear hl hd h45
                  go_wp2_with (first | (go_at_call 83; refine (letter_any _ _).mono ?_; rintro e w' ⟨rfl, rfl⟩; rw [gk.out, HL.out]) | (go_at_call 84; refine (digit_any _ _).mono ?_; rintro e w' ⟨rfl, rfl⟩; rw [gk.out, HD.out]))
                  go_ret
                  exact ⟨ret_bool F.out.symm, rfl⟩
          · have F := Lib.hid (isName_yes h1 h2 H3.out fun j hj => Hn.out j (by omega))
            go_wp2
            go_ret
            exact ⟨ret_bool F.out.symm, rfl⟩
    · have F := Lib.hid (isName_no2 (s := s) (by omega))
      go_enter Try.func64, Try.ntmps64
      go_wp2
      go_ret
      exact ⟨ret_bool F.out.symm, rfl⟩
  · have F := Lib.hid (isName_no1 (s := s) (by omega))
    go_enter Try.func64, Try.ntmps64
    go_wp2
    go_ret
    exact ⟨ret_bool F.out.symm, rfl⟩

set_option maxHeartbeats 400000 in
theorem zoneName_any (l : List ByteArray) (A : Option Addr) (c g j : Nat) (w : World) (h : ArrS w A l c) (hg : w.cell? ⟨g, 3, none⟩ = some (.slice A l.length c)) (hj : j < l.length) :
    Calls Try.prog 66 #[.int .i64 j, .pointer (some ⟨g, 0, none⟩)] w fun e w' => e = .returned (.string (listS l j)) ∧ w = w' := by
  have b1 := h.le.1
  have b2 := h.le.2
  obtain ⟨b, o, rfl, hc⟩ := h.at_ hj
  go_enter Try.func66, Try.ntmps66
  go_wp2
  go_ret
  exact ⟨rfl, rfl⟩
set_option maxHeartbeats 400000 in
theorem ruleName_any (l : List Rule) (A : Option Addr) (c g j : Nat) (a : RA) (w : World) (h : ArrR w A l c a) (hg : w.cell? ⟨g, 5, none⟩ = some (.slice A l.length c)) (hj : j < l.length) :
    Calls Try.prog 68 #[.int .i64 j, .pointer (some ⟨g, 0, none⟩)] w fun e w' => e = .returned (.string (listR l j).name) ∧ w = w' := by
  have b1 := h.le.1
  have b2 := h.le.2
  obtain ⟨b, o, rfl, hc⟩ := h.at_ hj
  have hc := hc.c0
  go_enter Try.func68, Try.ntmps68
  go_wp2
  go_ret
  exact ⟨rfl, rfl⟩
set_option maxHeartbeats 400000 in
theorem extraName_any (l : List Extra) (A : Option Addr) (c g j : Nat) (w : World) (h : ArrE w A l c) (hg : w.cell? ⟨g, 6, none⟩ = some (.slice A l.length c)) (hj : j < l.length) :
    Calls Try.prog 71 #[.int .i64 j, .pointer (some ⟨g, 0, none⟩)] w fun e w' => e = .returned (.string (listE l j).name) ∧ w = w' := by
  have b1 := h.le.1
  have b2 := h.le.2
  obtain ⟨b, o, rfl, hc, _⟩ := h.at_ hj
  go_enter Try.func71, Try.ntmps71
  go_wp2
  go_ret
  exact ⟨rfl, rfl⟩
end Go.Proofs.Ytbehabaoeicgeaa

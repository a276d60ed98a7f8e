/- The small functions of streets return what the plain functions of the same name say. Conditions: the numbers that are subtracted are small. -/
import Derived.WalkKit
import Derived.WalkSpells
import Derived.WalkLawsBesides
import Derived.Deep.QuietTactic
import Derived.BigQuiet
import Derived.Lib.Hide
import Derived.Test.YtndhpdjcpagghaaGreatDoorProg
import Derived.Test.YtndhpdjcpagghaaGreatDoorNM
namespace Go.Proofs.YtndhpdjcpagghaaGreatDoor
open Go.RowKit Fs

theorem ret_bool {a b : Bool} (h : a = b) : Ending.returned (.bool a) = .returned (.bool b) := by rw [h]
theorem ret_int {a b : Int} (h : a = b) : Ending.returned (.int .i64 a) = .returned (.int .i64 b) := by rw [h]

set_option maxHeartbeats 400000 in
theorem within_any (n a b : Int) (w : World) : Calls Tryz.prog 85 #[.int .i64 n, .int .i64 a, .int .i64 b] w fun e w' => e = .returned (.bool (within n a b)) ∧ w = w' := by
  go_enter Tryz.func85, Tryz.ntmps85
  go_wp2
  all_goals (go_ret; exact ⟨ret_bool (by first | (simp [within, *]; done) | (simp [within]; omega)), rfl⟩)
set_option maxHeartbeats 400000 in
theorem bwithin_any (n a b : Int) (w : World) : Calls Tryz.prog 73 #[.int .i64 n, .int .i64 a, .int .i64 b] w fun e w' => e = .returned (.bool (within n a b)) ∧ w = w' := by
  go_enter Tryz.func73, Tryz.ntmps73
  go_wp2
  all_goals (go_ret; exact ⟨ret_bool (by first | (simp [within, *]; done) | (simp [within]; omega)), rfl⟩)
set_option maxHeartbeats 400000 in
theorem isTaken_any (n : Int) (w : World) : Calls Tryz.prog 132 #[.int .i64 n] w fun e w' => e = .returned (.bool (within n 0 7200)) ∧ w = w' := by
  go_enter Tryz.func132, Tryz.ntmps132
  go_wp2_with (go_at_call 85; refine (within_any _ _ _ _).mono ?_; rintro e w' ⟨rfl, rfl⟩)
  go_ret
  exact ⟨rfl, rfl⟩
set_option maxHeartbeats 400000 in
theorem letter_any (c : UInt8) (w : World) : Calls Tryz.prog 130 #[.int .u8 c.toNat] w fun e w' => e = .returned (.bool (letter c)) ∧ w = w' := by
  go_enter Tryz.func130, Tryz.ntmps130
  go_wp2
  all_goals (go_ret; refine ⟨ret_bool ?_, rfl⟩)
  all_goals (unfold letter; rw [Bool.eq_iff_iff]; simp; omega)
set_option maxHeartbeats 400000 in
theorem digit_any (c : UInt8) (w : World) : Calls Tryz.prog 131 #[.int .u8 c.toNat] w fun e w' => e = .returned (.bool (digit c)) ∧ w = w' := by
  go_enter Tryz.func131, Tryz.ntmps131
  go_wp2
  all_goals (go_ret; refine ⟨ret_bool ?_, rfl⟩)
  all_goals (unfold digit; rw [Bool.eq_iff_iff]; simp; omega)
/-- A day's seconds, as operands. -/
theorem day_bounds {a b : Int} (ha : 0 ≤ a ∧ a ≤ 86399) (hb : 0 ≤ b ∧ b ≤ 86399) : 0 ≤ b - a + 86400 - 1 ∧ (b - a + 86400 - 1) = b - a + 86399 := by omega
set_option maxHeartbeats 400000 in
theorem secondsTo_any (a b : Int) (w : World) (ha : 0 ≤ a ∧ a ≤ 86399) (hb : 0 ≤ b ∧ b ≤ 86399) : Calls Tryz.prog 86 #[.int .i64 a, .int .i64 b] w fun e w' => e = .returned (.int .i64 (secondsTo a b)) ∧ w = w' := by
  obtain ⟨a0, a1⟩ := ha
  obtain ⟨b0, b1⟩ := hb
  have h0 : 0 ≤ b - a + 86400 - 1 := by omega
  go_enter Tryz.func86, Tryz.ntmps86
  go_wp2
  go_ret
  exact ⟨ret_int (by unfold secondsTo; congr 2; omega), rfl⟩
theorem secondsTo_is (a b : Int) : 1 ≤ secondsTo a b ∧ secondsTo a b ≤ 86400 := by
  unfold secondsTo
  have h1 := Int.emod_nonneg (b - a + 86399) (show (86400 : Int) ≠ 0 by decide)
  have h2 := Int.emod_lt_of_pos (b - a + 86399) (show (0 : Int) < 86400 by decide)
  omega
theorem ptRight_is {p : Pt} (h : ptRight p = true) : (0 ≤ p.hour ∧ p.hour ≤ 86399) ∧ (0 ≤ p.lo ∧ p.lo ≤ 7200) ∧ 0 ≤ p.hi ∧ p.hi ≤ 7200 := by
  unfold ptRight at h
  rw [Bool.and_eq_true, Bool.and_eq_true] at h
  exact ⟨Fs.within_iff.1 h.1.1, Fs.within_iff.1 h.1.2, Fs.within_iff.1 h.2⟩
set_option maxHeartbeats 400000 in
theorem inOrder_any (p q : Pt) (w : World) (hp : ptRight p = true) (hq : ptRight q = true) : Calls Tryz.prog 133 #[ptV p, ptV q] w fun e w' => e = .returned (.bool (inOrder p q)) ∧ Below w.heap.size w w' := by
  obtain ⟨ph, ⟨p0, p1⟩, p2, p3⟩ := ptRight_is hp
  obtain ⟨qh, ⟨q0, q1⟩, q2, q3⟩ := ptRight_is hq
  obtain ⟨s0, s1⟩ := secondsTo_is p.hour q.hour
  clear hp hq
  go_enter Tryz.func133, Tryz.ntmps133
  go_wp2_with (go_at_call 86; refine (secondsTo_any _ _ _ ph qh).mono ?_; rintro e w' ⟨rfl, rfl⟩)
  all_goals (go_ret; exact ⟨ret_bool (by first | (simp [inOrder, *]; done) | (simp [inOrder]; omega)), ((Below.refl _ _).alloc (Nat.le_refl _) _).alloc (by simp) _⟩)
set_option maxHeartbeats 400000 in
theorem roundedUp_any (a b : Int) (w : World) (h0 : 0 ≤ a) (h1 : a ≤ 1000000000000000000) (h2 : 1 ≤ b) (h3 : b ≤ 1000000000) : Calls Tryz.prog 88 #[.int .i64 a, .int .i64 b] w fun e w' => e = .returned (.int .i64 ((a + b - 1) / b)) ∧ w = w' := by
  have h4 : 0 ≤ a + b - 1 := by omega
  have h5 : (b == 0) = false := by simpa using (show b ≠ 0 by omega)
  have h6 : (a + b - 1) / b ≤ 1000000000000000000 + 1000000000 := Int.le_trans (Int.ediv_le_self b h4) (by omega)
  have h7 : 0 ≤ (a + b - 1) / b := Int.ediv_nonneg h4 (by omega)
  go_enter Tryz.func88, Tryz.ntmps88
  go_wp2
  go_ret
  exact ⟨rfl, rfl⟩
set_option maxHeartbeats 400000 in
theorem isPlace_any (N : Net) (v : Value) (z : Int) (w : World) (hN : RdNet w v N) : Calls Tryz.prog 90 #[v, .int .i64 z] w fun e w' => e = .returned (.bool (isPlace N z)) ∧ Below w.heap.size w w' := by
  obtain ⟨P, R, pc, rc, a, rfl, m⟩ := hN
  have b1 := m.places.le.1
  have b2 := m.places.le.2
  clear m
  go_enter Tryz.func90, Tryz.ntmps90
  go_wp2_with (go_at_call 85; refine (within_any _ _ _ _).mono ?_; rintro e w' ⟨rfl, rfl⟩)
  go_ret
  exact ⟨rfl, (Below.refl _ _).alloc (Nat.le_refl _) _⟩
set_option maxHeartbeats 400000 in
theorem rIsPlace_any (N : Net) (v : Value) (z : Int) (w : World) (hN : RdNet w v N) : Calls Tryz.prog 103 #[v, .int .i64 z] w fun e w' => e = .returned (.bool (isPlace N z)) ∧ Below w.heap.size w w' := by
  obtain ⟨P, R, pc, rc, a, rfl, m⟩ := hN
  have b1 := m.places.le.1
  have b2 := m.places.le.2
  clear m
  go_enter Tryz.func103, Tryz.ntmps103
  go_wp2_with (go_at_call 73; refine (bwithin_any _ _ _ _).mono ?_; rintro e w' ⟨rfl, rfl⟩)
  go_ret
  exact ⟨rfl, (Below.refl _ _).alloc (Nat.le_refl _) _⟩
set_option maxHeartbeats 400000 in
theorem isRoad_any (N : Net) (v : Value) (z : Int) (w : World) (hN : RdNet w v N) : Calls Tryz.prog 84 #[v, .int .i64 z] w fun e w' => e = .returned (.bool (isRoad N z)) ∧ Below w.heap.size w w' := by
  obtain ⟨P, R, pc, rc, a, rfl, m⟩ := hN
  have b1 := m.roads.le.1
  have b2 := m.roads.le.2
  clear m
  go_enter Tryz.func84, Tryz.ntmps84
  go_wp2_with (go_at_call 85; refine (within_any _ _ _ _).mono ?_; rintro e w' ⟨rfl, rfl⟩)
  go_ret
  exact ⟨rfl, (Below.refl _ _).alloc (Nat.le_refl _) _⟩
set_option maxHeartbeats 400000 in
theorem rIsRoad_any (N : Net) (v : Value) (z : Int) (w : World) (hN : RdNet w v N) : Calls Tryz.prog 39 #[v, .int .i64 z] w fun e w' => e = .returned (.bool (isRoad N z)) ∧ Below w.heap.size w w' := by
  obtain ⟨P, R, pc, rc, a, rfl, m⟩ := hN
  have b1 := m.roads.le.1
  have b2 := m.roads.le.2
  clear m
  go_enter Tryz.func39, Tryz.ntmps39
  go_wp2_with (go_at_call 73; refine (bwithin_any _ _ _ _).mono ?_; rintro e w' ⟨rfl, rfl⟩)
  go_ret
  exact ⟨rfl, (Below.refl _ _).alloc (Nat.le_refl _) _⟩
def Fs.timeErr (a : Int) : Int := if within a 0 604800 then 0 else 2
set_option maxHeartbeats 400000 in
theorem timeErr_any (a : Int) (w : World) : Calls Tryz.prog 53 #[.int .i64 a] w fun e w' => e = .returned (.int .i64 (timeErr a)) ∧ w = w' := by
  go_enter Tryz.func53, Tryz.ntmps53
  go_wp2_with (go_at_call 85; refine (within_any _ _ _ _).mono ?_; rintro e w' ⟨rfl, rfl⟩)
  all_goals (go_ret; exact ⟨ret_int (by unfold timeErr; simp_all), rfl⟩)
end Go.Proofs.YtndhpdjcpagghaaGreatDoor
/- Names, and the errors of the names in the two lists of a net that have names. Condition: there are fewer than 2^63 of them. -/
namespace Go.Proofs.YtndhpdjcpagghaaGreatDoor
open Go.RowKit Fs

theorem byteAt_eq (s : ByteArray) (k : Nat) (h : k < s.size) : s[k] = byteAt s k := by
  unfold byteAt
  rw [List.getD_eq_getElem?_getD, List.getElem?_eq_getElem (by simpa using h)]
  rfl
theorem isName_no1 {s : ByteArray} (h : s.size < 1) : isName s = false := by
  unfold isName
  have : decide (1 ≤ s.size) = false := decide_eq_false (by omega)
  rw [this]; rfl
theorem isName_no2 {s : ByteArray} (h : 12 < s.size) : isName s = false := by
  unfold isName
  have : decide (s.size ≤ 12) = false := decide_eq_false (by omega)
  rw [this, Bool.and_false]; rfl
theorem isName_no3 {s : ByteArray} (h : letter (byteAt s 0) = false) : isName s = false := by
  unfold isName
  rw [h, Bool.and_false]; rfl
theorem isName_no4 {s : ByteArray} {k : Nat} (hk : k < s.size) (h : nameByte (byteAt s k) = false) : isName s = false := by
  unfold isName
  have : decide (∀ j, j < s.size → nameByte (byteAt s j) = true) = false := by
    simp only [decide_eq_false_iff_not]
    intro hh
    rw [hh k hk] at h
    cases h
  rw [this, Bool.and_false]
theorem isName_yes {s : ByteArray} (h1 : 1 ≤ s.size) (h2 : s.size ≤ 12) (h3 : letter (byteAt s 0) = true) (h4 : ∀ j, j < s.size → nameByte (byteAt s j) = true) : isName s = true := by
  unfold isName
  simp only [h1, h2, h3, decide_true, Bool.true_and]
  simpa using h4

set_option maxHeartbeats 400000 in
theorem isName_any (s : ByteArray) (w : World) : Calls Tryz.prog 113 #[.string s] w fun e w' => e = .returned (.bool (isName s)) ∧ w = w' := by
  by_cases h1 : 1 ≤ s.size
  · by_cases h2 : s.size ≤ 12
    · have g0 := byteAt_eq s 0 (by omega)
      have G0 := Lib.hid g0
      clear g0
      cases h3 : letter (byteAt s 0) with
      | false =>
        have F := Lib.hid (isName_no3 h3)
        have H3 := Lib.hid h3
        clear h3
        go_enter Tryz.func113, Tryz.ntmps113
        go_wp2_with (go_at_call 130; refine (letter_any _ _).mono ?_; rintro e w' ⟨rfl, rfl⟩; rw [G0.out, H3.out])
        go_ret
        exact ⟨ret_bool F.out.symm, rfl⟩
      | true =>
        have H3 := Lib.hid h3
        clear h3
        go_enter Tryz.func113, Tryz.ntmps113
        go_wp2_with (go_at_call 130; refine (letter_any _ _).mono ?_; rintro e w' ⟨rfl, rfl⟩; rw [G0.out, H3.out])
        go_loop [20] (fun i => ∃ k : Nat, k ≤ s.size ∧ i = .int .i64 k ∧ Hid (∀ j, j < k → nameByte (byteAt s j) = true)) (fun i => s.size - (intOf i).toNat)
        case atStart => exact ⟨0, Nat.zero_le _, rfl, fun j hj => absurd hj (Nat.not_lt_zero _)⟩
        case round =>
          obtain ⟨k, hk, rfl, Hn⟩ := hrel
          by_cases hlt : k < s.size
          · have gk := Lib.hid (byteAt_eq s k hlt)
            cases hl : letter (byteAt s k) with
            | true =>
              have F : Hid (∀ j, j < k + 1 → nameByte (byteAt s j) = true) := fun j hj => by
                by_cases e : j = k
                · subst e; simp [nameByte, hl]
                · exact Hn.out j (by omega)
              have HL := Lib.hid hl
              clear hl
              go_wp2_with (go_at_call 130; refine (letter_any _ _).mono ?_; rintro e w' ⟨rfl, rfl⟩; rw [gk.out, HL.out])
              go_round
              case rel => exact ⟨k + 1, by omega, by go_num, F⟩
              case measure => simp [intOf]; omega
            | false =>
              cases hd : digit (byteAt s k) with
              | true =>
                have F : Hid (∀ j, j < k + 1 → nameByte (byteAt s j) = true) := fun j hj => by
                  by_cases e : j = k
                  · subst e; simp [nameByte, hd]
                  · exact Hn.out j (by omega)
                have HL := Lib.hid hl
                have HD := Lib.hid hd
                clear hl hd
                go_wp2_with (first | (go_at_call 130; refine (letter_any _ _).mono ?_; rintro e w' ⟨rfl, rfl⟩; rw [gk.out, HL.out]) | (go_at_call 131; refine (digit_any _ _).mono ?_; rintro e w' ⟨rfl, rfl⟩; rw [gk.out, HD.out]))
                go_round
                case rel => exact ⟨k + 1, by omega, by go_num, F⟩
                case measure => simp [intOf]; omega
              | false =>
                by_cases h45 : (byteAt s k).toNat = 45
                · have F : Hid (∀ j, j < k + 1 → nameByte (byteAt s j) = true) := fun j hj => by
                    by_cases e : j = k
                    · subst e; simp [nameByte, h45]
                    · exact Hn.out j (by omega)
                  have HL := Lib.hid hl
                  have HD := Lib.hid hd
                  have h45' : ((s[k].toNat : Int) != 45) = false := by rw [gk.out, h45]; rfl
                  clear hl hd h45
                  go_wp2_with (first | (go_at_call 130; refine (letter_any _ _).mono ?_; rintro e w' ⟨rfl, rfl⟩; rw [gk.out, HL.out]) | (go_at_call 131; refine (digit_any _ _).mono ?_; rintro e w' ⟨rfl, rfl⟩; rw [gk.out, HD.out]))
                  go_round
                  case rel => exact ⟨k + 1, by omega, by go_num, F⟩
                  case measure => simp [intOf]; omega
                · have F := Lib.hid (isName_no4 hlt (show nameByte (byteAt s k) = false by simp [nameByte, hl, hd, h45]))
                  have HL := Lib.hid hl
                  have HD := Lib.hid hd
                  have h45' : ((s[k].toNat : Int) != 45) = true := by rw [gk.out]; simp; omega
                  clear hl hd h45
                  go_wp2_with (first | (go_at_call 130; refine (letter_any _ _).mono ?_; rintro e w' ⟨rfl, rfl⟩; rw [gk.out, HL.out]) | (go_at_call 131; refine (digit_any _ _).mono ?_; rintro e w' ⟨rfl, rfl⟩; rw [gk.out, HD.out]))
                  go_ret
                  exact ⟨ret_bool F.out.symm, rfl⟩
          · have F := Lib.hid (isName_yes h1 h2 H3.out fun j hj => Hn.out j (by omega))
            go_wp2
            go_ret
            exact ⟨ret_bool F.out.symm, rfl⟩
    · have F := Lib.hid (isName_no2 (s := s) (by omega))
      go_enter Tryz.func113, Tryz.ntmps113
      go_wp2
      go_ret
      exact ⟨ret_bool F.out.symm, rfl⟩
  · have F := Lib.hid (isName_no1 (s := s) (by omega))
    go_enter Tryz.func113, Tryz.ntmps113
    go_wp2
    go_ret
    exact ⟨ret_bool F.out.symm, rfl⟩

set_option maxHeartbeats 400000 in
theorem placeName_any (l : List ByteArray) (A : Option Addr) (c g j : Nat) (w : World) (h : ArrS w A l c) (hg : w.cell? ⟨g, 0, none⟩ = some (.slice A l.length c)) (hj : j < l.length) :
    Calls Tryz.prog 98 #[.int .i64 j, .pointer (some ⟨g, 0, none⟩)] w fun e w' => e = .returned (.string (listS l j)) ∧ w = w' := by
  have b1 := h.le.1
  have b2 := h.le.2
  obtain ⟨b, o, rfl, hc⟩ := h.at_ hj
  go_enter Tryz.func98, Tryz.ntmps98
  go_wp2
  go_ret
  exact ⟨rfl, rfl⟩
set_option maxHeartbeats 400000 in
theorem roadName_any (l : List Rd) (A : Option Addr) (c g j : Nat) (a : DA) (w : World) (h : ArrD w A l c a) (hg : w.cell? ⟨g, 1, none⟩ = some (.slice A l.length c)) (hj : j < l.length) :
    Calls Tryz.prog 114 #[.int .i64 j, .pointer (some ⟨g, 0, none⟩)] w fun e w' => e = .returned (.string (listD l j).name) ∧ w = w' := by
  have b1 := h.le.1
  have b2 := h.le.2
  obtain ⟨b, o, rfl, hc⟩ := h.at_ hj
  have hc := hc.c0
  go_enter Tryz.func114, Tryz.ntmps114
  go_wp2
  go_ret
  exact ⟨rfl, rfl⟩

theorem str_eq {a b : ByteArray} (h : a = b) : (a.toList == b.toList) = true := by rw [h]; simp
theorem str_ne {a b : ByteArray} (h : a ≠ b) : (a.toList == b.toList) = false := by
  rw [beq_eq_false_iff_ne, ByteArray.toList_eq, ByteArray.toList_eq]
  intro e
  apply h
  cases a; cases b
  simp only at e
  rw [Array.toList_inj.1 e]

set_option maxHeartbeats 400000 in
theorem errName_any (K : Nat) (hK : Hid (∀ (args : Array Value) (w : World), (callFunc K args).run Tryz.prog w = .ok (.enter K args) w)) (name : Nat → ByteArray) (p : Addr) (i : Nat) (w : World) (hi : i ≤ 9223372036854775806) (HK : Hid (∀ j : Nat, j ≤ i → Calls Tryz.prog K #[.int .i64 j, .pointer (some p)] w fun e w' => e = .returned (.string (name j)) ∧ w = w')) :
    Calls Tryz.prog 97 #[.int .i64 i, .func (.func K) #[] #[.pointer (some p)]] w fun e w' => e = .returned (.int .i64 (errName name i)) ∧ w = w' := by
  have hcall := hK.out
  cases hnm : isName (name i) with
  | false =>
    have F := Lib.hid (show errName name i = 4 by unfold errName; rw [hnm]; rfl)
    have N := Lib.hid hnm
    clear hnm
    go_enter Tryz.func97, Tryz.ntmps97
    go_wp2_with fail
    refine (HK.out i (by omega)).mono ?_
    rintro e w' ⟨rfl, rfl⟩
    go_wp2_with (go_at_call 113; refine (isName_any _ _).mono ?_; rintro e w' ⟨rfl, rfl⟩; rw [N.out])
    go_ret
    exact ⟨ret_int F.out.symm, rfl⟩
  | true =>
    have F0 := Lib.hid (show errName name i = fst (fun j => if name j = name i then 5 else 0) i by unfold errName; rw [hnm]; rfl)
    have N := Lib.hid hnm
    clear hnm
    go_enter Tryz.func97, Tryz.ntmps97
    go_wp2_with fail
    refine (HK.out i (by omega)).mono ?_
    rintro e w' ⟨rfl, rfl⟩
    go_wp2_with (go_at_call 113; refine (isName_any _ _).mono ?_; rintro e w' ⟨rfl, rfl⟩; rw [N.out])
    go_loop [12] (fun u => ∃ k : Nat, k ≤ i ∧ u = .int .i64 k ∧ Hid (∀ j, j < k → name j ≠ name i)) (fun u => i - (intOf u).toNat)
    case atStart => exact ⟨0, Nat.zero_le _, rfl, fun j hj => absurd hj (Nat.not_lt_zero _)⟩
    case round =>
      obtain ⟨k, hk, rfl, Hn⟩ := hrel
      by_cases hlt : k < i
      · by_cases hq : name k = name i
        · have F := Lib.hid (F0.out.trans ((fst_hit (f := fun j => if name j = name i then 5 else 0) hlt (fun j hj => if_neg (Hn.out j hj)) (by rw [if_pos hq]; decide)).1.trans (if_pos hq)))
          have q := str_eq hq
          clear hq
          go_wp2_with fail
          refine (HK.out k (by omega)).mono ?_
          rintro e w' ⟨rfl, rfl⟩
          go_wp2_with fail
          refine (HK.out i (by omega)).mono ?_
          rintro e w' ⟨rfl, rfl⟩
          go_wp2_with fail
          go_ret
          exact ⟨ret_int F.out.symm, rfl⟩
        · have F : Hid (∀ j, j < k + 1 → name j ≠ name i) := fun j hj => by
            by_cases e : j = k
            · subst e; exact hq
            · exact Hn.out j (by omega)
          have q := str_ne hq
          clear hq
          go_wp2_with fail
          refine (HK.out k (by omega)).mono ?_
          rintro e w' ⟨rfl, rfl⟩
          go_wp2_with fail
          refine (HK.out i (by omega)).mono ?_
          rintro e w' ⟨rfl, rfl⟩
          go_wp2_with fail
          go_round
          case rel => exact ⟨k + 1, by omega, by go_num, F⟩
          case measure => simp [intOf]; omega
      · have F := Lib.hid (F0.out.trans (fst_none (f := fun j => if name j = name i then 5 else 0) fun j hj => if_neg (Hn.out j (by omega))))
        go_wp2
        go_ret
        exact ⟨ret_int F.out.symm, rfl⟩
theorem callPlaceName (args : Array Value) (w : World) : (callFunc 98 args).run Tryz.prog w = .ok (.enter 98 args) w := by kernel_rfl
theorem callRoadName (args : Array Value) (w : World) : (callFunc 114 args).run Tryz.prog w = .ok (.enter 114 args) w := by kernel_rfl
end Go.Proofs.YtndhpdjcpagghaaGreatDoor

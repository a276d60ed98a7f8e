/- Names, and the errors of the names in the two lists of a net that have names. Condition: there are fewer than 2^63 of them. -/
import Derived.Test.YtfjdnbnalihjiaaGreatDoorN0
import Derived.Test.YtfjdnbnalihjiaaGreatDoorFs
import Derived.Deep.QuietTactic
import Derived.BigQuiet
import Derived.Deep.Cut
namespace Go.Proofs.YtfjdnbnalihjiaaGreatDoor
open Go.RowKit Fs

theorem byteAt_eq (s : ByteArray) (k : Nat) (h : k < s.size) : s[k] = byteAt s k := by
  unfold byteAt
  rw [List.getD_eq_getElem?_getD, List.getElem?_eq_getElem (by simpa using h)]
  rfl
theorem isName_no1 {s : ByteArray} (h : s.size < 1) : isName s = false := by
  unfold isName
  have : decide (1 ≤ s.size) = false := decide_eq_false (by omega)
  rw [this]; rfl
theorem isName_no2 {s : ByteArray} (h : 12 < s.size) : isName s = false := by
  unfold isName
  have : decide (s.size ≤ 12) = false := decide_eq_false (by omega)
  rw [this, Bool.and_false]; rfl
theorem isName_no3 {s : ByteArray} (h : letter (byteAt s 0) = false) : isName s = false := by
  unfold isName
  rw [h, Bool.and_false]; rfl
theorem isName_no4 {s : ByteArray} {k : Nat} (hk : k < s.size) (h : nameByte (byteAt s k) = false) : isName s = false := by
  unfold isName
  have : decide (∀ j, j < s.size → nameByte (byteAt s j) = true) = false := by
    simp only [decide_eq_false_iff_not]
    intro hh
    rw [hh k hk] at h
    cases h
  rw [this, Bool.and_false]
theorem isName_yes {s : ByteArray} (h1 : 1 ≤ s.size) (h2 : s.size ≤ 12) (h3 : letter (byteAt s 0) = true) (h4 : ∀ j, j < s.size → nameByte (byteAt s j) = true) : isName s = true := by
  unfold isName
  simp only [h1, h2, h3, decide_true, Bool.true_and]
  simpa using h4

set_option maxHeartbeats 400000 in
theorem isName_any (s : ByteArray) (w : World) : Calls Tryz.prog 128 #[.string s] w fun e w' => e = .returned (.bool (isName s)) ∧ w = w' := by
  by_cases h1 : 1 ≤ s.size
  · by_cases h2 : s.size ≤ 12
    · have g0 := byteAt_eq s 0 (by omega)
      have G0 := Lib.hid g0
      clear g0
      cases h3 : letter (byteAt s 0) with
      | false =>
        have F := Lib.hid (isName_no3 h3)
        have H3 := Lib.hid h3
        clear h3
        go_enter Tryz.func128, Tryz.ntmps128
        go_wp2_with (go_at_call 153; refine (letter_any _ _).mono ?_; rintro e w' ⟨rfl, rfl⟩; rw [G0.out, H3.out])
        go_ret
        exact ⟨ret_bool F.out.symm, rfl⟩
      | true =>
        have H3 := Lib.hid h3
        clear h3
        go_enter Tryz.func128, Tryz.ntmps128
        go_wp2_with (go_at_call 153; refine (letter_any _ _).mono ?_; rintro e w' ⟨rfl, rfl⟩; rw [G0.out, H3.out])
        go_loop [20] (fun i => ∃ k : Nat, k ≤ s.size ∧ i = .int .i64 k ∧ Hid (∀ j, j < k → nameByte (byteAt s j) = true)) (fun i => s.size - (intOf i).toNat)
        case atStart => exact ⟨0, Nat.zero_le _, rfl, fun j hj => absurd hj (Nat.not_lt_zero _)⟩
        case round =>
          obtain ⟨k, hk, rfl, Hn⟩ := hrel
          by_cases hlt : k < s.size
          · have gk := Lib.hid (byteAt_eq s k hlt)
            cases hl : letter (byteAt s k) with
            | true =>
              have F : Hid (∀ j, j < k + 1 → nameByte (byteAt s j) = true) := fun j hj => by
                by_cases e : j = k
                · subst e; simp [nameByte, hl]
                · exact Hn.out j (by omega)
              have HL := Lib.hid hl
              clear hl
              go_wp2_with (go_at_call 153; refine (letter_any _ _).mono ?_; rintro e w' ⟨rfl, rfl⟩; rw [gk.out, HL.out])
              go_round
              case rel => exact ⟨k + 1, by omega, by go_num, F⟩
              case measure => simp [intOf]; omega
            | false =>
              cases hd : digit (byteAt s k) with
              | true =>
                have F : Hid (∀ j, j < k + 1 → nameByte (byteAt s j) = true) := fun j hj => by
                  by_cases e : j = k
                  · subst e; simp [nameByte, hd]
                  · exact Hn.out j (by omega)
                have HL := Lib.hid hl
                have HD := Lib.hid hd
                clear hl hd
                go_wp2_with (first | (go_at_call 153; refine (letter_any _ _).mono ?_; rintro e w' ⟨rfl, rfl⟩; rw [gk.out, HL.out]) | (go_at_call 154; refine (digit_any _ _).mono ?_; rintro e w' ⟨rfl, rfl⟩; rw [gk.out, HD.out]))
                go_round
                case rel => exact ⟨k + 1, by omega, by go_num, F⟩
                case measure => simp [intOf]; omega
              | false =>
                by_cases h45 : (byteAt s k).toNat = 45
                · have F : Hid (∀ j, j < k + 1 → nameByte (byteAt s j) = true) := fun j hj => by
                    by_cases e : j = k
                    · subst e; simp [nameByte, h45]
                    · exact Hn.out j (by omega)
                  have HL := Lib.hid hl
                  have HD := Lib.hid hd
                  have h45' : ((s[k].toNat : Int) != 45) = false := by rw [gk.out, h45]; rfl
                  clear hl hd h45
                  go_wp2_with (first | (go_at_call 153; refine (letter_any _ _).mono ?_; rintro e w' ⟨rfl, rfl⟩; rw [gk.out, HL.out]) | (go_at_call 154; refine (digit_any _ _).mono ?_; rintro e w' ⟨rfl, rfl⟩; rw [gk.out, HD.out]))
                  go_round
                  case rel => exact ⟨k + 1, by omega, by go_num, F⟩
                  case measure => simp [intOf]; omega
                · have F := Lib.hid (isName_no4 hlt (show nameByte (byteAt s k) = false by simp [nameByte, hl, hd, h45]))
                  have HL := Lib.hid hl
                  have HD := Lib.hid hd
                  have h45' : ((s[k].toNat : Int) != 45) = true := by rw [gk.out]; simp; omega
                  clear hl hd h45
                  go_wp2_with (first | (go_at_call 153; refine (letter_any _ _).mono ?_; rintro e w' ⟨rfl, rfl⟩; rw [gk.out, HL.out]) | (go_at_call 154; refine (digit_any _ _).mono ?_; rintro e w' ⟨rfl, rfl⟩; rw [gk.out, HD.out]))
                  go_ret
                  exact ⟨ret_bool F.out.symm, rfl⟩
          · have F := Lib.hid (isName_yes h1 h2 H3.out fun j hj => Hn.out j (by omega))
            go_wp2
            go_ret
            exact ⟨ret_bool F.out.symm, rfl⟩
    · have F := Lib.hid (isName_no2 (s := s) (by omega))
      go_enter Tryz.func128, Tryz.ntmps128
      go_wp2
      go_ret
      exact ⟨ret_bool F.out.symm, rfl⟩
  · have F := Lib.hid (isName_no1 (s := s) (by omega))
    go_enter Tryz.func128, Tryz.ntmps128
    go_wp2
    go_ret
    exact ⟨ret_bool F.out.symm, rfl⟩

theorem str_eq {a b : ByteArray} (h : a = b) : (a.toList == b.toList) = true := by rw [h]; simp
theorem str_ne {a b : ByteArray} (h : a ≠ b) : (a.toList == b.toList) = false := by
  rw [beq_eq_false_iff_ne, ByteArray.toList_eq, ByteArray.toList_eq]
  intro e
  apply h
  cases a; cases b
  simp only at e
  rw [Array.toList_inj.1 e]

end Go.Proofs.YtfjdnbnalihjiaaGreatDoor
/- A region that draws its order, walked once in a class of worlds. No condition. -/
namespace Go.Proofs.YtfjdnbnalihjiaaGreatDoor
open Go.RowKit Fs

section
variable {P : Program} {C : World → Prop}
theorem quietC {id : Nat} {Q : Exit → Act → World → Prop} {a : Act} {w : World} {l : List Oper} (hm : P.follows .mixedOrders = true) (hB : Region.lexB .any l.toArray = true) (hC : C w.drew)
    (h : wpQuiet P l.toArray C (fun a' => ∀ w', C w' → Q .normal a' w') l a) : (Code.region id l.toArray true).wp P Q a w :=
  wp_region_quiet (C := C) hm hB hC (by simpa using h)
theorem quiet_yes {ops : Array Oper} {o : Oper} {rest : List Oper} {Q : Act → Prop} {a : Act} (hw : Region.wanted o (yielded ops a.tmps) = true)
    (h : ∃ v, (∀ w, C w → Oper.quietUpon P C w v ((execOp a.eval o).run P w)) ∧ wpQuiet P ops C Q rest (a.put o.dst v)) : wpQuiet P ops C Q (o :: rest) a := by
  unfold wpQuiet
  rw [if_pos hw]
  exact h
end
end Go.Proofs.YtfjdnbnalihjiaaGreatDoor
/- The points of a road are looked at as the plain function says. No condition. -/
namespace Go.Proofs.YtfjdnbnalihjiaaGreatDoor
open Go.RowKit Fs

/-- The worlds in which what is below a world's end is as it was. -/
theorem classOf (w : World) : ∃ C : World → Prop, Hid (∀ w', C w' → Below w.heap.size w w') ∧ Hid (∀ w', Below w.heap.size w w' → C w') := ⟨_, Lib.hid (fun _ h => h), Lib.hid (fun _ h => h)⟩
theorem Fs.errPoint_no {l : List Pt} {i : Nat} (h : ptRight (listP l i) = false) : errPoint l i = 2 := by unfold errPoint; rw [h]; rfl
theorem Fs.errPoint_order {l : List Pt} {i : Nat} (h : ptRight (listP l i) = true) (h2 : (listP l i).hi < (listP l i).lo ∨ (0 < i ∧ (listP l i).hour ≤ (listP l (i - 1)).hour)) : errPoint l i = 9 := by
  unfold errPoint; rw [h]; exact if_pos h2
theorem Fs.errPoint_yes {l : List Pt} {i : Nat} (h : ptRight (listP l i) = true) (h2 : ¬ ((listP l i).hi < (listP l i).lo ∨ (0 < i ∧ (listP l i).hour ≤ (listP l (i - 1)).hour))) : errPoint l i = 0 := by
  unfold errPoint; rw [h]; exact if_neg h2
theorem Fs.errPoint_right {l : List Pt} {i : Nat} (h : errPoint l i = 0) : ptRight (listP l i) = true := by
  cases hp : ptRight (listP l i) with
  | true => rfl
  | false => rw [errPoint_no hp] at h; cases h
theorem Fs.errPoints_hit {l : List Pt} {k : Nat} (hk : k < l.length) (h : ∀ j, j < k → errPoint l j = 0) (h1 : errPoint l k ≠ 0) : errPoints l = (k, errPoint l k) := by
  obtain ⟨a, b⟩ := fst_hit hk h h1
  unfold errPoints
  rw [if_pos (by rw [a]; exact h1), a, b]
theorem Fs.errPoints_pair {l : List Pt} {k : Nat} (h0 : ∀ j, j < l.length → errPoint l j = 0) (hk : k < l.length) (h : ∀ j, j < k → errPair l j = 0) (h1 : errPair l k ≠ 0) : errPoints l = (k, errPair l k) := by
  obtain ⟨a, b⟩ := fst_hit hk h h1
  unfold errPoints
  rw [if_neg (fun hh => hh (fst_none h0)), a, b]
theorem Fs.errPoints_none {l : List Pt} (h0 : ∀ j, j < l.length → errPoint l j = 0) (h : ∀ j, j < l.length → errPair l j = 0) : errPoints l = (0, 0) := by
  unfold errPoints
  rw [if_neg (fun hh => hh (fst_none h0)), fst_none h, idx_none h]
theorem Fs.next_is {n k : Nat} (hk : k < n) : ∃ j, j = (k + 1) % n ∧ j < n ∧ ((k : Int) + 1) % (n : Int) = (j : Int) :=
  ⟨_, rfl, Nat.mod_lt _ (by omega), by rw [Int.natCast_emod]; rfl⟩

/-- A point's cells in the block g. -/
structure PtAt (w : World) (g : Nat) (p : Pt) : Prop where
  c0 : w.cell? ⟨g, 0, none⟩ = some (.int .i64 p.hour)
  c1 : w.cell? ⟨g, 1, none⟩ = some (.int .i64 p.lo)
  c2 : w.cell? ⟨g, 2, none⟩ = some (.int .i64 p.hi)
theorem PtAt.keep {w w' : World} (k : Keep w w') {g : Nat} {p : Pt} (m : PtAt w g p) : PtAt w' g p := ⟨k _ _ m.c0, k _ _ m.c1, k _ _ m.c2⟩
theorem PtAt.new (w : World) (p : Pt) (t : TypeId) : PtAt (w.alloc (.cells #[.int .i64 p.hour, .int .i64 p.lo, .int .i64 p.hi] t)) w.heap.size p := ⟨cellNew _ _ _ 0, cellNew _ _ _ 1, cellNew _ _ _ 2⟩

end Go.Proofs.YtfjdnbnalihjiaaGreatDoor

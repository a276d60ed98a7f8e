/- Names, and the errors of the names in the two lists of a net that have names. Condition: there are fewer than 2^63 of them. -/
import Derived.Test.YtjmaankkbdpikaaMem
import Derived.Deep.QuietTactic
import Derived.BigQuiet
import Derived.Deep.Cut
namespace Go.Proofs.Ytjmaankkbdpikaa
open Go.RowKit Fs

theorem byteAt_eq (s : ByteArray) (k : Nat) (h : k < s.size) : s[k] = byteAt s k := by
  unfold byteAt
  rw [List.getD_eq_getElem?_getD, List.getElem?_eq_getElem (by simpa using h)]
  rfl
theorem isName_no1 {s : ByteArray} (h : s.size < 1) : isName s = false := by
  unfold isName
  have : decide (1 ≤ s.size) = false := decide_eq_false (by omega)
  rw [this]; rfl
theorem isName_no2 {s : ByteArray} (h : 12 < s.size) : isName s = false := by
  unfold isName
  have : decide (s.size ≤ 12) = false := decide_eq_false (by omega)
  rw [this, Bool.and_false]; rfl
theorem isName_no3 {s : ByteArray} (h : letter (byteAt s 0) = false) : isName s = false := by
  unfold isName
  rw [h, Bool.and_false]; rfl
theorem isName_no4 {s : ByteArray} {k : Nat} (hk : k < s.size) (h : nameByte (byteAt s k) = false) : isName s = false := by
  unfold isName
  have : decide (∀ j, j < s.size → nameByte (byteAt s j) = true) = false := by
    simp only [decide_eq_false_iff_not]
    intro hh
    rw [hh k hk] at h
    cases h
  rw [this, Bool.and_false]
theorem isName_yes {s : ByteArray} (h1 : 1 ≤ s.size) (h2 : s.size ≤ 12) (h3 : letter (byteAt s 0) = true) (h4 : ∀ j, j < s.size → nameByte (byteAt s j) = true) : isName s = true := by
  unfold isName
  simp only [h1, h2, h3, decide_true, Bool.true_and]
  simpa using h4

set_option maxHeartbeats 400000 in
theorem isName_any (s : ByteArray) (w : World) : Calls Try.prog 77 #[.string s] w fun e w' => e = .returned (.bool (isName s)) ∧ w = w' := by
  by_cases h1 : 1 ≤ s.size
  · by_cases h2 : s.size ≤ 12
    · have g0 := byteAt_eq s 0 (by omega)
      have G0 := Lib.hid g0
      clear g0
      cases h3 : letter (byteAt s 0) with
      | false =>
        have F := Lib.hid (isName_no3 h3)
        have H3 := Lib.hid h3
        clear h3
        go_enter Try.func77, Try.ntmps77
        go_wp2_with (go_at_call 85; refine (letter_any _ _).mono ?_; rintro e w' ⟨rfl, rfl⟩; rw [G0.out, H3.out])
        go_ret
        exact ⟨ret_bool F.out.symm, rfl⟩
      | true =>
        have H3 := Lib.hid h3
        clear h3
        go_enter Try.func77, Try.ntmps77
        go_wp2_with (go_at_call 85; refine (letter_any _ _).mono ?_; rintro e w' ⟨rfl, rfl⟩; rw [G0.out, H3.out])
        go_loop [20] (fun i => ∃ k : Nat, k ≤ s.size ∧ i = .int .i64 k ∧ Hid (∀ j, j < k → nameByte (byteAt s j) = true)) (fun i => s.size - (intOf i).toNat)
        case atStart => exact ⟨0, Nat.zero_le _, rfl, fun j hj => absurd hj (Nat.not_lt_zero _)⟩
        case round =>
          obtain ⟨k, hk, rfl, Hn⟩ := hrel
          by_cases hlt : k < s.size
          · have gk := Lib.hid (byteAt_eq s k hlt)
            cases hl : letter (byteAt s k) with
            | true =>
              have F : Hid (∀ j, j < k + 1 → nameByte (byteAt s j) = true) := fun j hj => by
                by_cases e : j = k
                · subst e; simp [nameByte, hl]
                · exact Hn.out j (by omega)
              have HL := Lib.hid hl
              clear hl
              go_wp2_with (go_at_call 85; refine (letter_any _ _).mono ?_; rintro e w' ⟨rfl, rfl⟩; rw [gk.out, HL.out])
              go_round
              case rel => exact ⟨k + 1, by omega, by go_num, F⟩
              case measure => simp [intOf]; omega
            | false =>
              cases hd : digit (byteAt s k) with
              | true =>
                have F : Hid (∀ j, j < k + 1 → nameByte (byteAt s j) = true) := fun j hj => by
                  by_cases e : j = k
                  · subst e; simp [nameByte, hd]
                  · exact Hn.out j (by omega)
                have HL := Lib.hid hl
                have HD := Lib.hid hd
                clear hl hd
                go_wp2_with (first | (go_at_call 85; refine (letter_any _ _).mono ?_; rintro e w' ⟨rfl, rfl⟩; rw [gk.out, HL.out]) | (go_at_call 86; refine (digit_any _ _).mono ?_; rintro e w' ⟨rfl, rfl⟩; rw [gk.out, HD.out]))
                go_round
                case rel => exact ⟨k + 1, by omega, by go_num, F⟩
                case measure => simp [intOf]; omega
              | false =>
                by_cases h45 : (byteAt s k).toNat = 45
                · have F : Hid (∀ j, j < k + 1 → nameByte (byteAt s j) = true) := fun j hj => by
                    by_cases e : j = k
                    · subst e; simp [nameByte, h45]
                    · exact Hn.out j (by omega)
                  have HL := Lib.hid hl
                  have HD := Lib.hid hd
                  have h45' : ((s[k].toNat : Int) != 45) = false := by rw [gk.out, h45]; rfl
                  clear hl hd h45
                  go_wp2_with (first | (go_at_call 85; refine (letter_any _ _).mono ?_; rintro e w' ⟨rfl, rfl⟩; rw [gk.out, HL.out]) | (go_at_call 86; refine (digit_any _ _).mono ?_; rintro e w' ⟨rfl, rfl⟩; rw [gk.out, HD.out]))
                  go_round
                  case rel => exact ⟨k + 1, by omega, by go_num, F⟩
                  case measure => simp [intOf]; omega
                · have F := Lib.hid (isName_no4 hlt (show nameByte (byteAt s k) = false by simp [nameByte, hl, hd, h45]))
                  have HL := Lib.hid hl
                  have HD := Lib.hid hd
                  have h45' : ((s[k].toNat : Int) != 45) = true := by rw [gk.out]; simp; omega
                  clear hl hd h45
                  go_wp2_with (first | (go_at_call 85; refine (letter_any _ _).mono ?_; rintro e w' ⟨rfl, rfl⟩; rw [gk.out, HL.out]) | (go_at_call 86; refine (digit_any _ _).mono ?_; rintro e w' ⟨rfl, rfl⟩; rw [gk.out, HD.out]))
                  go_ret
                  exact ⟨ret_bool F.out.symm, rfl⟩
          · have F := Lib.hid (isName_yes h1 h2 H3.out fun j hj => Hn.out j (by omega))
            go_wp2
            go_ret
            exact ⟨ret_bool F.out.symm, rfl⟩
    · have F := Lib.hid (isName_no2 (s := s) (by omega))
      go_enter Try.func77, Try.ntmps77
      go_wp2
      go_ret
      exact ⟨ret_bool F.out.symm, rfl⟩
  · have F := Lib.hid (isName_no1 (s := s) (by omega))
    go_enter Try.func77, Try.ntmps77
    go_wp2
    go_ret
    exact ⟨ret_bool F.out.symm, rfl⟩

set_option maxHeartbeats 400000 in
theorem placeName_any (l : List ByteArray) (A : Option Addr) (c g j : Nat) (w : World) (h : ArrS w A l c) (hg : w.cell? ⟨g, 0, none⟩ = some (.slice A l.length c)) (hj : j < l.length) :
    Calls Try.prog 60 #[.int .i64 j, .pointer (some ⟨g, 0, none⟩)] w fun e w' => e = .returned (.string (listS l j)) ∧ w = w' := by
  have b1 := h.le.1
  have b2 := h.le.2
  obtain ⟨b, o, rfl, hc⟩ := h.at_ hj
  go_enter Try.func60, Try.ntmps60
  go_wp2
  go_ret
  exact ⟨rfl, rfl⟩
set_option maxHeartbeats 400000 in
theorem roadName_any (l : List Rd) (A : Option Addr) (c g j : Nat) (a : DA) (w : World) (h : ArrD w A l c a) (hg : w.cell? ⟨g, 1, none⟩ = some (.slice A l.length c)) (hj : j < l.length) :
    Calls Try.prog 78 #[.int .i64 j, .pointer (some ⟨g, 0, none⟩)] w fun e w' => e = .returned (.string (listD l j).name) ∧ w = w' := by
  have b1 := h.le.1
  have b2 := h.le.2
  obtain ⟨b, o, rfl, hc⟩ := h.at_ hj
  have hc := hc.c0
  go_enter Try.func78, Try.ntmps78
  go_wp2
  go_ret
  exact ⟨rfl, rfl⟩

theorem str_eq {a b : ByteArray} (h : a = b) : (a.toList == b.toList) = true := by rw [h]; simp
theorem str_ne {a b : ByteArray} (h : a ≠ b) : (a.toList == b.toList) = false := by
  rw [beq_eq_false_iff_ne, ByteArray.toList_eq, ByteArray.toList_eq]
  intro e
  apply h
  cases a; cases b
  simp only at e
  rw [Array.toList_inj.1 e]

set_option maxHeartbeats 400000 in
theorem errName_any (K : Nat) (hK : Hid (∀ (args : Array Value) (w : World), (callFunc K args).run Try.prog w = .ok (.enter K args) w)) (name : Nat → ByteArray) (p : Addr) (i : Nat) (w : World) (hi : i ≤ 9223372036854775806) (HK : Hid (∀ j : Nat, j ≤ i → Calls Try.prog K #[.int .i64 j, .pointer (some p)] w fun e w' => e = .returned (.string (name j)) ∧ w = w')) :
    Calls Try.prog 59 #[.int .i64 i, .func (.func K) #[] #[.pointer (some p)]] w fun e w' => e = .returned (.int .i64 (errName name i)) ∧ w = w' := by
  have hcall := hK.out
  cases hnm : isName (name i) with
  | false =>
    have F := Lib.hid (show errName name i = 4 by unfold errName; rw [hnm]; rfl)
    have N := Lib.hid hnm
    clear hnm
    go_enter Try.func59, Try.ntmps59
    go_wp2_with fail
    refine (HK.out i (by omega)).mono ?_
    rintro e w' ⟨rfl, rfl⟩
    go_wp2_with (go_at_call 77; refine (isName_any _ _).mono ?_; rintro e w' ⟨rfl, rfl⟩; rw [N.out])
    go_ret
    exact ⟨ret_int F.out.symm, rfl⟩
  | true =>
    have F0 := Lib.hid (show errName name i = fst (fun j => if name j = name i then 5 else 0) i by unfold errName; rw [hnm]; rfl)
    have N := Lib.hid hnm
    clear hnm
    go_enter Try.func59, Try.ntmps59
    go_wp2_with fail
    refine (HK.out i (by omega)).mono ?_
    rintro e w' ⟨rfl, rfl⟩
    go_wp2_with (go_at_call 77; refine (isName_any _ _).mono ?_; rintro e w' ⟨rfl, rfl⟩; rw [N.out])
    go_loop [12] (fun u => ∃ k : Nat, k ≤ i ∧ u = .int .i64 k ∧ Hid (∀ j, j < k → name j ≠ name i)) (fun u => i - (intOf u).toNat)
    case atStart => exact ⟨0, Nat.zero_le _, rfl, fun j hj => absurd hj (Nat.not_lt_zero _)⟩
    case round =>
      obtain ⟨k, hk, rfl, Hn⟩ := hrel
      by_cases hlt : k < i
      · by_cases hq : name k = name i
        · have F := Lib.hid (F0.out.trans ((fst_hit (f := fun j => if name j = name i then 5 else 0) hlt (fun j hj => if_neg (Hn.out j hj)) (by rw [if_pos hq]; decide)).1.trans (if_pos hq)))
          have q := str_eq hq
          clear hq
          go_wp2_with fail
          refine (HK.out k (by omega)).mono ?_
          rintro e w' ⟨rfl, rfl⟩
          go_wp2_with fail
          refine (HK.out i (by omega)).mono ?_
          rintro e w' ⟨rfl, rfl⟩
          go_wp2_with fail
          go_ret
          exact ⟨ret_int F.out.symm, rfl⟩
        · have F : Hid (∀ j, j < k + 1 → name j ≠ name i) := fun j hj => by
            by_cases e : j = k
            · subst e; exact hq
            · exact Hn.out j (by omega)
          have q := str_ne hq
          clear hq
          go_wp2_with fail
          refine (HK.out k (by omega)).mono ?_
          rintro e w' ⟨rfl, rfl⟩
          go_wp2_with fail
          refine (HK.out i (by omega)).mono ?_
          rintro e w' ⟨rfl, rfl⟩
          go_wp2_with fail
          go_round
          case rel => exact ⟨k + 1, by omega, by go_num, F⟩
          case measure => simp [intOf]; omega
      · have F := Lib.hid (F0.out.trans (fst_none (f := fun j => if name j = name i then 5 else 0) fun j hj => if_neg (Hn.out j (by omega))))
        go_wp2
        go_ret
        exact ⟨ret_int F.out.symm, rfl⟩
theorem callPlaceName (args : Array Value) (w : World) : (callFunc 60 args).run Try.prog w = .ok (.enter 60 args) w := by kernel_rfl
theorem callRoadName (args : Array Value) (w : World) : (callFunc 78 args).run Try.prog w = .ok (.enter 78 args) w := by kernel_rfl
end Go.Proofs.Ytjmaankkbdpikaa
/- A region that draws its order, walked once in a class of worlds. No condition. -/
namespace Go.Proofs.Ytjmaankkbdpikaa
open Go.RowKit Fs

section
variable {P : Program} {C : World → Prop}
theorem quietC {id : Nat} {Q : Exit → Act → World → Prop} {a : Act} {w : World} {l : List Oper} (hm : P.follows .mixedOrders = true) (hB : Region.lexB .any l.toArray = true) (hC : C w.drew)
    (h : wpQuiet P l.toArray C (fun a' => ∀ w', C w' → Q .normal a' w') l a) : (Code.region id l.toArray true).wp P Q a w :=
  wp_region_quiet (C := C) hm hB hC (by simpa using h)
theorem quiet_yes {ops : Array Oper} {o : Oper} {rest : List Oper} {Q : Act → Prop} {a : Act} (hw : Region.wanted o (yielded ops a.tmps) = true)
    (h : ∃ v, (∀ w, C w → Oper.quietUpon P C w v ((execOp a.eval o).run P w)) ∧ wpQuiet P ops C Q rest (a.put o.dst v)) : wpQuiet P ops C Q (o :: rest) a := by
  unfold wpQuiet
  rw [if_pos hw]
  exact h
end
end Go.Proofs.Ytjmaankkbdpikaa
/- The points of a road are looked at as the plain function says. No condition. -/
namespace Go.Proofs.Ytjmaankkbdpikaa
open Go.RowKit Fs

/-- The worlds in which what is below a world's end is as it was. -/
theorem classOf (w : World) : ∃ C : World → Prop, Hid (∀ w', C w' → Below w.heap.size w w') ∧ Hid (∀ w', Below w.heap.size w w' → C w') := ⟨_, Lib.hid (fun _ h => h), Lib.hid (fun _ h => h)⟩
theorem Fs.errPoint_no {l : List Pt} {i : Nat} (h : ptRight (listP l i) = false) : errPoint l i = 2 := by unfold errPoint; rw [h]; rfl
theorem Fs.errPoint_order {l : List Pt} {i : Nat} (h : ptRight (listP l i) = true) (h2 : (listP l i).hi < (listP l i).lo ∨ (0 < i ∧ (listP l i).hour ≤ (listP l (i - 1)).hour)) : errPoint l i = 9 := by
  unfold errPoint; rw [h]; exact if_pos h2
theorem Fs.errPoint_yes {l : List Pt} {i : Nat} (h : ptRight (listP l i) = true) (h2 : ¬ ((listP l i).hi < (listP l i).lo ∨ (0 < i ∧ (listP l i).hour ≤ (listP l (i - 1)).hour))) : errPoint l i = 0 := by
  unfold errPoint; rw [h]; exact if_neg h2
theorem Fs.errPoint_right {l : List Pt} {i : Nat} (h : errPoint l i = 0) : ptRight (listP l i) = true := by
  cases hp : ptRight (listP l i) with
  | true => rfl
  | false => rw [errPoint_no hp] at h; cases h
theorem Fs.errPoints_hit {l : List Pt} {k : Nat} (hk : k < l.length) (h : ∀ j, j < k → errPoint l j = 0) (h1 : errPoint l k ≠ 0) : errPoints l = (k, errPoint l k) := by
  obtain ⟨a, b⟩ := fst_hit hk h h1
  unfold errPoints
  rw [if_pos (by rw [a]; exact h1), a, b]
theorem Fs.errPoints_pair {l : List Pt} {k : Nat} (h0 : ∀ j, j < l.length → errPoint l j = 0) (hk : k < l.length) (h : ∀ j, j < k → errPair l j = 0) (h1 : errPair l k ≠ 0) : errPoints l = (k, errPair l k) := by
  obtain ⟨a, b⟩ := fst_hit hk h h1
  unfold errPoints
  rw [if_neg (fun hh => hh (fst_none h0)), a, b]
theorem Fs.errPoints_none {l : List Pt} (h0 : ∀ j, j < l.length → errPoint l j = 0) (h : ∀ j, j < l.length → errPair l j = 0) : errPoints l = (0, 0) := by
  unfold errPoints
  rw [if_neg (fun hh => hh (fst_none h0)), fst_none h, idx_none h]
theorem Fs.next_is {n k : Nat} (hk : k < n) : ∃ j, j = (k + 1) % n ∧ j < n ∧ ((k : Int) + 1) % (n : Int) = (j : Int) :=
  ⟨_, rfl, Nat.mod_lt _ (by omega), by rw [Int.natCast_emod]; rfl⟩

/-- A point's cells in the block g. -/
structure PtAt (w : World) (g : Nat) (p : Pt) : Prop where
  c0 : w.cell? ⟨g, 0, none⟩ = some (.int .i64 p.hour)
  c1 : w.cell? ⟨g, 1, none⟩ = some (.int .i64 p.lo)
  c2 : w.cell? ⟨g, 2, none⟩ = some (.int .i64 p.hi)
theorem PtAt.keep {w w' : World} (k : Keep w w') {g : Nat} {p : Pt} (m : PtAt w g p) : PtAt w' g p := ⟨k _ _ m.c0, k _ _ m.c1, k _ _ m.c2⟩
theorem PtAt.new (w : World) (p : Pt) (t : TypeId) : PtAt (w.alloc (.cells #[.int .i64 p.hour, .int .i64 p.lo, .int .i64 p.hi] t)) w.heap.size p := ⟨cellNew _ _ _ 0, cellNew _ _ _ 1, cellNew _ _ _ 2⟩

set_option maxHeartbeats 1600000 in
set_option maxRecDepth 100000 in
theorem checkPoints_any (l : List Pt) (A : Option Addr) (c : Nat) (w : World) (h : ArrP w A l c) :
    Calls Try.prog 79 #[.slice A l.length c] w fun e w' => e = .returned (.tuple #[.int .i64 (errPoints l).1, .int .i64 (errPoints l).2]) ∧ Below w.heap.size w w' := by
  have b1 := h.le.1
  have b2 := h.le.2
  go_enter Try.func79, Try.ntmps79
  go_wp2
  go_loopw [10] (fun i wr => ∃ k : Nat, k ≤ l.length ∧ i = .int .i64 k ∧ Hid (∀ j, j < k → errPoint l j = 0) ∧ Hid (Below w.heap.size w wr)) (fun i _ => l.length - (intOf i).toNat)
  case atStart => exact ⟨0, Nat.zero_le _, rfl, fun j hj => absurd hj (Nat.not_lt_zero _), Lib.hid (Below.refl _ _)⟩
  case round =>
    obtain ⟨k, hk, rfl, Hn, HB⟩ := hrel
    by_cases hlt : k < l.length
    · have hr : ArrP wr A l c := h.keep (Keep.below HB.out)
      obtain ⟨b, o, rfl, c0, c1, c2⟩ := hr.at_ hlt
      have HW := Lib.hid (HB.out.alloc HB.out.size (.cells #[.int .i64 (listP l k).hour, .int .i64 (listP l k).lo, .int .i64 (listP l k).hi] 116))
      cases hp : ptRight (listP l k) with
      | false =>
        have F0 := errPoint_no hp
        have F := Lib.hid (errPoints_hit hlt Hn.out (by rw [F0]; decide))
        rw [F0] at F
        clear F0
        unfold ptRight at hp
        cases h1 : within (listP l k).hour 0 86399 with
        | false =>
          have H1 := Lib.hid h1
          clear h1 hp
          go_wp2_with (first | (go_at_call 56; refine (within_any _ _ _ _).mono ?_; rintro e w' ⟨rfl, rfl⟩; rw [H1.out]))
          go_ret2
          exact ⟨by rw [F.out]; rfl, HW.out⟩
        | true =>
          cases h2 : within (listP l k).lo 0 7200 with
          | false =>
            have H1 := Lib.hid h1
            have H2 := Lib.hid h2
            clear h1 h2 hp
            go_wp2_with (first | (go_at_call 56; refine (within_any _ _ _ _).mono ?_; rintro e w' ⟨rfl, rfl⟩; rw [H1.out]) | (go_at_call 87; refine (isTaken_any _ _).mono ?_; rintro e w' ⟨rfl, rfl⟩; rw [H2.out]))
            go_ret2
            exact ⟨by rw [F.out]; rfl, HW.out⟩
          | true =>
            cases h3 : within (listP l k).hi 0 7200 with
            | false =>
              have H1 := Lib.hid h1
              have H2 := Lib.hid h2
              have H3 := Lib.hid h3
              clear h1 h2 h3 hp
              go_wp2_with (first | (go_at_call 56; refine (within_any _ _ _ _).mono ?_; rintro e w' ⟨rfl, rfl⟩; rw [H1.out]) | (go_at_call 87; refine (isTaken_any _ _).mono ?_; rintro e w' ⟨rfl, rfl⟩; first | rw [H2.out] | rw [H3.out]))
              go_ret2
              exact ⟨by rw [F.out]; rfl, HW.out⟩
            | true => rw [h1, h2, h3] at hp; cases hp
      | true =>
        have hp' := hp
        unfold ptRight at hp'
        rw [Bool.and_eq_true, Bool.and_eq_true] at hp'
        obtain ⟨⟨h1, h2⟩, h3⟩ := hp'
        have H1 := Lib.hid h1
        have H2 := Lib.hid h2
        have H3 := Lib.hid h3
        have HP := Lib.hid hp
        clear h1 h2 h3 hp
        by_cases hlo : (listP l k).hi < (listP l k).lo
        · have F0 := errPoint_order HP.out (.inl hlo)
          have F := Lib.hid (errPoints_hit hlt Hn.out (by rw [F0]; decide))
          rw [F0] at F
          clear F0
          have d1 : decide ((listP l k).hi < (listP l k).lo) = true := by simpa using hlo
          clear hlo
          go_wp2_with (first | (go_at_call 56; refine (within_any _ _ _ _).mono ?_; rintro e w' ⟨rfl, rfl⟩; rw [H1.out]) | (go_at_call 87; refine (isTaken_any _ _).mono ?_; rintro e w' ⟨rfl, rfl⟩; first | rw [H2.out] | rw [H3.out]))
          go_quiet (fail)
          go_wp2
          go_ret2
          exact ⟨by rw [F.out]; rfl, bdrewN HW.out _⟩
        · have d1 : decide ((listP l k).hi < (listP l k).lo) = false := by simpa using hlo
          by_cases h0 : 0 < k
          · have d0 : decide ((0 : Int) < (k : Int)) = true := by simpa using h0
            have ib1 : (0 : Int) ≤ (k : Int) - 1 := by omega
            have ib2 : (k : Int) - 1 < (l.length : Int) := by omega
            have ix : ((k : Int) - 1).toNat = k - 1 := by omega
            obtain ⟨b', o', e', p0, -, -⟩ := hr.at_ (k := k - 1) (by omega)
            obtain ⟨rfl, rfl⟩ : b = b' ∧ o = o' := by simpa using e'
            clear e'
            have p0' := Keep.alloc wr (.cells #[.int .i64 (listP l k).hour, .int .i64 (listP l k).lo, .int .i64 (listP l k).hi] 116) _ _ p0
            by_cases hq : (listP l k).hour ≤ (listP l (k - 1)).hour
            · have F0 := errPoint_order HP.out (.inr ⟨h0, hq⟩)
              have F := Lib.hid (errPoints_hit hlt Hn.out (by rw [F0]; decide))
              rw [F0] at F
              clear F0
              have d2 : decide ((listP l k).hour ≤ (listP l (k - 1)).hour) = true := by simpa using hq
              clear hlo hq
              go_wp2_with (first | (go_at_call 56; refine (within_any _ _ _ _).mono ?_; rintro e w' ⟨rfl, rfl⟩; rw [H1.out]) | (go_at_call 87; refine (isTaken_any _ _).mono ?_; rintro e w' ⟨rfl, rfl⟩; first | rw [H2.out] | rw [H3.out]))
              go_quiet (fail)
              go_wp2
              go_ret2
              exact ⟨by rw [F.out]; rfl, bdrewN HW.out _⟩
            · have F0 := errPoint_yes HP.out (fun hh => hh.elim hlo (fun x => hq x.2))
              have F : Hid (∀ j, j < k + 1 → errPoint l j = 0) := fun j hj => by
                by_cases e : j = k
                · subst e; exact F0
                · exact Hn.out j (by omega)
              clear F0
              have d2 : decide ((listP l k).hour ≤ (listP l (k - 1)).hour) = false := by simpa using hq
              clear hlo hq
              go_wp2_with (first | (go_at_call 56; refine (within_any _ _ _ _).mono ?_; rintro e w' ⟨rfl, rfl⟩; rw [H1.out]) | (go_at_call 87; refine (isTaken_any _ _).mono ?_; rintro e w' ⟨rfl, rfl⟩; first | rw [H2.out] | rw [H3.out]))
              go_quiet (fail)
              go_wp2
              go_roundw
              case rel => exact ⟨k + 1, by omega, by go_num, F, Lib.hid (bdrewN HW.out _)⟩
              case measure => simp [intOf]; omega
          · have d0 : decide ((0 : Int) < (k : Int)) = false := by simpa using h0
            have F0 := errPoint_yes HP.out (fun hh => hh.elim hlo (fun x => h0 x.1))
            have F : Hid (∀ j, j < k + 1 → errPoint l j = 0) := fun j hj => by
              by_cases e : j = k
              · subst e; exact F0
              · exact Hn.out j (by omega)
            clear F0 hlo
            go_wp2_with (first | (go_at_call 56; refine (within_any _ _ _ _).mono ?_; rintro e w' ⟨rfl, rfl⟩; rw [H1.out]) | (go_at_call 87; refine (isTaken_any _ _).mono ?_; rintro e w' ⟨rfl, rfl⟩; first | rw [H2.out] | rw [H3.out]))
            go_quiet (fail)
            go_wp2
            go_roundw
            case rel => exact ⟨k + 1, by omega, by go_num, F, Lib.hid (bdrewN HW.out _)⟩
            case measure => simp [intOf]; omega
    · have H0 : Hid (∀ j, j < l.length → errPoint l j = 0) := fun j hj => Hn.out j (by omega)
      clear Hn
      go_wp2
      go_loopw [62] (fun i wr => ∃ k : Nat, k ≤ l.length ∧ i = .int .i64 k ∧ Hid (∀ j, j < k → errPair l j = 0) ∧ Hid (Below w.heap.size w wr)) (fun i _ => l.length - (intOf i).toNat)
      case atStart => exact ⟨0, Nat.zero_le _, rfl, fun j hj => absurd hj (Nat.not_lt_zero _), HB⟩
      case round =>
        clear hk hlt HB
        obtain ⟨k, hk, rfl, Hn, HB⟩ := hrel
        by_cases hlt : k < l.length
        · have hr := h.keep (Keep.below HB.out)
          have hr0 := hr
          obtain ⟨b, o, rfl, c0, c1, c2⟩ := hr.at_ hlt
          obtain ⟨j, hj, hjl, jx⟩ := next_is hlt
          obtain ⟨b', o', e', p0, p1, p2⟩ := hr.at_ (k := j) hjl
          obtain ⟨rfl, rfl⟩ : b = b' ∧ o = o' := by simpa using e'
          clear e'
          have R1 := Lib.hid (errPoint_right (H0.out k hlt))
          have R2 := Lib.hid (errPoint_right (H0.out j hjl))
          have hne : ((l.length : Int) == 0) = false := by simpa using (show (l.length : Int) ≠ 0 by omega)
          have hj0 : (0 : Int) ≤ (k : Int) + 1 := by omega
          have hnil : l ≠ [] := fun e => by rw [e] at hlt; exact absurd hlt (Nat.not_lt_zero _)
          have HJ := Lib.hid hj
          clear hj
          have fin : Hid (errPair l k = if inOrder (listP l k) (listP l j) then 0 else 23) := by rw [HJ.out]; exact Lib.hid rfl
          have F := fin
          have HA := Lib.hid hr0
          have BX := Lib.hid (PtAt.new wr (listP l k) 116)
          have HAb := Lib.hid (hr0.keep (Keep.alloc wr (.cells #[.int .i64 (listP l k).hour, .int .i64 (listP l k).lo, .int .i64 (listP l k).hi] 116)))
          have HW := Lib.hid (HB.out.alloc HB.out.size (.cells #[.int .i64 (listP l k).hour, .int .i64 (listP l k).lo, .int .i64 (listP l k).hi] 116))
          have hsz : (wr.alloc (.cells #[.int .i64 (listP l k).hour, .int .i64 (listP l k).lo, .int .i64 (listP l k).hi] 116)).heap.size = wr.heap.size + 1 := by simp
          go_upto_region 12 with fail
          generalize hwb : wr.alloc _ = wb at *
          clear hwb p0 p1 p2 c0 c1 c2
          have hbs : w.heap.size ≤ wb.heap.size := HW.out.size
          obtain ⟨C, Ci, Co⟩ := classOf wb
          cases ho : inOrder (listP l k) (listP l j) with
          | true =>
            have O := Lib.hid ho
            rw [ho] at F
            clear ho
            refine quietC (C := C) (by kernel_rfl) (by kernel_rfl) (Co.out _ (Below.refl _ _).drew) ?_
            repeat (first
              | go_big_quiet_skip
              | (go_big_quiet_want; go_big_quiet_op; go_big_quiet_on)
              | (refine quiet_yes (by rfl) ?_
                 apply Exists.intro
                 refine ⟨fun w' hC => ?_, ?_⟩
                 · have hbb := Ci.out _ hC
                   obtain ⟨t0, t1, t2⟩ := BX.out.keep (Keep.below hbb)
                   obtain ⟨b', o', e', p0, p1, p2⟩ := (HAb.out.keep (Keep.below hbb)).at_ (k := j) hjl
                   obtain ⟨rfl, rfl⟩ : b = b' ∧ o = o' := by simpa using e'
                   clear e'
                   go_simp
                   try go_bits
                   first
                     | done
                     | rfl
                     | (go_at_call 88
                        refine (inOrder_any (listP l k) (listP l j) _ R1.out R2.out).mono ?_
                        rintro e' w1 ⟨rfl, hb1⟩
                        rw [O.out]
                        exact ⟨rfl, Co.out _ (hbb.trans (hb1.mono hbb.size))⟩)
                 simp only [Act.put, List.setIfInBounds_toArray, List.set_cons_zero, List.set_cons_succ]))
            refine wpQuiet_nil ?_
            intro w1 hC1
            have HW1 := Lib.hid (HW.out.trans ((Ci.out _ hC1).mono hbs))
            have G : Hid (∀ i, i < k + 1 → errPair l i = 0) := fun i hi => by
              by_cases e : i = k
              · subst e; exact F.out
              · exact Hn.out i (by omega)
            go_wp2
            go_roundw
            case rel => exact ⟨k + 1, by omega, by go_num, G, HW1⟩
            case measure => simp [intOf]; omega
          | false =>
            have O := Lib.hid ho
            rw [ho] at F
            clear ho
            refine quietC (C := C) (by kernel_rfl) (by kernel_rfl) (Co.out _ (Below.refl _ _).drew) ?_
            repeat (first
              | go_big_quiet_skip
              | (go_big_quiet_want; go_big_quiet_op; go_big_quiet_on)
              | (refine quiet_yes (by rfl) ?_
                 apply Exists.intro
                 refine ⟨fun w' hC => ?_, ?_⟩
                 · have hbb := Ci.out _ hC
                   obtain ⟨t0, t1, t2⟩ := BX.out.keep (Keep.below hbb)
                   obtain ⟨b', o', e', p0, p1, p2⟩ := (HAb.out.keep (Keep.below hbb)).at_ (k := j) hjl
                   obtain ⟨rfl, rfl⟩ : b = b' ∧ o = o' := by simpa using e'
                   clear e'
                   go_simp
                   try go_bits
                   first
                     | done
                     | rfl
                     | (go_at_call 88
                        refine (inOrder_any (listP l k) (listP l j) _ R1.out R2.out).mono ?_
                        rintro e' w1 ⟨rfl, hb1⟩
                        rw [O.out]
                        exact ⟨rfl, Co.out _ (hbb.trans (hb1.mono hbb.size))⟩)
                 simp only [Act.put, List.setIfInBounds_toArray, List.set_cons_zero, List.set_cons_succ]))
            refine wpQuiet_nil ?_
            intro w1 hC1
            have HW1 := Lib.hid (HW.out.trans ((Ci.out _ hC1).mono hbs))
            have F2 := F.out
            rw [if_neg (by decide)] at F2
            have G := Lib.hid (errPoints_pair H0.out hlt Hn.out (by rw [F2]; decide))
            rw [F2] at G
            clear F2
            go_wp2
            go_ret2
            exact ⟨by rw [G.out]; rfl, HW1.out⟩
        · have F := Lib.hid (errPoints_none H0.out fun j hj => Hn.out j (by omega))
          go_wp2
          go_ret2
          exact ⟨by rw [F.out]; rfl, HB.out⟩
end Go.Proofs.Ytjmaankkbdpikaa
/- The error of a road of a net, and the point that has it. No condition. -/
namespace Go.Proofs.Ytjmaankkbdpikaa
open Go.RowKit Fs

/-- A road's cells in the block g. -/
structure BoxD (w : World) (g : Nat) (r : Rd) (p : Option Addr) (pc : Nat) : Prop where
  c0 : w.cell? ⟨g, 0, none⟩ = some (.string r.name)
  c1 : w.cell? ⟨g, 1, none⟩ = some (.int .i64 r.src)
  c2 : w.cell? ⟨g, 2, none⟩ = some (.int .i64 r.dst)
  c3 : w.cell? ⟨g, 3, none⟩ = some (.int .i64 r.metres)
  c4 : w.cell? ⟨g, 4, none⟩ = some (.slice p r.pts.length pc)
theorem BoxD.keep {w w' : World} (k : Keep w w') {g : Nat} {r : Rd} {p : Option Addr} {pc : Nat} (m : BoxD w g r p pc) : BoxD w' g r p pc := ⟨k _ _ m.c0, k _ _ m.c1, k _ _ m.c2, k _ _ m.c3, k _ _ m.c4⟩
theorem BoxD.new (w : World) (r : Rd) (p : Option Addr) (pc : Nat) (t : TypeId) : BoxD (w.alloc (.cells #[.string r.name, .int .i64 r.src, .int .i64 r.dst, .int .i64 r.metres, .slice p r.pts.length pc] t)) w.heap.size r p pc :=
  ⟨cellNew _ _ _ 0, cellNew _ _ _ 1, cellNew _ _ _ 2, cellNew _ _ _ 3, cellNew _ _ _ 4⟩
theorem BoxD.new1 (w : World) (A : Obj) (r : Rd) (p : Option Addr) (pc : Nat) (t : TypeId) : BoxD ((w.alloc A).alloc (.cells #[.string r.name, .int .i64 r.src, .int .i64 r.dst, .int .i64 r.metres, .slice p r.pts.length pc] t)) (w.heap.size + 1) r p pc :=
  ⟨cellNew1 _ _ _ _ 0, cellNew1 _ _ _ _ 1, cellNew1 _ _ _ _ 2, cellNew1 _ _ _ _ 3, cellNew1 _ _ _ _ 4⟩

set_option maxHeartbeats 1600000 in
set_option maxRecDepth 100000 in
theorem checkRoad_any (N : Net) (v : Value) (i : Nat) (w : World) (hN : RdNet w v N) (hi : i < N.roads.length) :
    Calls Try.prog 61 #[v, .int .i64 i] w fun e w' => e = .returned (.tuple #[.int .i64 (errRoad N i).1, .int .i64 (errRoad N i).2]) ∧ Below w.heap.size w w' := by
  have hN0 := Lib.hid hN
  obtain ⟨P, R, pc, rc, a, rfl, m⟩ := hN
  have hr := m.roads
  have b1 := hr.le.1
  have b2 := hr.le.2
  clear m
  have hp := Lib.hid (hr.2 i hi)
  have p1 := (hr.2 i hi).le.1
  have p2 := (hr.2 i hi).le.2
  obtain ⟨b, o, rfl, q⟩ := hr.at_ hi
  by_cases hn : errName (fun j => (listD N.roads j).name) i = 0
  · have F := Lib.hid (show errRoad N i = if errForm N (listD N.roads i) ≠ 0 then (0, errForm N (listD N.roads i)) else errPoints (listD N.roads i).pts by unfold errRoad; rw [if_neg (by rw [hn]; decide)])
    have Z := Lib.hid hn
    clear hn
    have c0 := fun x => Keep.alloc w x _ _ q.c0
    have c1 := fun x => Keep.alloc w x _ _ q.c1
    have c2 := fun x => Keep.alloc w x _ _ q.c2
    have c3 := fun x => Keep.alloc w x _ _ q.c3
    have c4 := fun x => Keep.alloc w x _ _ q.c4
    clear q
    have BN := Lib.hid ((BoxN.new w N P (some ⟨b, o, none⟩) pc rc 25).keep (Keep.alloc _ (.cells #[.string (listD N.roads i).name, .int .i64 (listD N.roads i).src, .int .i64 (listD N.roads i).dst, .int .i64 (listD N.roads i).metres, .slice (a.p i) (listD N.roads i).pts.length (a.pc i)] 58)))
    have BD := Lib.hid (BoxD.new1 w (.cells #[.slice P N.places.length pc, .slice (some ⟨b, o, none⟩) N.roads.length rc] 25) (listD N.roads i) (a.p i) (a.pc i) 58)
    go_enter Try.func61, Try.ntmps61
    go_wp2_with fail
    refine (errName_any 78 (Lib.hid callRoadName) (fun j => (listD N.roads j).name) _ i _ (by omega) (fun j hj => roadName_any N.roads _ rc _ j a _ (hr.keep (Keep.alloc w _)) (cellNew _ _ _ _) (by omega))).mono ?_
    rintro e w' ⟨rfl, rfl⟩
    rw [Z.out]
    go_wp2_with fail
    generalize hwb : (w.alloc _).alloc _ = wb at *
    have HW : Hid (Below w.heap.size w wb) := by rw [← hwb]; exact Lib.hid (((Below.refl _ _).alloc (Nat.le_refl _) _).alloc (by simp) _)
    clear hwb c0 c1 c2 c3 c4
    cases hs : isPlace N (listD N.roads i).src with
    | false =>
      refine (isPlace_any N _ _ _ (hN0.out.keep (Keep.below HW.out))).mono ?_
      rintro e w1 ⟨rfl, hb1⟩
      rw [hs]
      have G := Lib.hid (show errForm N (listD N.roads i) = 6 by unfold errForm; rw [hs]; rfl)
      have HW1 := Lib.hid (HW.out.trans (hb1.mono HW.out.size))
      clear hb1 hs
      go_wp2_with fail
      go_ret2
      exact ⟨by rw [F.out, G.out]; rfl, HW1.out⟩
    | true =>
      refine (isPlace_any N _ _ _ (hN0.out.keep (Keep.below HW.out))).mono ?_
      rintro e w1 ⟨rfl, hb1⟩
      rw [hs]
      have HW1 := Lib.hid (HW.out.trans (hb1.mono HW.out.size))
      have BN1 := Lib.hid (BN.out.keep (Keep.below hb1))
      have BD1 := Lib.hid (BD.out.keep (Keep.below hb1))
      clear hb1 BN BD
      obtain ⟨n0, n1⟩ := BN1.out
      obtain ⟨d0, d1, d2, d3, d4⟩ := BD1.out
      have HS := Lib.hid hs
      clear hs
      go_wp2_with fail
      cases hd : isPlace N (listD N.roads i).dst with
      | false =>
        refine (isPlace_any N _ _ _ (hN0.out.keep (Keep.below HW1.out))).mono ?_
        rintro e w2 ⟨rfl, hb2⟩
        rw [hd]
        have G := Lib.hid (show errForm N (listD N.roads i) = 6 by unfold errForm; rw [HS.out, hd]; rfl)
        have HW2 := Lib.hid (HW1.out.trans (hb2.mono HW1.out.size))
        clear hb2 hd
        go_wp2_with fail
        go_ret2
        exact ⟨by rw [F.out, G.out]; rfl, HW2.out⟩
      | true =>
        refine (isPlace_any N _ _ _ (hN0.out.keep (Keep.below HW1.out))).mono ?_
        rintro e w2 ⟨rfl, hb2⟩
        rw [hd]
        have HW2 := Lib.hid (HW1.out.trans (hb2.mono HW1.out.size))
        have BD2 := Lib.hid (BD1.out.keep (Keep.below hb2))
        clear hb2 BD1 BN1 n0 n1 d0 d1 d2 d3 d4
        obtain ⟨d0, d1, d2, d3, d4⟩ := BD2.out
        have HP2 := Lib.hid (hp.out.keep (Keep.below HW2.out))
        have G := Lib.hid (show errForm N (listD N.roads i) = if (listD N.roads i).src = (listD N.roads i).dst then 26 else if !within (listD N.roads i).metres 0 100000 then 2 else if (listD N.roads i).pts.length = 0 then 10 else if 8 < (listD N.roads i).pts.length then 8 else 0 by
          unfold errForm; rw [HS.out, hd]; rfl)
        clear hd
        by_cases e1 : (listD N.roads i).src = (listD N.roads i).dst
        · have G2 := G.out
          rw [if_pos e1] at G2
          have G3 := Lib.hid G2
          have e1' : ((listD N.roads i).src == (listD N.roads i).dst) = true := by simpa using e1
          clear G2 e1
          go_wp2_with fail
          go_ret2
          exact ⟨by rw [F.out, G3.out]; rfl, HW2.out⟩
        · have G2 := G.out
          rw [if_neg e1] at G2
          have e1' : ((listD N.roads i).src == (listD N.roads i).dst) = false := by simpa using e1
          clear e1
          cases hm : within (listD N.roads i).metres 0 100000 with
          | false =>
            rw [hm] at G2
            have G3 := Lib.hid G2
            have HM := Lib.hid hm
            clear G2 hm
            go_wp2_with (go_at_call 56; refine (within_any _ _ _ _).mono ?_; rintro e w' ⟨rfl, rfl⟩; rw [HM.out])
            go_ret2
            exact ⟨by rw [F.out, G3.out]; rfl, HW2.out⟩
          | true =>
            rw [hm] at G2
            rw [if_neg (by decide)] at G2
            have HM := Lib.hid hm
            clear hm
            by_cases e2 : (listD N.roads i).pts.length = 0
            · rw [if_pos e2] at G2
              have G3 := Lib.hid G2
              clear G2
              go_wp2_with (go_at_call 56; refine (within_any _ _ _ _).mono ?_; rintro e w' ⟨rfl, rfl⟩; rw [HM.out])
              go_ret2
              exact ⟨by rw [F.out, G3.out]; rfl, HW2.out⟩
            · rw [if_neg e2] at G2
              by_cases e3 : 8 < (listD N.roads i).pts.length
              · rw [if_pos e3] at G2
                have G3 := Lib.hid G2
                clear G2
                go_wp2_with (go_at_call 56; refine (within_any _ _ _ _).mono ?_; rintro e w' ⟨rfl, rfl⟩; rw [HM.out])
                go_ret2
                exact ⟨by rw [F.out, G3.out]; rfl, HW2.out⟩
              · rw [if_neg e3] at G2
                have G3 := Lib.hid (F.out.trans (if_neg (fun hh => hh G2)))
                clear G2
                go_wp2_with (first | (go_at_call 56; refine (within_any _ _ _ _).mono ?_; rintro e w' ⟨rfl, rfl⟩; rw [HM.out]) | (go_at_call 79; refine (checkPoints_any (listD N.roads i).pts _ _ _ HP2.out).mono ?_; rintro e w3 ⟨rfl, hb3⟩))
                go_ret2
                exact ⟨by rw [G3.out]; rfl, HW2.out.trans (hb3.mono HW2.out.size)⟩
  · have F := Lib.hid (show errRoad N i = (0, errName (fun j => (listD N.roads j).name) i) by unfold errRoad; rw [if_pos hn])
    have d0 : (errName (fun j => (listD N.roads j).name) i == 0) = false := by simpa using hn
    clear hn q
    go_enter Try.func61, Try.ntmps61
    go_wp2_with fail
    refine (errName_any 78 (Lib.hid callRoadName) (fun j => (listD N.roads j).name) _ i _ (by omega) (fun j hj => roadName_any N.roads _ rc _ j a _ (hr.keep (Keep.alloc w _)) (cellNew _ _ _ _) (by omega))).mono ?_
    rintro e w' ⟨rfl, rfl⟩
    go_wp2_with fail
    go_ret2
    exact ⟨by rw [F.out]; rfl, (Below.refl _ _).alloc (Nat.le_refl _) _⟩
end Go.Proofs.Ytjmaankkbdpikaa

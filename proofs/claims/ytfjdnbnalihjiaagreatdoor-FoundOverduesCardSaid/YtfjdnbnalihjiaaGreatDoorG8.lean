/- Limits: the law's short, item, claim, Few, Short. No condition. -/
import Derived.Test.YtfjdnbnalihjiaaGreatDoorG7
namespace Go.Proofs.YtfjdnbnalihjiaaGreatDoor
open Go.RowKit Fs

/-- A bool that tells P where it is true. -/
def IfB (P : Prop) (e : Ending) : Prop := ∃ b, e = .returned (.bool b) ∧ (b = true → P)
set_option linter.unusedSimpArgs false in
set_option maxHeartbeats 1600000 in
set_option maxRecDepth 100000 in
theorem lawShort_any (l : List Mrk) (A : Option Addr) (c : Nat) (w : World) (h : ArrMk w A l c) :
    Calls Tryz.prog 75 #[.slice A l.length c] w fun e w' => IfB (l.length ≤ 10) e ∧ w = w' := by
  have b1 := h.le.1
  have b2 := h.le.2
  have HA := Lib.hid h
  clear h
  go_enter Tryz.func75, Tryz.ntmps75
  by_cases h40 : 10 < l.length
  · have d1 : decide ((l.length : Int) > 10) = true := decide_eq_true (by omega)
    have d2 : decide ((10 : Int) < (l.length : Int)) = true := decide_eq_true (by omega)
    go_wp2_with fail
    go_ret
    exact ⟨⟨_, rfl, fun hh => absurd hh (by decide)⟩, rfl⟩
  · have H40 := Lib.hid h40
    have d1 : decide ((l.length : Int) > 10) = false := decide_eq_false (by omega)
    have d2 : decide ((10 : Int) < (l.length : Int)) = false := decide_eq_false (by omega)
    clear h40
    go_wp2_with fail
    go_loop [3] (fun u => ∃ k : Nat, k ≤ l.length ∧ u = .int .i64 k) (fun u => l.length - (intOf u).toNat)
    case atStart => exact ⟨0, Nat.zero_le _, rfl⟩
    case round =>
      obtain ⟨k, hk, rfl⟩ := hrel
      by_cases hlt : k < l.length
      · have hkn : (k : Int) < (l.length : Int) := by omega
        obtain ⟨b, o, rfl, q0, q1⟩ := HA.out.at_ hlt
        by_cases h1 : (20 : Int) < ((lMrk l k).key.size : Int)
        · have e1 : decide ((20 : Int) < ((lMrk l k).key.size : Int)) = true := decide_eq_true h1
          have e2 : decide (((lMrk l k).key.size : Int) > 20) = true := decide_eq_true h1
          go_wp2_with fail
          go_ret
          exact ⟨⟨_, rfl, fun hh => absurd hh (by decide)⟩, rfl⟩
        · have e1 : decide ((20 : Int) < ((lMrk l k).key.size : Int)) = false := decide_eq_false h1
          have e2 : decide (((lMrk l k).key.size : Int) > 20) = false := decide_eq_false h1
          by_cases h2 : (20 : Int) < ((lMrk l k).val.size : Int)
          · have e3 : decide ((20 : Int) < ((lMrk l k).val.size : Int)) = true := decide_eq_true h2
            have e4 : decide (((lMrk l k).val.size : Int) > 20) = true := decide_eq_true h2
            go_wp2_with fail
            go_ret
            exact ⟨⟨_, rfl, fun hh => absurd hh (by decide)⟩, rfl⟩
          · have e3 : decide ((20 : Int) < ((lMrk l k).val.size : Int)) = false := decide_eq_false h2
            have e4 : decide (((lMrk l k).val.size : Int) > 20) = false := decide_eq_false h2
            go_wp2_with fail
            go_round
            case rel => exact ⟨k + 1, by omega, by go_num⟩
            case measure => simp [intOf]; omega
      · go_wp2_with fail
        go_ret
        exact ⟨⟨_, rfl, fun _ => by have := H40.out; omega⟩, rfl⟩
set_option linter.unusedSimpArgs false in
set_option maxHeartbeats 1600000 in
theorem lawItem_any (x : Thg) (v : Value) (w : World) (hv : RdThg w v x) :
    Calls Tryz.prog 16 #[v] w fun e w' => IfB (x.marks.length ≤ 10) e ∧ Below w.heap.size w w' := by
  obtain ⟨p, pc, rfl, m⟩ := hv
  have HW := Lib.hid ((Below.refl w.heap.size w).alloc (Nat.le_refl _) (.cells #[.string x.name, .int .i64 x.day, .string x.who, .slice p x.marks.length pc] 24))
  have M := Lib.hid (m.keep (Keep.below HW.out))
  obtain ⟨q0, q1, q2, q3⟩ := ThgAt.new w x p pc 24
  clear m
  go_enter Tryz.func16, Tryz.ntmps16
  by_cases h1 : (x.name.size : Int) ≤ 20
  · have e1 : decide ((x.name.size : Int) ≤ 20) = true := decide_eq_true h1
    by_cases h2 : (x.who.size : Int) ≤ 20
    · have e2 : decide ((x.who.size : Int) ≤ 20) = true := decide_eq_true h2
      go_wp2_with fail
      refine (lawShort_any x.marks p pc _ M.out).mono ?_
      rintro e' w1 ⟨⟨b, rfl, hb⟩, rfl⟩
      go_wp2_with fail
      go_ret
      exact ⟨⟨_, rfl, hb⟩, HW.out⟩
    · have e2 : decide ((x.who.size : Int) ≤ 20) = false := decide_eq_false h2
      go_wp2_with fail
      go_ret
      exact ⟨⟨_, rfl, fun hh => absurd hh (by decide)⟩, HW.out⟩
  · have e1 : decide ((x.name.size : Int) ≤ 20) = false := decide_eq_false h1
    go_wp2_with fail
    go_ret
    exact ⟨⟨_, rfl, fun hh => absurd hh (by decide)⟩, HW.out⟩
set_option linter.unusedSimpArgs false in
set_option maxHeartbeats 1600000 in
theorem lawClaim_any (x : Thg) (v : Value) (w : World) (hv : RdThg w v x) :
    Calls Tryz.prog 17 #[v] w fun e w' => IfB (x.marks.length ≤ 10) e ∧ Below w.heap.size w w' := by
  obtain ⟨p, pc, rfl, m⟩ := hv
  have HW := Lib.hid ((Below.refl w.heap.size w).alloc (Nat.le_refl _) (.cells #[.string x.name, .int .i64 x.day, .string x.who, .slice p x.marks.length pc] 26))
  have M := Lib.hid (m.keep (Keep.below HW.out))
  obtain ⟨q0, q1, q2, q3⟩ := ThgAt.new w x p pc 26
  clear m
  go_enter Tryz.func17, Tryz.ntmps17
  by_cases h1 : (x.name.size : Int) ≤ 20
  · have e1 : decide ((x.name.size : Int) ≤ 20) = true := decide_eq_true h1
    by_cases h2 : (x.who.size : Int) ≤ 20
    · have e2 : decide ((x.who.size : Int) ≤ 20) = true := decide_eq_true h2
      go_wp2_with fail
      refine (lawShort_any x.marks p pc _ M.out).mono ?_
      rintro e' w1 ⟨⟨b, rfl, hb⟩, rfl⟩
      go_wp2_with fail
      go_ret
      exact ⟨⟨_, rfl, hb⟩, HW.out⟩
    · have e2 : decide ((x.who.size : Int) ≤ 20) = false := decide_eq_false h2
      go_wp2_with fail
      go_ret
      exact ⟨⟨_, rfl, fun hh => absurd hh (by decide)⟩, HW.out⟩
  · have e1 : decide ((x.name.size : Int) ≤ 20) = false := decide_eq_false h1
    go_wp2_with fail
    go_ret
    exact ⟨⟨_, rfl, fun hh => absurd hh (by decide)⟩, HW.out⟩
set_option linter.unusedSimpArgs false in
set_option maxHeartbeats 6400000 in
set_option maxRecDepth 100000 in
theorem lawFew_any (l d : List Thg) (A B : Option Addr) (c e : Nat) (a b : GA) (w : World) (h : ArrTh w A l c a) (h2 : ArrTh w B d e b) :
    Calls Tryz.prog 30 #[.slice A l.length c, .slice B d.length e] w fun x w' => IfB (l.length ≤ 14 ∧ d.length ≤ 14 ∧ (∀ j, j < l.length → (lThg l j).marks.length ≤ 10) ∧ ∀ j, j < d.length → (lThg d j).marks.length ≤ 10) x ∧ Below w.heap.size w w' := by
  have b1 := h.le.1
  have b2 := h.le.2
  have b3 := h2.le.1
  have b4 := h2.le.2
  have HA := Lib.hid h
  have HA2 := Lib.hid h2
  clear h h2
  go_enter Tryz.func30, Tryz.ntmps30
  by_cases r10 : l.length ≤ 5
  · have f10 : decide ((l.length : Int) > 5) = false := decide_eq_false (by omega)
    have f11 : decide ((5 : Int) < (l.length : Int)) = false := decide_eq_false (by omega)
    have f12 : decide ((l.length : Int) > 14) = false := decide_eq_false (by omega)
    have f13 : decide ((14 : Int) < (l.length : Int)) = false := decide_eq_false (by omega)
    have f14 : decide ((l.length : Int) ≤ 12) = true := decide_eq_true (by omega)
    by_cases r20 : d.length ≤ 5
    · have f20 : decide ((d.length : Int) > 5) = false := decide_eq_false (by omega)
      have f21 : decide ((5 : Int) < (d.length : Int)) = false := decide_eq_false (by omega)
      have f22 : decide ((d.length : Int) > 14) = false := decide_eq_false (by omega)
      have f23 : decide ((14 : Int) < (d.length : Int)) = false := decide_eq_false (by omega)
      have f24 : decide ((d.length : Int) ≤ 12) = true := decide_eq_true (by omega)
      have H1 : Hid (l.length ≤ 14) := Lib.hid (by omega)
      have H2 : Hid (d.length ≤ 14) := Lib.hid (by omega)
      go_wp2_with fail
      go_loopw [5] (fun i wr => ∃ k : Nat, k ≤ l.length ∧ i = .int .i64 k ∧ Hid (∀ j, j < k → (lThg l j).marks.length ≤ 10) ∧ Hid (Below w.heap.size w wr)) (fun i _ => l.length - (intOf i).toNat)
      case atStart => exact ⟨0, Nat.zero_le _, rfl, Lib.hid fun j hj => absurd hj (Nat.not_lt_zero _), Lib.hid (Below.refl _ _)⟩
      case round =>
        obtain ⟨k, hk, rfl, Hn, HB⟩ := hrel
        by_cases hlt : k < l.length
        · have hkn : (k : Int) < (l.length : Int) := by omega
          obtain ⟨b, o, rfl, q, qm⟩ := (HA.out.keep (Keep.below HB.out)).at_ hlt
          obtain ⟨q0, q1, q2, q3⟩ := q
          have QM := Lib.hid qm
          clear qm
          go_wp2_with fail
          refine (lawItem_any (lThg l k) _ _ ⟨_, _, rfl, QM.out⟩).mono ?_
          rintro e' w1 ⟨⟨bb, rfl, hbb⟩, hb1⟩
          have HBQ := Lib.hid (HB.out.trans (hb1.mono HB.out.size))
          clear hb1 q0 q1 q2 q3
          cases bb with
          | true =>
            have HT := Lib.hid (hbb rfl)
            clear hbb
            go_wp2_with fail
            go_roundw
            case rel =>
              exact ⟨k + 1, by omega, by go_num, Lib.hid fun j hj => by
                by_cases e : j = k
                · subst e; exact HT.out
                · exact Hn.out j (by omega), HBQ⟩
            case measure => simp [intOf]; omega
          | false =>
            go_wp2_with fail
            go_ret
            exact ⟨⟨_, rfl, fun hh => absurd hh (by decide)⟩, HBQ.out⟩
        · obtain rfl : k = l.length := by omega
          go_wp2_with fail
          go_loopw [6] (fun i wr => ∃ k : Nat, k ≤ d.length ∧ i = .int .i64 k ∧ Hid (∀ j, j < k → (lThg d j).marks.length ≤ 10) ∧ Hid (Below w.heap.size w wr)) (fun i _ => d.length - (intOf i).toNat)
          case atStart => exact ⟨0, Nat.zero_le _, rfl, Lib.hid fun j hj => absurd hj (Nat.not_lt_zero _), HB⟩
          case round =>
            obtain ⟨k, hk, rfl, Hm, HB⟩ := hrel
            by_cases hlt : k < d.length
            · have hkn : (k : Int) < (d.length : Int) := by omega
              obtain ⟨b, o, rfl, q, qm⟩ := (HA2.out.keep (Keep.below HB.out)).at_ hlt
              obtain ⟨q0, q1, q2, q3⟩ := q
              have QM := Lib.hid qm
              clear qm
              go_wp2_with fail
              refine (lawClaim_any (lThg d k) _ _ ⟨_, _, rfl, QM.out⟩).mono ?_
              rintro e' w1 ⟨⟨bb, rfl, hbb⟩, hb1⟩
              have HBQ := Lib.hid (HB.out.trans (hb1.mono HB.out.size))
              clear hb1 q0 q1 q2 q3
              cases bb with
              | true =>
                have HT := Lib.hid (hbb rfl)
                clear hbb
                go_wp2_with fail
                go_roundw
                case rel =>
                  exact ⟨k + 1, by omega, by go_num, Lib.hid fun j hj => by
                    by_cases e : j = k
                    · subst e; exact HT.out
                    · exact Hm.out j (by omega), HBQ⟩
                case measure => simp [intOf]; omega
              | false =>
                go_wp2_with fail
                go_ret
                exact ⟨⟨_, rfl, fun hh => absurd hh (by decide)⟩, HBQ.out⟩
            · obtain rfl : k = d.length := by omega
              go_wp2_with fail
              go_ret
              exact ⟨⟨_, rfl, fun _ => ⟨H1.out, H2.out, Hn.out, Hm.out⟩⟩, HB.out⟩
    · skip
      by_cases r21 : d.length ≤ 12
      · have f20 : decide ((d.length : Int) > 5) = true := decide_eq_true (by omega)
        have f21 : decide ((5 : Int) < (d.length : Int)) = true := decide_eq_true (by omega)
        have f22 : decide ((d.length : Int) > 14) = false := decide_eq_false (by omega)
        have f23 : decide ((14 : Int) < (d.length : Int)) = false := decide_eq_false (by omega)
        have f24 : decide ((d.length : Int) ≤ 12) = true := decide_eq_true (by omega)
        go_wp2_with fail
        go_ret
        exact ⟨⟨_, rfl, fun hh => absurd hh (by decide)⟩, Below.refl _ _⟩
      · skip
        by_cases r22 : d.length ≤ 14
        · have f20 : decide ((d.length : Int) > 5) = true := decide_eq_true (by omega)
          have f21 : decide ((5 : Int) < (d.length : Int)) = true := decide_eq_true (by omega)
          have f22 : decide ((d.length : Int) > 14) = false := decide_eq_false (by omega)
          have f23 : decide ((14 : Int) < (d.length : Int)) = false := decide_eq_false (by omega)
          have f24 : decide ((d.length : Int) ≤ 12) = false := decide_eq_false (by omega)
          have H1 : Hid (l.length ≤ 14) := Lib.hid (by omega)
          have H2 : Hid (d.length ≤ 14) := Lib.hid (by omega)
          go_wp2_with fail
          go_loopw [5] (fun i wr => ∃ k : Nat, k ≤ l.length ∧ i = .int .i64 k ∧ Hid (∀ j, j < k → (lThg l j).marks.length ≤ 10) ∧ Hid (Below w.heap.size w wr)) (fun i _ => l.length - (intOf i).toNat)
          case atStart => exact ⟨0, Nat.zero_le _, rfl, Lib.hid fun j hj => absurd hj (Nat.not_lt_zero _), Lib.hid (Below.refl _ _)⟩
          case round =>
            obtain ⟨k, hk, rfl, Hn, HB⟩ := hrel
            by_cases hlt : k < l.length
            · have hkn : (k : Int) < (l.length : Int) := by omega
              obtain ⟨b, o, rfl, q, qm⟩ := (HA.out.keep (Keep.below HB.out)).at_ hlt
              obtain ⟨q0, q1, q2, q3⟩ := q
              have QM := Lib.hid qm
              clear qm
              go_wp2_with fail
              refine (lawItem_any (lThg l k) _ _ ⟨_, _, rfl, QM.out⟩).mono ?_
              rintro e' w1 ⟨⟨bb, rfl, hbb⟩, hb1⟩
              have HBQ := Lib.hid (HB.out.trans (hb1.mono HB.out.size))
              clear hb1 q0 q1 q2 q3
              cases bb with
              | true =>
                have HT := Lib.hid (hbb rfl)
                clear hbb
                go_wp2_with fail
                go_roundw
                case rel =>
                  exact ⟨k + 1, by omega, by go_num, Lib.hid fun j hj => by
                    by_cases e : j = k
                    · subst e; exact HT.out
                    · exact Hn.out j (by omega), HBQ⟩
                case measure => simp [intOf]; omega
              | false =>
                go_wp2_with fail
                go_ret
                exact ⟨⟨_, rfl, fun hh => absurd hh (by decide)⟩, HBQ.out⟩
            · obtain rfl : k = l.length := by omega
              go_wp2_with fail
              go_loopw [6] (fun i wr => ∃ k : Nat, k ≤ d.length ∧ i = .int .i64 k ∧ Hid (∀ j, j < k → (lThg d j).marks.length ≤ 10) ∧ Hid (Below w.heap.size w wr)) (fun i _ => d.length - (intOf i).toNat)
              case atStart => exact ⟨0, Nat.zero_le _, rfl, Lib.hid fun j hj => absurd hj (Nat.not_lt_zero _), HB⟩
              case round =>
                obtain ⟨k, hk, rfl, Hm, HB⟩ := hrel
                by_cases hlt : k < d.length
                · have hkn : (k : Int) < (d.length : Int) := by omega
                  obtain ⟨b, o, rfl, q, qm⟩ := (HA2.out.keep (Keep.below HB.out)).at_ hlt
                  obtain ⟨q0, q1, q2, q3⟩ := q
                  have QM := Lib.hid qm
                  clear qm
                  go_wp2_with fail
                  refine (lawClaim_any (lThg d k) _ _ ⟨_, _, rfl, QM.out⟩).mono ?_
                  rintro e' w1 ⟨⟨bb, rfl, hbb⟩, hb1⟩
                  have HBQ := Lib.hid (HB.out.trans (hb1.mono HB.out.size))
                  clear hb1 q0 q1 q2 q3
                  cases bb with
                  | true =>
                    have HT := Lib.hid (hbb rfl)
                    clear hbb
                    go_wp2_with fail
                    go_roundw
                    case rel =>
                      exact ⟨k + 1, by omega, by go_num, Lib.hid fun j hj => by
                        by_cases e : j = k
                        · subst e; exact HT.out
                        · exact Hm.out j (by omega), HBQ⟩
                    case measure => simp [intOf]; omega
                  | false =>
                    go_wp2_with fail
                    go_ret
                    exact ⟨⟨_, rfl, fun hh => absurd hh (by decide)⟩, HBQ.out⟩
                · obtain rfl : k = d.length := by omega
                  go_wp2_with fail
                  go_ret
                  exact ⟨⟨_, rfl, fun _ => ⟨H1.out, H2.out, Hn.out, Hm.out⟩⟩, HB.out⟩
        · skip
          have f20 : decide ((d.length : Int) > 5) = true := decide_eq_true (by omega)
          have f21 : decide ((5 : Int) < (d.length : Int)) = true := decide_eq_true (by omega)
          have f22 : decide ((d.length : Int) > 14) = true := decide_eq_true (by omega)
          have f23 : decide ((14 : Int) < (d.length : Int)) = true := decide_eq_true (by omega)
          have f24 : decide ((d.length : Int) ≤ 12) = false := decide_eq_false (by omega)
          go_wp2_with fail
          go_ret
          exact ⟨⟨_, rfl, fun hh => absurd hh (by decide)⟩, Below.refl _ _⟩
  · skip
    by_cases r11 : l.length ≤ 12
    · have f10 : decide ((l.length : Int) > 5) = true := decide_eq_true (by omega)
      have f11 : decide ((5 : Int) < (l.length : Int)) = true := decide_eq_true (by omega)
      have f12 : decide ((l.length : Int) > 14) = false := decide_eq_false (by omega)
      have f13 : decide ((14 : Int) < (l.length : Int)) = false := decide_eq_false (by omega)
      have f14 : decide ((l.length : Int) ≤ 12) = true := decide_eq_true (by omega)
      go_wp2_with fail
      go_ret
      exact ⟨⟨_, rfl, fun hh => absurd hh (by decide)⟩, Below.refl _ _⟩
    · skip
      by_cases r12 : l.length ≤ 14
      · have f10 : decide ((l.length : Int) > 5) = true := decide_eq_true (by omega)
        have f11 : decide ((5 : Int) < (l.length : Int)) = true := decide_eq_true (by omega)
        have f12 : decide ((l.length : Int) > 14) = false := decide_eq_false (by omega)
        have f13 : decide ((14 : Int) < (l.length : Int)) = false := decide_eq_false (by omega)
        have f14 : decide ((l.length : Int) ≤ 12) = false := decide_eq_false (by omega)
        by_cases r20 : d.length ≤ 5
        · have f20 : decide ((d.length : Int) > 5) = false := decide_eq_false (by omega)
          have f21 : decide ((5 : Int) < (d.length : Int)) = false := decide_eq_false (by omega)
          have f22 : decide ((d.length : Int) > 14) = false := decide_eq_false (by omega)
          have f23 : decide ((14 : Int) < (d.length : Int)) = false := decide_eq_false (by omega)
          have f24 : decide ((d.length : Int) ≤ 12) = true := decide_eq_true (by omega)
          have H1 : Hid (l.length ≤ 14) := Lib.hid (by omega)
          have H2 : Hid (d.length ≤ 14) := Lib.hid (by omega)
          go_wp2_with fail
          go_loopw [5] (fun i wr => ∃ k : Nat, k ≤ l.length ∧ i = .int .i64 k ∧ Hid (∀ j, j < k → (lThg l j).marks.length ≤ 10) ∧ Hid (Below w.heap.size w wr)) (fun i _ => l.length - (intOf i).toNat)
          case atStart => exact ⟨0, Nat.zero_le _, rfl, Lib.hid fun j hj => absurd hj (Nat.not_lt_zero _), Lib.hid (Below.refl _ _)⟩
          case round =>
            obtain ⟨k, hk, rfl, Hn, HB⟩ := hrel
            by_cases hlt : k < l.length
            · have hkn : (k : Int) < (l.length : Int) := by omega
              obtain ⟨b, o, rfl, q, qm⟩ := (HA.out.keep (Keep.below HB.out)).at_ hlt
              obtain ⟨q0, q1, q2, q3⟩ := q
              have QM := Lib.hid qm
              clear qm
              go_wp2_with fail
              refine (lawItem_any (lThg l k) _ _ ⟨_, _, rfl, QM.out⟩).mono ?_
              rintro e' w1 ⟨⟨bb, rfl, hbb⟩, hb1⟩
              have HBQ := Lib.hid (HB.out.trans (hb1.mono HB.out.size))
              clear hb1 q0 q1 q2 q3
              cases bb with
              | true =>
                have HT := Lib.hid (hbb rfl)
                clear hbb
                go_wp2_with fail
                go_roundw
                case rel =>
                  exact ⟨k + 1, by omega, by go_num, Lib.hid fun j hj => by
                    by_cases e : j = k
                    · subst e; exact HT.out
                    · exact Hn.out j (by omega), HBQ⟩
                case measure => simp [intOf]; omega
              | false =>
                go_wp2_with fail
                go_ret
                exact ⟨⟨_, rfl, fun hh => absurd hh (by decide)⟩, HBQ.out⟩
            · obtain rfl : k = l.length := by omega
              go_wp2_with fail
              go_loopw [6] (fun i wr => ∃ k : Nat, k ≤ d.length ∧ i = .int .i64 k ∧ Hid (∀ j, j < k → (lThg d j).marks.length ≤ 10) ∧ Hid (Below w.heap.size w wr)) (fun i _ => d.length - (intOf i).toNat)
              case atStart => exact ⟨0, Nat.zero_le _, rfl, Lib.hid fun j hj => absurd hj (Nat.not_lt_zero _), HB⟩
              case round =>
                obtain ⟨k, hk, rfl, Hm, HB⟩ := hrel
                by_cases hlt : k < d.length
                · have hkn : (k : Int) < (d.length : Int) := by omega
                  obtain ⟨b, o, rfl, q, qm⟩ := (HA2.out.keep (Keep.below HB.out)).at_ hlt
                  obtain ⟨q0, q1, q2, q3⟩ := q
                  have QM := Lib.hid qm
                  clear qm
                  go_wp2_with fail
                  refine (lawClaim_any (lThg d k) _ _ ⟨_, _, rfl, QM.out⟩).mono ?_
                  rintro e' w1 ⟨⟨bb, rfl, hbb⟩, hb1⟩
                  have HBQ := Lib.hid (HB.out.trans (hb1.mono HB.out.size))
                  clear hb1 q0 q1 q2 q3
                  cases bb with
                  | true =>
                    have HT := Lib.hid (hbb rfl)
                    clear hbb
                    go_wp2_with fail
                    go_roundw
                    case rel =>
                      exact ⟨k + 1, by omega, by go_num, Lib.hid fun j hj => by
                        by_cases e : j = k
                        · subst e; exact HT.out
                        · exact Hm.out j (by omega), HBQ⟩
                    case measure => simp [intOf]; omega
                  | false =>
                    go_wp2_with fail
                    go_ret
                    exact ⟨⟨_, rfl, fun hh => absurd hh (by decide)⟩, HBQ.out⟩
                · obtain rfl : k = d.length := by omega
                  go_wp2_with fail
                  go_ret
                  exact ⟨⟨_, rfl, fun _ => ⟨H1.out, H2.out, Hn.out, Hm.out⟩⟩, HB.out⟩
        · skip
          by_cases r21 : d.length ≤ 12
          · have f20 : decide ((d.length : Int) > 5) = true := decide_eq_true (by omega)
            have f21 : decide ((5 : Int) < (d.length : Int)) = true := decide_eq_true (by omega)
            have f22 : decide ((d.length : Int) > 14) = false := decide_eq_false (by omega)
            have f23 : decide ((14 : Int) < (d.length : Int)) = false := decide_eq_false (by omega)
            have f24 : decide ((d.length : Int) ≤ 12) = true := decide_eq_true (by omega)
            go_wp2_with fail
            go_ret
            exact ⟨⟨_, rfl, fun hh => absurd hh (by decide)⟩, Below.refl _ _⟩
          · skip
            by_cases r22 : d.length ≤ 14
            · have f20 : decide ((d.length : Int) > 5) = true := decide_eq_true (by omega)
              have f21 : decide ((5 : Int) < (d.length : Int)) = true := decide_eq_true (by omega)
              have f22 : decide ((d.length : Int) > 14) = false := decide_eq_false (by omega)
              have f23 : decide ((14 : Int) < (d.length : Int)) = false := decide_eq_false (by omega)
              have f24 : decide ((d.length : Int) ≤ 12) = false := decide_eq_false (by omega)
              have H1 : Hid (l.length ≤ 14) := Lib.hid (by omega)
              have H2 : Hid (d.length ≤ 14) := Lib.hid (by omega)
              go_wp2_with fail
              go_loopw [5] (fun i wr => ∃ k : Nat, k ≤ l.length ∧ i = .int .i64 k ∧ Hid (∀ j, j < k → (lThg l j).marks.length ≤ 10) ∧ Hid (Below w.heap.size w wr)) (fun i _ => l.length - (intOf i).toNat)
              case atStart => exact ⟨0, Nat.zero_le _, rfl, Lib.hid fun j hj => absurd hj (Nat.not_lt_zero _), Lib.hid (Below.refl _ _)⟩
              case round =>
                obtain ⟨k, hk, rfl, Hn, HB⟩ := hrel
                by_cases hlt : k < l.length
                · have hkn : (k : Int) < (l.length : Int) := by omega
                  obtain ⟨b, o, rfl, q, qm⟩ := (HA.out.keep (Keep.below HB.out)).at_ hlt
                  obtain ⟨q0, q1, q2, q3⟩ := q
                  have QM := Lib.hid qm
                  clear qm
                  go_wp2_with fail
                  refine (lawItem_any (lThg l k) _ _ ⟨_, _, rfl, QM.out⟩).mono ?_
                  rintro e' w1 ⟨⟨bb, rfl, hbb⟩, hb1⟩
                  have HBQ := Lib.hid (HB.out.trans (hb1.mono HB.out.size))
                  clear hb1 q0 q1 q2 q3
                  cases bb with
                  | true =>
                    have HT := Lib.hid (hbb rfl)
                    clear hbb
                    go_wp2_with fail
                    go_roundw
                    case rel =>
                      exact ⟨k + 1, by omega, by go_num, Lib.hid fun j hj => by
                        by_cases e : j = k
                        · subst e; exact HT.out
                        · exact Hn.out j (by omega), HBQ⟩
                    case measure => simp [intOf]; omega
                  | false =>
                    go_wp2_with fail
                    go_ret
                    exact ⟨⟨_, rfl, fun hh => absurd hh (by decide)⟩, HBQ.out⟩
                · obtain rfl : k = l.length := by omega
                  go_wp2_with fail
                  go_loopw [6] (fun i wr => ∃ k : Nat, k ≤ d.length ∧ i = .int .i64 k ∧ Hid (∀ j, j < k → (lThg d j).marks.length ≤ 10) ∧ Hid (Below w.heap.size w wr)) (fun i _ => d.length - (intOf i).toNat)
                  case atStart => exact ⟨0, Nat.zero_le _, rfl, Lib.hid fun j hj => absurd hj (Nat.not_lt_zero _), HB⟩
                  case round =>
                    obtain ⟨k, hk, rfl, Hm, HB⟩ := hrel
                    by_cases hlt : k < d.length
                    · have hkn : (k : Int) < (d.length : Int) := by omega
                      obtain ⟨b, o, rfl, q, qm⟩ := (HA2.out.keep (Keep.below HB.out)).at_ hlt
                      obtain ⟨q0, q1, q2, q3⟩ := q
                      have QM := Lib.hid qm
                      clear qm
                      go_wp2_with fail
                      refine (lawClaim_any (lThg d k) _ _ ⟨_, _, rfl, QM.out⟩).mono ?_
                      rintro e' w1 ⟨⟨bb, rfl, hbb⟩, hb1⟩
                      have HBQ := Lib.hid (HB.out.trans (hb1.mono HB.out.size))
                      clear hb1 q0 q1 q2 q3
                      cases bb with
                      | true =>
                        have HT := Lib.hid (hbb rfl)
                        clear hbb
                        go_wp2_with fail
                        go_roundw
                        case rel =>
                          exact ⟨k + 1, by omega, by go_num, Lib.hid fun j hj => by
                            by_cases e : j = k
                            · subst e; exact HT.out
                            · exact Hm.out j (by omega), HBQ⟩
                        case measure => simp [intOf]; omega
                      | false =>
                        go_wp2_with fail
                        go_ret
                        exact ⟨⟨_, rfl, fun hh => absurd hh (by decide)⟩, HBQ.out⟩
                    · obtain rfl : k = d.length := by omega
                      go_wp2_with fail
                      go_ret
                      exact ⟨⟨_, rfl, fun _ => ⟨H1.out, H2.out, Hn.out, Hm.out⟩⟩, HB.out⟩
            · skip
              have f20 : decide ((d.length : Int) > 5) = true := decide_eq_true (by omega)
              have f21 : decide ((5 : Int) < (d.length : Int)) = true := decide_eq_true (by omega)
              have f22 : decide ((d.length : Int) > 14) = true := decide_eq_true (by omega)
              have f23 : decide ((14 : Int) < (d.length : Int)) = true := decide_eq_true (by omega)
              have f24 : decide ((d.length : Int) ≤ 12) = false := decide_eq_false (by omega)
              go_wp2_with fail
              go_ret
              exact ⟨⟨_, rfl, fun hh => absurd hh (by decide)⟩, Below.refl _ _⟩
      · skip
        have f10 : decide ((l.length : Int) > 5) = true := decide_eq_true (by omega)
        have f11 : decide ((5 : Int) < (l.length : Int)) = true := decide_eq_true (by omega)
        have f12 : decide ((l.length : Int) > 14) = true := decide_eq_true (by omega)
        have f13 : decide ((14 : Int) < (l.length : Int)) = true := decide_eq_true (by omega)
        have f14 : decide ((l.length : Int) ≤ 12) = false := decide_eq_false (by omega)
        go_wp2_with fail
        go_ret
        exact ⟨⟨_, rfl, fun hh => absurd hh (by decide)⟩, Below.refl _ _⟩
end Go.Proofs.YtfjdnbnalihjiaaGreatDoor

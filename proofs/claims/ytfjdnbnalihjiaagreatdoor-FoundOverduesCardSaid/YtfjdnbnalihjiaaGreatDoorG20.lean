/- Plain facts: an item that is done. The law's limits once more. No condition. -/
import Derived.Test.YtfjdnbnalihjiaaGreatDoorGK
import Derived.Test.YtfjdnbnalihjiaaGreatDoorG9
namespace Go.Proofs.YtfjdnbnalihjiaaGreatDoor
open Go.RowKit Fs

theorem Fs.evt_all {x : Thg} {l : List Evt} {k : Nat} (h : evtAt x l k = 0) : dayOf x l k ≤ (lEvt l k).day ∧ isName (lEvt l k).dst = true := by
  unfold evtAt at h
  by_cases h1 : (lEvt l k).item ≠ x.name
  · rw [if_pos h1] at h; exact absurd h (by decide)
  rw [if_neg h1] at h
  by_cases h2 : isDay (lEvt l k).day = false
  · rw [if_pos h2] at h; exact absurd h (by decide)
  rw [if_neg h2] at h
  by_cases h3 : within (lEvt l k).kind 0 4 = false
  · rw [if_pos h3] at h; exact absurd h (by decide)
  rw [if_neg h3] at h
  by_cases h4 : isName (lEvt l k).src = false ∨ isName (lEvt l k).dst = false
  · rw [if_pos h4] at h; exact absurd h (by decide)
  rw [if_neg h4] at h
  by_cases h5 : (lEvt l k).day < dayOf x l k
  · rw [if_pos h5] at h; exact absurd h (by decide)
  refine ⟨by omega, ?_⟩
  cases e : isName (lEvt l k).dst with
  | true => rfl
  | false => exact absurd (.inr e) h4
theorem Fs.days_up {x : Thg} {l : List Evt} (h : ∀ j, j < l.length → evtAt x l j = 0) : ∀ k, k < l.length → x.day ≤ (lEvt l k).day ∧ ∀ j, j ≤ k → (lEvt l j).day ≤ (lEvt l k).day := by
  intro k
  induction k with
  | zero =>
    intro hk
    have := (evt_all (h 0 hk)).1
    exact ⟨this, fun j hj => by obtain rfl : j = 0 := by omega
                                exact Int.le_refl _⟩
  | succ k ih =>
    intro hk
    have h1 := (evt_all (h (k + 1) hk)).1
    have h2 : dayOf x l (k + 1) = (lEvt l k).day := by unfold dayOf; rw [if_neg (by omega)]; rfl
    rw [h2] at h1
    obtain ⟨h3, h4⟩ := ih (by omega)
    refine ⟨by omega, fun j hj => ?_⟩
    rcases Nat.lt_or_ge j (k + 1) with e | e
    · have := h4 j (by omega); omega
    · obtain rfl : j = k + 1 := by omega
      exact Int.le_refl _
/-- What an item that is done has. -/
structure Fs.Done (x : Thg) (l : List Evt) (day : Int) : Prop where
  on : onErr x l day = 0
  unt : untilN l day = l.length
  hold : holderOf x l l.length = (lEvt l (l.length - 1)).dst
  state : stateOf l l.length = (lEvt l (l.length - 1)).kind
  right : rightOf l l.length day = 0
theorem Fs.done_of {x : Thg} {l : List Evt} {day : Int} (h : chainErr x l = 0) (hn : 0 < l.length) (hk : 2 ≤ (lEvt l (l.length - 1)).kind) (hd : (lEvt l (l.length - 1)).day ≤ day) (h1 : day ≤ 100000) : Done x l day := by
  obtain ⟨c1, c2, c3⟩ := chain_ok h
  obtain ⟨u1, u2⟩ := days_up c3 (l.length - 1) (by omega)
  have hk4 := (evtAt_ok (c3 (l.length - 1) (by omega))).kind
  have hn0 : ¬ l.length = 0 := by omega
  have hdn : isDone (lEvt l (l.length - 1)).kind = true := decide_eq_true hk
  refine ⟨?_, ?_, ?_, ?_, ?_⟩
  · unfold onErr
    rw [if_neg (fun hh => hh h), if_pos (Fs.within_iff.2 ⟨by omega, h1⟩)]
  · exact until_is (Nat.le_refl _) (fun j hj => by have := u2 j (by omega); omega) (fun hh => absurd hh (Nat.lt_irrefl _))
  · unfold holderOf; rw [if_neg hn0]
  · unfold stateOf
    rw [if_neg hn0]
    have : (lEvt l (l.length - 1)).kind = 2 ∨ (lEvt l (l.length - 1)).kind = 3 ∨ (lEvt l (l.length - 1)).kind = 4 := by omega
    rcases this with e | e | e <;> rw [e] <;> decide
  · unfold rightOf
    rw [if_neg hn0, if_pos hdn]
theorem Fs.evt_snoc_left {l : List Evt} {e : Evt} {j : Nat} (h : j < l.length) : lEvt (l ++ [e]) j = lEvt l j := by
  unfold lEvt; rw [List.getD_eq_getElem?_getD, List.getD_eq_getElem?_getD, List.getElem?_append_left h]
theorem Fs.evt_snoc_last {l : List Evt} {e : Evt} : lEvt (l ++ [e]) l.length = e := by
  unfold lEvt; rw [List.getD_eq_getElem?_getD, List.getElem?_append_right (Nat.le_refl _)]; simp
def elseB : ByteArray := ⟨#[101, 108, 115, 101]⟩
theorem Fs.done_more {x : Thg} {l : List Evt} {day : Int} (h : chainErr x l = 0) (hn : 0 < l.length) (h10 : l.length ≤ 29) (hk : 2 ≤ (lEvt l (l.length - 1)).kind) (hd : (lEvt l (l.length - 1)).day ≤ day) (h0 : 0 ≤ day) (h1 : day ≤ 100000) :
    chainErr x (l ++ [⟨x.name, day, 1, (lEvt l (l.length - 1)).dst, elseB⟩]) = 22 ∧ chainAt x (l ++ [⟨x.name, day, 1, (lEvt l (l.length - 1)).dst, elseB⟩]) = l.length := by
  obtain ⟨c1, c2, c3⟩ := chain_ok h
  obtain ⟨e, he⟩ : ∃ e : Evt, e = ⟨x.name, day, 1, (lEvt l (l.length - 1)).dst, elseB⟩ := ⟨_, rfl⟩
  rw [← he]
  have htk : (l ++ [e]).take l.length = l := List.take_left
  refine chain_hit c1 (by rw [List.length_append]; simp; omega) (by rw [List.length_append]; simp) (fun j hj => ?_) ?_ (by decide)
  · rw [← evtAt_take (n := l.length) hj, htk]; exact c3 j hj
  · have hl : lEvt (l ++ [e]) l.length = e := evt_snoc_last
    have hnm := (evt_all (c3 (l.length - 1) (by omega))).2
    have hdy : dayOf x (l ++ [e]) l.length = (lEvt l (l.length - 1)).day := by
      unfold dayOf; rw [if_neg (by omega), evt_snoc_left (by omega)]
    have hen : endedOf (l ++ [e]) l.length = true := by
      unfold endedOf; rw [if_neg (by omega), evt_snoc_left (by omega)]; exact decide_eq_true hk
    unfold evtAt
    rw [hl, hdy, hen, he]
    have e1 : isDay day = true := Fs.within_iff.2 ⟨h0, h1⟩
    have e2 : isName elseB = true := by decide +kernel
    rw [if_neg (fun hh => hh rfl), if_neg (show ¬ isDay day = false by rw [e1]; decide), if_neg (show ¬ within 1 0 4 = false by decide), if_neg (show ¬ (isName (lEvt l (l.length - 1)).dst = false ∨ isName elseB = false) by rw [hnm, e2]; decide), if_neg (show ¬ day < (lEvt l (l.length - 1)).day by omega), if_pos (.inr rfl)]
theorem Fs.done_office {x : Thg} {l : List Evt} {day : Int} (h : chainErr x l = 0) (hD : Done x l day) (h0 : 0 ≤ day) (h1 : day ≤ 100000) : ovErr [⟨x, l⟩] day = 0 ∧ ovOut [⟨x, l⟩] day = [] := by
  obtain ⟨c1, c2, c3⟩ := chain_ok h
  have k0 : kptAt [⟨x, l⟩] 0 = 0 := by
    unfold kptAt
    rw [if_neg (fun hh => hh c1), if_neg (by rw [hasText_no (fun j hj => absurd hj (Nat.not_lt_zero _))]; decide)]
  have k1 : kchF [⟨x, l⟩] 0 = 0 := by
    unfold kchF
    rw [gfst_two, if_neg (fun hh => hh k0)]; exact h
  have k2 : gmanyErr 1 40 (kchF [⟨x, l⟩]) = 0 := by
    unfold gmanyErr
    rw [if_neg (by decide)]
    exact fst_none fun j hj => by obtain rfl : j = 0 := by omega
                                  exact k1
  have k3 : dayErr day 0 = 0 := if_pos (Fs.within_iff.2 ⟨h0, h1⟩)
  have k4 : ovErr [⟨x, l⟩] day = 0 := by
    unfold ovErr
    rw [gfst_two, if_neg (fun hh => hh k2)]; exact k3
  refine ⟨k4, (if_pos k4).trans ?_⟩
  have k5 : isOff [⟨x, l⟩] day 0 = false := by
    unfold isOff
    show decide (rightOf l (untilN l day) day = 3) = false
    rw [hD.unt, hD.right]; decide
  show (if isOff [⟨x, l⟩] day 0 = true then _ else _) = _
  rw [if_neg (by rw [k5]; decide)]
  rfl
set_option linter.unusedSimpArgs false in
set_option maxHeartbeats 12800000 in
set_option maxRecDepth 100000 in
theorem lawChain10_any (x : Thg) (v : Value) (l : List Evt) (A : Option Addr) (c : Nat) (w : World) (hv : RdThg w v x) (h : ArrEv w A l c) :
    Calls Tryz.prog 54 #[v, .slice A l.length c] w fun e w' => IfB (x.marks.length ≤ 10 ∧ l.length ≤ 32 ∧ (l.length ≤ 10 ∨ 30 < l.length)) e ∧ Below w.heap.size w w' := by
  obtain ⟨p, pc, rfl, m⟩ := hv
  have b1 := h.le.1
  have b2 := h.le.2
  have HW := Lib.hid ((Below.refl w.heap.size w).alloc (Nat.le_refl _) (.cells #[.string x.name, .int .i64 x.day, .string x.who, .slice p x.marks.length pc] 24))
  have M := Lib.hid (m.keep (Keep.below HW.out))
  have HA := Lib.hid h
  obtain ⟨q0, q1, q2, q3⟩ := ThgAt.new w x p pc 24
  clear m h
  go_enter Tryz.func54, Tryz.ntmps54
  go_upto_region 1 with fail
  generalize hwb : w.alloc _ = wb at *
  clear hwb
  go_wp2_with fail
  refine (lawItem_any x _ _ ⟨_, _, rfl, M.out⟩).mono ?_
  rintro e' w1 ⟨⟨bb, rfl, hbb⟩, hb1⟩
  replace HW := Lib.hid (HW.out.trans (hb1.mono HW.out.size))
  clear hb1 q0 q1 q2 q3
  cases bb with
  | false =>
    go_wp2_with fail
    go_ret
    exact ⟨⟨_, rfl, fun hh => absurd hh (by decide)⟩, HW.out⟩
  | true =>
    have HM := Lib.hid (hbb rfl)
    clear hbb
    by_cases r1 : l.length ≤ 10
    · have H1 : Hid (l.length ≤ 32 ∧ (l.length ≤ 10 ∨ 30 < l.length)) := Lib.hid ⟨by omega, .inl r1⟩
      have f0 : decide ((l.length : Int) > 10) = false := decide_eq_false (by omega)
      have g0 : decide ((10 : Int) < (l.length : Int)) = false := decide_eq_false (by omega)
      have f1 : decide ((l.length : Int) ≤ 30) = true := decide_eq_true (by omega)
      have f2 : decide ((l.length : Int) > 32) = false := decide_eq_false (by omega)
      have g2 : decide ((32 : Int) < (l.length : Int)) = false := decide_eq_false (by omega)
      go_wp2_with fail
      go_loopw [5] (fun u wr => ∃ k : Nat, k ≤ l.length ∧ u = .int .i64 k ∧ Hid (Below w.heap.size w wr)) (fun u _ => l.length - (intOf u).toNat)
      case atStart => exact ⟨0, Nat.zero_le _, rfl, HW⟩
      case round =>
        obtain ⟨k, hk, rfl, HB⟩ := hrel
        by_cases hlt : k < l.length
        · have hkn : (k : Int) < (l.length : Int) := by omega
          obtain ⟨b, o, rfl, q0, q1, q2, q3, q4⟩ := (HA.out.keep (Keep.below HB.out)).at_ hlt
          by_cases h1 : (20 : Int) < ((lEvt l k).item.size : Int)
          · have e1a : decide ((20 : Int) < ((lEvt l k).item.size : Int)) = true := decide_eq_true h1
            have e1b : decide (((lEvt l k).item.size : Int) > 20) = true := decide_eq_true h1
            go_wp2_with fail
            go_ret
            exact ⟨⟨_, rfl, fun hh => absurd hh (by decide)⟩, HB.out⟩
          · have e1a : decide ((20 : Int) < ((lEvt l k).item.size : Int)) = false := decide_eq_false h1
            have e1b : decide (((lEvt l k).item.size : Int) > 20) = false := decide_eq_false h1
            by_cases h2 : (20 : Int) < ((lEvt l k).src.size : Int)
            · have e2a : decide ((20 : Int) < ((lEvt l k).src.size : Int)) = true := decide_eq_true h2
              have e2b : decide (((lEvt l k).src.size : Int) > 20) = true := decide_eq_true h2
              go_wp2_with fail
              go_ret
              exact ⟨⟨_, rfl, fun hh => absurd hh (by decide)⟩, HB.out⟩
            · have e2a : decide ((20 : Int) < ((lEvt l k).src.size : Int)) = false := decide_eq_false h2
              have e2b : decide (((lEvt l k).src.size : Int) > 20) = false := decide_eq_false h2
              by_cases h3 : (20 : Int) < ((lEvt l k).dst.size : Int)
              · have e3a : decide ((20 : Int) < ((lEvt l k).dst.size : Int)) = true := decide_eq_true h3
                have e3b : decide (((lEvt l k).dst.size : Int) > 20) = true := decide_eq_true h3
                go_wp2_with fail
                go_ret
                exact ⟨⟨_, rfl, fun hh => absurd hh (by decide)⟩, HB.out⟩
              · have e3a : decide ((20 : Int) < ((lEvt l k).dst.size : Int)) = false := decide_eq_false h3
                have e3b : decide (((lEvt l k).dst.size : Int) > 20) = false := decide_eq_false h3
                go_wp2_with fail
                go_roundw
                case rel => exact ⟨k + 1, by omega, by go_num, HB⟩
                case measure => simp [intOf]; omega
        · go_wp2_with fail
          go_ret
          exact ⟨⟨_, rfl, fun _ => ⟨HM.out, H1.out⟩⟩, HB.out⟩
    · by_cases r2 : l.length ≤ 30
      · have f0 : decide ((l.length : Int) > 10) = true := decide_eq_true (by omega)
        have g0 : decide ((10 : Int) < (l.length : Int)) = true := decide_eq_true (by omega)
        have f1 : decide ((l.length : Int) ≤ 30) = true := decide_eq_true (by omega)
        have f2 : decide ((l.length : Int) > 32) = false := decide_eq_false (by omega)
        have g2 : decide ((32 : Int) < (l.length : Int)) = false := decide_eq_false (by omega)
        go_wp2_with fail
        go_ret
        exact ⟨⟨_, rfl, fun hh => absurd hh (by decide)⟩, HW.out⟩
      · by_cases r3 : l.length ≤ 32
        · have H1 : Hid (l.length ≤ 32 ∧ (l.length ≤ 10 ∨ 30 < l.length)) := Lib.hid ⟨r3, .inr (by omega)⟩
          have f0 : decide ((l.length : Int) > 10) = true := decide_eq_true (by omega)
          have g0 : decide ((10 : Int) < (l.length : Int)) = true := decide_eq_true (by omega)
          have f1 : decide ((l.length : Int) ≤ 30) = false := decide_eq_false (by omega)
          have f2 : decide ((l.length : Int) > 32) = false := decide_eq_false (by omega)
          have g2 : decide ((32 : Int) < (l.length : Int)) = false := decide_eq_false (by omega)
          go_wp2_with fail
          go_loopw [5] (fun u wr => ∃ k : Nat, k ≤ l.length ∧ u = .int .i64 k ∧ Hid (Below w.heap.size w wr)) (fun u _ => l.length - (intOf u).toNat)
          case atStart => exact ⟨0, Nat.zero_le _, rfl, HW⟩
          case round =>
            obtain ⟨k, hk, rfl, HB⟩ := hrel
            by_cases hlt : k < l.length
            · have hkn : (k : Int) < (l.length : Int) := by omega
              obtain ⟨b, o, rfl, q0, q1, q2, q3, q4⟩ := (HA.out.keep (Keep.below HB.out)).at_ hlt
              by_cases h1 : (20 : Int) < ((lEvt l k).item.size : Int)
              · have e1a : decide ((20 : Int) < ((lEvt l k).item.size : Int)) = true := decide_eq_true h1
                have e1b : decide (((lEvt l k).item.size : Int) > 20) = true := decide_eq_true h1
                go_wp2_with fail
                go_ret
                exact ⟨⟨_, rfl, fun hh => absurd hh (by decide)⟩, HB.out⟩
              · have e1a : decide ((20 : Int) < ((lEvt l k).item.size : Int)) = false := decide_eq_false h1
                have e1b : decide (((lEvt l k).item.size : Int) > 20) = false := decide_eq_false h1
                by_cases h2 : (20 : Int) < ((lEvt l k).src.size : Int)
                · have e2a : decide ((20 : Int) < ((lEvt l k).src.size : Int)) = true := decide_eq_true h2
                  have e2b : decide (((lEvt l k).src.size : Int) > 20) = true := decide_eq_true h2
                  go_wp2_with fail
                  go_ret
                  exact ⟨⟨_, rfl, fun hh => absurd hh (by decide)⟩, HB.out⟩
                · have e2a : decide ((20 : Int) < ((lEvt l k).src.size : Int)) = false := decide_eq_false h2
                  have e2b : decide (((lEvt l k).src.size : Int) > 20) = false := decide_eq_false h2
                  by_cases h3 : (20 : Int) < ((lEvt l k).dst.size : Int)
                  · have e3a : decide ((20 : Int) < ((lEvt l k).dst.size : Int)) = true := decide_eq_true h3
                    have e3b : decide (((lEvt l k).dst.size : Int) > 20) = true := decide_eq_true h3
                    go_wp2_with fail
                    go_ret
                    exact ⟨⟨_, rfl, fun hh => absurd hh (by decide)⟩, HB.out⟩
                  · have e3a : decide ((20 : Int) < ((lEvt l k).dst.size : Int)) = false := decide_eq_false h3
                    have e3b : decide (((lEvt l k).dst.size : Int) > 20) = false := decide_eq_false h3
                    go_wp2_with fail
                    go_roundw
                    case rel => exact ⟨k + 1, by omega, by go_num, HB⟩
                    case measure => simp [intOf]; omega
            · go_wp2_with fail
              go_ret
              exact ⟨⟨_, rfl, fun _ => ⟨HM.out, H1.out⟩⟩, HB.out⟩
        · have f0 : decide ((l.length : Int) > 10) = true := decide_eq_true (by omega)
          have g0 : decide ((10 : Int) < (l.length : Int)) = true := decide_eq_true (by omega)
          have f1 : decide ((l.length : Int) ≤ 30) = false := decide_eq_false (by omega)
          have f2 : decide ((l.length : Int) > 32) = true := decide_eq_true (by omega)
          have g2 : decide ((32 : Int) < (l.length : Int)) = true := decide_eq_true (by omega)
          go_wp2_with fail
          go_ret
          exact ⟨⟨_, rfl, fun hh => absurd hh (by decide)⟩, HW.out⟩
set_option maxHeartbeats 400000 in
theorem rCopyEventsO_any (l : List Evt) (A : Option Addr) (c : Nat) (w : World) (h : ArrEv w A l c) (hn : l.length ≤ 1000000) :
    Calls Tryz.prog 56 #[.slice A l.length c] w fun e w' => ∃ v, e = .returned v ∧ w'.ownsRow w.heap.size 107 5 v l.length (flat l.length 5 fun i j => evtCells (lEvt l i) j) ∧ Below w.heap.size w w' := by
  obtain ⟨i0, hi, hz0, hz1, hz2⟩ := info_parts Tryz.infoEvt
  go_enter Tryz.func56, Tryz.ntmps56
  go_wp2_with (at_builtin
               refine wpList_copy rfl (.tmp 3) (.tmp 4) 86 rfl 107 i0 (.agg #[.string ⟨#[]⟩, .int .i64 0, .int .i64 0, .string ⟨#[]⟩, .string ⟨#[]⟩]) 5 64 Tryz.underlying86 hi hz0 hz1 hz2 rfl (by decide) w.heap.size w.heap.size rfl (Nat.le_refl _) (heap_alloc_new _ _) A l.length c _ rfl (Arr.keep (Keep.alloc w _) h) (by intro i j; unfold evtCells; split <;> rfl) (by unfold maxLen; omega) (by omega) ?_
               intro A1 c1 w1 ha hb)
  go_ret
  exact ⟨_, rfl, ha, ((Below.refl _ _).alloc (Nat.le_refl _) _).trans hb⟩
end Go.Proofs.YtfjdnbnalihjiaaGreatDoor

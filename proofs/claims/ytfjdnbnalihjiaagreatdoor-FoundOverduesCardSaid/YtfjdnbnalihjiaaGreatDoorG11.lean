/- Beginnings of chains, plainly: what comes later changes nothing; a right never goes back. No condition. -/
import Derived.Test.YtfjdnbnalihjiaaGreatDoorK8
namespace Go.Proofs.YtfjdnbnalihjiaaGreatDoor
open Go.RowKit Fs

namespace Fs
theorem evt_take {l : List Evt} {n j : Nat} (h : j < n) : lEvt (l.take n) j = lEvt l j := by
  unfold lEvt
  rw [List.getD_eq_getElem?_getD, List.getD_eq_getElem?_getD, List.getElem?_take_of_lt h]
theorem day_take {x : Thg} {l : List Evt} {n k : Nat} (h : k ≤ n) : dayOf x (l.take n) k = dayOf x l k := by
  unfold dayOf
  by_cases e : k = 0
  · rw [if_pos e, if_pos e]
  · rw [if_neg e, if_neg e, evt_take (by omega)]
theorem holder_take {x : Thg} {l : List Evt} {n k : Nat} (h : k ≤ n) : holderOf x (l.take n) k = holderOf x l k := by
  unfold holderOf
  by_cases e : k = 0
  · rw [if_pos e, if_pos e]
  · rw [if_neg e, if_neg e, evt_take (by omega)]
theorem ended_take {l : List Evt} {n k : Nat} (h : k ≤ n) : endedOf (l.take n) k = endedOf l k := by
  unfold endedOf
  by_cases e : k = 0
  · rw [if_pos e, if_pos e]
  · rw [if_neg e, if_neg e, evt_take (by omega)]
theorem state_take {l : List Evt} {n k : Nat} (h : k ≤ n) : stateOf (l.take n) k = stateOf l k := by
  unfold stateOf
  by_cases e : k = 0
  · rw [if_pos e, if_pos e]
  · rw [if_neg e, if_neg e, evt_take (by omega)]
theorem right_take {l : List Evt} {n k : Nat} (h : k ≤ n) (d : Int) : rightOf (l.take n) k d = rightOf l k d := by
  unfold rightOf
  by_cases e : k = 0
  · rw [if_pos e, if_pos e]
  · rw [if_neg e, if_neg e, evt_take (by omega), evt_take (by omega)]
theorem evtAt_take {x : Thg} {l : List Evt} {n j : Nat} (h : j < n) : evtAt x (l.take n) j = evtAt x l j := by
  unfold evtAt
  rw [evt_take h, day_take (by omega), ended_take (by omega), holder_take (by omega), right_take (by omega)]
theorem chain_take {x : Thg} {l : List Evt} (h : chainErr x l = 0) (n : Nat) : chainErr x (l.take n) = 0 := by
  obtain ⟨h0, h1, h2⟩ := chain_ok h
  refine (chain_zero h0 (by rw [List.length_take]; omega) fun j hj => ?_).1
  rw [List.length_take] at hj
  rw [evtAt_take (by omega)]
  exact h2 j (by omega)
theorem on_take {x : Thg} {l : List Evt} (h : chainErr x l = 0) (n : Nat) (d : Int) : onErr x (l.take n) d = onErr x l d := by
  unfold onErr
  rw [chain_take h n, h]
theorem until_ex (l : List Evt) (d : Int) : ∃ k, k ≤ l.length ∧ (∀ j, j < k → (lEvt l j).day ≤ d) ∧ (k < l.length → d < (lEvt l k).day) := by
  have key : ∀ m i, i + m = l.length → (∀ j, j < i → (lEvt l j).day ≤ d) → ∃ k, k ≤ l.length ∧ (∀ j, j < k → (lEvt l j).day ≤ d) ∧ (k < l.length → d < (lEvt l k).day) := by
    intro m
    induction m with
    | zero => intro i hi h; exact ⟨i, by omega, h, fun hh => by omega⟩
    | succ m ih =>
      intro i hi h
      by_cases e : (lEvt l i).day ≤ d
      · exact ih (i + 1) (by omega) (fun j hj => by
          by_cases e2 : j = i
          · subst e2; exact e
          · exact h j (by omega))
      · exact ⟨i, by omega, h, fun _ => by omega⟩
  exact key l.length 0 (by omega) (fun j hj => absurd hj (Nat.not_lt_zero _))
theorem until_spec (l : List Evt) (d : Int) : untilN l d ≤ l.length ∧ (∀ j, j < untilN l d → (lEvt l j).day ≤ d) ∧ (untilN l d < l.length → d < (lEvt l (untilN l d)).day) := by
  obtain ⟨k, h1, h2, h3⟩ := until_ex l d
  rw [until_eq h1 h3 h2]
  exact ⟨h1, h2, h3⟩
theorem until_take {l : List Evt} {n : Nat} (hn : n ≤ l.length) {d : Int} (h : n < l.length → d < (lEvt l n).day) : untilN (l.take n) d = untilN l d ∧ untilN l d ≤ n := by
  obtain ⟨h1, h2, h3⟩ := until_spec (l.take n) d
  rw [List.length_take, Nat.min_eq_left hn] at h1 h3
  have e : untilN l d = untilN (l.take n) d := until_eq (by omega) (fun hk => by
    by_cases e : untilN (l.take n) d < n
    · have := h3 e; rwa [evt_take e] at this
    · have e2 : untilN (l.take n) d = n := by omega
      rw [e2] at hk ⊢
      exact h hk) (fun j hj => by have := h2 j hj; rwa [evt_take (by omega)] at this)
  exact ⟨e.symm, by omega⟩
theorem same_take {x : Thg} {l : List Evt} (hc : chainErr x l = 0) {n : Nat} (hn : n ≤ l.length) {d : Int} (h : n < l.length → d < (lEvt l n).day) :
    hoOut x (l.take n) d = hoOut x l d ∧ stOut x (l.take n) d = stOut x l d ∧ riOut x (l.take n) d = riOut x l d := by
  obtain ⟨h1, h2⟩ := until_take hn h
  unfold hoOut stOut riOut
  rw [on_take hc, h1, holder_take h2, state_take h2, right_take h2]
  exact ⟨rfl, rfl, rfl⟩
/-- The owner's, the finder's, the office's, nobody's. -/
def ordR (r : Int) : Int := if r = 0 then 3 else r - 1
theorem right_in (l : List Evt) (k : Nat) (d : Int) : 0 ≤ rightOf l k d ∧ rightOf l k d ≤ 3 := by
  unfold rightOf
  repeat' split
  all_goals omega
theorem right_up {x : Thg} {l : List Evt} (hc : chainErr x l = 0) {a b : Int} (hab : a ≤ b) : ordR (rightOf l (untilN l a) a) ≤ ordR (rightOf l (untilN l b) b) := by
  obtain ⟨-, -, hz⟩ := chain_ok hc
  obtain ⟨a1, a2, a3⟩ := until_spec l a
  obtain ⟨b1, b2, b3⟩ := until_spec l b
  have hk : untilN l a ≤ untilN l b := by
    by_cases e : untilN l a ≤ untilN l b
    · exact e
    · have h1 := b3 (by omega)
      have h2 := a2 (untilN l b) (by omega)
      omega
  generalize untilN l a = p at *
  generalize untilN l b = q at *
  have hr := right_in l q b
  by_cases p0 : p = 0
  · have : rightOf l p a = 1 := if_pos p0
    rw [this]
    unfold ordR
    rw [if_neg (by decide)]
    split <;> omega
  · by_cases dq : isDone (lEvt l (q - 1)).kind = true
    · have e1 : rightOf l q b = 0 := by unfold rightOf; rw [if_neg (by omega), if_pos dq]
      have := right_in l p a
      rw [e1]
      unfold ordR
      rw [if_pos rfl]
      split <;> omega
    · have dp : ¬ isDone (lEvt l (p - 1)).kind = true := by
        by_cases e : p = q
        · rw [e]; exact dq
        · intro hd
          have h1 := hz p (by omega)
          have h2 : endedOf l p = true := by unfold endedOf; rw [if_neg p0]; exact hd
          unfold evtAt at h1
          by_cases c0 : (lEvt l p).item ≠ x.name
          · rw [if_pos c0] at h1; exact absurd h1 (by decide)
          · rw [if_neg c0] at h1
            by_cases c1 : isDay (lEvt l p).day = false
            · rw [if_pos c1] at h1; exact absurd h1 (by decide)
            · rw [if_neg c1] at h1
              by_cases c2 : within (lEvt l p).kind 0 4 = false
              · rw [if_pos c2] at h1; exact absurd h1 (by decide)
              · rw [if_neg c2] at h1
                by_cases c3 : isName (lEvt l p).src = false ∨ isName (lEvt l p).dst = false
                · rw [if_pos c3] at h1; exact absurd h1 (by decide)
                · rw [if_neg c3] at h1
                  by_cases c4 : (lEvt l p).day < dayOf x l p
                  · rw [if_pos c4] at h1; exact absurd h1 (by decide)
                  · rw [if_neg c4, if_pos (Or.inr h2)] at h1; exact absurd h1 (by decide)
      have e1 : rightOf l p a = if a - (lEvt l 0).day ≤ 180 then 1 else if a - (lEvt l 0).day ≤ 210 then 2 else 3 := by unfold rightOf; rw [if_neg p0, if_neg dp]
      have e2 : rightOf l q b = if b - (lEvt l 0).day ≤ 180 then 1 else if b - (lEvt l 0).day ≤ 210 then 2 else 3 := by unfold rightOf; rw [if_neg (by omega), if_neg dq]
      rw [e1, e2]
      unfold ordR
      by_cases x1 : b - (lEvt l 0).day ≤ 180
      · rw [if_pos x1, if_pos (show a - (lEvt l 0).day ≤ 180 by omega)]
        exact Int.le_refl _
      · rw [if_neg x1]
        by_cases x2 : b - (lEvt l 0).day ≤ 210
        · rw [if_pos x2]
          by_cases y1 : a - (lEvt l 0).day ≤ 180
          · rw [if_pos y1]; decide
          · rw [if_neg y1, if_pos (show a - (lEvt l 0).day ≤ 210 by omega)]; decide
        · rw [if_neg x2]
          by_cases y1 : a - (lEvt l 0).day ≤ 180
          · rw [if_pos y1]; decide
          · rw [if_neg y1]
            by_cases y2 : a - (lEvt l 0).day ≤ 210
            · rw [if_pos y2]; decide
            · rw [if_neg y2]; decide
end Fs
theorem ArrEv.take {w : World} {A : Option Addr} {l : List Evt} {c : Nat} (h : ArrEv w A l c) (n : Nat) : ArrEv w A (l.take n) c := by
  refine ⟨by have := h.1; rw [List.length_take]; omega, h.2.1, fun hn => ?_⟩
  rw [List.length_take] at hn
  obtain ⟨b, o, e, hc⟩ := h.2.2 (by omega)
  refine ⟨b, o, e, fun i j hi hj => ?_⟩
  rw [List.length_take] at hi
  show _ = some (evtCells (lEvt (l.take n) i) j)
  rw [evt_take (by omega)]
  exact hc i j (by omega) hj
end Go.Proofs.YtfjdnbnalihjiaaGreatDoor

/- The reference's error of a road, and the point that has it. No condition. -/
import Derived.Test.YtfjdnbnalihjiaaGreatDoorT6
import Derived.Deep.CutRange
namespace Go.Proofs.YtfjdnbnalihjiaaGreatDoor
open Go.RowKit Fs

theorem Fs.ref_order {p q : Pt} (hp : ptRight p = true) (hq : ptRight q = true) (hne : p.hour ≠ q.hour ∨ (p.lo = q.lo ∧ p.hi = q.hi)) :
    inOrder p q = !(decide (q.lo < p.lo - (q.hour - p.hour) % 86400) || decide (q.hi < p.hi - (q.hour - p.hour) % 86400)) := by
  obtain ⟨ph, pl, pp⟩ := ptRight_is hp
  obtain ⟨qh, ql, qq⟩ := ptRight_is hq
  have key : ∀ x y : Int, (0 ≤ x ∧ x ≤ 7200) → (0 ≤ y ∧ y ≤ 7200) → (p.hour ≠ q.hour ∨ x = y) → decide (x - y ≤ secondsTo p.hour q.hour) = !decide (y < x - (q.hour - p.hour) % 86400) := by
    intro x y hx hy hxy
    rw [← decide_not, decide_eq_decide]
    unfold secondsTo
    omega
  unfold inOrder
  rw [key _ _ pl ql (hne.imp id (·.1)), key _ _ pp qq (hne.imp id (·.2)), Bool.not_or]
/-- Neighbours are at different times of the day, or the same point. -/
theorem Fs.pair_apart {l : List Pt} (h : ∀ j, j < l.length → errPoint l j = 0) {k j : Nat} (hk : k < l.length) (hj : j = (k + 1) % l.length) : (listP l k).hour ≠ (listP l j).hour ∨ ((listP l k).lo = (listP l j).lo ∧ (listP l k).hi = (listP l j).hi) := by
  have up : ∀ b, b < l.length → ∀ a, a < b → (listP l a).hour < (listP l b).hour := by
    intro b
    induction b with
    | zero => intro _ a ha; omega
    | succ b ih =>
      intro hb a ha
      have h1 := h (b + 1) hb
      have h2 : ¬ ((listP l (b + 1)).hi < (listP l (b + 1)).lo ∨ (0 < b + 1 ∧ (listP l (b + 1)).hour ≤ (listP l b).hour)) := fun hh => by
        rw [errPoint_order (errPoint_right h1) (by simpa using hh)] at h1; cases h1
      have h3 : (listP l b).hour < (listP l (b + 1)).hour := by omega
      by_cases e : a = b
      · subst e; exact h3
      · have := ih (by omega) a (by omega); omega
  by_cases e : k + 1 = l.length
  · have hj0 : j = 0 := by rw [hj, e, Nat.mod_self]
    subst hj0
    by_cases e0 : k = 0
    · subst e0; exact .inr ⟨rfl, rfl⟩
    · left; have := up k hk 0 (by omega); omega
  · have hj1 : j = k + 1 := by rw [hj, Nat.mod_eq_of_lt (by omega)]
    subst hj1
    left; have := up (k + 1) (by omega) k (by omega); omega

theorem PtAt.new1 (w : World) (A : Obj) (p : Pt) (t : TypeId) : PtAt ((w.alloc A).alloc (.cells #[.int .i64 p.hour, .int .i64 p.lo, .int .i64 p.hi] t)) (w.heap.size + 1) p := ⟨cellNew1 _ _ _ _ 0, cellNew1 _ _ _ _ 1, cellNew1 _ _ _ _ 2⟩

end Go.Proofs.YtfjdnbnalihjiaaGreatDoor

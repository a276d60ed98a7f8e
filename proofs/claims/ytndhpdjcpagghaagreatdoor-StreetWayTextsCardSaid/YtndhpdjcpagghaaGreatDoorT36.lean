/- How long a road takes, as the reference tells it. Conditions: its points are right; the time is small. -/
import Derived.Test.YtndhpdjcpagghaaGreatDoorT31
import Derived.Test.YtndhpdjcpagghaaGreatDoorT6
import Derived.Deep.RegionHeld3
namespace Go.Proofs.YtndhpdjcpagghaaGreatDoor
open Go.RowKit Fs

theorem Fs.ceil_is {m all : Int} (ha : 1 ≤ all) : -((-m) / all) = (m + all - 1) / all := by
  have h := Int.emod_add_mul_ediv (-m) all
  have h0 := Int.emod_nonneg (-m) (show all ≠ 0 by omega)
  have h1 := Int.emod_lt_of_pos (-m) (show 0 < all by omega)
  generalize (-m) / all = q at *
  generalize (-m) % all = r at *
  have e : m + all - 1 = (all - 1 - r) + all * (-q) := by
    rw [Int.mul_neg]; omega
  rw [e, Int.add_mul_ediv_left _ _ (by omega), Int.ediv_eq_zero_of_lt (by omega) (by omega)]
  omega
theorem Fs.line_ref {x y left all : Int} (ha : 1 ≤ all) : onLine x y left all = x + -((-((y - x) * (all - left))) / all) := by
  rw [ceil_is ha]
  have e : x * left + y * (all - left) + all - 1 = ((y - x) * (all - left) + all - 1) + all * x := by
    have h1 : (y - x) * (all - left) = y * (all - left) - x * (all - left) := Int.sub_mul _ _ _
    have h2 : x * (all - left) = x * all - x * left := Int.mul_sub _ _ _
    have h3 : all * x = x * all := Int.mul_comm _ _
    omega
  unfold onLine
  rw [e, Int.add_mul_ediv_left _ _ (by omega)]
  omega
theorem Fs.line_same {x left all : Int} (ha : 1 ≤ all) : onLine x x left all = x := by
  rw [line_ref ha, Int.sub_self, Int.zero_mul]
  simp
/-- A time lies between two neighbours. -/
theorem Fs.around {l : List Pt} (h : PtsOk l) {t : Int} (ht : 0 ≤ t ∧ t ≤ 86399) :
    (t - (listP l (prevOf l t)).hour) % 86400 + secondsTo t (listP l (nextOf l t)).hour = secondsTo (listP l (prevOf l t)).hour (listP l (nextOf l t)).hour := by
  have hn := h.1
  obtain ⟨hk, hb, ha⟩ := behind_is l t
  unfold prevOf nextOf
  generalize behind l t = k at *
  by_cases e0 : k = 0
  · subst e0
    have ha := ha (by omega)
    rw [Nat.zero_mod, Nat.zero_add, Nat.mod_eq_of_lt (show l.length - 1 < l.length by omega)]
    have r0 := ptRight_is (h.right (j := 0) (by omega))
    have r1 := ptRight_is (h.right (j := l.length - 1) (by omega))
    have h1 : (listP l 0).hour ≤ (listP l (l.length - 1)).hour := by
      by_cases e1 : l.length - 1 = 0
      · rw [e1]; exact Int.le_refl _
      · have := h.up (l.length - 1) (by omega) 0 (by omega); omega
    unfold secondsTo
    omega
  · have e1 : (k + l.length - 1) % l.length = k - 1 := by
      rw [show k + l.length - 1 = (k - 1) + l.length by omega, Nat.add_mod_right, Nat.mod_eq_of_lt (by omega)]
    rw [e1]
    have hb1 := hb (k - 1) (by omega)
    have r1 := ptRight_is (h.right (j := k - 1) (by omega))
    by_cases e2 : k = l.length
    · have : k % l.length = 0 := by rw [e2, Nat.mod_self]
      rw [this]
      have r0 := ptRight_is (h.right (j := 0) (by omega))
      have h1 : (listP l 0).hour ≤ (listP l (k - 1)).hour := by
        by_cases e3 : k - 1 = 0
        · rw [e3]; exact Int.le_refl _
        · have := h.up (k - 1) (by omega) 0 (by omega); omega
      unfold secondsTo
      omega
    · rw [Nat.mod_eq_of_lt (by omega)]
      have ha := ha (by omega)
      have r0 := ptRight_is (h.right (j := k) (by omega))
      unfold secondsTo
      omega
/-- The reference's index: the last point that is not behind the time, of the first i, or the last one of all. -/
def Fs.refK (b n i : Nat) : Nat := if min i b = 0 then n - 1 else min i b - 1
theorem Fs.refK_end {l : List Pt} (hl : l.length ≠ 0) (t : Int) : refK (behind l t) l.length l.length = prevOf l t := by
  have hb := (behind_is l t).1
  unfold refK prevOf
  rw [Nat.min_eq_right hb]
  by_cases e : behind l t = 0
  · rw [if_pos e, e, Nat.zero_add, Nat.mod_eq_of_lt (by omega)]
  · rw [if_neg e, show behind l t + l.length - 1 = (behind l t - 1) + l.length by omega, Nat.add_mod_right, Nat.mod_eq_of_lt (by omega)]
theorem Fs.refK_yes {l : List Pt} (h : PtsOk l) {t : Int} {i : Nat} (hi : i < l.length) (hh : (listP l i).hour ≤ t) : refK (behind l t) l.length (i + 1) = i := by
  obtain ⟨-, -, ha⟩ := behind_is l t
  have : i < behind l t := by
    rcases Nat.lt_or_ge i (behind l t) with h1 | h1
    · exact h1
    · have h2 := ha (by omega)
      by_cases e : behind l t = i
      · rw [e] at h2; omega
      · have := h.up i hi (behind l t) (by omega); omega
  unfold refK
  rw [Nat.min_eq_left (by omega), if_neg (by omega)]
  omega
theorem Fs.refK_no {l : List Pt} {t : Int} {i : Nat} (hh : t < (listP l i).hour) : refK (behind l t) l.length (i + 1) = refK (behind l t) l.length i := by
  obtain ⟨-, hb, -⟩ := behind_is l t
  have : behind l t ≤ i := by
    rcases Nat.lt_or_ge i (behind l t) with h1 | h1
    · have := hb i h1; omega
    · exact h1
  unfold refK
  rw [Nat.min_eq_right (by omega), Nat.min_eq_right this]
def Fs.gapOf (l : List Pt) (t : Int) : Int := ((listP l (nextOf l t)).hour - (listP l (prevOf l t)).hour) % 86400
def Fs.offOf (l : List Pt) (t : Int) : Int := (t - (listP l (prevOf l t)).hour) % 86400
theorem Fs.takesAt_one {l : List Pt} (h : PtsOk l) {a : Int} (hz : gapOf l (a % 86400) = 0) : takesAt l a = ((listP l (prevOf l (a % 86400))).lo, (listP l (prevOf l (a % 86400))).hi) := by
  have hn : 0 < l.length := Nat.pos_of_ne_zero h.1
  obtain ⟨np, hp⟩ := next_prev l (a % 86400) h.1
  have hq : nextOf l (a % 86400) < l.length := by rw [np]; exact Nat.mod_lt _ hn
  have r1 := (ptRight_is (h.right hp)).1
  have r2 := (ptRight_is (h.right hq)).1
  have e : (listP l (nextOf l (a % 86400))).hour = (listP l (prevOf l (a % 86400))).hour := by
    unfold gapOf at hz; omega
  have e2 : nextOf l (a % 86400) = prevOf l (a % 86400) := by
    rcases Nat.lt_trichotomy (nextOf l (a % 86400)) (prevOf l (a % 86400)) with h1 | h1 | h1
    · have := h.up _ hp _ h1; omega
    · exact h1
    · have := h.up _ hq _ h1; omega
  have s := secondsTo_is (listP l (prevOf l (a % 86400))).hour (listP l (prevOf l (a % 86400))).hour
  rw [takesAt_eq, e2, line_same s.1, line_same s.1]
theorem Fs.takesAt_two {l : List Pt} (h : PtsOk l) {a : Int} (hz : gapOf l (a % 86400) ≠ 0) : takesAt l a =
    ((listP l (prevOf l (a % 86400))).lo + -((-(((listP l (nextOf l (a % 86400))).lo - (listP l (prevOf l (a % 86400))).lo) * offOf l (a % 86400))) / gapOf l (a % 86400)),
     (listP l (prevOf l (a % 86400))).hi + -((-(((listP l (nextOf l (a % 86400))).hi - (listP l (prevOf l (a % 86400))).hi) * offOf l (a % 86400))) / gapOf l (a % 86400))) := by
  have k := around h (t := a % 86400) (by omega)
  have s := secondsTo_is (listP l (prevOf l (a % 86400))).hour (listP l (nextOf l (a % 86400))).hour
  have e1 : secondsTo (listP l (prevOf l (a % 86400))).hour (listP l (nextOf l (a % 86400))).hour = gapOf l (a % 86400) := by
    unfold gapOf at hz ⊢
    unfold secondsTo
    omega
  have e2 : secondsTo (listP l (prevOf l (a % 86400))).hour (listP l (nextOf l (a % 86400))).hour - secondsTo (a % 86400) (listP l (nextOf l (a % 86400))).hour = offOf l (a % 86400) := by
    unfold offOf; omega
  rw [takesAt_eq, line_ref s.1, line_ref s.1, e2, e1]

/-! ### the calls -/
end Go.Proofs.YtndhpdjcpagghaaGreatDoor
/- How long a road takes, as the reference tells it: the walk. Conditions: its points are right; the time is small. -/
namespace Go.Proofs.YtndhpdjcpagghaaGreatDoor
open Go.RowKit Fs

end Go.Proofs.YtndhpdjcpagghaaGreatDoor

/- How long a road takes, as the reference tells it. Conditions: its points are right; the time is small. -/
import Derived.Test.YtolicafhbeiciaaD3
import Derived.Test.YtolicafhbeiciaaT5
import Derived.Deep.RegionHeld3
import Derived.Test.YtolicafhbeiciaaT12
namespace Go.Proofs.Ytolicafhbeiciaa
open Go.RowKit Fs

theorem Fs.ceil_is {m all : Int} (ha : 1 ≤ all) : -((-m) / all) = (m + all - 1) / all := by
  have h := Int.emod_add_mul_ediv (-m) all
  have h0 := Int.emod_nonneg (-m) (show all ≠ 0 by omega)
  have h1 := Int.emod_lt_of_pos (-m) (show 0 < all by omega)
  generalize (-m) / all = q at *
  generalize (-m) % all = r at *
  have e : m + all - 1 = (all - 1 - r) + all * (-q) := by
    rw [Int.mul_neg]; omega
  rw [e, Int.add_mul_ediv_left _ _ (by omega), Int.ediv_eq_zero_of_lt (by omega) (by omega)]
  omega
theorem Fs.line_ref {x y left all : Int} (ha : 1 ≤ all) : onLine x y left all = x + -((-((y - x) * (all - left))) / all) := by
  rw [ceil_is ha]
  have e : x * left + y * (all - left) + all - 1 = ((y - x) * (all - left) + all - 1) + all * x := by
    have h1 : (y - x) * (all - left) = y * (all - left) - x * (all - left) := Int.sub_mul _ _ _
    have h2 : x * (all - left) = x * all - x * left := Int.mul_sub _ _ _
    have h3 : all * x = x * all := Int.mul_comm _ _
    omega
  unfold onLine
  rw [e, Int.add_mul_ediv_left _ _ (by omega)]
  omega
theorem Fs.line_same {x left all : Int} (ha : 1 ≤ all) : onLine x x left all = x := by
  rw [line_ref ha, Int.sub_self, Int.zero_mul]
  simp
/-- A time lies between two neighbours. -/
theorem Fs.around {l : List Pt} (h : PtsOk l) {t : Int} (ht : 0 ≤ t ∧ t ≤ 86399) :
    (t - (listP l (prevOf l t)).hour) % 86400 + secondsTo t (listP l (nextOf l t)).hour = secondsTo (listP l (prevOf l t)).hour (listP l (nextOf l t)).hour := by
  have hn := h.1
  obtain ⟨hk, hb, ha⟩ := behind_is l t
  unfold prevOf nextOf
  generalize behind l t = k at *
  by_cases e0 : k = 0
  · subst e0
    have ha := ha (by omega)
    rw [Nat.zero_mod, Nat.zero_add, Nat.mod_eq_of_lt (show l.length - 1 < l.length by omega)]
    have r0 := ptRight_is (h.right (j := 0) (by omega))
    have r1 := ptRight_is (h.right (j := l.length - 1) (by omega))
    have h1 : (listP l 0).hour ≤ (listP l (l.length - 1)).hour := by
      by_cases e1 : l.length - 1 = 0
      · rw [e1]; exact Int.le_refl _
      · have := h.up (l.length - 1) (by omega) 0 (by omega); omega
    unfold secondsTo
    omega
  · have e1 : (k + l.length - 1) % l.length = k - 1 := by
      rw [show k + l.length - 1 = (k - 1) + l.length by omega, Nat.add_mod_right, Nat.mod_eq_of_lt (by omega)]
    rw [e1]
    have hb1 := hb (k - 1) (by omega)
    have r1 := ptRight_is (h.right (j := k - 1) (by omega))
    by_cases e2 : k = l.length
    · have : k % l.length = 0 := by rw [e2, Nat.mod_self]
      rw [this]
      have r0 := ptRight_is (h.right (j := 0) (by omega))
      have h1 : (listP l 0).hour ≤ (listP l (k - 1)).hour := by
        by_cases e3 : k - 1 = 0
        · rw [e3]; exact Int.le_refl _
        · have := h.up (k - 1) (by omega) 0 (by omega); omega
      unfold secondsTo
      omega
    · rw [Nat.mod_eq_of_lt (by omega)]
      have ha := ha (by omega)
      have r0 := ptRight_is (h.right (j := k) (by omega))
      unfold secondsTo
      omega
/-- The reference's index: the last point that is not behind the time, of the first i, or the last one of all. -/
def Fs.refK (b n i : Nat) : Nat := if min i b = 0 then n - 1 else min i b - 1
theorem Fs.refK_end {l : List Pt} (hl : l.length ≠ 0) (t : Int) : refK (behind l t) l.length l.length = prevOf l t := by
  have hb := (behind_is l t).1
  unfold refK prevOf
  rw [Nat.min_eq_right hb]
  by_cases e : behind l t = 0
  · rw [if_pos e, e, Nat.zero_add, Nat.mod_eq_of_lt (by omega)]
  · rw [if_neg e, show behind l t + l.length - 1 = (behind l t - 1) + l.length by omega, Nat.add_mod_right, Nat.mod_eq_of_lt (by omega)]
theorem Fs.refK_yes {l : List Pt} (h : PtsOk l) {t : Int} {i : Nat} (hi : i < l.length) (hh : (listP l i).hour ≤ t) : refK (behind l t) l.length (i + 1) = i := by
  obtain ⟨-, -, ha⟩ := behind_is l t
  have : i < behind l t := by
    rcases Nat.lt_or_ge i (behind l t) with h1 | h1
    · exact h1
    · have h2 := ha (by omega)
      by_cases e : behind l t = i
      · rw [e] at h2; omega
      · have := h.up i hi (behind l t) (by omega); omega
  unfold refK
  rw [Nat.min_eq_left (by omega), if_neg (by omega)]
  omega
theorem Fs.refK_no {l : List Pt} {t : Int} {i : Nat} (hh : t < (listP l i).hour) : refK (behind l t) l.length (i + 1) = refK (behind l t) l.length i := by
  obtain ⟨-, hb, -⟩ := behind_is l t
  have : behind l t ≤ i := by
    rcases Nat.lt_or_ge i (behind l t) with h1 | h1
    · have := hb i h1; omega
    · exact h1
  unfold refK
  rw [Nat.min_eq_right (by omega), Nat.min_eq_right this]
def Fs.gapOf (l : List Pt) (t : Int) : Int := ((listP l (nextOf l t)).hour - (listP l (prevOf l t)).hour) % 86400
def Fs.offOf (l : List Pt) (t : Int) : Int := (t - (listP l (prevOf l t)).hour) % 86400
theorem Fs.takesAt_one {l : List Pt} (h : PtsOk l) {a : Int} (hz : gapOf l (a % 86400) = 0) : takesAt l a = ((listP l (prevOf l (a % 86400))).lo, (listP l (prevOf l (a % 86400))).hi) := by
  have hn : 0 < l.length := Nat.pos_of_ne_zero h.1
  obtain ⟨np, hp⟩ := next_prev l (a % 86400) h.1
  have hq : nextOf l (a % 86400) < l.length := by rw [np]; exact Nat.mod_lt _ hn
  have r1 := (ptRight_is (h.right hp)).1
  have r2 := (ptRight_is (h.right hq)).1
  have e : (listP l (nextOf l (a % 86400))).hour = (listP l (prevOf l (a % 86400))).hour := by
    unfold gapOf at hz; omega
  have e2 : nextOf l (a % 86400) = prevOf l (a % 86400) := by
    rcases Nat.lt_trichotomy (nextOf l (a % 86400)) (prevOf l (a % 86400)) with h1 | h1 | h1
    · have := h.up _ hp _ h1; omega
    · exact h1
    · have := h.up _ hq _ h1; omega
  have s := secondsTo_is (listP l (prevOf l (a % 86400))).hour (listP l (prevOf l (a % 86400))).hour
  rw [takesAt_eq, e2, line_same s.1, line_same s.1]
theorem Fs.takesAt_two {l : List Pt} (h : PtsOk l) {a : Int} (hz : gapOf l (a % 86400) ≠ 0) : takesAt l a =
    ((listP l (prevOf l (a % 86400))).lo + -((-(((listP l (nextOf l (a % 86400))).lo - (listP l (prevOf l (a % 86400))).lo) * offOf l (a % 86400))) / gapOf l (a % 86400)),
     (listP l (prevOf l (a % 86400))).hi + -((-(((listP l (nextOf l (a % 86400))).hi - (listP l (prevOf l (a % 86400))).hi) * offOf l (a % 86400))) / gapOf l (a % 86400))) := by
  have k := around h (t := a % 86400) (by omega)
  have s := secondsTo_is (listP l (prevOf l (a % 86400))).hour (listP l (nextOf l (a % 86400))).hour
  have e1 : secondsTo (listP l (prevOf l (a % 86400))).hour (listP l (nextOf l (a % 86400))).hour = gapOf l (a % 86400) := by
    unfold gapOf at hz ⊢
    unfold secondsTo
    omega
  have e2 : secondsTo (listP l (prevOf l (a % 86400))).hour (listP l (nextOf l (a % 86400))).hour - secondsTo (a % 86400) (listP l (nextOf l (a % 86400))).hour = offOf l (a % 86400) := by
    unfold offOf; omega
  rw [takesAt_eq, line_ref s.1, line_ref s.1, e2, e1]

/-! ### the calls -/
set_option maxHeartbeats 400000 in
theorem floor_any (n b : Int) (w : World) (h0 : -1000000000000000000 ≤ n) (h1 : n ≤ 1000000000000000000) (h2 : 1 ≤ b) (h3 : b ≤ 1000000000) :
    Calls Try.prog 94 #[.int .i64 n, .int .i64 b] w fun e w' => e = .returned (.int .i64 (n / b)) ∧ w = w' := by
  have h5 : (b == 0) = false := by simpa using (show b ≠ 0 by omega)
  have m0 := Int.emod_nonneg n (show b ≠ 0 by omega)
  have m1 := Int.emod_lt_of_pos n (show 0 < b by omega)
  by_cases hn : 0 ≤ n
  · have k0 : 0 ≤ n / b := Int.ediv_nonneg hn (by omega)
    have k1 : n / b ≤ n := Int.ediv_le_self b hn
    have z : decide (n % b < 0) = false := decide_eq_false (by omega)
    go_enter Try.func94, Try.ntmps94
    go_wp2
    go_ret
    exact ⟨rfl, rfl⟩
  · have k0 : n / b < 0 := Int.ediv_lt_of_lt_mul (by omega) (by omega)
    have k1 : n ≤ n / b := Int.le_ediv_of_mul_le (by omega) (by
      have : 0 ≤ (-n) * (b - 1) := Int.mul_nonneg (by omega) (by omega)
      rw [Int.mul_sub, Int.neg_mul] at this
      omega)
    have t : (n % b = 0 ∧ n.tmod b = 0 ∧ n.tdiv b = n / b) ∨ (0 < n % b ∧ n.tmod b = n % b - b ∧ n.tdiv b = n / b + 1) := by
      rw [Int.tmod_eq_emod, Int.tdiv_eq_ediv]
      by_cases hd : b ∣ n
      · left
        have := Int.emod_eq_zero_of_dvd hd
        rw [if_pos (.inr hd), if_pos (.inr hd), this]
        exact ⟨rfl, rfl, by omega⟩
      · right
        rw [if_neg (by rintro (h | h) <;> contradiction), if_neg (by rintro (h | h) <;> contradiction), Int.sign_eq_one_of_pos (by omega)]
        have : n % b ≠ 0 := fun hz => hd (Int.dvd_of_emod_eq_zero hz)
        omega
    rcases t with ⟨t1, t2, t4⟩ | ⟨t1, t2, t4⟩
    · clear t1
      go_enter Try.func94, Try.ntmps94
      go_wp2
      go_ret
      exact ⟨rfl, rfl⟩
    · have z : decide (n % b - b < 0) = true := by simp; omega
      go_enter Try.func94, Try.ntmps94
      go_wp2
      go_ret
      exact ⟨ret_int (by omega), rfl⟩
set_option maxHeartbeats 400000 in
theorem ceil_any (n b : Int) (w : World) (h0 : -100000000000000000 ≤ n) (h1 : n ≤ 100000000000000000) (h2 : 1 ≤ b) (h3 : b ≤ 1000000000) :
    Calls Try.prog 91 #[.int .i64 n, .int .i64 b] w fun e w' => e = .returned (.int .i64 (-((-n) / b))) ∧ w = w' := by
  have k1 : -100000000000000001 ≤ -((-n) / b) ∧ -((-n) / b) ≤ 1000000000000000001 := by
    rw [ceil_is h2]
    refine ⟨?_, ?_⟩
    · refine Int.le_ediv_of_mul_le (by omega) ?_
      have : (-100000000000000001) * b ≤ (-100000000000000001) * 1 := Int.mul_le_mul_of_nonpos_left (by omega) h2
      omega
    · have : (n + b - 1) / b < 1000000000000000002 := Int.ediv_lt_of_lt_mul (by omega) (by
        have : 1000000000000000002 * 1 ≤ 1000000000000000002 * b := Int.mul_le_mul_of_nonneg_left h2 (by omega)
        omega)
      omega
  obtain ⟨k1, k2⟩ := k1
  go_enter Try.func91, Try.ntmps91
  go_wp2_with (go_at_call 94; refine (floor_any _ _ _ (by omega) (by omega) h2 h3).mono ?_; rintro e w' ⟨rfl, rfl⟩)
  go_ret
  exact ⟨rfl, rfl⟩
end Go.Proofs.Ytolicafhbeiciaa
/- How long a road takes, as the reference tells it: the walk. Conditions: its points are right; the time is small. -/
namespace Go.Proofs.Ytolicafhbeiciaa
open Go.RowKit Fs

end Go.Proofs.Ytolicafhbeiciaa
/- The search's memory, and the nearest place that is not done. No condition. -/
namespace Go.Proofs.Ytolicafhbeiciaa
open Go.RowKit Fs

theorem RowV.set {w : World} {g : Nat} {t : TypeId} {l : List Value} (h : RowV w g t l) (i : Nat) (v : Value) : RowV (w.setCell ⟨g, i, none⟩ v) g t (l.set i v) := by
  unfold RowV
  rw [heap_setCell_same w g i l.toArray t v h]
  simp
theorem RowV.far {w : World} {g : Nat} {t : TypeId} {l : List Value} (h : RowV w g t l) {p : Addr} (hp : p.block ≠ g) (v : Value) : RowV (w.setCell p v) g t l := by
  unfold RowV
  rw [heap_setCell_other w p g v (fun e => hp e.symm)]
  exact h
/-- The search's memory: its tree at gt, whose lists lie at gl and ga, and what is done at gd, in a row at gb. -/
structure SrAt (w : World) (gt gd gl ga gb n : Nat) (s : St) : Prop where
  t0 : w.cell? ⟨gt, 0, none⟩ = some (.slice (some ⟨gl, 0, none⟩) n n)
  t1 : w.cell? ⟨gt, 1, none⟩ = some (.slice (some ⟨ga, 0, none⟩) n n)
  d0 : w.cell? ⟨gd, 0, none⟩ = some (.slice (some ⟨gb, 0, none⟩) n n)
  rl : RowV w gl 3 (s.labels.map (Value.int .i64))
  ra : RowV w ga 3 (s.last.map (Value.int .i64))
  rb : RowV w gb 4 (s.done.map Value.bool)
  nl : s.labels.length = n
  na : s.last.length = n
  nb : s.done.length = n
  ne1 : gl ≠ ga
  ne2 : gl ≠ gb
  ne3 : ga ≠ gb
  ne4 : gt ≠ gl ∧ gt ≠ ga ∧ gt ≠ gb
  ne5 : gd ≠ gl ∧ gd ≠ ga ∧ gd ≠ gb
theorem SrAt.below {w w' : World} {gt gd gl ga gb n : Nat} {s : St} (m : SrAt w gt gd gl ga gb n s) (h : Below w.heap.size w w') : SrAt w' gt gd gl ga gb n s :=
  ⟨Keep.below h _ _ m.t0, Keep.below h _ _ m.t1, Keep.below h _ _ m.d0, m.rl.below h m.rl.lt, m.ra.below h m.ra.lt, m.rb.below h m.rb.lt, m.nl, m.na, m.nb, m.ne1, m.ne2, m.ne3, m.ne4, m.ne5⟩
theorem SrAt.lab {w : World} {gt gd gl ga gb n : Nat} {s : St} (m : SrAt w gt gd gl ga gb n s) {i : Nat} (hi : i < n) : w.cell? ⟨gl, i, none⟩ = some (.int .i64 (listI s.labels i)) := by
  rw [m.rl.cell, List.getElem?_map, List.getElem?_eq_getElem (by rw [m.nl]; exact hi)]
  unfold listI
  rw [List.getD_eq_getElem?_getD, List.getElem?_eq_getElem (by rw [m.nl]; exact hi)]
  rfl
theorem SrAt.lst {w : World} {gt gd gl ga gb n : Nat} {s : St} (m : SrAt w gt gd gl ga gb n s) {i : Nat} (hi : i < n) : w.cell? ⟨ga, i, none⟩ = some (.int .i64 (listI s.last i)) := by
  rw [m.ra.cell, List.getElem?_map, List.getElem?_eq_getElem (by rw [m.na]; exact hi)]
  unfold listI
  rw [List.getD_eq_getElem?_getD, List.getElem?_eq_getElem (by rw [m.na]; exact hi)]
  rfl
theorem SrAt.don {w : World} {gt gd gl ga gb n : Nat} {s : St} (m : SrAt w gt gd gl ga gb n s) {i : Nat} (hi : i < n) : w.cell? ⟨gb, i, none⟩ = some (.bool (listB s.done i)) := by
  rw [m.rb.cell, List.getElem?_map, List.getElem?_eq_getElem (by rw [m.nb]; exact hi)]
  unfold listB
  rw [List.getD_eq_getElem?_getD, List.getElem?_eq_getElem (by rw [m.nb]; exact hi)]
  rfl
/-- A label and a last road are written. -/
theorem SrAt.put {w : World} {gt gd gl ga gb n : Nat} {s : St} (m : SrAt w gt gd gl ga gb n s) (i : Nat) (x y : Int) : SrAt ((w.setCell ⟨gl, i, none⟩ (.int .i64 x)).setCell ⟨ga, i, none⟩ (.int .i64 y)) gt gd gl ga gb n ⟨s.labels.set i x, s.last.set i y, s.done⟩ := by
  have far : ∀ g j, gl ≠ g → ga ≠ g → ((w.setCell ⟨gl, i, none⟩ (.int .i64 x)).setCell ⟨ga, i, none⟩ (.int .i64 y)).cell? ⟨g, j, none⟩ = w.cell? ⟨g, j, none⟩ := fun g j h1 h2 => by
    rw [World.cell?_setCell_far _ _ _ _ (by exact h2), World.cell?_setCell_far _ _ _ _ (by exact h1)]
  refine ⟨(far _ _ m.ne4.1.symm m.ne4.2.1.symm).trans m.t0, (far _ _ m.ne4.1.symm m.ne4.2.1.symm).trans m.t1, (far _ _ m.ne5.1.symm m.ne5.2.1.symm).trans m.d0, ?_, ?_, ?_, by simp [m.nl], by simp [m.na], m.nb, m.ne1, m.ne2, m.ne3, m.ne4, m.ne5⟩
  · have := (m.rl.set i (.int .i64 x)).far (p := ⟨ga, i, none⟩) (by exact m.ne1.symm) (.int .i64 y)
    rw [List.map_set]; exact this
  · have := (m.ra.far (p := ⟨gl, i, none⟩) (by exact m.ne1) (.int .i64 x)).set i (.int .i64 y)
    rw [List.map_set]; exact this
  · exact (m.rb.far (p := ⟨gl, i, none⟩) (by exact m.ne2) _).far (p := ⟨ga, i, none⟩) (by exact m.ne3) _
/-- A label alone is written. -/
theorem SrAt.putL {w : World} {gt gd gl ga gb n : Nat} {s : St} (m : SrAt w gt gd gl ga gb n s) (i : Nat) (x : Int) : SrAt (w.setCell ⟨gl, i, none⟩ (.int .i64 x)) gt gd gl ga gb n ⟨s.labels.set i x, s.last, s.done⟩ := by
  have far : ∀ g j, gl ≠ g → (w.setCell ⟨gl, i, none⟩ (.int .i64 x)).cell? ⟨g, j, none⟩ = w.cell? ⟨g, j, none⟩ := fun g j h1 => World.cell?_setCell_far _ _ _ _ (by exact h1)
  refine ⟨(far _ _ m.ne4.1.symm).trans m.t0, (far _ _ m.ne4.1.symm).trans m.t1, (far _ _ m.ne5.1.symm).trans m.d0, ?_, m.ra.far (by exact m.ne1) _, m.rb.far (by exact m.ne2) _, by simp [m.nl], m.na, m.nb, m.ne1, m.ne2, m.ne3, m.ne4, m.ne5⟩
  rw [List.map_set]; exact m.rl.set i _
/-- A place is marked as done. -/
theorem SrAt.putB {w : World} {gt gd gl ga gb n : Nat} {s : St} (m : SrAt w gt gd gl ga gb n s) (i : Nat) : SrAt (w.setCell ⟨gb, i, none⟩ (.bool true)) gt gd gl ga gb n ⟨s.labels, s.last, s.done.set i true⟩ := by
  have far : ∀ g j, gb ≠ g → (w.setCell ⟨gb, i, none⟩ (.bool true)).cell? ⟨g, j, none⟩ = w.cell? ⟨g, j, none⟩ := fun g j h1 => World.cell?_setCell_far _ _ _ _ (by exact h1)
  refine ⟨(far _ _ m.ne4.2.2.symm).trans m.t0, (far _ _ m.ne4.2.2.symm).trans m.t1, (far _ _ m.ne5.2.2.symm).trans m.d0, m.rl.far (by exact m.ne2.symm) _, m.ra.far (by exact m.ne3.symm) _, ?_, m.nl, m.na, by simp [m.nb], m.ne1, m.ne2, m.ne3, m.ne4, m.ne5⟩
  rw [List.map_set]; exact m.rb.set i _

theorem Fs.near_take {s : St} {k : Nat} (h : listB s.done k = false ∧ listI s.labels k ≠ -1 ∧ (nearTo s k = -1 ∨ listI s.labels k < listI s.labels (nearTo s k).toNat)) : nearTo s (k + 1) = k := by rw [nearTo, if_pos h]
theorem Fs.near_leave {s : St} {k : Nat} (h : ¬ (listB s.done k = false ∧ listI s.labels k ≠ -1 ∧ (nearTo s k = -1 ∨ listI s.labels k < listI s.labels (nearTo s k).toNat))) : nearTo s (k + 1) = nearTo s k := by rw [nearTo, if_neg h]

end Go.Proofs.Ytolicafhbeiciaa

/- How long a road takes, as the reference tells it. Conditions: its points are right; the time is small. -/
import Derived.Test.YthipneggplebcaaT31
import Derived.Test.YthipneggplebcaaT6
import Derived.Deep.RegionHeld3
namespace Go.Proofs.Ythipneggplebcaa
open Go.RowKit Fs

theorem Fs.ceil_is {m all : Int} (ha : 1 ≤ all) : -((-m) / all) = (m + all - 1) / all := by
  have h := Int.emod_add_mul_ediv (-m) all
  have h0 := Int.emod_nonneg (-m) (show all ≠ 0 by omega)
  have h1 := Int.emod_lt_of_pos (-m) (show 0 < all by omega)
  generalize (-m) / all = q at *
  generalize (-m) % all = r at *
  have e : m + all - 1 = (all - 1 - r) + all * (-q) := by
    rw [Int.mul_neg]; omega
  rw [e, Int.add_mul_ediv_left _ _ (by omega), Int.ediv_eq_zero_of_lt (by omega) (by omega)]
  omega
theorem Fs.line_ref {x y left all : Int} (ha : 1 ≤ all) : onLine x y left all = x + -((-((y - x) * (all - left))) / all) := by
  rw [ceil_is ha]
  have e : x * left + y * (all - left) + all - 1 = ((y - x) * (all - left) + all - 1) + all * x := by
    have h1 : (y - x) * (all - left) = y * (all - left) - x * (all - left) := Int.sub_mul _ _ _
    have h2 : x * (all - left) = x * all - x * left := Int.mul_sub _ _ _
    have h3 : all * x = x * all := Int.mul_comm _ _
    omega
  unfold onLine
  rw [e, Int.add_mul_ediv_left _ _ (by omega)]
  omega
theorem Fs.line_same {x left all : Int} (ha : 1 ≤ all) : onLine x x left all = x := by
  rw [line_ref ha, Int.sub_self, Int.zero_mul]
  simp
/-- A time lies between two neighbours. -/
theorem Fs.around {l : List Pt} (h : PtsOk l) {t : Int} (ht : 0 ≤ t ∧ t ≤ 86399) :
    (t - (listP l (prevOf l t)).hour) % 86400 + secondsTo t (listP l (nextOf l t)).hour = secondsTo (listP l (prevOf l t)).hour (listP l (nextOf l t)).hour := by
  have hn := h.1
  obtain ⟨hk, hb, ha⟩ := behind_is l t
  unfold prevOf nextOf
  generalize behind l t = k at *
  by_cases e0 : k = 0
  · subst e0
    have ha := ha (by omega)
    rw [Nat.zero_mod, Nat.zero_add, Nat.mod_eq_of_lt (show l.length - 1 < l.length by omega)]
    have r0 := ptRight_is (h.right (j := 0) (by omega))
    have r1 := ptRight_is (h.right (j := l.length - 1) (by omega))
    have h1 : (listP l 0).hour ≤ (listP l (l.length - 1)).hour := by
      by_cases e1 : l.length - 1 = 0
      · rw [e1]; exact Int.le_refl _
      · have := h.up (l.length - 1) (by omega) 0 (by omega); omega
    unfold secondsTo
    omega
  · have e1 : (k + l.length - 1) % l.length = k - 1 := by
      rw [show k + l.length - 1 = (k - 1) + l.length by omega, Nat.add_mod_right, Nat.mod_eq_of_lt (by omega)]
    rw [e1]
    have hb1 := hb (k - 1) (by omega)
    have r1 := ptRight_is (h.right (j := k - 1) (by omega))
    by_cases e2 : k = l.length
    · have : k % l.length = 0 := by rw [e2, Nat.mod_self]
      rw [this]
      have r0 := ptRight_is (h.right (j := 0) (by omega))
      have h1 : (listP l 0).hour ≤ (listP l (k - 1)).hour := by
        by_cases e3 : k - 1 = 0
        · rw [e3]; exact Int.le_refl _
        · have := h.up (k - 1) (by omega) 0 (by omega); omega
      unfold secondsTo
      omega
    · rw [Nat.mod_eq_of_lt (by omega)]
      have ha := ha (by omega)
      have r0 := ptRight_is (h.right (j := k) (by omega))
      unfold secondsTo
      omega
/-- The reference's index: the last point that is not behind the time, of the first i, or the last one of all. -/
def Fs.refK (b n i : Nat) : Nat := if min i b = 0 then n - 1 else min i b - 1
theorem Fs.refK_end {l : List Pt} (hl : l.length ≠ 0) (t : Int) : refK (behind l t) l.length l.length = prevOf l t := by
  have hb := (behind_is l t).1
  unfold refK prevOf
  rw [Nat.min_eq_right hb]
  by_cases e : behind l t = 0
  · rw [if_pos e, e, Nat.zero_add, Nat.mod_eq_of_lt (by omega)]
  · rw [if_neg e, show behind l t + l.length - 1 = (behind l t - 1) + l.length by omega, Nat.add_mod_right, Nat.mod_eq_of_lt (by omega)]
theorem Fs.refK_yes {l : List Pt} (h : PtsOk l) {t : Int} {i : Nat} (hi : i < l.length) (hh : (listP l i).hour ≤ t) : refK (behind l t) l.length (i + 1) = i := by
  obtain ⟨-, -, ha⟩ := behind_is l t
  have : i < behind l t := by
    rcases Nat.lt_or_ge i (behind l t) with h1 | h1
    · exact h1
    · have h2 := ha (by omega)
      by_cases e : behind l t = i
      · rw [e] at h2; omega
      · have := h.up i hi (behind l t) (by omega); omega
  unfold refK
  rw [Nat.min_eq_left (by omega), if_neg (by omega)]
  omega
theorem Fs.refK_no {l : List Pt} {t : Int} {i : Nat} (hh : t < (listP l i).hour) : refK (behind l t) l.length (i + 1) = refK (behind l t) l.length i := by
  obtain ⟨-, hb, -⟩ := behind_is l t
  have : behind l t ≤ i := by
    rcases Nat.lt_or_ge i (behind l t) with h1 | h1
    · have := hb i h1; omega
    · exact h1
  unfold refK
  rw [Nat.min_eq_right (by omega), Nat.min_eq_right this]
def Fs.gapOf (l : List Pt) (t : Int) : Int := ((listP l (nextOf l t)).hour - (listP l (prevOf l t)).hour) % 86400
def Fs.offOf (l : List Pt) (t : Int) : Int := (t - (listP l (prevOf l t)).hour) % 86400
theorem Fs.takesAt_one {l : List Pt} (h : PtsOk l) {a : Int} (hz : gapOf l (a % 86400) = 0) : takesAt l a = ((listP l (prevOf l (a % 86400))).lo, (listP l (prevOf l (a % 86400))).hi) := by
  have hn : 0 < l.length := Nat.pos_of_ne_zero h.1
  obtain ⟨np, hp⟩ := next_prev l (a % 86400) h.1
  have hq : nextOf l (a % 86400) < l.length := by rw [np]; exact Nat.mod_lt _ hn
  have r1 := (ptRight_is (h.right hp)).1
  have r2 := (ptRight_is (h.right hq)).1
  have e : (listP l (nextOf l (a % 86400))).hour = (listP l (prevOf l (a % 86400))).hour := by
    unfold gapOf at hz; omega
  have e2 : nextOf l (a % 86400) = prevOf l (a % 86400) := by
    rcases Nat.lt_trichotomy (nextOf l (a % 86400)) (prevOf l (a % 86400)) with h1 | h1 | h1
    · have := h.up _ hp _ h1; omega
    · exact h1
    · have := h.up _ hq _ h1; omega
  have s := secondsTo_is (listP l (prevOf l (a % 86400))).hour (listP l (prevOf l (a % 86400))).hour
  rw [takesAt_eq, e2, line_same s.1, line_same s.1]
theorem Fs.takesAt_two {l : List Pt} (h : PtsOk l) {a : Int} (hz : gapOf l (a % 86400) ≠ 0) : takesAt l a =
    ((listP l (prevOf l (a % 86400))).lo + -((-(((listP l (nextOf l (a % 86400))).lo - (listP l (prevOf l (a % 86400))).lo) * offOf l (a % 86400))) / gapOf l (a % 86400)),
     (listP l (prevOf l (a % 86400))).hi + -((-(((listP l (nextOf l (a % 86400))).hi - (listP l (prevOf l (a % 86400))).hi) * offOf l (a % 86400))) / gapOf l (a % 86400))) := by
  have k := around h (t := a % 86400) (by omega)
  have s := secondsTo_is (listP l (prevOf l (a % 86400))).hour (listP l (nextOf l (a % 86400))).hour
  have e1 : secondsTo (listP l (prevOf l (a % 86400))).hour (listP l (nextOf l (a % 86400))).hour = gapOf l (a % 86400) := by
    unfold gapOf at hz ⊢
    unfold secondsTo
    omega
  have e2 : secondsTo (listP l (prevOf l (a % 86400))).hour (listP l (nextOf l (a % 86400))).hour - secondsTo (a % 86400) (listP l (nextOf l (a % 86400))).hour = offOf l (a % 86400) := by
    unfold offOf; omega
  rw [takesAt_eq, line_ref s.1, line_ref s.1, e2, e1]

/-! ### the calls -/
set_option maxHeartbeats 400000 in
theorem floor_any (n b : Int) (w : World) (h0 : -1000000000000000000 ≤ n) (h1 : n ≤ 1000000000000000000) (h2 : 1 ≤ b) (h3 : b ≤ 1000000000) :
    Calls Try.prog 122 #[.int .i64 n, .int .i64 b] w fun e w' => e = .returned (.int .i64 (n / b)) ∧ w = w' := by
  have h5 : (b == 0) = false := by simpa using (show b ≠ 0 by omega)
  have m0 := Int.emod_nonneg n (show b ≠ 0 by omega)
  have m1 := Int.emod_lt_of_pos n (show 0 < b by omega)
  by_cases hn : 0 ≤ n
  · have k0 : 0 ≤ n / b := Int.ediv_nonneg hn (by omega)
    have k1 : n / b ≤ n := Int.ediv_le_self b hn
    have z : decide (n % b < 0) = false := decide_eq_false (by omega)
    go_enter Try.func122, Try.ntmps122
    go_wp2
    go_ret
    exact ⟨rfl, rfl⟩
  · have k0 : n / b < 0 := Int.ediv_lt_of_lt_mul (by omega) (by omega)
    have k1 : n ≤ n / b := Int.le_ediv_of_mul_le (by omega) (by
      have : 0 ≤ (-n) * (b - 1) := Int.mul_nonneg (by omega) (by omega)
      rw [Int.mul_sub, Int.neg_mul] at this
      omega)
    have t : (n % b = 0 ∧ n.tmod b = 0 ∧ n.tdiv b = n / b) ∨ (0 < n % b ∧ n.tmod b = n % b - b ∧ n.tdiv b = n / b + 1) := by
      rw [Int.tmod_eq_emod, Int.tdiv_eq_ediv]
      by_cases hd : b ∣ n
      · left
        have := Int.emod_eq_zero_of_dvd hd
        rw [if_pos (.inr hd), if_pos (.inr hd), this]
        exact ⟨rfl, rfl, by omega⟩
      · right
        rw [if_neg (by rintro (h | h) <;> contradiction), if_neg (by rintro (h | h) <;> contradiction), Int.sign_eq_one_of_pos (by omega)]
        have : n % b ≠ 0 := fun hz => hd (Int.dvd_of_emod_eq_zero hz)
        omega
    rcases t with ⟨t1, t2, t4⟩ | ⟨t1, t2, t4⟩
    · clear t1
      go_enter Try.func122, Try.ntmps122
      go_wp2
      go_ret
      exact ⟨rfl, rfl⟩
    · have z : decide (n % b - b < 0) = true := by simp; omega
      go_enter Try.func122, Try.ntmps122
      go_wp2
      go_ret
      exact ⟨ret_int (by omega), rfl⟩
set_option maxHeartbeats 400000 in
theorem ceil_any (n b : Int) (w : World) (h0 : -100000000000000000 ≤ n) (h1 : n ≤ 100000000000000000) (h2 : 1 ≤ b) (h3 : b ≤ 1000000000) :
    Calls Try.prog 113 #[.int .i64 n, .int .i64 b] w fun e w' => e = .returned (.int .i64 (-((-n) / b))) ∧ w = w' := by
  have k1 : -100000000000000001 ≤ -((-n) / b) ∧ -((-n) / b) ≤ 1000000000000000001 := by
    rw [ceil_is h2]
    refine ⟨?_, ?_⟩
    · refine Int.le_ediv_of_mul_le (by omega) ?_
      have : (-100000000000000001) * b ≤ (-100000000000000001) * 1 := Int.mul_le_mul_of_nonpos_left (by omega) h2
      omega
    · have : (n + b - 1) / b < 1000000000000000002 := Int.ediv_lt_of_lt_mul (by omega) (by
        have : 1000000000000000002 * 1 ≤ 1000000000000000002 * b := Int.mul_le_mul_of_nonneg_left h2 (by omega)
        omega)
      omega
  obtain ⟨k1, k2⟩ := k1
  go_enter Try.func113, Try.ntmps113
  go_wp2_with (go_at_call 122; refine (floor_any _ _ _ (by omega) (by omega) h2 h3).mono ?_; rintro e w' ⟨rfl, rfl⟩)
  go_ret
  exact ⟨rfl, rfl⟩
set_option maxHeartbeats 400000 in
theorem between_any (x y off d : Int) (w : World) (hx : 0 ≤ x ∧ x ≤ 7200) (hy : 0 ≤ y ∧ y ≤ 7200) (ho : 0 ≤ off ∧ off ≤ 86400) (hd : 1 ≤ d ∧ d ≤ 86400) :
    Calls Try.prog 88 #[.int .i64 x, .int .i64 y, .int .i64 off, .int .i64 d] w fun e w' => e = .returned (.int .i64 (x + -((-((y - x) * off)) / d))) ∧ w = w' := by
  have m : -622080000 ≤ (y - x) * off ∧ (y - x) * off ≤ 622080000 := by
    have e : (y - x) * off = y * off - x * off := Int.sub_mul _ _ _
    have h1 := mul_le hx ho
    have h2 := mul_le hy ho
    omega
  obtain ⟨m0, m1⟩ := m
  have k1 : -622080001 ≤ -((-((y - x) * off)) / d) ∧ -((-((y - x) * off)) / d) ≤ 622080001 := by
    rw [ceil_is hd.1]
    refine ⟨?_, ?_⟩
    · refine Int.le_ediv_of_mul_le (by omega) ?_
      have : (-622080001) * d ≤ (-622080001) * 1 := Int.mul_le_mul_of_nonpos_left (by omega) hd.1
      omega
    · have : ((y - x) * off + d - 1) / d < 622080002 := Int.ediv_lt_of_lt_mul (by omega) (by
        have : 622080002 * 1 ≤ 622080002 * d := Int.mul_le_mul_of_nonneg_left hd.1 (by omega)
        omega)
      omega
  obtain ⟨k1, k2⟩ := k1
  go_enter Try.func88, Try.ntmps88
  go_wp2_with (go_at_call 113; refine (ceil_any _ _ _ (by omega) (by omega) hd.1 (by omega)).mono ?_; rintro e w' ⟨rfl, rfl⟩)
  go_ret
  exact ⟨rfl, rfl⟩
end Go.Proofs.Ythipneggplebcaa
/- How long a road takes, as the reference tells it: the walk. Conditions: its points are right; the time is small. -/
namespace Go.Proofs.Ythipneggplebcaa
open Go.RowKit Fs

set_option maxHeartbeats 3200000 in
set_option maxRecDepth 100000 in
theorem rTakes_any (r : Rd) (A : Option Addr) (c : Nat) (a : Int) (w : World) (h : ArrP w A r.pts c) (hl : PtsOk r.pts) (h0 : 0 ≤ a) (h9 : a ≤ 10000000000000000) :
    Calls Try.prog 26 #[rdV r A c, .int .i64 a] w fun e w' => e = .returned (.agg #[.int .i64 (takesAt r.pts a).1, .int .i64 (takesAt r.pts a).2]) ∧ Below w.heap.size w w' := by
  obtain ⟨nm, sr, ds, me, l⟩ := r
  dsimp only at h hl ⊢
  have b1 := h.le.1
  have b2 := h.le.2
  have HL := Lib.hid hl
  have hn8 := hl.2.1
  have hn0 : 0 < l.length := Nat.pos_of_ne_zero hl.1
  have t0 := Int.emod_nonneg a (show (86400 : Int) ≠ 0 by decide)
  have t1 := Int.emod_lt_of_pos a (show (0 : Int) < 86400 by decide)
  obtain ⟨b, o, rfl, -⟩ := h.at_ hn0
  have HA := Lib.hid (ArrP.keep (Keep.alloc _ (.cells #[.int .i64 0, .int .i64 0] 35)) (ArrP.keep (Keep.alloc w (.cells #[.string nm, .int .i64 sr, .int .i64 ds, .int .i64 me, .slice (some ⟨b, o, none⟩) l.length c] 45)) h))
  have BX := Lib.hid ((BoxD.new w ⟨nm, sr, ds, me, l⟩ (some ⟨b, o, none⟩) c 45).keep (Keep.alloc _ (.cells #[.int .i64 0, .int .i64 0] 35)))
  have RV := Lib.hid (show MarkAt ((w.alloc (.cells #[.string nm, .int .i64 sr, .int .i64 ds, .int .i64 me, .slice (some ⟨b, o, none⟩) l.length c] 45)).alloc (.cells #[.int .i64 0, .int .i64 0] 35)) (w.heap.size + 1) from by
    have := MarkAt.new (w.alloc (.cells #[.string nm, .int .i64 sr, .int .i64 ds, .int .i64 me, .slice (some ⟨b, o, none⟩) l.length c] 45)) 35
    simpa using this)
  go_enter Try.func26, Try.ntmps26
  go_upto_region 1 with fail
  generalize hwb : (w.alloc _).alloc _ = wb at *
  have HW : Hid (Below w.heap.size w wb) := by rw [← hwb]; exact Lib.hid (((Below.refl _ _).alloc (Nat.le_refl _) _).alloc (by simp) _)
  have HLT : Hid (w.heap.size + 1 < wb.heap.size) := by rw [← hwb]; exact Lib.hid (by simp)
  clear hwb h hl
  obtain ⟨x0, x1, x2, x3, x4⟩ := BX.out
  dsimp only at x4
  clear x0 x1 x2 x3
  go_wp2_with (go_at_call 73; refine (mod_any a 86400 _ (by omega) (by omega) (by omega) (by omega)).mono ?_; rintro e w' ⟨rfl, rfl⟩)
  go_loop [6, 7] (fun u v => ∃ i k : Nat, i ≤ l.length ∧ u = .int .i64 k ∧ v = .int .i64 i ∧ k < l.length ∧ Hid (k = refK (behind l (a % 86400)) l.length i)) (fun u v => l.length - (intOf v).toNat)
  case atStart => exact ⟨0, l.length - 1, Nat.zero_le _, by simp; omega, rfl, by omega, Lib.hid (by unfold refK; rw [Nat.zero_min, if_pos rfl])⟩
  case round =>
    obtain ⟨i, k, hi, rfl, rfl, hkl, Hk⟩ := hrel
    by_cases hlt : i < l.length
    · obtain ⟨b', o', e', c0, -, -⟩ := HA.out.at_ hlt
      obtain ⟨rfl, rfl⟩ : b = b' ∧ o = o' := by simpa using e'
      clear e'
      by_cases hle : (listP l i).hour ≤ a % 86400
      · have F : Hid (i = refK (behind l (a % 86400)) l.length (i + 1)) := Lib.hid (refK_yes HL.out hlt hle).symm
        have d1 : decide ((listP l i).hour ≤ a % 86400) = true := decide_eq_true hle
        clear hle
        go_wp2
        go_round
        case rel => exact ⟨i + 1, i, by omega, rfl, by go_num, hlt, F⟩
        case measure => simp [intOf]; omega
      · have F : Hid (k = refK (behind l (a % 86400)) l.length (i + 1)) := Lib.hid (Hk.out.trans (refK_no (by omega)).symm)
        have d1 : decide ((listP l i).hour ≤ a % 86400) = false := decide_eq_false (by omega)
        clear hle
        go_wp2
        go_round
        case rel => exact ⟨i + 1, k, by omega, rfl, by go_num, hkl, F⟩
        case measure => simp [intOf]; omega
    · obtain rfl : i = l.length := by omega
      have HK : Hid (k = prevOf l (a % 86400)) := Lib.hid (Hk.out.trans (refK_end HL.out.1 _))
      clear hlt hi Hk
      obtain ⟨i2, hi2, hl2, x2⟩ := next_is hkl
      have HN : Hid (i2 = nextOf l (a % 86400)) := Lib.hid (by rw [hi2, HK.out]; exact (next_prev l (a % 86400) HL.out.1).1.symm)
      clear hi2
      have R1 := Lib.hid (ptRight_is (HL.out.right hkl))
      have R2 := Lib.hid (ptRight_is (HL.out.right hl2))
      have hnil : l ≠ [] := fun e => by rw [e] at hn0; exact absurd hn0 (Nat.lt_irrefl _)
      obtain ⟨b', o', e', p0, p1, p2⟩ := HA.out.at_ hkl
      obtain ⟨rfl, rfl⟩ : b = b' ∧ o = o' := by simpa using e'
      clear e'
      obtain ⟨b', o', e', q0, q1, q2⟩ := HA.out.at_ hl2
      obtain ⟨rfl, rfl⟩ : b = b' ∧ o = o' := by simpa using e'
      clear e'
      have p0b := fun y z => Keep.alloc (wb.alloc y) z _ _ (Keep.alloc wb y _ _ p0)
      have p0a := fun y => Keep.alloc wb y _ _ p0
      have p1b := fun y z => Keep.alloc (wb.alloc y) z _ _ (Keep.alloc wb y _ _ p1)
      have p1a := fun y => Keep.alloc wb y _ _ p1
      have p2b := fun y z => Keep.alloc (wb.alloc y) z _ _ (Keep.alloc wb y _ _ p2)
      have p2a := fun y => Keep.alloc wb y _ _ p2
      have q0b := fun y z => Keep.alloc (wb.alloc y) z _ _ (Keep.alloc wb y _ _ q0)
      have q0a := fun y => Keep.alloc wb y _ _ q0
      have q1b := fun y z => Keep.alloc (wb.alloc y) z _ _ (Keep.alloc wb y _ _ q1)
      have q1a := fun y => Keep.alloc wb y _ _ q1
      have q2b := fun y z => Keep.alloc (wb.alloc y) z _ _ (Keep.alloc wb y _ _ q2)
      have q2a := fun y => Keep.alloc wb y _ _ q2
      have x4b := fun y z => Keep.alloc (wb.alloc y) z _ _ (Keep.alloc wb y _ _ x4)
      have x4a := fun y => Keep.alloc wb y _ _ x4
      go_wp2_with fail
      go_cut [8, 9] from 34 to 48 (fun s8 s9 wx => ∃ g1 g2 : Nat, w.heap.size + 1 < g1 ∧ w.heap.size + 1 < g2 ∧ s8 = .pointer (some ⟨g1, 0, none⟩) ∧ s9 = .pointer (some ⟨g2, 0, none⟩) ∧ Hid (PtAt wx g1 (listP l k)) ∧ Hid (PtAt wx g2 (listP l i2)) ∧ Hid (Below wb.heap.size wb wx))
      case first =>
        go_region
        all_goals
          go_wp2_with fail
          go_meet
          first
            | exact ⟨wb.heap.size, wb.heap.size + 1, HLT.out, Nat.lt_succ_of_lt HLT.out, rfl, rfl, Lib.hid ((PtAt.new wb _ _).keep ((Keep.alloc _ _).trans (Keep.drew _))), Lib.hid ((PtAt.new1 wb _ _ _).keep (Keep.drew _)), Lib.hid (((Below.refl _ _).alloc (Nat.le_refl _) _).alloc (by simp) _).drew⟩
            | exact ⟨wb.heap.size + 1, wb.heap.size, Nat.lt_succ_of_lt HLT.out, HLT.out, rfl, rfl, Lib.hid ((PtAt.new1 wb _ _ _).keep (Keep.drew _)), Lib.hid ((PtAt.new wb _ _).keep ((Keep.alloc _ _).trans (Keep.drew _))), Lib.hid (((Below.refl _ _).alloc (Nat.le_refl _) _).alloc (by simp) _).drew⟩
      case rest =>
        obtain ⟨g1, g2, lt1, lt2, rfl, rfl, PK, PJ, HBc⟩ := hcut
        clear p0 p0a p0b p1 p1a p1b p2 p2a p2b q0 q0a q0b q1 q1a q1b q2 q2a q2b x4 x4a x4b
        obtain ⟨wp, hwp⟩ : ∃ wp, wp = wc := ⟨_, rfl⟩
        subst hwp
        obtain ⟨k0, k1, k2⟩ := PK.out
        obtain ⟨j0, j1, j2⟩ := PJ.out
        have HBp := Lib.hid (HW.out.trans (HBc.out.mono HW.out.size))
        have RVp := Lib.hid (RV.out.below HBc.out RV.out.lt)
        obtain ⟨r0, r1, rf0, rf1⟩ := RVp.out
        clear HBc
        have G := Lib.hid (show ((listP l i2).hour - (listP l k).hour) % 86400 = gapOf l (a % 86400) by rw [HN.out, HK.out]; rfl)
        have O := Lib.hid (show (a % 86400 - (listP l k).hour) % 86400 = offOf l (a % 86400) by rw [HK.out]; rfl)
        have G0 : 0 ≤ gapOf l (a % 86400) ∧ gapOf l (a % 86400) < 86400 := by unfold gapOf; omega
        have O0 : 0 ≤ offOf l (a % 86400) ∧ offOf l (a % 86400) < 86400 := by unfold offOf; omega
        obtain ⟨ph0, ph1⟩ := R1.out.1
        obtain ⟨qh0, qh1⟩ := R2.out.1
        by_cases hz : gapOf l (a % 86400) = 0
        · have d1 : (gapOf l (a % 86400) == 0) = true := by simpa using hz
          have HT := Lib.hid (takesAt_one HL.out hz)
          clear hz
          go_wp2_with (go_at_call 73; refine (mod_any _ 86400 _ (by omega) (by omega) (by omega) (by omega)).mono ?_; rintro e w' ⟨rfl, rfl⟩; rw [G.out])
          refine bodyPost_ret (v := .agg #[.int .i64 (listP l k).lo, .int .i64 (listP l k).hi]) (by simp [results, Try.results26, go_sem, r0, r1]) rfl ⟨by rw [HT.out, HK.out], ?_⟩
          exact ((HBp.out.setCell (p := ⟨w.heap.size + 1, 0, none⟩) (by simp) _).setCell (p := ⟨w.heap.size + 1, 1, none⟩) (by simp) _)
        · have d1 : (gapOf l (a % 86400) == 0) = false := by simpa using hz
          have HT := Lib.hid (takesAt_two HL.out hz)
          have hg1 : 1 ≤ gapOf l (a % 86400) := by omega
          clear hz
          go_wp2_with (go_at_call 73; refine (mod_any _ 86400 _ (by omega) (by omega) (by omega) (by omega)).mono ?_; rintro e w' ⟨rfl, rfl⟩; first | rw [G.out] | rw [O.out])
          go_cut [] from 64 to 82 (fun wx => Hid (wx.cell? ⟨w.heap.size + 1, 0, none⟩ = some (.int .i64 (takesAt l a).1)) ∧ Hid (wx.cell? ⟨w.heap.size + 1, 1, none⟩ = some (.int .i64 (takesAt l a).2)) ∧ Hid (Below w.heap.size w wx))
          case first =>
            go_region_held3 (fun w' => w'.cell? ⟨g1, 1, none⟩ = some (.int .i64 (listP l k).lo) ∧ w'.cell? ⟨g1, 2, none⟩ = some (.int .i64 (listP l k).hi) ∧ w'.cell? ⟨g2, 1, none⟩ = some (.int .i64 (listP l i2).lo) ∧ w'.cell? ⟨g2, 2, none⟩ = some (.int .i64 (listP l i2).hi))
              (first
                | exact ⟨k1, k2, j1, j2⟩
                | (go_split_ands; exact ⟨by assumption, by assumption, by assumption, by assumption⟩)
                | exact ⟨cell_two _ _ _ _ _ _ k1 lt1, cell_two _ _ _ _ _ _ k2 lt1, cell_two _ _ _ _ _ _ j1 lt2, cell_two _ _ _ _ _ _ j2 lt2⟩)
              ((first
                | (go_at_call 88
                   go_split_ands
                   refine (between_any _ _ _ _ _ (by first | exact R1.out.2.1 | exact R1.out.2.2) (by first | exact R2.out.2.1 | exact R2.out.2.2) (by omega) (by omega)).mono ?_
                   rintro e' w' ⟨rfl, rfl⟩)))
            all_goals
              go_wp2_with fail
              go_meet
              rw [HT.out, ← HK.out, ← HN.out]
              exact ⟨Lib.hid (mark_two RVp.out _ _).1, Lib.hid (mark_two RVp.out _ _).2, Lib.hid ((HBp.out.setCell (p := ⟨w.heap.size + 1, 0, none⟩) (by simp) _).setCell (p := ⟨w.heap.size + 1, 1, none⟩) (by simp) _).drew⟩
          case rest =>
            obtain ⟨R0, R1', HBr⟩ := hcut
            have r0 := R0.out
            have r1 := R1'.out
            go_wp2_with fail
            exact bodyPost_ret (v := .agg #[.int .i64 (takesAt l a).1, .int .i64 (takesAt l a).2]) (by simp [results, Try.results26, go_sem, r0, r1]) rfl ⟨rfl, HBr.out⟩
end Go.Proofs.Ythipneggplebcaa

/- How long a road takes, at a time. Condition: its points are right, and not too many. -/
import Derived.Test.YtjmaankkbdpikaaT9
import Derived.RegionTactic
namespace Go.Proofs.Ytjmaankkbdpikaa
open Go.RowKit Fs

/-- Points that are right, one by one. -/
def Fs.PtsOk (l : List Pt) : Prop := l.length ≠ 0 ∧ l.length ≤ 8 ∧ ∀ j, j < l.length → errPoint l j = 0
theorem Fs.PtsOk.right {l : List Pt} (h : PtsOk l) {j : Nat} (hj : j < l.length) : ptRight (listP l j) = true := errPoint_right (h.2.2 j hj)
theorem Fs.PtsOk.up {l : List Pt} (h : PtsOk l) : ∀ b, b < l.length → ∀ a, a < b → (listP l a).hour < (listP l b).hour := by
  intro b
  induction b with
  | zero => intro _ a ha; omega
  | succ b ih =>
    intro hb a ha
    have h1 := h.2.2 (b + 1) hb
    have h2 : ¬ ((listP l (b + 1)).hi < (listP l (b + 1)).lo ∨ (0 < b + 1 ∧ (listP l (b + 1)).hour ≤ (listP l b).hour)) := fun hh => by
      rw [errPoint_order (errPoint_right h1) (by simpa using hh)] at h1; cases h1
    have h3 : (listP l b).hour < (listP l (b + 1)).hour := by omega
    by_cases e : a = b
    · subst e; exact h3
    · have := ih (by omega) a (by omega); omega
theorem Fs.behind_at {l : List Pt} {t : Int} {k : Nat} (hk : k < l.length) (h : ∀ j, j < k → (listP l j).hour ≤ t) (ht : t < (listP l k).hour) : behind l t = k := by
  unfold behind
  rw [find_hit hk (fun j hj => by have := h j hj; simp; omega) (by simpa using ht)]
  rfl
theorem Fs.behind_end {l : List Pt} {t : Int} (h : ∀ j, j < l.length → (listP l j).hour ≤ t) : behind l t = l.length := by
  unfold behind
  rw [find_none (fun j hj => by have := h j hj; simp; omega)]
  rfl
/-- A time lies between two neighbours. -/
theorem Fs.left_le {l : List Pt} (h : PtsOk l) {t : Int} (ht : 0 ≤ t ∧ t ≤ 86399) {k : Nat} (hk : k ≤ l.length) (hb : ∀ j, j < k → (listP l j).hour ≤ t) (ha : k < l.length → t < (listP l k).hour) :
    secondsTo t (listP l (k % l.length)).hour ≤ secondsTo (listP l ((k + l.length - 1) % l.length)).hour (listP l (k % l.length)).hour := by
  have hn := h.1
  by_cases e0 : k = 0
  · subst e0
    have ha := ha (by omega)
    rw [Nat.zero_mod, Nat.zero_add, Nat.mod_eq_of_lt (show l.length - 1 < l.length by omega)]
    have r0 := ptRight_is (h.right (j := 0) (by omega))
    have r1 := ptRight_is (h.right (j := l.length - 1) (by omega))
    have h1 : (listP l 0).hour ≤ (listP l (l.length - 1)).hour := by
      by_cases e1 : l.length - 1 = 0
      · rw [e1]; exact Int.le_refl _
      · have := h.up (l.length - 1) (by omega) 0 (by omega); omega
    unfold secondsTo
    omega
  · have e1 : (k + l.length - 1) % l.length = k - 1 := by
      rw [show k + l.length - 1 = (k - 1) + l.length by omega, Nat.add_mod_right, Nat.mod_eq_of_lt (by omega)]
    rw [e1]
    have hb1 := hb (k - 1) (by omega)
    have r1 := ptRight_is (h.right (j := k - 1) (by omega))
    by_cases e2 : k = l.length
    · have : k % l.length = 0 := by rw [e2, Nat.mod_self]
      rw [this]
      have r0 := ptRight_is (h.right (j := 0) (by omega))
      have h1 : (listP l 0).hour ≤ (listP l (k - 1)).hour := by
        by_cases e3 : k - 1 = 0
        · rw [e3]; exact Int.le_refl _
        · have := h.up (k - 1) (by omega) 0 (by omega); omega
      unfold secondsTo
      omega
    · rw [Nat.mod_eq_of_lt (by omega)]
      have ha := ha (by omega)
      have r0 := ptRight_is (h.right (j := k) (by omega))
      unfold secondsTo
      omega

/-- Products of small numbers are small. -/
theorem Fs.mul_le {x y a b : Int} (hx : 0 ≤ x ∧ x ≤ a) (hy : 0 ≤ y ∧ y ≤ b) : 0 ≤ x * y ∧ x * y ≤ a * b :=
  ⟨Int.mul_nonneg hx.1 hy.1, Int.le_trans (Int.mul_le_mul_of_nonneg_right hx.2 hy.1) (Int.mul_le_mul_of_nonneg_left hy.2 (Int.le_trans hx.1 hx.2))⟩
set_option maxHeartbeats 400000 in
theorem line_any (x y left all : Int) (h1 h2 : Nat) (w : World) (c1 : w.cell? ⟨h1, 0, none⟩ = some (.int .i64 all)) (c2 : w.cell? ⟨h2, 0, none⟩ = some (.int .i64 left)) (hx : 0 ≤ x ∧ x ≤ 7200) (hy : 0 ≤ y ∧ y ≤ 7200) (hl : 1 ≤ left ∧ left ≤ all) (ha : all ≤ 86400) :
    Calls Try.prog 73 #[.int .i64 x, .int .i64 y, .pointer (some ⟨h2, 0, none⟩), .pointer (some ⟨h1, 0, none⟩)] w fun e w' => e = .returned (.int .i64 (onLine x y left all)) ∧ w = w' := by
  obtain ⟨m0, m1⟩ := mul_le hx (show 0 ≤ left ∧ left ≤ 86400 by omega)
  obtain ⟨m2, m3⟩ := mul_le hy (show 0 ≤ all - left ∧ all - left ≤ 86400 by omega)
  have e : onLine x y left all = (x * left + y * (all - left) + all - 1) / all := rfl
  have HE := Lib.hid e
  clear e
  go_enter Try.func73, Try.ntmps73
  go_wp2_with (go_at_call 74; refine (roundedUp_any _ _ _ (by omega) (by omega) (by omega) (by omega)).mono ?_; rintro e w' ⟨rfl, rfl⟩)
  go_ret
  exact ⟨ret_int HE.out.symm, rfl⟩
theorem Fs.onLine_is {x y left all : Int} (hx : 0 ≤ x ∧ x ≤ 7200) (hy : 0 ≤ y ∧ y ≤ 7200) (hl : 1 ≤ left ∧ left ≤ all) : 0 ≤ onLine x y left all ∧ onLine x y left all ≤ 7200 := by
  have h1 : 0 ≤ x * left := Int.mul_nonneg hx.1 (by omega)
  have h2 : 0 ≤ y * (all - left) := Int.mul_nonneg hy.1 (by omega)
  have h3 : x * left ≤ 7200 * left := Int.mul_le_mul_of_nonneg_right hx.2 (by omega)
  have h4 : y * (all - left) ≤ 7200 * (all - left) := Int.mul_le_mul_of_nonneg_right hy.2 (by omega)
  unfold onLine
  refine ⟨Int.ediv_nonneg (by omega) (by omega), ?_⟩
  have : (x * left + y * (all - left) + all - 1) / all < 7201 := Int.ediv_lt_of_lt_mul (by omega) (by omega)
  omega
theorem Fs.takesAt_is {l : List Pt} (h : PtsOk l) (a : Int) : (0 ≤ (takesAt l a).1 ∧ (takesAt l a).1 ≤ 7200) ∧ 0 ≤ (takesAt l a).2 ∧ (takesAt l a).2 ≤ 7200 := by
  have t0 := Int.emod_nonneg a (show (86400 : Int) ≠ 0 by decide)
  have t1 := Int.emod_lt_of_pos a (show (0 : Int) < 86400 by decide)
  have hb : ∃ k, k ≤ l.length ∧ behind l (a % 86400) = k ∧ (∀ j, j < k → (listP l j).hour ≤ a % 86400) ∧ (k < l.length → a % 86400 < (listP l k).hour) := by
    cases hf : (List.range l.length).find? fun i => decide (a % 86400 < (listP l i).hour) with
    | none =>
      rw [List.find?_eq_none] at hf
      refine ⟨l.length, Nat.le_refl _, behind_end fun j hj => ?_, fun j hj => ?_, fun hh => absurd hh (Nat.lt_irrefl _)⟩
      all_goals
        have := hf j (by simpa using hj)
        simp at this
        omega
    | some k =>
      rw [List.find?_range_eq_some] at hf
      obtain ⟨h1, h2, h3⟩ := hf
      have h2' : k < l.length := by simpa using h2
      have h4 : ∀ j, j < k → (listP l j).hour ≤ a % 86400 := fun j hj => by
        have := h3 j hj
        simp at this
        omega
      exact ⟨k, by omega, behind_at h2' h4 (by simpa using h1), h4, fun _ => by simpa using h1⟩
  obtain ⟨k, hk, hb, h1, h2⟩ := hb
  have hn : 0 < l.length := Nat.pos_of_ne_zero h.1
  have hl := left_le h ⟨t0, by omega⟩ hk h1 h2
  have p := ptRight_is (h.right (j := (k + l.length - 1) % l.length) (Nat.mod_lt _ hn))
  have q := ptRight_is (h.right (j := k % l.length) (Nat.mod_lt _ hn))
  have s := secondsTo_is (a % 86400) (listP l (k % l.length)).hour
  unfold takesAt
  simp only [hb]
  exact ⟨onLine_is p.2.1 q.2.1 ⟨s.1, hl⟩, onLine_is p.2.2 q.2.2 ⟨s.1, hl⟩⟩

theorem cell_two {w : World} (g h i : Nat) (u v x : Value) (hc : w.cell? ⟨h, i, none⟩ = some x) (hne : g < h) : ((w.setCell ⟨g, 0, none⟩ u).setCell ⟨g, 1, none⟩ v).drew.cell? ⟨h, i, none⟩ = some x := by
  show ((w.setCell ⟨g, 0, none⟩ u).setCell ⟨g, 1, none⟩ v).cell? ⟨h, i, none⟩ = some x
  rw [World.cell?_setCell_far _ _ _ _ (by show g ≠ h; omega), World.cell?_setCell_far _ _ _ _ (by show g ≠ h; omega)]
  exact hc
theorem mark_two {w : World} {g : Nat} (m : MarkAt w g) (u v : Value) : ((w.setCell ⟨g, 0, none⟩ u).setCell ⟨g, 1, none⟩ v).drew.cell? ⟨g, 0, none⟩ = some u ∧ ((w.setCell ⟨g, 0, none⟩ u).setCell ⟨g, 1, none⟩ v).drew.cell? ⟨g, 1, none⟩ = some v :=
  ⟨(World.cell?_setCell_other _ _ _ _ (by simp)).trans (World.cell?_setCell_same _ _ _ m.c0), World.cell?_setCell_same _ _ _ ((World.cell?_setCell_other _ _ _ _ (by simp)).trans m.c1)⟩
theorem Fs.prev_is {n k : Nat} (hk : k ≤ n) (hn : 0 < n) : ∃ j, j = (k + n - 1) % n ∧ j < n ∧ ((k : Int) + (n : Int) - 1) % (n : Int) = (j : Int) :=
  ⟨_, rfl, Nat.mod_lt _ hn, by rw [Int.natCast_emod]; congr 1; omega⟩
theorem Fs.this_is {n k : Nat} (hn : 0 < n) : ∃ j, j = k % n ∧ j < n ∧ (k : Int) % (n : Int) = (j : Int) := ⟨_, rfl, Nat.mod_lt _ hn, by rw [Int.natCast_emod]⟩

set_option maxHeartbeats 3200000 in
set_option maxRecDepth 100000 in
theorem takesAt_any (l : List Pt) (A : Option Addr) (c : Nat) (at_ : Int) (w : World) (h : ArrP w A l c) (hl : PtsOk l) (h0 : 0 ≤ at_) :
    Calls Try.prog 50 #[.slice A l.length c, .int .i64 at_] w fun e w' => e = .returned (.agg #[.int .i64 (takesAt l at_).1, .int .i64 (takesAt l at_).2]) ∧ Below w.heap.size w w' := by
  have b1 := h.le.1
  have b2 := h.le.2
  have HL := Lib.hid hl
  have hn8 := hl.2.1
  have hn0 : 0 < l.length := Nat.pos_of_ne_zero hl.1
  have t0 := Int.emod_nonneg at_ (show (86400 : Int) ≠ 0 by decide)
  have t1 := Int.emod_lt_of_pos at_ (show (0 : Int) < 86400 by decide)
  obtain ⟨b, o, rfl, -⟩ := h.at_ hn0
  have HT : Hid (takesAt l at_ = (onLine (listP l ((behind l (at_ % 86400) + l.length - 1) % l.length)).lo (listP l (behind l (at_ % 86400) % l.length)).lo (secondsTo (at_ % 86400) (listP l (behind l (at_ % 86400) % l.length)).hour) (secondsTo (listP l ((behind l (at_ % 86400) + l.length - 1) % l.length)).hour (listP l (behind l (at_ % 86400) % l.length)).hour),
    onLine (listP l ((behind l (at_ % 86400) + l.length - 1) % l.length)).hi (listP l (behind l (at_ % 86400) % l.length)).hi (secondsTo (at_ % 86400) (listP l (behind l (at_ % 86400) % l.length)).hour) (secondsTo (listP l ((behind l (at_ % 86400) + l.length - 1) % l.length)).hour (listP l (behind l (at_ % 86400) % l.length)).hour))) := Lib.hid rfl
  have HA := Lib.hid (ArrP.keep (Keep.alloc w (.cells #[.int .i64 0, .int .i64 0] 36)) h)
  have RV := Lib.hid (MarkAt.new w 36)
  go_enter Try.func50, Try.ntmps50
  go_upto_region 1 with fail
  generalize hwb : w.alloc _ = wb at *
  have HW : Hid (Below w.heap.size w wb) := by rw [← hwb]; exact Lib.hid ((Below.refl _ _).alloc (Nat.le_refl _) _)
  have HLT : Hid (w.heap.size < wb.heap.size) := by rw [← hwb]; exact Lib.hid (by simp)
  clear hwb h hl
  obtain ⟨t, ht⟩ : ∃ t, t = at_ % 86400 := ⟨_, rfl⟩
  go_wp2
  go_loop [6] (fun u => ∃ k : Nat, k ≤ l.length ∧ u = .int .i64 k ∧ Hid (∀ j, j < k → (listP l j).hour ≤ at_ % 86400)) (fun u => l.length - (intOf u).toNat)
  case atStart => exact ⟨0, Nat.zero_le _, rfl, fun j hj => absurd hj (Nat.not_lt_zero _)⟩
  case round =>
    obtain ⟨k, hk, rfl, Hn⟩ := hrel
    by_cases hgo : k < l.length ∧ (listP l k).hour ≤ at_ % 86400
    · obtain ⟨hlt, hle⟩ := hgo
      obtain ⟨b', o', e', c0, -, -⟩ := HA.out.at_ hlt
      obtain ⟨rfl, rfl⟩ : b = b' ∧ o = o' := by simpa using e'
      clear e'
      have F : Hid (∀ j, j < k + 1 → (listP l j).hour ≤ at_ % 86400) := fun j hj => by
        by_cases e : j = k
        · subst e; exact hle
        · exact Hn.out j (by omega)
      have d1 : decide ((listP l k).hour ≤ at_ % 86400) = true := decide_eq_true hle
      clear hle ht
      go_wp2
      go_round
      case rel => exact ⟨k + 1, by omega, by go_num, F⟩
      case measure => simp [intOf]; omega
    · have hex : (k < l.length ∧ at_ % 86400 < (listP l k).hour) ∨ k = l.length := by omega
      clear hgo ht
      have HX := Lib.hid hex
      have HK : Hid (behind l (at_ % 86400) = k) := Lib.hid (by
        rcases hex with ⟨h1, h2⟩ | h1
        · exact behind_at h1 Hn.out h2
        · rw [h1]; exact behind_end (h1 ▸ Hn.out))
      have LL := Lib.hid (left_le HL.out ⟨t0, by omega⟩ hk Hn.out (fun h1 => by rcases hex with ⟨h2, h3⟩ | h2 <;> omega))
      obtain ⟨i1, hi1, hl1, x1⟩ := prev_is hk hn0
      obtain ⟨i2, hi2, hl2, x2⟩ := this_is (k := k) hn0
      have HT2 := HT.out
      rw [HK.out, ← hi1, ← hi2] at HT2
      replace HT := Lib.hid HT2
      have LL2 := LL.out
      rw [← hi1, ← hi2] at LL2
      have ss := secondsTo_is (at_ % 86400) (listP l i2).hour
      have sa := secondsTo_is (listP l i1).hour (listP l i2).hour
      have HLL := Lib.hid (And.intro ss.1 LL2)
      have HSA := Lib.hid sa.2
      have R1 := Lib.hid (ptRight_is (HL.out.right hl1))
      have R2 := Lib.hid (ptRight_is (HL.out.right hl2))
      have HTR : Hid (0 ≤ at_ % 86400 ∧ at_ % 86400 ≤ 86399) := Lib.hid ⟨t0, by omega⟩
      have hnil : l ≠ [] := fun e => by rw [e] at hn0; exact absurd hn0 (Nat.lt_irrefl _)
      have g0 : (0 : Int) ≤ (k : Int) + (l.length : Int) - 1 := by omega
      clear HT2 LL2 hi1 hi2 ss sa LL
      obtain ⟨b', o', e', p0, p1, p2⟩ := HA.out.at_ hl1
      obtain ⟨rfl, rfl⟩ : b = b' ∧ o = o' := by simpa using e'
      clear e'
      obtain ⟨b', o', e', q0, q1, q2⟩ := HA.out.at_ hl2
      obtain ⟨rfl, rfl⟩ : b = b' ∧ o = o' := by simpa using e'
      clear e'
      have p0b := fun y z => Keep.alloc (wb.alloc y) z _ _ (Keep.alloc wb y _ _ p0)
      have p0a := fun y => Keep.alloc wb y _ _ p0
      have p1b := fun y z => Keep.alloc (wb.alloc y) z _ _ (Keep.alloc wb y _ _ p1)
      have p1a := fun y => Keep.alloc wb y _ _ p1
      have p2b := fun y z => Keep.alloc (wb.alloc y) z _ _ (Keep.alloc wb y _ _ p2)
      have p2a := fun y => Keep.alloc wb y _ _ p2
      have q0b := fun y z => Keep.alloc (wb.alloc y) z _ _ (Keep.alloc wb y _ _ q0)
      have q0a := fun y => Keep.alloc wb y _ _ q0
      have q1b := fun y z => Keep.alloc (wb.alloc y) z _ _ (Keep.alloc wb y _ _ q1)
      have q1a := fun y => Keep.alloc wb y _ _ q1
      have q2b := fun y z => Keep.alloc (wb.alloc y) z _ _ (Keep.alloc wb y _ _ q2)
      have q2a := fun y => Keep.alloc wb y _ _ q2
      have hgo2 : Hid (∃ c0, c0 = True) := Lib.hid ⟨True, rfl⟩
      rcases hex with ⟨hlt, hgt⟩ | hend
      · obtain ⟨b', o', e', c0, -, -⟩ := HA.out.at_ hlt
        obtain ⟨rfl, rfl⟩ : b = b' ∧ o = o' := by simpa using e'
        have d1 : decide ((listP l k).hour ≤ at_ % 86400) = false := decide_eq_false (by omega)
        clear e' hgt
        go_wp2_with fail
        go_cut [7, 8] from 29 to 46 (fun s7 s8 wx => ∃ g1 g2 : Nat, w.heap.size < g1 ∧ w.heap.size < g2 ∧ s7 = .pointer (some ⟨g1, 0, none⟩) ∧ s8 = .pointer (some ⟨g2, 0, none⟩) ∧ Hid (PtAt wx g1 (listP l i1)) ∧ Hid (PtAt wx g2 (listP l i2)) ∧ Hid (Below wb.heap.size wb wx))
        case first =>
          go_region
          all_goals
            go_wp2_with fail
            go_meet
            first
              | exact ⟨wb.heap.size, wb.heap.size + 1, HLT.out, Nat.lt_succ_of_lt HLT.out, rfl, rfl, Lib.hid ((PtAt.new wb _ _).keep ((Keep.alloc _ _).trans (Keep.drew _))), Lib.hid ((PtAt.new1 wb _ _ _).keep (Keep.drew _)), Lib.hid (((Below.refl _ _).alloc (Nat.le_refl _) _).alloc (by simp) _).drew⟩
              | exact ⟨wb.heap.size + 1, wb.heap.size, Nat.lt_succ_of_lt HLT.out, HLT.out, rfl, rfl, Lib.hid ((PtAt.new1 wb _ _ _).keep (Keep.drew _)), Lib.hid ((PtAt.new wb _ _).keep ((Keep.alloc _ _).trans (Keep.drew _))), Lib.hid (((Below.refl _ _).alloc (Nat.le_refl _) _).alloc (by simp) _).drew⟩
        case rest =>
          obtain ⟨g1, g2, lt1, lt2, rfl, rfl, PK, PJ, HBc⟩ := hcut
          clear p0 p0a p0b p1 p1a p1b p2 p2a p2b q0 q0a q0b q1 q1a q1b q2 q2a q2b c0
          obtain ⟨wp, hwp⟩ : ∃ wp, wp = wc := ⟨_, rfl⟩
          subst hwp
          obtain ⟨k0, k1, k2⟩ := PK.out
          obtain ⟨j0, j1, j2⟩ := PJ.out
          have HBp := Lib.hid (HW.out.trans (HBc.out.mono HW.out.size))
          have RVp := Lib.hid (RV.out.below HBc.out RV.out.lt)
          have HLP := Lib.hid RVp.out.lt
          clear HBc
          have k0a := fun y => Keep.alloc wp y _ _ k0
          have j0a := fun y => Keep.alloc wp y _ _ j0
          have k0b := fun y z => Keep.alloc (wp.alloc y) z _ _ (Keep.alloc wp y _ _ k0)
          have j0b := fun y z => Keep.alloc (wp.alloc y) z _ _ (Keep.alloc wp y _ _ j0)
          go_wp2_with fail
          go_cut [9, 10] from 47 to 55 (fun s9 s10 wx => ∃ h1 h2 : Nat, w.heap.size < h1 ∧ w.heap.size < h2 ∧ s9 = .pointer (some ⟨h1, 0, none⟩) ∧ s10 = .pointer (some ⟨h2, 0, none⟩) ∧ Hid (wx.cell? ⟨h1, 0, none⟩ = some (.int .i64 (secondsTo (listP l i1).hour (listP l i2).hour))) ∧ Hid (wx.cell? ⟨h2, 0, none⟩ = some (.int .i64 (secondsTo (at_ % 86400) (listP l i2).hour))) ∧ Hid (Below wp.heap.size wp wx))
          case first =>
            have MK : Hid (∀ w', Below wp.heap.size wp w' → w'.cell? ⟨g1, 0, none⟩ = some (.int .i64 (listP l i1).hour) ∧ w'.cell? ⟨g2, 0, none⟩ = some (.int .i64 (listP l i2).hour) ∧ Hid (Below wp.heap.size wp w')) := Lib.hid fun w' hw => ⟨Keep.below hw _ _ k0, Keep.below hw _ _ j0, Lib.hid hw⟩
            have HBd : Hid (Below wp.heap.size wp wp.drew) := Lib.hid (Below.refl _ _).drew
            go_region_held3 (fun w' => w'.cell? ⟨g1, 0, none⟩ = some (.int .i64 (listP l i1).hour) ∧ w'.cell? ⟨g2, 0, none⟩ = some (.int .i64 (listP l i2).hour) ∧ Hid (Below wp.heap.size wp w'))
              (first
                | exact MK.out _ HBd.out
                | exact MK.out _ (((Below.refl wp.heap.size wp).alloc (Nat.le_refl _) _).drew)
                | exact MK.out _ ((((Below.refl wp.heap.size wp).alloc (Nat.le_refl _) _).alloc (by simp) _).drew)
                | (go_split_ands; exact ⟨by assumption, by assumption, by assumption⟩)
                | (go_split_ands; exact MK.out _ (Below.alloc (Hid.out (by assumption)) (Hid.out (by assumption) : Below wp.heap.size wp _).size _))
                | (go_split_ands; exact MK.out _ (Below.setCell (Hid.out (by assumption)) (by simp) _)))
              ((first
                  | (go_at_call 72
                     refine (secondsTo_any _ _ _ (by first | exact R1.out.1 | exact HTR.out) R2.out.1).mono ?_
                     rintro e' w1 ⟨rfl, rfl⟩)))
            all_goals
              go_wp2_with fail
              go_meet
              first
                | exact ⟨wp.heap.size, wp.heap.size + 1, HLP.out, Nat.lt_succ_of_lt HLP.out, rfl, rfl, Lib.hid (Keep.alloc _ _ _ _ (cellNew wp _ _ 0)), Lib.hid (cellNew1 wp _ _ _ 0), Lib.hid (((Below.refl _ _).alloc (Nat.le_refl _) _).alloc (by simp) _).drew⟩
                | exact ⟨wp.heap.size + 1, wp.heap.size, Nat.lt_succ_of_lt HLP.out, HLP.out, rfl, rfl, Lib.hid (cellNew1 wp _ _ _ 0), Lib.hid (Keep.alloc _ _ _ _ (cellNew wp _ _ 0)), Lib.hid (((Below.refl _ _).alloc (Nat.le_refl _) _).alloc (by simp) _).drew⟩
          case rest =>
            obtain ⟨h1, h2, lt3, lt4, rfl, rfl, HC1, HC2, HBd⟩ := hcut
            obtain ⟨wq, hwq⟩ : ∃ wq, wq = wc := ⟨_, rfl⟩
            subst hwq
            clear k0 k1 k2 j0 j1 j2 k0a j0a k0b j0b
            obtain ⟨k0, k1, k2⟩ := PK.out.keep (Keep.below HBd.out)
            obtain ⟨j0, j1, j2⟩ := PJ.out.keep (Keep.below HBd.out)
            have HBq := Lib.hid (HBp.out.trans (HBd.out.mono HBp.out.size))
            have RVq := Lib.hid (RVp.out.below HBd.out RVp.out.lt)
            obtain ⟨r0, r1, rf0, rf1⟩ := RVq.out
            go_wp2_with fail
            go_cut [] from 57 to 73 (fun wx => Hid (wx.cell? ⟨w.heap.size, 0, none⟩ = some (.int .i64 (takesAt l at_).1)) ∧ Hid (wx.cell? ⟨w.heap.size, 1, none⟩ = some (.int .i64 (takesAt l at_).2)) ∧ Hid (Below w.heap.size w wx))
            case first =>
              go_region_held3 (fun w' => w'.cell? ⟨g1, 1, none⟩ = some (.int .i64 (listP l i1).lo) ∧ w'.cell? ⟨g1, 2, none⟩ = some (.int .i64 (listP l i1).hi) ∧ w'.cell? ⟨g2, 1, none⟩ = some (.int .i64 (listP l i2).lo) ∧ w'.cell? ⟨g2, 2, none⟩ = some (.int .i64 (listP l i2).hi) ∧ Hid (w'.cell? ⟨h1, 0, none⟩ = some (.int .i64 (secondsTo (listP l i1).hour (listP l i2).hour))) ∧ Hid (w'.cell? ⟨h2, 0, none⟩ = some (.int .i64 (secondsTo (at_ % 86400) (listP l i2).hour))))
                (first
                  | exact ⟨k1, k2, j1, j2, HC1, HC2⟩
                  | (go_split_ands; exact ⟨by assumption, by assumption, by assumption, by assumption, by assumption, by assumption⟩)
                  | exact ⟨cell_two _ _ _ _ _ _ k1 lt1, cell_two _ _ _ _ _ _ k2 lt1, cell_two _ _ _ _ _ _ j1 lt2, cell_two _ _ _ _ _ _ j2 lt2, Lib.hid (cell_two _ _ _ _ _ _ HC1.out lt3), Lib.hid (cell_two _ _ _ _ _ _ HC2.out lt4)⟩)
                ((first
                  | (go_at_call 73
                     go_split_ands
                     refine (line_any _ _ _ _ h1 h2 _ (Hid.out (by assumption)) (Hid.out (by assumption)) (by first | exact R1.out.2.1 | exact R1.out.2.2) (by first | exact R2.out.2.1 | exact R2.out.2.2) HLL.out HSA.out).mono ?_
                     rintro e' w' ⟨rfl, rfl⟩)))
              all_goals
                go_wp2_with fail
                go_meet
                rw [HT.out]
                exact ⟨Lib.hid (mark_two RVq.out _ _).1, Lib.hid (mark_two RVq.out _ _).2, Lib.hid ((HBq.out.setCell (p := ⟨w.heap.size, 0, none⟩) (Nat.le_refl _) _).setCell (p := ⟨w.heap.size, 1, none⟩) (Nat.le_refl _) _).drew⟩
            case rest =>
              obtain ⟨R0, R1', HBr⟩ := hcut
              have r0 := R0.out
              have r1 := R1'.out
              go_wp2_with fail
              exact bodyPost_ret (v := .agg #[.int .i64 (takesAt l at_).1, .int .i64 (takesAt l at_).2]) (by simp [results, Try.results50, go_sem, r0, r1]) rfl ⟨rfl, HBr.out⟩
      · have hend' : ¬ k < l.length := by omega
        clear hend
        go_wp2_with fail
        go_cut [7, 8] from 29 to 46 (fun s7 s8 wx => ∃ g1 g2 : Nat, w.heap.size < g1 ∧ w.heap.size < g2 ∧ s7 = .pointer (some ⟨g1, 0, none⟩) ∧ s8 = .pointer (some ⟨g2, 0, none⟩) ∧ Hid (PtAt wx g1 (listP l i1)) ∧ Hid (PtAt wx g2 (listP l i2)) ∧ Hid (Below wb.heap.size wb wx))
        case first =>
          go_region
          all_goals
            go_wp2_with fail
            go_meet
            first
              | exact ⟨wb.heap.size, wb.heap.size + 1, HLT.out, Nat.lt_succ_of_lt HLT.out, rfl, rfl, Lib.hid ((PtAt.new wb _ _).keep ((Keep.alloc _ _).trans (Keep.drew _))), Lib.hid ((PtAt.new1 wb _ _ _).keep (Keep.drew _)), Lib.hid (((Below.refl _ _).alloc (Nat.le_refl _) _).alloc (by simp) _).drew⟩
              | exact ⟨wb.heap.size + 1, wb.heap.size, Nat.lt_succ_of_lt HLT.out, HLT.out, rfl, rfl, Lib.hid ((PtAt.new1 wb _ _ _).keep (Keep.drew _)), Lib.hid ((PtAt.new wb _ _).keep ((Keep.alloc _ _).trans (Keep.drew _))), Lib.hid (((Below.refl _ _).alloc (Nat.le_refl _) _).alloc (by simp) _).drew⟩
        case rest =>
          obtain ⟨g1, g2, lt1, lt2, rfl, rfl, PK, PJ, HBc⟩ := hcut
          clear p0 p0a p0b p1 p1a p1b p2 p2a p2b q0 q0a q0b q1 q1a q1b q2 q2a q2b
          obtain ⟨wp, hwp⟩ : ∃ wp, wp = wc := ⟨_, rfl⟩
          subst hwp
          obtain ⟨k0, k1, k2⟩ := PK.out
          obtain ⟨j0, j1, j2⟩ := PJ.out
          have HBp := Lib.hid (HW.out.trans (HBc.out.mono HW.out.size))
          have RVp := Lib.hid (RV.out.below HBc.out RV.out.lt)
          have HLP := Lib.hid RVp.out.lt
          clear HBc
          have k0a := fun y => Keep.alloc wp y _ _ k0
          have j0a := fun y => Keep.alloc wp y _ _ j0
          have k0b := fun y z => Keep.alloc (wp.alloc y) z _ _ (Keep.alloc wp y _ _ k0)
          have j0b := fun y z => Keep.alloc (wp.alloc y) z _ _ (Keep.alloc wp y _ _ j0)
          go_wp2_with fail
          go_cut [9, 10] from 47 to 55 (fun s9 s10 wx => ∃ h1 h2 : Nat, w.heap.size < h1 ∧ w.heap.size < h2 ∧ s9 = .pointer (some ⟨h1, 0, none⟩) ∧ s10 = .pointer (some ⟨h2, 0, none⟩) ∧ Hid (wx.cell? ⟨h1, 0, none⟩ = some (.int .i64 (secondsTo (listP l i1).hour (listP l i2).hour))) ∧ Hid (wx.cell? ⟨h2, 0, none⟩ = some (.int .i64 (secondsTo (at_ % 86400) (listP l i2).hour))) ∧ Hid (Below wp.heap.size wp wx))
          case first =>
            have MK : Hid (∀ w', Below wp.heap.size wp w' → w'.cell? ⟨g1, 0, none⟩ = some (.int .i64 (listP l i1).hour) ∧ w'.cell? ⟨g2, 0, none⟩ = some (.int .i64 (listP l i2).hour) ∧ Hid (Below wp.heap.size wp w')) := Lib.hid fun w' hw => ⟨Keep.below hw _ _ k0, Keep.below hw _ _ j0, Lib.hid hw⟩
            have HBd : Hid (Below wp.heap.size wp wp.drew) := Lib.hid (Below.refl _ _).drew
            go_region_held3 (fun w' => w'.cell? ⟨g1, 0, none⟩ = some (.int .i64 (listP l i1).hour) ∧ w'.cell? ⟨g2, 0, none⟩ = some (.int .i64 (listP l i2).hour) ∧ Hid (Below wp.heap.size wp w'))
              (first
                | exact MK.out _ HBd.out
                | exact MK.out _ (((Below.refl wp.heap.size wp).alloc (Nat.le_refl _) _).drew)
                | exact MK.out _ ((((Below.refl wp.heap.size wp).alloc (Nat.le_refl _) _).alloc (by simp) _).drew)
                | (go_split_ands; exact ⟨by assumption, by assumption, by assumption⟩)
                | (go_split_ands; exact MK.out _ (Below.alloc (Hid.out (by assumption)) (Hid.out (by assumption) : Below wp.heap.size wp _).size _))
                | (go_split_ands; exact MK.out _ (Below.setCell (Hid.out (by assumption)) (by simp) _)))
              ((first
                  | (go_at_call 72
                     refine (secondsTo_any _ _ _ (by first | exact R1.out.1 | exact HTR.out) R2.out.1).mono ?_
                     rintro e' w1 ⟨rfl, rfl⟩)))
            all_goals
              go_wp2_with fail
              go_meet
              first
                | exact ⟨wp.heap.size, wp.heap.size + 1, HLP.out, Nat.lt_succ_of_lt HLP.out, rfl, rfl, Lib.hid (Keep.alloc _ _ _ _ (cellNew wp _ _ 0)), Lib.hid (cellNew1 wp _ _ _ 0), Lib.hid (((Below.refl _ _).alloc (Nat.le_refl _) _).alloc (by simp) _).drew⟩
                | exact ⟨wp.heap.size + 1, wp.heap.size, Nat.lt_succ_of_lt HLP.out, HLP.out, rfl, rfl, Lib.hid (cellNew1 wp _ _ _ 0), Lib.hid (Keep.alloc _ _ _ _ (cellNew wp _ _ 0)), Lib.hid (((Below.refl _ _).alloc (Nat.le_refl _) _).alloc (by simp) _).drew⟩
          case rest =>
            obtain ⟨h1, h2, lt3, lt4, rfl, rfl, HC1, HC2, HBd⟩ := hcut
            obtain ⟨wq, hwq⟩ : ∃ wq, wq = wc := ⟨_, rfl⟩
            subst hwq
            clear k0 k1 k2 j0 j1 j2 k0a j0a k0b j0b
            obtain ⟨k0, k1, k2⟩ := PK.out.keep (Keep.below HBd.out)
            obtain ⟨j0, j1, j2⟩ := PJ.out.keep (Keep.below HBd.out)
            have HBq := Lib.hid (HBp.out.trans (HBd.out.mono HBp.out.size))
            have RVq := Lib.hid (RVp.out.below HBd.out RVp.out.lt)
            obtain ⟨r0, r1, rf0, rf1⟩ := RVq.out
            go_wp2_with fail
            go_cut [] from 57 to 73 (fun wx => Hid (wx.cell? ⟨w.heap.size, 0, none⟩ = some (.int .i64 (takesAt l at_).1)) ∧ Hid (wx.cell? ⟨w.heap.size, 1, none⟩ = some (.int .i64 (takesAt l at_).2)) ∧ Hid (Below w.heap.size w wx))
            case first =>
              go_region_held3 (fun w' => w'.cell? ⟨g1, 1, none⟩ = some (.int .i64 (listP l i1).lo) ∧ w'.cell? ⟨g1, 2, none⟩ = some (.int .i64 (listP l i1).hi) ∧ w'.cell? ⟨g2, 1, none⟩ = some (.int .i64 (listP l i2).lo) ∧ w'.cell? ⟨g2, 2, none⟩ = some (.int .i64 (listP l i2).hi) ∧ Hid (w'.cell? ⟨h1, 0, none⟩ = some (.int .i64 (secondsTo (listP l i1).hour (listP l i2).hour))) ∧ Hid (w'.cell? ⟨h2, 0, none⟩ = some (.int .i64 (secondsTo (at_ % 86400) (listP l i2).hour))))
                (first
                  | exact ⟨k1, k2, j1, j2, HC1, HC2⟩
                  | (go_split_ands; exact ⟨by assumption, by assumption, by assumption, by assumption, by assumption, by assumption⟩)
                  | exact ⟨cell_two _ _ _ _ _ _ k1 lt1, cell_two _ _ _ _ _ _ k2 lt1, cell_two _ _ _ _ _ _ j1 lt2, cell_two _ _ _ _ _ _ j2 lt2, Lib.hid (cell_two _ _ _ _ _ _ HC1.out lt3), Lib.hid (cell_two _ _ _ _ _ _ HC2.out lt4)⟩)
                ((first
                  | (go_at_call 73
                     go_split_ands
                     refine (line_any _ _ _ _ h1 h2 _ (Hid.out (by assumption)) (Hid.out (by assumption)) (by first | exact R1.out.2.1 | exact R1.out.2.2) (by first | exact R2.out.2.1 | exact R2.out.2.2) HLL.out HSA.out).mono ?_
                     rintro e' w' ⟨rfl, rfl⟩)))
              all_goals
                go_wp2_with fail
                go_meet
                rw [HT.out]
                exact ⟨Lib.hid (mark_two RVq.out _ _).1, Lib.hid (mark_two RVq.out _ _).2, Lib.hid ((HBq.out.setCell (p := ⟨w.heap.size, 0, none⟩) (Nat.le_refl _) _).setCell (p := ⟨w.heap.size, 1, none⟩) (Nat.le_refl _) _).drew⟩
            case rest =>
              obtain ⟨R0, R1', HBr⟩ := hcut
              have r0 := R0.out
              have r1 := R1'.out
              go_wp2_with fail
              exact bodyPost_ret (v := .agg #[.int .i64 (takesAt l at_).1, .int .i64 (takesAt l at_).2]) (by simp [results, Try.results50, go_sem, r0, r1]) rfl ⟨rfl, HBr.out⟩
end Go.Proofs.Ytjmaankkbdpikaa

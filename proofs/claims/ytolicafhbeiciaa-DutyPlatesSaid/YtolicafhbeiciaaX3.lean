/- The check of rules; a book of rules and records. No condition. -/
import Derived.Test.YtolicafhbeiciaaX1
namespace Go.Proofs.Ytolicafhbeiciaa
open Go.RowKit Fs

set_option maxHeartbeats 1600000 in
set_option maxRecDepth 100000 in
theorem xCheckRules_any (R : DRules) (w : World) :
    Calls Try.prog 128 #[drulesV R] w fun e w' => e = .returned (.int .i64 (drulesErr R)) ∧ Below w.heap.size w w' := by
  have BR := Lib.hid (RulesIn.new w R 23)
  go_enter Try.func128, Try.ntmps128
  go_upto_region 1 with fail
  generalize hwb : w.alloc _ = wb at *
  have HW : Hid (Below w.heap.size w wb) := by rw [← hwb]; exact Lib.hid ((Below.refl _ _).alloc (Nat.le_refl _) _)
  clear hwb
  obtain ⟨a0, a1, a2, a3, a4⟩ := BR.out
  have HL := Lib.hid (fun k (hk : k < 5) => show (wb.alloc (.cells #[.int .i64 R.brk, .int .i64 R.rest, .int .i64 R.stint, .int .i64 R.shift, .int .i64 R.week] 3)).cell? ⟨wb.heap.size, k, none⟩ = some (.int .i64 (ruleAtN R k)) by
    rw [cellNew]
    match k, hk with
    | 0, _ => rfl
    | 1, _ => rfl
    | 2, _ => rfl
    | 3, _ => rfl
    | 4, _ => rfl)
  have BR2 := Lib.hid (BR.out.keep (Keep.alloc _ (.cells #[.int .i64 R.brk, .int .i64 R.rest, .int .i64 R.stint, .int .i64 R.shift, .int .i64 R.week] 3)))
  have HW2 := Lib.hid (HW.out.alloc HW.out.size (.cells #[.int .i64 R.brk, .int .i64 R.rest, .int .i64 R.stint, .int .i64 R.shift, .int .i64 R.week] 3))
  go_wp2_with fail
  generalize hg : wb.heap.size = g at *
  generalize wb.alloc _ = wc at *
  clear a0 a1 a2 a3 a4
  go_loop [17] (fun i => ∃ k : Nat, k ≤ 5 ∧ i = .int .i64 k ∧ Hid (∀ j, j < k → ruleOk (ruleAtN R j) = true)) (fun i => 5 - (intOf i).toNat)
  case atStart => exact ⟨0, Nat.zero_le _, rfl, Lib.hid fun j hj => absurd hj (Nat.not_lt_zero _)⟩
  case round =>
    obtain ⟨k, hk, rfl, Hn⟩ := hrel
    by_cases hlt : k < 5
    · have hkn : (k : Int) < 5 := by omega
      have ck := HL.out k hlt
      cases hr : within (ruleAtN R k) 1 2000000 with
      | false =>
        have F := Lib.hid (drules_bad hlt hr)
        have HR := Lib.hid hr
        clear hr
        go_wp2_with fail
        refine (within_any _ _ _ _).mono ?_
        rintro e w' ⟨rfl, rfl⟩
        rw [HR.out]
        go_wp2_with fail
        go_ret
        exact ⟨ret_int F.out.symm, HW2.out⟩
      | true =>
        have G : Hid (∀ j, j < k + 1 → ruleOk (ruleAtN R j) = true) := Lib.hid fun j hj => by
          by_cases e : j = k
          · subst e; exact hr
          · exact Hn.out j (by omega)
        have HR := Lib.hid hr
        clear hr
        go_wp2_with fail
        refine (within_any _ _ _ _).mono ?_
        rintro e w' ⟨rfl, rfl⟩
        rw [HR.out]
        go_wp2_with fail
        go_round
        case rel => exact ⟨k + 1, by omega, by go_num, G⟩
        case measure => simp [intOf]; omega
    · obtain rfl : k = 5 := by omega
      have F := Lib.hid (drules_good Hn.out)
      obtain ⟨a0, a1, a2, a3, a4⟩ := BR2.out
      by_cases hb : R.rest < R.brk
      · have G := Lib.hid (F.out.trans (if_pos hb))
        have d1 : decide (R.brk > R.rest) = true := decide_eq_true hb
        have d2 : decide (R.rest < R.brk) = true := decide_eq_true hb
        clear hb
        go_wp2_with fail
        go_ret
        exact ⟨ret_int G.out.symm, HW2.out⟩
      · have G := Lib.hid (F.out.trans (if_neg hb))
        have d1 : decide (R.brk > R.rest) = false := decide_eq_false hb
        have d2 : decide (R.rest < R.brk) = false := decide_eq_false hb
        clear hb
        go_wp2_with fail
        go_ret
        exact ⟨ret_int G.out.symm, HW2.out⟩

/-! ### a book -/
abbrev bookV (R : DRules) (A : Option Addr) (n c : Nat) : Value := .agg #[.int .i64 R.brk, .int .i64 R.rest, .int .i64 R.stint, .int .i64 R.shift, .int .i64 R.week, .slice A n c]
abbrev bookZ : Value := .agg #[.int .i64 0, .int .i64 0, .int .i64 0, .int .i64 0, .int .i64 0, .slice none 0 0]
/-- A book in the block g. -/
structure BookIn (w : World) (g : Nat) (R : DRules) (A : Option Addr) (n c : Nat) : Prop where
  c0 : w.cell? ⟨g, 0, none⟩ = some (.int .i64 R.brk)
  c1 : w.cell? ⟨g, 1, none⟩ = some (.int .i64 R.rest)
  c2 : w.cell? ⟨g, 2, none⟩ = some (.int .i64 R.stint)
  c3 : w.cell? ⟨g, 3, none⟩ = some (.int .i64 R.shift)
  c4 : w.cell? ⟨g, 4, none⟩ = some (.int .i64 R.week)
  c5 : w.cell? ⟨g, 5, none⟩ = some (.slice A n c)
theorem BookIn.keep {w w' : World} (k : Keep w w') {g : Nat} {R : DRules} {A : Option Addr} {n c : Nat} (m : BookIn w g R A n c) : BookIn w' g R A n c := ⟨k _ _ m.c0, k _ _ m.c1, k _ _ m.c2, k _ _ m.c3, k _ _ m.c4, k _ _ m.c5⟩
theorem BookIn.new (w : World) (R : DRules) (A : Option Addr) (n c : Nat) (t : TypeId) : BookIn (w.alloc (.cells #[.int .i64 R.brk, .int .i64 R.rest, .int .i64 R.stint, .int .i64 R.shift, .int .i64 R.week, .slice A n c] t)) w.heap.size R A n c :=
  ⟨cellNew _ _ _ 0, cellNew _ _ _ 1, cellNew _ _ _ 2, cellNew _ _ _ 3, cellNew _ _ _ 4, cellNew _ _ _ 5⟩
/-- Six cells of one's own. -/
structure Six (w : World) (g : Nat) (v0 v1 v2 v3 v4 v5 : Value) : Prop where
  c0 : w.cell? ⟨g, 0, none⟩ = some v0
  c1 : w.cell? ⟨g, 1, none⟩ = some v1
  c2 : w.cell? ⟨g, 2, none⟩ = some v2
  c3 : w.cell? ⟨g, 3, none⟩ = some v3
  c4 : w.cell? ⟨g, 4, none⟩ = some v4
  c5 : w.cell? ⟨g, 5, none⟩ = some v5
  f0 : w.frozen? ⟨g, 0, none⟩ = false
  f1 : w.frozen? ⟨g, 1, none⟩ = false
  f2 : w.frozen? ⟨g, 2, none⟩ = false
  f3 : w.frozen? ⟨g, 3, none⟩ = false
  f4 : w.frozen? ⟨g, 4, none⟩ = false
  f5 : w.frozen? ⟨g, 5, none⟩ = false
theorem Six.lt {w : World} {g : Nat} {v0 v1 v2 v3 v4 v5 : Value} (m : Six w g v0 v1 v2 v3 v4 v5) : g < w.heap.size := World.block_lt_of_cell? w _ m.c0
theorem Six.keep {w w' : World} {g : Nat} {v0 v1 v2 v3 v4 v5 : Value} (m : Six w g v0 v1 v2 v3 v4 v5) (h : Below w.heap.size w w') : Six w' g v0 v1 v2 v3 v4 v5 :=
  ⟨(h.cell (p := ⟨g, 0, none⟩) m.lt).trans m.c0, (h.cell (p := ⟨g, 1, none⟩) m.lt).trans m.c1, (h.cell (p := ⟨g, 2, none⟩) m.lt).trans m.c2, (h.cell (p := ⟨g, 3, none⟩) m.lt).trans m.c3, (h.cell (p := ⟨g, 4, none⟩) m.lt).trans m.c4, (h.cell (p := ⟨g, 5, none⟩) m.lt).trans m.c5, (h.frozen (p := ⟨g, 0, none⟩) m.lt).trans m.f0, (h.frozen (p := ⟨g, 1, none⟩) m.lt).trans m.f1, (h.frozen (p := ⟨g, 2, none⟩) m.lt).trans m.f2, (h.frozen (p := ⟨g, 3, none⟩) m.lt).trans m.f3, (h.frozen (p := ⟨g, 4, none⟩) m.lt).trans m.f4, (h.frozen (p := ⟨g, 5, none⟩) m.lt).trans m.f5⟩
theorem Six.set {w : World} {g : Nat} {v0 v1 v2 v3 v4 v5 : Value} (m : Six w g v0 v1 v2 v3 v4 v5) (u0 u1 u2 u3 u4 u5 : Value) : Six (((((((w.setCell ⟨g, 0, none⟩ u0).setCell ⟨g, 1, none⟩ u1).setCell ⟨g, 2, none⟩ u2).setCell ⟨g, 3, none⟩ u3).setCell ⟨g, 4, none⟩ u4).setCell ⟨g, 5, none⟩ u5)) g u0 u1 u2 u3 u4 u5 :=
  ⟨(World.cell?_setCell_other _ _ _ _ (by simp)).trans ((World.cell?_setCell_other _ _ _ _ (by simp)).trans ((World.cell?_setCell_other _ _ _ _ (by simp)).trans ((World.cell?_setCell_other _ _ _ _ (by simp)).trans ((World.cell?_setCell_other _ _ _ _ (by simp)).trans (World.cell?_setCell_same _ _ _ (m.c0)))))),
   (World.cell?_setCell_other _ _ _ _ (by simp)).trans ((World.cell?_setCell_other _ _ _ _ (by simp)).trans ((World.cell?_setCell_other _ _ _ _ (by simp)).trans ((World.cell?_setCell_other _ _ _ _ (by simp)).trans (World.cell?_setCell_same _ _ _ ((World.cell?_setCell_other _ _ _ _ (by simp)).trans (m.c1)))))),
   (World.cell?_setCell_other _ _ _ _ (by simp)).trans ((World.cell?_setCell_other _ _ _ _ (by simp)).trans ((World.cell?_setCell_other _ _ _ _ (by simp)).trans (World.cell?_setCell_same _ _ _ ((World.cell?_setCell_other _ _ _ _ (by simp)).trans ((World.cell?_setCell_other _ _ _ _ (by simp)).trans (m.c2)))))),
   (World.cell?_setCell_other _ _ _ _ (by simp)).trans ((World.cell?_setCell_other _ _ _ _ (by simp)).trans (World.cell?_setCell_same _ _ _ ((World.cell?_setCell_other _ _ _ _ (by simp)).trans ((World.cell?_setCell_other _ _ _ _ (by simp)).trans ((World.cell?_setCell_other _ _ _ _ (by simp)).trans (m.c3)))))),
   (World.cell?_setCell_other _ _ _ _ (by simp)).trans (World.cell?_setCell_same _ _ _ ((World.cell?_setCell_other _ _ _ _ (by simp)).trans ((World.cell?_setCell_other _ _ _ _ (by simp)).trans ((World.cell?_setCell_other _ _ _ _ (by simp)).trans ((World.cell?_setCell_other _ _ _ _ (by simp)).trans (m.c4)))))),
   World.cell?_setCell_same _ _ _ ((World.cell?_setCell_other _ _ _ _ (by simp)).trans ((World.cell?_setCell_other _ _ _ _ (by simp)).trans ((World.cell?_setCell_other _ _ _ _ (by simp)).trans ((World.cell?_setCell_other _ _ _ _ (by simp)).trans ((World.cell?_setCell_other _ _ _ _ (by simp)).trans (m.c5)))))),
   (World.frozen?_setCell _ _ _ _).trans ((World.frozen?_setCell _ _ _ _).trans ((World.frozen?_setCell _ _ _ _).trans ((World.frozen?_setCell _ _ _ _).trans ((World.frozen?_setCell _ _ _ _).trans ((World.frozen?_setCell _ _ _ _).trans (m.f0)))))), (World.frozen?_setCell _ _ _ _).trans ((World.frozen?_setCell _ _ _ _).trans ((World.frozen?_setCell _ _ _ _).trans ((World.frozen?_setCell _ _ _ _).trans ((World.frozen?_setCell _ _ _ _).trans ((World.frozen?_setCell _ _ _ _).trans (m.f1)))))), (World.frozen?_setCell _ _ _ _).trans ((World.frozen?_setCell _ _ _ _).trans ((World.frozen?_setCell _ _ _ _).trans ((World.frozen?_setCell _ _ _ _).trans ((World.frozen?_setCell _ _ _ _).trans ((World.frozen?_setCell _ _ _ _).trans (m.f2)))))), (World.frozen?_setCell _ _ _ _).trans ((World.frozen?_setCell _ _ _ _).trans ((World.frozen?_setCell _ _ _ _).trans ((World.frozen?_setCell _ _ _ _).trans ((World.frozen?_setCell _ _ _ _).trans ((World.frozen?_setCell _ _ _ _).trans (m.f3)))))), (World.frozen?_setCell _ _ _ _).trans ((World.frozen?_setCell _ _ _ _).trans ((World.frozen?_setCell _ _ _ _).trans ((World.frozen?_setCell _ _ _ _).trans ((World.frozen?_setCell _ _ _ _).trans ((World.frozen?_setCell _ _ _ _).trans (m.f4)))))), (World.frozen?_setCell _ _ _ _).trans ((World.frozen?_setCell _ _ _ _).trans ((World.frozen?_setCell _ _ _ _).trans ((World.frozen?_setCell _ _ _ _).trans ((World.frozen?_setCell _ _ _ _).trans ((World.frozen?_setCell _ _ _ _).trans (m.f5))))))⟩
theorem Six.new (w : World) (v0 v1 v2 v3 v4 v5 : Value) (t : TypeId) : Six (w.alloc (.cells #[v0, v1, v2, v3, v4, v5] t)) w.heap.size v0 v1 v2 v3 v4 v5 := ⟨cellNew _ _ _ 0, cellNew _ _ _ 1, cellNew _ _ _ 2, cellNew _ _ _ 3, cellNew _ _ _ 4, cellNew _ _ _ 5, frozenNew _ _ _ 0, frozenNew _ _ _ 1, frozenNew _ _ _ 2, frozenNew _ _ _ 3, frozenNew _ _ _ 4, frozenNew _ _ _ 5⟩
theorem below_six {w wr : World} {g B : Nat} (h : Below B w wr) (hg : B ≤ g) (u0 u1 u2 u3 u4 u5 : Value) : Below B w (((((((wr.setCell ⟨g, 0, none⟩ u0).setCell ⟨g, 1, none⟩ u1).setCell ⟨g, 2, none⟩ u2).setCell ⟨g, 3, none⟩ u3).setCell ⟨g, 4, none⟩ u4).setCell ⟨g, 5, none⟩ u5)) :=
  (((((h.setCell (p := ⟨g, 0, none⟩) hg u0).setCell (p := ⟨g, 1, none⟩) hg u1).setCell (p := ⟨g, 2, none⟩) hg u2).setCell (p := ⟨g, 3, none⟩) hg u3).setCell (p := ⟨g, 4, none⟩) hg u4).setCell (p := ⟨g, 5, none⟩) hg u5
set_option linter.unusedSimpArgs false in
set_option maxHeartbeats 1600000 in
set_option maxRecDepth 100000 in
theorem xBookOf_any (R : DRules) (l : List WRec) (A : Option Addr) (c : Nat) (w : World) (h : ArrW w A l c) :
    Calls Try.prog 75 #[drulesV R, .slice A l.length c] w fun e w' => (∃ v, e = .returned (.tuple #[v, .int .i64 (bothErr R l)]) ∧ (bothErr R l = 0 → v = bookV R A l.length c) ∧ (bothErr R l ≠ 0 → v = bookZ)) ∧ Below w.heap.size w w' := by
  have HA := Lib.hid h
  clear h
  have BR := Lib.hid ((RulesIn.new w R 23).keep (Keep.alloc _ (.cells #[.int .i64 0, .int .i64 0, .int .i64 0, .int .i64 0, .int .i64 0, .slice none 0 0] 127)))
  have BT := Lib.hid (show Six ((w.alloc (.cells #[.int .i64 R.brk, .int .i64 R.rest, .int .i64 R.stint, .int .i64 R.shift, .int .i64 R.week] 23)).alloc (.cells #[.int .i64 0, .int .i64 0, .int .i64 0, .int .i64 0, .int .i64 0, .slice none 0 0] 127)) (w.heap.size + 1) _ _ _ _ _ _ from by
    have := Six.new (w.alloc (.cells #[.int .i64 R.brk, .int .i64 R.rest, .int .i64 R.stint, .int .i64 R.shift, .int .i64 R.week] 23)) (.int .i64 0) (.int .i64 0) (.int .i64 0) (.int .i64 0) (.int .i64 0) (.slice none 0 0) 127
    rw [show (w.alloc (.cells #[.int .i64 R.brk, .int .i64 R.rest, .int .i64 R.stint, .int .i64 R.shift, .int .i64 R.week] 23)).heap.size = w.heap.size + 1 by simp] at this
    exact this)
  go_enter Try.func75, Try.ntmps75
  go_upto_region 1 with fail
  generalize hwb : (w.alloc _).alloc _ = wb at *
  have HW : Hid (Below w.heap.size w wb) := by rw [← hwb]; exact Lib.hid (((Below.refl _ _).alloc (Nat.le_refl _) _).alloc (by simp) _)
  clear hwb
  obtain ⟨a0, a1, a2, a3, a4⟩ := BR.out
  go_wp2_with fail
  refine (xCheckRules_any R _).mono ?_
  rintro e' w1 ⟨rfl, hb1⟩
  replace BR := Lib.hid (BR.out.keep (Keep.below hb1))
  replace BT := Lib.hid (BT.out.keep hb1)
  replace HW := Lib.hid (HW.out.trans (hb1.mono HW.out.size))
  clear hb1 a0 a1 a2 a3 a4
  go_wp2_with fail
  refine (xRecords_any l A c _ (HA.out.keep (Keep.below HW.out))).mono ?_
  rintro e' w2 ⟨rfl, hb1⟩
  replace BR := Lib.hid (BR.out.keep (Keep.below hb1))
  replace BT := Lib.hid (BT.out.keep hb1)
  replace HW := Lib.hid (HW.out.trans (hb1.mono HW.out.size))
  clear hb1
  have HL := Lib.hid (arr2New w2 (drulesErr R) (recsErr true l) 28)
  have hbx := (Below.refl w2.heap.size w2).alloc (Nat.le_refl _) (.cells #[.int .i64 (drulesErr R), .int .i64 (recsErr true l)] 28)
  replace BR := Lib.hid (BR.out.keep (Keep.below hbx))
  replace BT := Lib.hid (BT.out.keep hbx)
  replace HW := Lib.hid (HW.out.trans (hbx.mono HW.out.size))
  clear hbx
  go_wp2_with fail
  refine (firstError_any [drulesErr R, recsErr true l] _ _ _ HL.out).mono ?_
  rintro e' wx ⟨rfl, rfl⟩
  rw [show [drulesErr R, recsErr true l].length = 2 from rfl, fst_two]
  have HZ := Lib.hid (show bothErr R l = if drulesErr R ≠ 0 then drulesErr R else recsErr true l from rfl)
  rw [← HZ.out]
  clear HL
  generalize hwy : w2.alloc _ = wy at *
  clear hwy
  obtain ⟨a0, a1, a2, a3, a4⟩ := BR.out
  obtain ⟨b0, b1, b2, b3, b4, b5, f0, f1, f2, f3, f4, f5⟩ := BT.out
  by_cases he : bothErr R l = 0
  · have HE := Lib.hid he
    rw [he]
    clear he
    go_wp2_with fail
    obtain ⟨s0, s1, s2, s3, s4, s5, -, -, -, -, -, -⟩ := BT.out.set (.int .i64 R.brk) (.int .i64 R.rest) (.int .i64 R.stint) (.int .i64 R.shift) (.int .i64 R.week) (.slice A l.length c)
    refine bodyPost_ret (v := .tuple #[bookV R A l.length c, .int .i64 0]) (by simp [results, Try.results75, go_sem, s0, s1, s2, s3, s4, s5]) rfl ⟨⟨_, by rw [HE.out], fun _ => rfl, fun h => absurd HE.out h⟩, ?_⟩
    exact below_six HW.out (by omega) _ _ _ _ _ _
  · have HE := Lib.hid he
    have e1 : (bothErr R l == 0) = false := by simpa using he
    have e2 : (bothErr R l != 0) = true := by simpa using he
    clear he
    go_wp2_with fail
    obtain ⟨s0, s1, s2, s3, s4, s5, -, -, -, -, -, -⟩ := BT.out.set (.int .i64 0) (.int .i64 0) (.int .i64 0) (.int .i64 0) (.int .i64 0) (.slice none 0 0)
    refine bodyPost_ret (v := .tuple #[bookZ, .int .i64 (bothErr R l)]) (by simp [results, Try.results75, go_sem, s0, s1, s2, s3, s4, s5]) rfl ⟨⟨_, rfl, fun h => absurd h HE.out, fun _ => rfl⟩, ?_⟩
    exact below_six HW.out (by omega) _ _ _ _ _ _
end Go.Proofs.Ytolicafhbeiciaa

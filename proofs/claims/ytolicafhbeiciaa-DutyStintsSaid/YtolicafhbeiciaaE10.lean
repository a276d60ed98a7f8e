/- The law of the work in a span: as specified; in two spans it is that in both together. No condition. -/
import Derived.Test.YtolicafhbeiciaaX11
namespace Go.Proofs.Ytolicafhbeiciaa
open Go.RowKit Fs

theorem Fs.overlap_add {x : WRec} {a b c : Int} (h : x.beg < x.fin) (h1 : a ≤ b) (h2 : b ≤ c) : overlapOf x a b + overlapOf x b c = overlapOf x a c := by unfold overlapOf; omega
theorem Fs.work_add {l : List WRec} (h : Fit l) {a b c : Int} (h1 : a ≤ b) (h2 : b ≤ c) : ∀ k, k ≤ l.length → workTo l a b k + workTo l b c k = workTo l a c k
  | 0, _ => rfl
  | k + 1, hk => by
    have := work_add h h1 h2 k (by omega)
    have := overlap_add (h.one k (by omega)).2.1 h1 h2
    rw [workTo_next, workTo_next, workTo_next]
    omega
theorem Fs.clock_is {n : Int} (h : isClock n = true) : 0 ≤ n ∧ n ≤ 8640000000 := within_iff.1 h
theorem Fs.work_bad {l : List WRec} {a b d : Int} (h : workErr l a b = d) (hd : d ≠ 0) : workOut l a b = 0 := by unfold workOut; rw [if_neg (by rw [h]; exact hd)]
theorem Fs.work_rec {l : List WRec} {a b : Int} (h : recsErr true l ≠ 0) : workErr l a b = recsErr true l := if_pos h
theorem Fs.work_time {l : List WRec} {a b : Int} (h : recsErr true l = 0) (h1 : ¬ (isClock a = true ∧ isClock b = true)) : workErr l a b = 2 := by
  unfold workErr; rw [if_neg (fun hh => hh h)]
  cases e1 : isClock a with
  | false => rfl
  | true => cases e2 : isClock b with
    | false => rfl
    | true => exact absurd ⟨e1, e2⟩ h1
theorem Fs.work_order {l : List WRec} {a b : Int} (h : recsErr true l = 0) (h1 : isClock a = true) (h2 : isClock b = true) (h3 : b < a) : workErr l a b = 9 := by
  unfold workErr; rw [if_neg (fun hh => hh h), h1, h2]
  exact if_pos h3
theorem Fs.work_good {l : List WRec} {a b : Int} (h : recsErr true l = 0) (h1 : isClock a = true) (h2 : isClock b = true) (h3 : a ≤ b) : workErr l a b = 0 ∧ workOut l a b = workTo l a b l.length := by
  have e : workErr l a b = 0 := by
    unfold workErr; rw [if_neg (fun hh => hh h), h1, h2]
    exact (if_neg (by omega) : (if b < a then (9 : Int) else 0) = 0)
  exact ⟨e, by unfold workOut; rw [if_pos e]⟩

set_option linter.unusedSimpArgs false in
set_option maxHeartbeats 12800000 in
set_option maxRecDepth 100000 in
theorem lawWorks_any (l : List WRec) (x y z : Int) (A : Option Addr) (c : Nat) (w : World) (h : ArrW w A l c) :
    Calls Try.prog 4 #[.slice A l.length c, .agg #[.int .i64 x, .int .i64 y, .int .i64 z]] w fun e w' => e = .returned (.bool true) ∧ Below w.heap.size w w' := by
  have b1 := h.le.1
  have b2 := h.le.2
  have HA := Lib.hid h
  clear h
  have BT := Lib.hid (show TripAt (w.alloc (.cells #[.int .i64 x, .int .i64 y, .int .i64 z] 41)) w.heap.size x y z from ⟨cellNew _ _ _ 0, cellNew _ _ _ 1, cellNew _ _ _ 2⟩)
  go_enter Try.func4, Try.ntmps4
  go_upto_region 1 with fail
  generalize hwb : w.alloc _ = wb at *
  have HW : Hid (Below w.heap.size w wb) := by rw [← hwb]; exact Lib.hid ((Below.refl _ _).alloc (Nat.le_refl _) _)
  clear hwb
  obtain ⟨c0, c1, c2⟩ := BT.out
  go_wp2_with fail
  refine (lawAwake_any _).mono ?_
  rintro e' w1 ⟨rfl, hb1⟩
  replace HW := Lib.hid (HW.out.trans (hb1.mono HW.out.size))
  replace BT := Lib.hid (BT.out.keep (Keep.below hb1))
  clear c0 c1 c2
  clear hb1
  go_wp2_with fail
  refine (lawFew_any l A c _ (HA.out.keep (Keep.below HW.out))).mono ?_
  rintro e' wA ⟨rfl, rfl⟩
  cases hf : fewR l with
  | false =>
    go_wp2_with fail
    go_ret
    exact ⟨rfl, HW.out⟩
  | true =>
    have hl := (fewR_is hf).1
    have hl : l.length ≤ 42 := by omega
    clear hf
    obtain ⟨wA, hwA⟩ : ∃ wz, wz = w1 := ⟨_, rfl⟩
    subst hwA
    obtain ⟨c0, c1, c2⟩ := BT.out
    go_wp2_with fail
    have HBd : Hid (Below wA.heap.size wA wA.drew) := Lib.hid (Below.refl _ _).drew
    have MK : Hid (∀ w', Below wA.heap.size wA w' → w'.cell? ⟨w.heap.size, 0, none⟩ = some (.int .i64 x) ∧ w'.cell? ⟨w.heap.size, 1, none⟩ = some (.int .i64 y) ∧ Hid (Below wA.heap.size wA w')) :=
      Lib.hid fun w' hw => ⟨Keep.below hw _ _ c0, Keep.below hw _ _ c1, Lib.hid hw⟩
    have KA : Hid (∀ w', Below wA.heap.size wA w' → ArrW w' A l c) := Lib.hid fun w' hw => (HA.out.keep (Keep.below (HW.out.trans (hw.mono HW.out.size))))
    refine wp_region_held_drew (S := fun w' => w'.cell? ⟨w.heap.size, 0, none⟩ = some (.int .i64 x) ∧ w'.cell? ⟨w.heap.size, 1, none⟩ = some (.int .i64 y) ∧ Hid (Below wA.heap.size wA w')) (by kernel_rfl) (MK.out _ HBd.out) (fun hHeld => ?_)
    refine wpAnyH_take (i := 0) (v := ?val0x1) rfl (by kernel_rfl) (by kernel_rfl) (by kernel_rfl) (fun _ _ _ h => h) (Or.inl ⟨by rfl, fun w9 hS9 => ?yields0x1⟩) (by assumption) ?later0x1
    case yields0x1 =>
      dsimp only at hS9
      go_simp
      try with_reducible rfl
    try simp only [Act.put, List.getElem_toArray, List.getElem_cons_succ, List.getElem_cons_zero, List.setIfInBounds_toArray, List.set_cons_zero, List.set_cons_succ]
    refine wpAnyH_take (i := 2) (v := ?val2x2) rfl (by kernel_rfl) (by kernel_rfl) (by kernel_rfl) (fun _ _ _ h => h) (Or.inl ⟨by rfl, fun w9 hS9 => ?yields2x2⟩) (by assumption) ?later2x2
    case yields2x2 =>
      dsimp only at hS9
      go_simp
      try with_reducible rfl
    try simp only [Act.put, List.getElem_toArray, List.getElem_cons_succ, List.getElem_cons_zero, List.setIfInBounds_toArray, List.set_cons_zero, List.set_cons_succ]
    refine wpAnyH_take (i := 3) (v := ?val3x3) rfl (by kernel_rfl) (by kernel_rfl) (by kernel_rfl) (fun _ _ _ h => h) (Or.inl ⟨by rfl, fun w9 hS9 => ?yields3x3⟩) (by assumption) ?later3x3
    case yields3x3 =>
      dsimp only at hS9
      go_simp
      try with_reducible rfl
    try simp only [Act.put, List.getElem_toArray, List.getElem_cons_succ, List.getElem_cons_zero, List.setIfInBounds_toArray, List.set_cons_zero, List.set_cons_succ]
    refine wpAnyH_take (i := 4) (v := ?val4x4) rfl (by kernel_rfl) (by kernel_rfl) (by kernel_rfl) (fun _ _ _ h => h) (Or.inl ⟨by rfl, fun w9 hS9 => ?yields4x4⟩) (by assumption) ?later4x4
    case yields4x4 =>
      dsimp only at hS9
      go_simp
      try with_reducible rfl
    try simp only [Act.put, List.getElem_toArray, List.getElem_cons_succ, List.getElem_cons_zero, List.setIfInBounds_toArray, List.set_cons_zero, List.set_cons_succ]
    refine wpAnyH_take (i := 5) (v := ?val5x5) rfl (by kernel_rfl) (by kernel_rfl) (by kernel_rfl) (fun _ _ _ h => h) (Or.inl ⟨by rfl, fun w9 hS9 => ?yields5x5⟩) (by assumption) ?later5x5
    case yields5x5 =>
      dsimp only at hS9
      go_simp
      try with_reducible rfl
    try simp only [Act.put, List.getElem_toArray, List.getElem_cons_succ, List.getElem_cons_zero, List.setIfInBounds_toArray, List.set_cons_zero, List.set_cons_succ]
    refine wpAnyH_ready (rs := [1]) (by kernel_rfl) (by simp) ?_
    refine AllReadyH.cons rfl (fun K hK => ?_) AllReadyH.nil
    go_simp
    go_at_call 20
    go_split_ands
    refine (rCopyRecords_any l A c _ (KA.out _ (Hid.out (by assumption))) (by omega)).mono ?_
    rintro e' wz5 ⟨v5, rfl, h5, hb1⟩
    obtain ⟨A5, c5, rfl, h6⟩ := own_recs h5
    have H5 := Lib.hid h6
    clear h5 h6
    go_wp2_with fail
    refine hK.out _ _ ?_ (fun hHeld => ?_)
    · (try dsimp only)
      (go_split_ands; exact MK.out _ (Below.trans (Hid.out (by assumption)) (hb1.mono (Hid.out (by assumption) : Below wA.heap.size wA _).size)))
    clear hK K
    try simp only [Act.put, List.getElem_toArray, List.getElem_cons_succ, List.getElem_cons_zero, List.setIfInBounds_toArray, List.set_cons_zero, List.set_cons_succ]
    refine wpAnyH_ready (rs := [6]) (by kernel_rfl) (by simp) ?_
    refine AllReadyH.cons rfl (fun K hK => ?_) AllReadyH.nil
    go_simp
    go_at_call 25
    go_split_ands
    refine (xWork_any l A5 c5 x y _ H5.out).mono ?_
    rintro e' wz7 ⟨rfl, hb1⟩
    clear H5
    go_wp2_with fail
    refine hK.out _ _ ?_ (fun hHeld => ?_)
    · (try dsimp only)
      (go_split_ands; exact MK.out _ (Below.trans (Hid.out (by assumption)) (hb1.mono (Hid.out (by assumption) : Below wA.heap.size wA _).size)))
    clear hK K
    try simp only [Act.put, List.getElem_toArray, List.getElem_cons_succ, List.getElem_cons_zero, List.setIfInBounds_toArray, List.set_cons_zero, List.set_cons_succ]
    refine wpAnyH_take (i := 7) (v := ?val7x6) rfl (by kernel_rfl) (by kernel_rfl) (by kernel_rfl) (fun _ _ _ h => h) (Or.inl ⟨by rfl, fun w9 hS9 => ?yields7x6⟩) (by assumption) ?later7x6
    case yields7x6 =>
      dsimp only at hS9
      go_simp
      try with_reducible rfl
    try simp only [Act.put, List.getElem_toArray, List.getElem_cons_succ, List.getElem_cons_zero, List.setIfInBounds_toArray, List.set_cons_zero, List.set_cons_succ]
    refine wpAnyH_take (i := 8) (v := ?val8x7) rfl (by kernel_rfl) (by kernel_rfl) (by kernel_rfl) (fun _ _ _ h => h) (Or.inl ⟨by rfl, fun w9 hS9 => ?yields8x7⟩) (by assumption) ?later8x7
    case yields8x7 =>
      dsimp only at hS9
      go_simp
      try with_reducible rfl
    try simp only [Act.put, List.getElem_toArray, List.getElem_cons_succ, List.getElem_cons_zero, List.setIfInBounds_toArray, List.set_cons_zero, List.set_cons_succ]
    refine wpAnyH_take (i := 9) (v := ?val9x8) rfl (by kernel_rfl) (by kernel_rfl) (by kernel_rfl) (fun _ _ _ h => h) (Or.inl ⟨by rfl, fun w9 hS9 => ?yields9x8⟩) (by assumption) ?later9x8
    case yields9x8 =>
      dsimp only at hS9
      go_simp
      try with_reducible rfl
    try simp only [Act.put, List.getElem_toArray, List.getElem_cons_succ, List.getElem_cons_zero, List.setIfInBounds_toArray, List.set_cons_zero, List.set_cons_succ]
    refine wpAnyH_take (i := 10) (v := ?val10x9) rfl (by kernel_rfl) (by kernel_rfl) (by kernel_rfl) (fun _ _ _ h => h) (Or.inl ⟨by rfl, fun w9 hS9 => ?yields10x9⟩) (by assumption) ?later10x9
    case yields10x9 =>
      dsimp only at hS9
      go_simp
      try with_reducible rfl
    try simp only [Act.put, List.getElem_toArray, List.getElem_cons_succ, List.getElem_cons_zero, List.setIfInBounds_toArray, List.set_cons_zero, List.set_cons_succ]
    refine wpAnyH_take (i := 11) (v := ?val11x10) rfl (by kernel_rfl) (by kernel_rfl) (by kernel_rfl) (fun _ _ _ h => h) (Or.inl ⟨by rfl, fun w9 hS9 => ?yields11x10⟩) (by assumption) ?later11x10
    case yields11x10 =>
      dsimp only at hS9
      go_simp
      try with_reducible rfl
    try simp only [Act.put, List.getElem_toArray, List.getElem_cons_succ, List.getElem_cons_zero, List.setIfInBounds_toArray, List.set_cons_zero, List.set_cons_succ]
    refine wpAnyH_done (by kernel_rfl) ?_ _
    obtain ⟨-, -, HB⟩ := hHeld
    clear HBd MK
    clear KA
    replace HW := Lib.hid (HW.out.trans (HB.out.mono HW.out.size))
    replace BT := Lib.hid (BT.out.keep (Keep.below HB.out))
    clear HB c0 c1 c2
    obtain ⟨wB, hwB⟩ : ∃ wz, wz = wz7 := ⟨_, rfl⟩
    subst hwB
    obtain ⟨c0, c1, c2⟩ := BT.out
    go_wp2_with fail
    refine (rRecordsErr_any l A c _ (HA.out.keep (Keep.below HW.out))).mono ?_
    rintro e' w3 ⟨rfl, hb1⟩
    replace HW := Lib.hid (HW.out.trans (hb1.mono HW.out.size))
    replace BT := Lib.hid (BT.out.keep (Keep.below hb1))
    clear c0 c1 c2
    clear hb1
    by_cases he : recsErr true l = 0
    · have HE := Lib.hid he
      have HF := Lib.hid (recs_right he).fit
      rw [he]
      clear he
      cases hx : isClock x with
      | false =>
        have F := Lib.hid (work_time (a := x) (b := y) HE.out (fun hh => by rw [hx] at hh; exact absurd hh.1 (by decide)))
        rw [F.out, work_bad F.out (by decide)]
        obtain ⟨c0, c1, c2⟩ := BT.out
        go_wp2_with fail
        refine (rIsTime_any _ _).mono ?_
        rintro e' w9 ⟨rfl, rfl⟩
        rw [hx]
        go_wp2_with fail
        go_ret
        exact ⟨rfl, HW.out⟩
      | true =>
        cases hy : isClock y with
        | false =>
          have F := Lib.hid (work_time (a := x) (b := y) HE.out (fun hh => by rw [hy] at hh; exact absurd hh.2 (by decide)))
          rw [F.out, work_bad F.out (by decide)]
          obtain ⟨c0, c1, c2⟩ := BT.out
          go_wp2_with fail
          refine (rIsTime_any _ _).mono ?_
          rintro e' w9 ⟨rfl, rfl⟩
          rw [hx]
          go_wp2_with fail
          refine (rIsTime_any _ _).mono ?_
          rintro e' w9 ⟨rfl, rfl⟩
          rw [hy]
          go_wp2_with fail
          go_ret
          exact ⟨rfl, HW.out⟩
        | true =>
          obtain ⟨x0, x1⟩ := clock_is hx
          obtain ⟨y0, y1⟩ := clock_is hy
          by_cases hxy : y < x
          · have d1 : decide (y < x) = true := decide_eq_true hxy
            have F := Lib.hid (work_order HE.out hx hy hxy)
            rw [F.out, work_bad F.out (by decide)]
            clear hxy
            obtain ⟨c0, c1, c2⟩ := BT.out
            go_wp2_with fail
            refine (rIsTime_any _ _).mono ?_
            rintro e' w9 ⟨rfl, rfl⟩
            rw [hx]
            go_wp2_with fail
            refine (rIsTime_any _ _).mono ?_
            rintro e' w9 ⟨rfl, rfl⟩
            rw [hy]
            go_wp2_with fail
            go_ret
            exact ⟨rfl, HW.out⟩
          · have d1 : decide (y < x) = false := decide_eq_false hxy
            have F := Lib.hid (work_good HE.out hx hy (by omega))
            rw [F.out.1, F.out.2]
            have HXY := Lib.hid (show x ≤ y by omega)
            clear hxy
            obtain ⟨c0, c1, c2⟩ := BT.out
            go_wp2_with fail
            refine (rIsTime_any _ _).mono ?_
            rintro e' w9 ⟨rfl, rfl⟩
            rw [hx]
            go_wp2_with fail
            refine (rIsTime_any _ _).mono ?_
            rintro e' w9 ⟨rfl, rfl⟩
            rw [hy]
            go_wp2_with fail
            refine (rWorkIn_any l A c l.length x y _ (HA.out.keep (Keep.below HW.out)) HF.out (Nat.le_refl _) ⟨by omega, by omega⟩ ⟨by omega, by omega⟩).mono ?_
            rintro e' w4 ⟨rfl, hb1⟩
            replace HW := Lib.hid (HW.out.trans (hb1.mono HW.out.size))
            replace BT := Lib.hid (BT.out.keep (Keep.below hb1))
            clear hb1 c0 c1 c2
            obtain ⟨c0, c1, c2⟩ := BT.out
            go_wp2_with fail
            refine (rIsTime_any _ _).mono ?_
            rintro e' w9 ⟨rfl, rfl⟩
            cases hz : isClock z with
            | false =>
              go_wp2_with fail
              go_ret
              exact ⟨rfl, HW.out⟩
            | true =>
              obtain ⟨z0, z1⟩ := clock_is hz
              by_cases hyz : z < y
              · have d2 : decide (z < y) = true := decide_eq_true hyz
                clear hyz
                go_wp2_with fail
                go_ret
                exact ⟨rfl, HW.out⟩
              · have d2 : decide (z < y) = false := decide_eq_false hyz
                have HYZ := Lib.hid (show y ≤ z by omega)
                clear hyz c0 c1 c2
                obtain ⟨wC, hwC⟩ : ∃ wz, wz = w4 := ⟨_, rfl⟩
                subst hwC
                obtain ⟨c0, c1, c2⟩ := BT.out
                go_wp2_with fail
                have HBd : Hid (Below wC.heap.size wC wC.drew) := Lib.hid (Below.refl _ _).drew
                have MK : Hid (∀ w', Below wC.heap.size wC w' → w'.cell? ⟨w.heap.size, 1, none⟩ = some (.int .i64 y) ∧ w'.cell? ⟨w.heap.size, 2, none⟩ = some (.int .i64 z) ∧ Hid (Below wC.heap.size wC w')) :=
                  Lib.hid fun w' hw => ⟨Keep.below hw _ _ c1, Keep.below hw _ _ c2, Lib.hid hw⟩
                have KA : Hid (∀ w', Below wC.heap.size wC w' → ArrW w' A l c) := Lib.hid fun w' hw => (HA.out.keep (Keep.below (HW.out.trans (hw.mono HW.out.size))))
                refine wp_region_held_drew (S := fun w' => w'.cell? ⟨w.heap.size, 1, none⟩ = some (.int .i64 y) ∧ w'.cell? ⟨w.heap.size, 2, none⟩ = some (.int .i64 z) ∧ Hid (Below wC.heap.size wC w')) (by kernel_rfl) (MK.out _ HBd.out) (fun hHeld => ?_)
                refine wpAnyH_take (i := 0) (v := ?val0x11) rfl (by kernel_rfl) (by kernel_rfl) (by kernel_rfl) (fun _ _ _ h => h) (Or.inl ⟨by rfl, fun w9 hS9 => ?yields0x11⟩) (by assumption) ?later0x11
                case yields0x11 =>
                  dsimp only at hS9
                  go_simp
                  try with_reducible rfl
                try simp only [Act.put, List.getElem_toArray, List.getElem_cons_succ, List.getElem_cons_zero, List.setIfInBounds_toArray, List.set_cons_zero, List.set_cons_succ]
                refine wpAnyH_take (i := 2) (v := ?val2x12) rfl (by kernel_rfl) (by kernel_rfl) (by kernel_rfl) (fun _ _ _ h => h) (Or.inl ⟨by rfl, fun w9 hS9 => ?yields2x12⟩) (by assumption) ?later2x12
                case yields2x12 =>
                  dsimp only at hS9
                  go_simp
                  try with_reducible rfl
                try simp only [Act.put, List.getElem_toArray, List.getElem_cons_succ, List.getElem_cons_zero, List.setIfInBounds_toArray, List.set_cons_zero, List.set_cons_succ]
                refine wpAnyH_take (i := 3) (v := ?val3x13) rfl (by kernel_rfl) (by kernel_rfl) (by kernel_rfl) (fun _ _ _ h => h) (Or.inl ⟨by rfl, fun w9 hS9 => ?yields3x13⟩) (by assumption) ?later3x13
                case yields3x13 =>
                  dsimp only at hS9
                  go_simp
                  try with_reducible rfl
                try simp only [Act.put, List.getElem_toArray, List.getElem_cons_succ, List.getElem_cons_zero, List.setIfInBounds_toArray, List.set_cons_zero, List.set_cons_succ]
                refine wpAnyH_take (i := 4) (v := ?val4x14) rfl (by kernel_rfl) (by kernel_rfl) (by kernel_rfl) (fun _ _ _ h => h) (Or.inl ⟨by rfl, fun w9 hS9 => ?yields4x14⟩) (by assumption) ?later4x14
                case yields4x14 =>
                  dsimp only at hS9
                  go_simp
                  try with_reducible rfl
                try simp only [Act.put, List.getElem_toArray, List.getElem_cons_succ, List.getElem_cons_zero, List.setIfInBounds_toArray, List.set_cons_zero, List.set_cons_succ]
                refine wpAnyH_take (i := 5) (v := ?val5x15) rfl (by kernel_rfl) (by kernel_rfl) (by kernel_rfl) (fun _ _ _ h => h) (Or.inl ⟨by rfl, fun w9 hS9 => ?yields5x15⟩) (by assumption) ?later5x15
                case yields5x15 =>
                  dsimp only at hS9
                  go_simp
                  try with_reducible rfl
                try simp only [Act.put, List.getElem_toArray, List.getElem_cons_succ, List.getElem_cons_zero, List.setIfInBounds_toArray, List.set_cons_zero, List.set_cons_succ]
                refine wpAnyH_ready (rs := [1]) (by kernel_rfl) (by simp) ?_
                refine AllReadyH.cons rfl (fun K hK => ?_) AllReadyH.nil
                go_simp
                go_at_call 20
                go_split_ands
                refine (rCopyRecords_any l A c _ (KA.out _ (Hid.out (by assumption))) (by omega)).mono ?_
                rintro e' wz5 ⟨v5, rfl, h5, hb1⟩
                obtain ⟨A5, c5, rfl, h6⟩ := own_recs h5
                have H5 := Lib.hid h6
                clear h5 h6
                go_wp2_with fail
                refine hK.out _ _ ?_ (fun hHeld => ?_)
                · (try dsimp only)
                  (go_split_ands; exact MK.out _ (Below.trans (Hid.out (by assumption)) (hb1.mono (Hid.out (by assumption) : Below wC.heap.size wC _).size)))
                clear hK K
                try simp only [Act.put, List.getElem_toArray, List.getElem_cons_succ, List.getElem_cons_zero, List.setIfInBounds_toArray, List.set_cons_zero, List.set_cons_succ]
                refine wpAnyH_ready (rs := [6]) (by kernel_rfl) (by simp) ?_
                refine AllReadyH.cons rfl (fun K hK => ?_) AllReadyH.nil
                go_simp
                go_at_call 25
                go_split_ands
                refine (xWork_any l A5 c5 y z _ H5.out).mono ?_
                rintro e' wz7 ⟨rfl, hb1⟩
                clear H5
                go_wp2_with fail
                refine hK.out _ _ ?_ (fun hHeld => ?_)
                · (try dsimp only)
                  (go_split_ands; exact MK.out _ (Below.trans (Hid.out (by assumption)) (hb1.mono (Hid.out (by assumption) : Below wC.heap.size wC _).size)))
                clear hK K
                try simp only [Act.put, List.getElem_toArray, List.getElem_cons_succ, List.getElem_cons_zero, List.setIfInBounds_toArray, List.set_cons_zero, List.set_cons_succ]
                refine wpAnyH_take (i := 7) (v := ?val7x16) rfl (by kernel_rfl) (by kernel_rfl) (by kernel_rfl) (fun _ _ _ h => h) (Or.inl ⟨by rfl, fun w9 hS9 => ?yields7x16⟩) (by assumption) ?later7x16
                case yields7x16 =>
                  dsimp only at hS9
                  go_simp
                  try with_reducible rfl
                try simp only [Act.put, List.getElem_toArray, List.getElem_cons_succ, List.getElem_cons_zero, List.setIfInBounds_toArray, List.set_cons_zero, List.set_cons_succ]
                refine wpAnyH_take (i := 8) (v := ?val8x17) rfl (by kernel_rfl) (by kernel_rfl) (by kernel_rfl) (fun _ _ _ h => h) (Or.inl ⟨by rfl, fun w9 hS9 => ?yields8x17⟩) (by assumption) ?later8x17
                case yields8x17 =>
                  dsimp only at hS9
                  go_simp
                  try with_reducible rfl
                try simp only [Act.put, List.getElem_toArray, List.getElem_cons_succ, List.getElem_cons_zero, List.setIfInBounds_toArray, List.set_cons_zero, List.set_cons_succ]
                refine wpAnyH_take (i := 9) (v := ?val9x18) rfl (by kernel_rfl) (by kernel_rfl) (by kernel_rfl) (fun _ _ _ h => h) (Or.inl ⟨by rfl, fun w9 hS9 => ?yields9x18⟩) (by assumption) ?later9x18
                case yields9x18 =>
                  dsimp only at hS9
                  go_simp
                  try with_reducible rfl
                try simp only [Act.put, List.getElem_toArray, List.getElem_cons_succ, List.getElem_cons_zero, List.setIfInBounds_toArray, List.set_cons_zero, List.set_cons_succ]
                refine wpAnyH_take (i := 10) (v := ?val10x19) rfl (by kernel_rfl) (by kernel_rfl) (by kernel_rfl) (fun _ _ _ h => h) (Or.inl ⟨by rfl, fun w9 hS9 => ?yields10x19⟩) (by assumption) ?later10x19
                case yields10x19 =>
                  dsimp only at hS9
                  go_simp
                  try with_reducible rfl
                try simp only [Act.put, List.getElem_toArray, List.getElem_cons_succ, List.getElem_cons_zero, List.setIfInBounds_toArray, List.set_cons_zero, List.set_cons_succ]
                refine wpAnyH_take (i := 11) (v := ?val11x20) rfl (by kernel_rfl) (by kernel_rfl) (by kernel_rfl) (fun _ _ _ h => h) (Or.inl ⟨by rfl, fun w9 hS9 => ?yields11x20⟩) (by assumption) ?later11x20
                case yields11x20 =>
                  dsimp only at hS9
                  go_simp
                  try with_reducible rfl
                try simp only [Act.put, List.getElem_toArray, List.getElem_cons_succ, List.getElem_cons_zero, List.setIfInBounds_toArray, List.set_cons_zero, List.set_cons_succ]
                refine wpAnyH_done (by kernel_rfl) ?_ _
                obtain ⟨-, -, HB⟩ := hHeld
                clear HBd MK
                clear KA
                replace HW := Lib.hid (HW.out.trans (HB.out.mono HW.out.size))
                replace BT := Lib.hid (BT.out.keep (Keep.below HB.out))
                clear HB c0 c1 c2
                obtain ⟨wD, hwD⟩ : ∃ wz, wz = wz7 := ⟨_, rfl⟩
                subst hwD
                obtain ⟨c0, c1, c2⟩ := BT.out
                go_wp2_with fail
                have HBd : Hid (Below wD.heap.size wD wD.drew) := Lib.hid (Below.refl _ _).drew
                have MK : Hid (∀ w', Below wD.heap.size wD w' → w'.cell? ⟨w.heap.size, 0, none⟩ = some (.int .i64 x) ∧ w'.cell? ⟨w.heap.size, 2, none⟩ = some (.int .i64 z) ∧ Hid (Below wD.heap.size wD w')) :=
                  Lib.hid fun w' hw => ⟨Keep.below hw _ _ c0, Keep.below hw _ _ c2, Lib.hid hw⟩
                have KA : Hid (∀ w', Below wD.heap.size wD w' → ArrW w' A l c) := Lib.hid fun w' hw => (HA.out.keep (Keep.below (HW.out.trans (hw.mono HW.out.size))))
                refine wp_region_held_drew (S := fun w' => w'.cell? ⟨w.heap.size, 0, none⟩ = some (.int .i64 x) ∧ w'.cell? ⟨w.heap.size, 2, none⟩ = some (.int .i64 z) ∧ Hid (Below wD.heap.size wD w')) (by kernel_rfl) (MK.out _ HBd.out) (fun hHeld => ?_)
                refine wpAnyH_take (i := 0) (v := ?val0x21) rfl (by kernel_rfl) (by kernel_rfl) (by kernel_rfl) (fun _ _ _ h => h) (Or.inl ⟨by rfl, fun w9 hS9 => ?yields0x21⟩) (by assumption) ?later0x21
                case yields0x21 =>
                  dsimp only at hS9
                  go_simp
                  try with_reducible rfl
                try simp only [Act.put, List.getElem_toArray, List.getElem_cons_succ, List.getElem_cons_zero, List.setIfInBounds_toArray, List.set_cons_zero, List.set_cons_succ]
                refine wpAnyH_take (i := 2) (v := ?val2x22) rfl (by kernel_rfl) (by kernel_rfl) (by kernel_rfl) (fun _ _ _ h => h) (Or.inl ⟨by rfl, fun w9 hS9 => ?yields2x22⟩) (by assumption) ?later2x22
                case yields2x22 =>
                  dsimp only at hS9
                  go_simp
                  try with_reducible rfl
                try simp only [Act.put, List.getElem_toArray, List.getElem_cons_succ, List.getElem_cons_zero, List.setIfInBounds_toArray, List.set_cons_zero, List.set_cons_succ]
                refine wpAnyH_take (i := 3) (v := ?val3x23) rfl (by kernel_rfl) (by kernel_rfl) (by kernel_rfl) (fun _ _ _ h => h) (Or.inl ⟨by rfl, fun w9 hS9 => ?yields3x23⟩) (by assumption) ?later3x23
                case yields3x23 =>
                  dsimp only at hS9
                  go_simp
                  try with_reducible rfl
                try simp only [Act.put, List.getElem_toArray, List.getElem_cons_succ, List.getElem_cons_zero, List.setIfInBounds_toArray, List.set_cons_zero, List.set_cons_succ]
                refine wpAnyH_take (i := 4) (v := ?val4x24) rfl (by kernel_rfl) (by kernel_rfl) (by kernel_rfl) (fun _ _ _ h => h) (Or.inl ⟨by rfl, fun w9 hS9 => ?yields4x24⟩) (by assumption) ?later4x24
                case yields4x24 =>
                  dsimp only at hS9
                  go_simp
                  try with_reducible rfl
                try simp only [Act.put, List.getElem_toArray, List.getElem_cons_succ, List.getElem_cons_zero, List.setIfInBounds_toArray, List.set_cons_zero, List.set_cons_succ]
                refine wpAnyH_take (i := 5) (v := ?val5x25) rfl (by kernel_rfl) (by kernel_rfl) (by kernel_rfl) (fun _ _ _ h => h) (Or.inl ⟨by rfl, fun w9 hS9 => ?yields5x25⟩) (by assumption) ?later5x25
                case yields5x25 =>
                  dsimp only at hS9
                  go_simp
                  try with_reducible rfl
                try simp only [Act.put, List.getElem_toArray, List.getElem_cons_succ, List.getElem_cons_zero, List.setIfInBounds_toArray, List.set_cons_zero, List.set_cons_succ]
                refine wpAnyH_ready (rs := [1]) (by kernel_rfl) (by simp) ?_
                refine AllReadyH.cons rfl (fun K hK => ?_) AllReadyH.nil
                go_simp
                go_at_call 20
                go_split_ands
                refine (rCopyRecords_any l A c _ (KA.out _ (Hid.out (by assumption))) (by omega)).mono ?_
                rintro e' wz5 ⟨v5, rfl, h5, hb1⟩
                obtain ⟨A5, c5, rfl, h6⟩ := own_recs h5
                have H5 := Lib.hid h6
                clear h5 h6
                go_wp2_with fail
                refine hK.out _ _ ?_ (fun hHeld => ?_)
                · (try dsimp only)
                  (go_split_ands; exact MK.out _ (Below.trans (Hid.out (by assumption)) (hb1.mono (Hid.out (by assumption) : Below wD.heap.size wD _).size)))
                clear hK K
                try simp only [Act.put, List.getElem_toArray, List.getElem_cons_succ, List.getElem_cons_zero, List.setIfInBounds_toArray, List.set_cons_zero, List.set_cons_succ]
                refine wpAnyH_ready (rs := [6]) (by kernel_rfl) (by simp) ?_
                refine AllReadyH.cons rfl (fun K hK => ?_) AllReadyH.nil
                go_simp
                go_at_call 25
                go_split_ands
                refine (xWork_any l A5 c5 x z _ H5.out).mono ?_
                rintro e' wz7 ⟨rfl, hb1⟩
                clear H5
                go_wp2_with fail
                refine hK.out _ _ ?_ (fun hHeld => ?_)
                · (try dsimp only)
                  (go_split_ands; exact MK.out _ (Below.trans (Hid.out (by assumption)) (hb1.mono (Hid.out (by assumption) : Below wD.heap.size wD _).size)))
                clear hK K
                try simp only [Act.put, List.getElem_toArray, List.getElem_cons_succ, List.getElem_cons_zero, List.setIfInBounds_toArray, List.set_cons_zero, List.set_cons_succ]
                refine wpAnyH_take (i := 7) (v := ?val7x26) rfl (by kernel_rfl) (by kernel_rfl) (by kernel_rfl) (fun _ _ _ h => h) (Or.inl ⟨by rfl, fun w9 hS9 => ?yields7x26⟩) (by assumption) ?later7x26
                case yields7x26 =>
                  dsimp only at hS9
                  go_simp
                  try with_reducible rfl
                try simp only [Act.put, List.getElem_toArray, List.getElem_cons_succ, List.getElem_cons_zero, List.setIfInBounds_toArray, List.set_cons_zero, List.set_cons_succ]
                refine wpAnyH_take (i := 8) (v := ?val8x27) rfl (by kernel_rfl) (by kernel_rfl) (by kernel_rfl) (fun _ _ _ h => h) (Or.inl ⟨by rfl, fun w9 hS9 => ?yields8x27⟩) (by assumption) ?later8x27
                case yields8x27 =>
                  dsimp only at hS9
                  go_simp
                  try with_reducible rfl
                try simp only [Act.put, List.getElem_toArray, List.getElem_cons_succ, List.getElem_cons_zero, List.setIfInBounds_toArray, List.set_cons_zero, List.set_cons_succ]
                refine wpAnyH_take (i := 9) (v := ?val9x28) rfl (by kernel_rfl) (by kernel_rfl) (by kernel_rfl) (fun _ _ _ h => h) (Or.inl ⟨by rfl, fun w9 hS9 => ?yields9x28⟩) (by assumption) ?later9x28
                case yields9x28 =>
                  dsimp only at hS9
                  go_simp
                  try with_reducible rfl
                try simp only [Act.put, List.getElem_toArray, List.getElem_cons_succ, List.getElem_cons_zero, List.setIfInBounds_toArray, List.set_cons_zero, List.set_cons_succ]
                refine wpAnyH_take (i := 10) (v := ?val10x29) rfl (by kernel_rfl) (by kernel_rfl) (by kernel_rfl) (fun _ _ _ h => h) (Or.inl ⟨by rfl, fun w9 hS9 => ?yields10x29⟩) (by assumption) ?later10x29
                case yields10x29 =>
                  dsimp only at hS9
                  go_simp
                  try with_reducible rfl
                try simp only [Act.put, List.getElem_toArray, List.getElem_cons_succ, List.getElem_cons_zero, List.setIfInBounds_toArray, List.set_cons_zero, List.set_cons_succ]
                refine wpAnyH_take (i := 11) (v := ?val11x30) rfl (by kernel_rfl) (by kernel_rfl) (by kernel_rfl) (fun _ _ _ h => h) (Or.inl ⟨by rfl, fun w9 hS9 => ?yields11x30⟩) (by assumption) ?later11x30
                case yields11x30 =>
                  dsimp only at hS9
                  go_simp
                  try with_reducible rfl
                try simp only [Act.put, List.getElem_toArray, List.getElem_cons_succ, List.getElem_cons_zero, List.setIfInBounds_toArray, List.set_cons_zero, List.set_cons_succ]
                refine wpAnyH_done (by kernel_rfl) ?_ _
                obtain ⟨-, -, HB⟩ := hHeld
                clear HBd MK
                clear KA
                replace HW := Lib.hid (HW.out.trans (HB.out.mono HW.out.size))
                replace BT := Lib.hid (BT.out.keep (Keep.below HB.out))
                clear HB c0 c1 c2
                obtain ⟨wE, hwE⟩ : ∃ wz, wz = wz7 := ⟨_, rfl⟩
                subst hwE
                have G := Lib.hid (work_good HE.out hy hz HYZ.out)
                have G2 := Lib.hid (work_good HE.out hx hz (Int.le_trans HXY.out HYZ.out))
                have HS := work_add HF.out HXY.out HYZ.out l.length (Nat.le_refl _)
                have HI := workTo_is HF.out x z l.length (Nat.le_refl _)
                rw [G.out.1, G.out.2, G2.out.1, G2.out.2]
                have hw0 : IntKind.i64.wrap (workTo l x y l.length + workTo l y z l.length) = workTo l x z l.length := by rw [IntKind.wrap_i64]; omega
                go_wp2_with fail
                go_ret
                exact ⟨rfl, HW.out⟩
    · have F := Lib.hid (work_rec (a := x) (b := y) he)
      have e1 : (recsErr true l == 0) = false := by simpa using he
      have e2 : (recsErr true l != 0) = true := by simpa using he
      rw [F.out, work_bad F.out he]
      clear he
      obtain ⟨c0, c1, c2⟩ := BT.out
      go_wp2_with fail
      go_ret
      exact ⟨rfl, HW.out⟩
end Go.Proofs.Ytolicafhbeiciaa

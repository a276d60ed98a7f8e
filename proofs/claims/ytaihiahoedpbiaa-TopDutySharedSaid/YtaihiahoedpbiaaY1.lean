/- The check of uses. No condition. -/
import Derived.Test.YtaihiahoedpbiaaX6
import Derived.Test.YtaihiahoedpbiaaD21
namespace Go.Proofs.Ytaihiahoedpbiaa
open Go.RowKit Fs

set_option maxHeartbeats 800000 in
theorem xOverlap_any (x y : WRec) (w : World) : Calls Try.prog 155 #[recV x, recV y] w fun e w' => e = .returned (.bool (overlapB x y)) ∧ Below w.heap.size w w' := by
  have HX := Lib.hid ((show RecAt (w.alloc (.cells #[.string x.who, .int .i64 x.beg, .int .i64 x.fin] 113)) w.heap.size 0 x from ⟨cellNew _ _ _ 0, cellNew _ _ _ 1, cellNew _ _ _ 2⟩).keep (Keep.alloc _ (.cells #[.string y.who, .int .i64 y.beg, .int .i64 y.fin] 113)))
  have HY := Lib.hid (show RecAt ((w.alloc (.cells #[.string x.who, .int .i64 x.beg, .int .i64 x.fin] 113)).alloc (.cells #[.string y.who, .int .i64 y.beg, .int .i64 y.fin] 113)) (w.heap.size + 1) 0 y from ⟨cellNew1 _ _ _ _ 0, cellNew1 _ _ _ _ 1, cellNew1 _ _ _ _ 2⟩)
  go_enter Try.func155, Try.ntmps155
  go_upto_region 1 with fail
  generalize hwb : (w.alloc _).alloc _ = wb at *
  have HW : Hid (Below w.heap.size w wb) := by rw [← hwb]; exact Lib.hid (((Below.refl _ _).alloc (Nat.le_refl _) _).alloc (by simp) _)
  clear hwb
  obtain ⟨x0, x1, x2⟩ := HX.out
  obtain ⟨y0, y1, y2⟩ := HY.out
  by_cases h1 : x.beg < y.fin
  · have d1 : decide (x.beg < y.fin) = true := decide_eq_true h1
    by_cases h2 : y.beg < x.fin
    · have d2 : decide (y.beg < x.fin) = true := decide_eq_true h2
      have F := Lib.hid (show overlapB x y = true by unfold overlapB; rw [d1, d2]; rfl)
      go_wp2_with fail
      go_ret
      exact ⟨ret_bool F.out.symm, HW.out⟩
    · have d2 : decide (y.beg < x.fin) = false := decide_eq_false h2
      have F := Lib.hid (show overlapB x y = false by unfold overlapB; rw [d1, d2]; rfl)
      go_wp2_with fail
      go_ret
      exact ⟨ret_bool F.out.symm, HW.out⟩
  · have d1 : decide (x.beg < y.fin) = false := decide_eq_false h1
    have F := Lib.hid (show overlapB x y = false by unfold overlapB; rw [d1]; rfl)
    go_wp2_with fail
    go_ret
    exact ⟨ret_bool F.out.symm, HW.out⟩
open Classical in
noncomputable def Fs.clashQ (l : List WRec) (i : Nat) (x : WRec) : Bool := decide (x.who = (listW l i).who ∧ overlapB x (listW l i) = true)
theorem clashQ_no {l : List WRec} {i : Nat} {x : WRec} (h : x.who ≠ (listW l i).who) : clashQ l i x = false := by unfold clashQ; simp [h]
theorem clashQ_is {l : List WRec} {i : Nat} {x : WRec} (h : x.who = (listW l i).who) : clashQ l i x = overlapB x (listW l i) := by
  unfold clashQ
  cases ho : overlapB x (listW l i) with
  | true => simp [h]
  | false => simp
theorem clashQ_at (l : List WRec) (k i : Nat) : clashQ l k (listW l i) = true ↔ clashAt l k i := by unfold clashQ clashAt; simp
set_option linter.unusedSimpArgs false in
set_option maxHeartbeats 12800000 in
set_option maxRecDepth 100000 in
theorem xClash_any (l : List WRec) (x : WRec) (A : Option Addr) (c g q k : Nat) (w : World) (hg : w.cell? ⟨g, 0, none⟩ = some (.slice A l.length c)) (hq : w.cell? ⟨q, 0, none⟩ = some (.int .i64 k)) (h : ArrW w A l c) (hk : k < l.length) :
    Calls Try.prog 154 #[recV x, .pointer (some ⟨g, 0, none⟩), .pointer (some ⟨q, 0, none⟩)] w fun e w' => e = .returned (.bool (clashQ l k x)) ∧ Below w.heap.size w w' := by
  have b1 := h.le.1
  have b2 := h.le.2
  have hkn : (k : Int) < (l.length : Int) := by omega
  have hkw : IntKind.i64.wrap (k : Int) = (k : Int) := by rw [IntKind.wrap_i64]; omega
  have HX := Lib.hid (show RecAt (w.alloc (.cells #[.string x.who, .int .i64 x.beg, .int .i64 x.fin] 113)) w.heap.size 0 x from ⟨cellNew _ _ _ 0, cellNew _ _ _ 1, cellNew _ _ _ 2⟩)
  have HA := Lib.hid (h.keep (Keep.alloc _ (.cells #[.string x.who, .int .i64 x.beg, .int .i64 x.fin] 113)))
  have HG := Lib.hid (Keep.alloc w (.cells #[.string x.who, .int .i64 x.beg, .int .i64 x.fin] 113) _ _ hg)
  have HQ := Lib.hid (Keep.alloc w (.cells #[.string x.who, .int .i64 x.beg, .int .i64 x.fin] 113) _ _ hq)
  clear h hg hq
  go_enter Try.func154, Try.ntmps154
  go_upto_region 1 with fail
  generalize hwb : w.alloc _ = wb at *
  have HW : Hid (Below w.heap.size w wb) := by rw [← hwb]; exact Lib.hid ((Below.refl _ _).alloc (Nat.le_refl _) _)
  clear hwb
  obtain ⟨b, o, rfl, q0, q1, q2⟩ := HA.out.at_ hk
  obtain ⟨x0, x1, x2⟩ := HX.out
  have cg := HG.out
  have cq := HQ.out
  by_cases hw : x.who = (listW l k).who
  · have F := Lib.hid (clashQ_is hw)
    have e1 := str_eq hw
    clear hw
    go_wp2_with fail
    have HBd : Hid (Below wb.heap.size wb wb.drew) := Lib.hid (Below.refl _ _).drew
    have MK : Hid (∀ w', Below wb.heap.size wb w' → w'.cell? ⟨g, 0, none⟩ = some (.slice (some ⟨b, o, none⟩) l.length c) ∧ w'.cell? ⟨q, 0, none⟩ = some (.int .i64 k) ∧ w'.cell? ⟨w.heap.size, 0, none⟩ = some (.string x.who) ∧ w'.cell? ⟨w.heap.size, 1, none⟩ = some (.int .i64 x.beg) ∧ w'.cell? ⟨w.heap.size, 2, none⟩ = some (.int .i64 x.fin) ∧ w'.cell? ⟨b, o + k * 3, none⟩ = some (.string (listW l k).who) ∧ w'.cell? ⟨b, o + k * 3 + 1, none⟩ = some (.int .i64 (listW l k).beg) ∧ w'.cell? ⟨b, o + k * 3 + 2, none⟩ = some (.int .i64 (listW l k).fin) ∧ Hid (Below wb.heap.size wb w')) :=
      Lib.hid fun w' hw => ⟨Keep.below hw _ _ cg, Keep.below hw _ _ cq, Keep.below hw _ _ x0, Keep.below hw _ _ x1, Keep.below hw _ _ x2, Keep.below hw _ _ q0, Keep.below hw _ _ q1, Keep.below hw _ _ q2, Lib.hid hw⟩
    refine wp_region_held_drew (S := fun w' => w'.cell? ⟨g, 0, none⟩ = some (.slice (some ⟨b, o, none⟩) l.length c) ∧ w'.cell? ⟨q, 0, none⟩ = some (.int .i64 k) ∧ w'.cell? ⟨w.heap.size, 0, none⟩ = some (.string x.who) ∧ w'.cell? ⟨w.heap.size, 1, none⟩ = some (.int .i64 x.beg) ∧ w'.cell? ⟨w.heap.size, 2, none⟩ = some (.int .i64 x.fin) ∧ w'.cell? ⟨b, o + k * 3, none⟩ = some (.string (listW l k).who) ∧ w'.cell? ⟨b, o + k * 3 + 1, none⟩ = some (.int .i64 (listW l k).beg) ∧ w'.cell? ⟨b, o + k * 3 + 2, none⟩ = some (.int .i64 (listW l k).fin) ∧ Hid (Below wb.heap.size wb w')) (by kernel_rfl) (MK.out _ HBd.out) (fun hHeld => ?_)
    refine wpAnyH_take (i := 0) (v := ?val0x19) rfl (by kernel_rfl) (by kernel_rfl) (by kernel_rfl) (fun _ _ _ h => h) (Or.inl ⟨by rfl, fun w9 hS9 => ?yields0x19⟩) (by assumption) ?later0x19
    case yields0x19 =>
      dsimp only at hS9
      go_simp
      try with_reducible rfl
    try simp only [Act.put, List.getElem_toArray, List.getElem_cons_succ, List.getElem_cons_zero, List.setIfInBounds_toArray, List.set_cons_zero, List.set_cons_succ]
    refine wpAnyH_take (i := 1) (v := ?val1x20) rfl (by kernel_rfl) (by kernel_rfl) (by kernel_rfl) (fun _ _ _ h => h) (Or.inl ⟨by rfl, fun w9 hS9 => ?yields1x20⟩) (by assumption) ?later1x20
    case yields1x20 =>
      dsimp only at hS9
      go_simp
      try with_reducible rfl
    try simp only [Act.put, List.getElem_toArray, List.getElem_cons_succ, List.getElem_cons_zero, List.setIfInBounds_toArray, List.set_cons_zero, List.set_cons_succ]
    refine wpAnyH_take (i := 2) (v := ?val2x21) rfl (by kernel_rfl) (by kernel_rfl) (by kernel_rfl) (fun _ _ _ h => h) (Or.inl ⟨by rfl, fun w9 hS9 => ?yields2x21⟩) (by assumption) ?later2x21
    case yields2x21 =>
      dsimp only at hS9
      go_simp
      try with_reducible rfl
    try simp only [Act.put, List.getElem_toArray, List.getElem_cons_succ, List.getElem_cons_zero, List.setIfInBounds_toArray, List.set_cons_zero, List.set_cons_succ]
    refine wpAnyH_take (i := 3) (v := ?val3x22) rfl (by kernel_rfl) (by kernel_rfl) (by kernel_rfl) (fun _ _ _ h => h) (Or.inl ⟨by rfl, fun w9 hS9 => ?yields3x22⟩) (by assumption) ?later3x22
    case yields3x22 =>
      dsimp only at hS9
      go_simp
      try with_reducible rfl
    try simp only [Act.put, List.getElem_toArray, List.getElem_cons_succ, List.getElem_cons_zero, List.setIfInBounds_toArray, List.set_cons_zero, List.set_cons_succ]
    refine wpAnyH_take (i := 4) (v := ?val4x23) rfl (by kernel_rfl) (by kernel_rfl) (by kernel_rfl) (fun _ _ _ h => h) (Or.inl ⟨by rfl, fun w9 hS9 => ?yields4x23⟩) (by assumption) ?later4x23
    case yields4x23 =>
      dsimp only at hS9
      go_simp
      try with_reducible rfl
    try simp only [Act.put, List.getElem_toArray, List.getElem_cons_succ, List.getElem_cons_zero, List.setIfInBounds_toArray, List.set_cons_zero, List.set_cons_succ]
    refine wpAnyH_take (i := 5) (v := ?val5x24) rfl (by kernel_rfl) (by kernel_rfl) (by kernel_rfl) (fun _ _ _ h => h) (Or.inl ⟨by rfl, fun w9 hS9 => ?yields5x24⟩) (by assumption) ?later5x24
    case yields5x24 =>
      dsimp only at hS9
      go_simp
      try with_reducible rfl
    try simp only [Act.put, List.getElem_toArray, List.getElem_cons_succ, List.getElem_cons_zero, List.setIfInBounds_toArray, List.set_cons_zero, List.set_cons_succ]
    refine wpAnyH_take (i := 6) (v := ?val6x25) rfl (by kernel_rfl) (by kernel_rfl) (by kernel_rfl) (fun _ _ _ h => h) (Or.inl ⟨by rfl, fun w9 hS9 => ?yields6x25⟩) (by assumption) ?later6x25
    case yields6x25 =>
      dsimp only at hS9
      go_simp
      try with_reducible rfl
    try simp only [Act.put, List.getElem_toArray, List.getElem_cons_succ, List.getElem_cons_zero, List.setIfInBounds_toArray, List.set_cons_zero, List.set_cons_succ]
    refine wpAnyH_take (i := 7) (v := ?val7x26) rfl (by kernel_rfl) (by kernel_rfl) (by kernel_rfl) (fun _ _ _ h => h) (Or.inl ⟨by rfl, fun w9 hS9 => ?yields7x26⟩) (by assumption) ?later7x26
    case yields7x26 =>
      dsimp only at hS9
      go_simp
      try with_reducible rfl
    try simp only [Act.put, List.getElem_toArray, List.getElem_cons_succ, List.getElem_cons_zero, List.setIfInBounds_toArray, List.set_cons_zero, List.set_cons_succ]
    refine wpAnyH_take (i := 8) (v := ?val8x27) rfl (by kernel_rfl) (by kernel_rfl) (by kernel_rfl) (fun _ _ _ h => h) (Or.inl ⟨by rfl, fun w9 hS9 => ?yields8x27⟩) (by assumption) ?later8x27
    case yields8x27 =>
      dsimp only at hS9
      go_simp
      try with_reducible rfl
    try simp only [Act.put, List.getElem_toArray, List.getElem_cons_succ, List.getElem_cons_zero, List.setIfInBounds_toArray, List.set_cons_zero, List.set_cons_succ]
    refine wpAnyH_take (i := 9) (v := ?val9x28) rfl (by kernel_rfl) (by kernel_rfl) (by kernel_rfl) (fun _ _ _ h => h) (Or.inl ⟨by rfl, fun w9 hS9 => ?yields9x28⟩) (by assumption) ?later9x28
    case yields9x28 =>
      dsimp only at hS9
      go_simp
      try with_reducible rfl
    try simp only [Act.put, List.getElem_toArray, List.getElem_cons_succ, List.getElem_cons_zero, List.setIfInBounds_toArray, List.set_cons_zero, List.set_cons_succ]
    refine wpAnyH_take (i := 10) (v := ?val10x29) rfl (by kernel_rfl) (by kernel_rfl) (by kernel_rfl) (fun _ _ _ h => h) (Or.inl ⟨by rfl, fun w9 hS9 => ?yields10x29⟩) (by assumption) ?later10x29
    case yields10x29 =>
      dsimp only at hS9
      go_simp
      try with_reducible rfl
    try simp only [Act.put, List.getElem_toArray, List.getElem_cons_succ, List.getElem_cons_zero, List.setIfInBounds_toArray, List.set_cons_zero, List.set_cons_succ]
    refine wpAnyH_take (i := 11) (v := ?val11x30) rfl (by kernel_rfl) (by kernel_rfl) (by kernel_rfl) (fun _ _ _ h => h) (Or.inl ⟨by rfl, fun w9 hS9 => ?yields11x30⟩) (by assumption) ?later11x30
    case yields11x30 =>
      dsimp only at hS9
      go_simp
      try with_reducible rfl
    try simp only [Act.put, List.getElem_toArray, List.getElem_cons_succ, List.getElem_cons_zero, List.setIfInBounds_toArray, List.set_cons_zero, List.set_cons_succ]
    refine wpAnyH_take (i := 12) (v := ?val12x31) rfl (by kernel_rfl) (by kernel_rfl) (by kernel_rfl) (fun _ _ _ h => h) (Or.inl ⟨by rfl, fun w9 hS9 => ?yields12x31⟩) (by assumption) ?later12x31
    case yields12x31 =>
      dsimp only at hS9
      go_simp
      try with_reducible rfl
    try simp only [Act.put, List.getElem_toArray, List.getElem_cons_succ, List.getElem_cons_zero, List.setIfInBounds_toArray, List.set_cons_zero, List.set_cons_succ]
    refine wpAnyH_take (i := 13) (v := ?val13x32) rfl (by kernel_rfl) (by kernel_rfl) (by kernel_rfl) (fun _ _ _ h => h) (Or.inl ⟨by rfl, fun w9 hS9 => ?yields13x32⟩) (by assumption) ?later13x32
    case yields13x32 =>
      dsimp only at hS9
      go_simp
      try with_reducible rfl
    try simp only [Act.put, List.getElem_toArray, List.getElem_cons_succ, List.getElem_cons_zero, List.setIfInBounds_toArray, List.set_cons_zero, List.set_cons_succ]
    refine wpAnyH_ready (rs := [14]) (by kernel_rfl) (by simp) ?_
    refine AllReadyH.cons rfl (fun K hK => ?_) AllReadyH.nil
    go_simp
    go_at_call 155
    go_split_ands
    refine (xOverlap_any x (listW l k) _).mono ?_
    rintro e' w5 ⟨rfl, hb1⟩
    go_wp2_with fail
    refine hK.out _ _ ?_ (fun hHeld => ?_)
    · (try dsimp only)
      (go_split_ands; exact MK.out _ (Below.trans (Hid.out (by assumption)) (hb1.mono (Hid.out (by assumption) : Below wb.heap.size wb _).size)))
    clear hK K
    try simp only [Act.put, List.getElem_toArray, List.getElem_cons_succ, List.getElem_cons_zero, List.setIfInBounds_toArray, List.set_cons_zero, List.set_cons_succ]
    refine wpAnyH_take (i := 15) (v := ?val15x33) rfl (by kernel_rfl) (by kernel_rfl) (by kernel_rfl) (fun _ _ _ h => h) (Or.inl ⟨by rfl, fun w9 hS9 => ?yields15x33⟩) (by assumption) ?later15x33
    case yields15x33 =>
      dsimp only at hS9
      go_simp
      try with_reducible rfl
    try simp only [Act.put, List.getElem_toArray, List.getElem_cons_succ, List.getElem_cons_zero, List.setIfInBounds_toArray, List.set_cons_zero, List.set_cons_succ]
    refine wpAnyH_take (i := 16) (v := ?val16x34) rfl (by kernel_rfl) (by kernel_rfl) (by kernel_rfl) (fun _ _ _ h => h) (Or.inl ⟨by rfl, fun w9 hS9 => ?yields16x34⟩) (by assumption) ?later16x34
    case yields16x34 =>
      dsimp only at hS9
      go_simp
      try with_reducible rfl
    try simp only [Act.put, List.getElem_toArray, List.getElem_cons_succ, List.getElem_cons_zero, List.setIfInBounds_toArray, List.set_cons_zero, List.set_cons_succ]
    refine wpAnyH_done (by kernel_rfl) ?_ _
    obtain ⟨-, -, -, -, -, -, -, -, HB⟩ := hHeld
    clear HBd MK
    go_wp2_with fail
    go_ret
    exact ⟨ret_bool F.out.symm, HW.out.trans (HB.out.mono HW.out.size)⟩
  · have F := Lib.hid (clashQ_no hw)
    have e1 := str_ne hw
    clear hw
    go_wp2_with fail
    go_quiet (fail)
    go_wp2_with fail
    go_ret
    exact ⟨ret_bool F.out.symm, bdrewN HW.out _⟩
set_option linter.unusedSimpArgs false in
set_option maxHeartbeats 12800000 in
set_option maxRecDepth 100000 in
theorem xClashIn_any (l m : List WRec) (A : Option Addr) (c g q k : Nat) (w : World) (hg : w.cell? ⟨g, 0, none⟩ = some (.slice A l.length c)) (hq : w.cell? ⟨q, 0, none⟩ = some (.int .i64 k)) (h : ArrW w A l c) (hk : k < l.length) (hm : m = l.take k) :
    Calls Try.prog 176 #[.slice A m.length c, .func (.func 154) #[] #[.pointer (some ⟨g, 0, none⟩), .pointer (some ⟨q, 0, none⟩)]] w fun e w' => (∃ r : Int, e = .returned (.int .i64 r) ∧ (0 ≤ r ↔ ∃ i, i < k ∧ clashAt l k i)) ∧ Below w.heap.size w w' := by
  have hml : m.length = k := by rw [hm]; exact xtake_len (by omega)
  have HM := Lib.hid (show ArrW w A m c by rw [hm]; exact h.upTo (by omega))
  have HAT := Lib.hid (show ∀ i, i < k → listW m i = listW l i from fun i hi => by rw [hm]; exact xtake_at hi)
  have b1 := HM.out.le.1
  have b2 := HM.out.le.2
  have HA := Lib.hid h
  have HG := Lib.hid hg
  have HQ := Lib.hid hq
  have HK := Lib.hid hk
  have hcall : ∀ (args : Array Value) (w : World), (callFunc 154 args).run Try.prog w = .ok (.enter 154 args) w := fun _ _ => by kernel_rfl
  obtain ⟨n, hn⟩ : ∃ n, n = m.length := ⟨_, rfl⟩
  have HN := Lib.hid (show n = k by rw [hn, hml])
  have HNM := Lib.hid hn
  rw [← hn] at b1 ⊢
  have hk40 : n ≤ l.length := by omega
  clear h hg hq hk hm hml hn
  go_enter Try.func176, Try.ntmps176
  go_wp2_with fail
  go_loopw [8] (fun i wr => ∃ j : Nat, j ≤ n ∧ i = .int .i64 j ∧ Hid (∀ i, i < j → ¬ clashAt l k i) ∧ Hid (Below w.heap.size w wr)) (fun i _ => n - (intOf i).toNat)
  case atStart => exact ⟨0, Nat.zero_le _, rfl, Lib.hid fun j hj => absurd hj (Nat.not_lt_zero _), Lib.hid (Below.refl _ _)⟩
  case round =>
    obtain ⟨j, hj, rfl, Hn, HB⟩ := hrel
    by_cases hlt : j < n
    · have hjn : (j : Int) < (n : Int) := by omega
      obtain ⟨b, o, rfl, q0, q1, q2⟩ := (HM.out.keep (Keep.below HB.out)).at_ (k := j) (by rw [← HNM.out]; exact hlt)
      rw [HAT.out j (by rw [← HN.out]; exact hlt)] at q0 q1 q2
      have HC := Lib.hid (xClash_any l (listW l j) _ c g q k wr (Keep.below HB.out _ _ HG.out) (Keep.below HB.out _ _ HQ.out) (HA.out.keep (Keep.below HB.out)) HK.out)
      go_wp2_with fail
      refine HC.out.mono ?_
      rintro e' w1 ⟨rfl, hb1⟩
      have HB1 := Lib.hid (HB.out.trans (hb1.mono HB.out.size))
      clear hb1 q0 q1 q2 HC
      cases hc : clashQ l k (listW l j) with
      | true =>
        have F := Lib.hid (show (0 : Int) ≤ (j : Int) ↔ ∃ i, i < k ∧ clashAt l k i from ⟨fun _ => ⟨j, by rw [← HN.out]; exact hlt, (clashQ_at l k j).1 hc⟩, fun _ => by omega⟩)
        clear hc
        go_wp2_with fail
        go_ret
        exact ⟨⟨_, rfl, F.out⟩, HB1.out⟩
      | false =>
        have G := Lib.hid (show ∀ i, i < j + 1 → ¬ clashAt l k i from fun i hi => by
          by_cases e : i = j
          · subst e; intro hh; rw [(clashQ_at l k i).2 hh] at hc; cases hc
          · exact Hn.out i (by omega))
        clear hc
        go_wp2_with fail
        go_roundw
        case rel => exact ⟨j + 1, by omega, by go_num, G, HB1⟩
        case measure => simp [intOf]; omega
    · have F := Lib.hid (show (0 : Int) ≤ -1 ↔ ∃ i, i < k ∧ clashAt l k i from ⟨fun h => absurd h (by decide), fun ⟨i, hi, hh⟩ => absurd hh (Hn.out i (by have := HN.out; omega))⟩)
      go_wp2_with fail
      go_ret
      exact ⟨⟨_, rfl, F.out⟩, HB.out⟩
def HasClash (l : List WRec) (k : Nat) (e : Ending) : Prop := ∃ r : Bool, e = .returned (.bool r) ∧ (r = true ↔ ∃ i, i < k ∧ clashAt l k i)
set_option maxHeartbeats 800000 in
theorem xContains_any (l : List WRec) (A : Option Addr) (c g q k : Nat) (w : World) (hg : w.cell? ⟨g, 0, none⟩ = some (.slice A l.length c)) (hq : w.cell? ⟨q, 0, none⟩ = some (.int .i64 k)) (h : ArrW w A l c) (hk : k < l.length) :
    Calls Try.prog 153 #[.slice A k c, .func (.func 154) #[] #[.pointer (some ⟨g, 0, none⟩), .pointer (some ⟨q, 0, none⟩)]] w fun e w' => HasClash l k e ∧ Below w.heap.size w w' := by
  have hx := xClashIn_any l (l.take k) A c g q k w hg hq h hk rfl
  rw [xtake_len (by omega)] at hx
  have HX := Lib.hid hx
  clear hx hg hq h
  go_enter Try.func153, Try.ntmps153
  go_wp2_with fail
  refine HX.out.mono ?_
  rintro e' w1 ⟨⟨r, rfl, hr⟩, hb1⟩
  have HR := Lib.hid hr
  clear hr
  go_wp2_with fail
  go_ret
  exact ⟨⟨_, rfl, by rw [← HR.out]; simp⟩, hb1⟩
set_option linter.unusedSimpArgs false in
set_option maxHeartbeats 12800000 in
set_option maxRecDepth 100000 in
theorem xUseBad_any (l : List WRec) (A : Option Addr) (c g k : Nat) (w : World) (hg : w.cell? ⟨g, 0, none⟩ = some (.slice A l.length c)) (h : ArrW w A l c) (hk : k < l.length) :
    Calls Try.prog 152 #[.int .i64 k, .pointer (some ⟨g, 0, none⟩)] w fun e w' => e = .returned (.int .i64 (useBad l k)) ∧ Below w.heap.size w w' := by
  have b1 := h.le.1
  have b2 := h.le.2
  have hkn : (k : Int) < (l.length : Int) := by omega
  have hkl : (k : Int) ≤ (l.length : Int) := by omega
  have hkw : IntKind.i64.wrap (k : Int) = (k : Int) := by rw [IntKind.wrap_i64]; omega
  have HK := Lib.hid hk
  have HA := Lib.hid (h.keep (Keep.alloc _ (.cells #[.int .i64 k] 3)))
  have HG := Lib.hid (Keep.alloc w (.cells #[.int .i64 k] 3) _ _ hg)
  have HQ := Lib.hid (cellNew w #[.int .i64 k] 3 0)
  clear h hg
  go_enter Try.func152, Try.ntmps152
  go_upto_region 1 with fail
  generalize hwb : w.alloc _ = wb at *
  have HW : Hid (Below w.heap.size w wb) := by rw [← hwb]; exact Lib.hid ((Below.refl _ _).alloc (Nat.le_refl _) _)
  clear hwb
  obtain ⟨b, o, rfl, q0, q1, q2⟩ := HA.out.at_ hk
  have cg := HG.out
  have cq := HQ.out
  clear hk
  go_wp2_with fail
  have HBd : Hid (Below wb.heap.size wb wb.drew) := Lib.hid (Below.refl _ _).drew
  have MK : Hid (∀ w', Below wb.heap.size wb w' → w'.cell? ⟨g, 0, none⟩ = some (.slice (some ⟨b, o, none⟩) l.length c) ∧ w'.cell? ⟨w.heap.size, 0, none⟩ = some (.int .i64 k) ∧ w'.cell? ⟨b, o + k * 3, none⟩ = some (.string (listW l k).who) ∧ w'.cell? ⟨b, o + k * 3 + 1, none⟩ = some (.int .i64 (listW l k).beg) ∧ w'.cell? ⟨b, o + k * 3 + 2, none⟩ = some (.int .i64 (listW l k).fin) ∧ Hid (Below wb.heap.size wb w')) :=
    Lib.hid fun w' hw => ⟨Keep.below hw _ _ cg, Keep.below hw _ _ cq, Keep.below hw _ _ q0, Keep.below hw _ _ q1, Keep.below hw _ _ q2, Lib.hid hw⟩
  refine wp_region_held_drew (S := fun w' => w'.cell? ⟨g, 0, none⟩ = some (.slice (some ⟨b, o, none⟩) l.length c) ∧ w'.cell? ⟨w.heap.size, 0, none⟩ = some (.int .i64 k) ∧ w'.cell? ⟨b, o + k * 3, none⟩ = some (.string (listW l k).who) ∧ w'.cell? ⟨b, o + k * 3 + 1, none⟩ = some (.int .i64 (listW l k).beg) ∧ w'.cell? ⟨b, o + k * 3 + 2, none⟩ = some (.int .i64 (listW l k).fin) ∧ Hid (Below wb.heap.size wb w')) (by kernel_rfl) (MK.out _ HBd.out) (fun hHeld => ?_)
  refine wpAnyH_take (i := 0) (v := ?val0x35) rfl (by kernel_rfl) (by kernel_rfl) (by kernel_rfl) (fun _ _ _ h => h) (Or.inl ⟨by rfl, fun w9 hS9 => ?yields0x35⟩) (by assumption) ?later0x35
  case yields0x35 =>
    dsimp only at hS9
    go_simp
    try with_reducible rfl
  try simp only [Act.put, List.getElem_toArray, List.getElem_cons_succ, List.getElem_cons_zero, List.setIfInBounds_toArray, List.set_cons_zero, List.set_cons_succ]
  refine wpAnyH_take (i := 1) (v := ?val1x36) rfl (by kernel_rfl) (by kernel_rfl) (by kernel_rfl) (fun _ _ _ h => h) (Or.inl ⟨by rfl, fun w9 hS9 => ?yields1x36⟩) (by assumption) ?later1x36
  case yields1x36 =>
    dsimp only at hS9
    go_simp
    try with_reducible rfl
  try simp only [Act.put, List.getElem_toArray, List.getElem_cons_succ, List.getElem_cons_zero, List.setIfInBounds_toArray, List.set_cons_zero, List.set_cons_succ]
  refine wpAnyH_take (i := 2) (v := ?val2x37) rfl (by kernel_rfl) (by kernel_rfl) (by kernel_rfl) (fun _ _ _ h => h) (Or.inl ⟨by rfl, fun w9 hS9 => ?yields2x37⟩) (by assumption) ?later2x37
  case yields2x37 =>
    dsimp only at hS9
    go_simp
    try with_reducible rfl
  try simp only [Act.put, List.getElem_toArray, List.getElem_cons_succ, List.getElem_cons_zero, List.setIfInBounds_toArray, List.set_cons_zero, List.set_cons_succ]
  refine wpAnyH_take (i := 3) (v := ?val3x38) rfl (by kernel_rfl) (by kernel_rfl) (by kernel_rfl) (fun _ _ _ h => h) (Or.inl ⟨by rfl, fun w9 hS9 => ?yields3x38⟩) (by assumption) ?later3x38
  case yields3x38 =>
    dsimp only at hS9
    go_simp
    try with_reducible rfl
  try simp only [Act.put, List.getElem_toArray, List.getElem_cons_succ, List.getElem_cons_zero, List.setIfInBounds_toArray, List.set_cons_zero, List.set_cons_succ]
  refine wpAnyH_take (i := 4) (v := ?val4x39) rfl (by kernel_rfl) (by kernel_rfl) (by kernel_rfl) (fun _ _ _ h => h) (Or.inl ⟨by rfl, fun w9 hS9 => ?yields4x39⟩) (by assumption) ?later4x39
  case yields4x39 =>
    dsimp only at hS9
    go_simp
    try with_reducible rfl
  try simp only [Act.put, List.getElem_toArray, List.getElem_cons_succ, List.getElem_cons_zero, List.setIfInBounds_toArray, List.set_cons_zero, List.set_cons_succ]
  refine wpAnyH_take (i := 5) (v := ?val5x40) rfl (by kernel_rfl) (by kernel_rfl) (by kernel_rfl) (fun _ _ _ h => h) (Or.inl ⟨by rfl, fun w9 hS9 => ?yields5x40⟩) (by assumption) ?later5x40
  case yields5x40 =>
    dsimp only at hS9
    go_simp
    try with_reducible rfl
  try simp only [Act.put, List.getElem_toArray, List.getElem_cons_succ, List.getElem_cons_zero, List.setIfInBounds_toArray, List.set_cons_zero, List.set_cons_succ]
  refine wpAnyH_take (i := 6) (v := ?val6x41) rfl (by kernel_rfl) (by kernel_rfl) (by kernel_rfl) (fun _ _ _ h => h) (Or.inl ⟨by rfl, fun w9 hS9 => ?yields6x41⟩) (by assumption) ?later6x41
  case yields6x41 =>
    dsimp only at hS9
    go_simp
    try with_reducible rfl
  try simp only [Act.put, List.getElem_toArray, List.getElem_cons_succ, List.getElem_cons_zero, List.setIfInBounds_toArray, List.set_cons_zero, List.set_cons_succ]
  refine wpAnyH_take (i := 7) (v := ?val7x42) rfl (by kernel_rfl) (by kernel_rfl) (by kernel_rfl) (fun _ _ _ h => h) (Or.inl ⟨by rfl, fun w9 hS9 => ?yields7x42⟩) (by assumption) ?later7x42
  case yields7x42 =>
    dsimp only at hS9
    go_simp
    try with_reducible rfl
  try simp only [Act.put, List.getElem_toArray, List.getElem_cons_succ, List.getElem_cons_zero, List.setIfInBounds_toArray, List.set_cons_zero, List.set_cons_succ]
  refine wpAnyH_take (i := 8) (v := ?val8x43) rfl (by kernel_rfl) (by kernel_rfl) (by kernel_rfl) (fun _ _ _ h => h) (Or.inl ⟨by rfl, fun w9 hS9 => ?yields8x43⟩) (by assumption) ?later8x43
  case yields8x43 =>
    dsimp only at hS9
    go_simp
    try with_reducible rfl
  try simp only [Act.put, List.getElem_toArray, List.getElem_cons_succ, List.getElem_cons_zero, List.setIfInBounds_toArray, List.set_cons_zero, List.set_cons_succ]
  refine wpAnyH_take (i := 9) (v := ?val9x44) rfl (by kernel_rfl) (by kernel_rfl) (by kernel_rfl) (fun _ _ _ h => h) (Or.inl ⟨by rfl, fun w9 hS9 => ?yields9x44⟩) (by assumption) ?later9x44
  case yields9x44 =>
    dsimp only at hS9
    go_simp
    try with_reducible rfl
  try simp only [Act.put, List.getElem_toArray, List.getElem_cons_succ, List.getElem_cons_zero, List.setIfInBounds_toArray, List.set_cons_zero, List.set_cons_succ]
  refine wpAnyH_take (i := 10) (v := ?val10x45) rfl (by kernel_rfl) (by kernel_rfl) (by kernel_rfl) (fun _ _ _ h => h) (Or.inl ⟨by rfl, fun w9 hS9 => ?yields10x45⟩) (by assumption) ?later10x45
  case yields10x45 =>
    dsimp only at hS9
    go_simp
    try with_reducible rfl
  try simp only [Act.put, List.getElem_toArray, List.getElem_cons_succ, List.getElem_cons_zero, List.setIfInBounds_toArray, List.set_cons_zero, List.set_cons_succ]
  refine wpAnyH_take (i := 11) (v := ?val11x46) rfl (by kernel_rfl) (by kernel_rfl) (by kernel_rfl) (fun _ _ _ h => h) (Or.inl ⟨by rfl, fun w9 hS9 => ?yields11x46⟩) (by assumption) ?later11x46
  case yields11x46 =>
    dsimp only at hS9
    go_simp
    try with_reducible rfl
  try simp only [Act.put, List.getElem_toArray, List.getElem_cons_succ, List.getElem_cons_zero, List.setIfInBounds_toArray, List.set_cons_zero, List.set_cons_succ]
  refine wpAnyH_take (i := 12) (v := ?val12x47) rfl (by kernel_rfl) (by kernel_rfl) (by kernel_rfl) (fun _ _ _ h => h) (Or.inl ⟨by rfl, fun w9 hS9 => ?yields12x47⟩) (by assumption) ?later12x47
  case yields12x47 =>
    dsimp only at hS9
    go_simp
    try with_reducible rfl
  try simp only [Act.put, List.getElem_toArray, List.getElem_cons_succ, List.getElem_cons_zero, List.setIfInBounds_toArray, List.set_cons_zero, List.set_cons_succ]
  refine wpAnyH_take (i := 13) (v := ?val13x48) rfl (by kernel_rfl) (by kernel_rfl) (by kernel_rfl) (fun _ _ _ h => h) (Or.inl ⟨by rfl, fun w9 hS9 => ?yields13x48⟩) (by assumption) ?later13x48
  case yields13x48 =>
    dsimp only at hS9
    go_simp
    try with_reducible rfl
  try simp only [Act.put, List.getElem_toArray, List.getElem_cons_succ, List.getElem_cons_zero, List.setIfInBounds_toArray, List.set_cons_zero, List.set_cons_succ]
  refine wpAnyH_take (i := 14) (v := ?val14x49) rfl (by kernel_rfl) (by kernel_rfl) (by kernel_rfl) (fun _ _ _ h => h) (Or.inl ⟨by rfl, fun w9 hS9 => ?yields14x49⟩) (by assumption) ?later14x49
  case yields14x49 =>
    dsimp only at hS9
    go_simp
    try with_reducible rfl
  try simp only [Act.put, List.getElem_toArray, List.getElem_cons_succ, List.getElem_cons_zero, List.setIfInBounds_toArray, List.set_cons_zero, List.set_cons_succ]
  refine wpAnyH_ready (rs := [15]) (by kernel_rfl) (by simp) ?_
  refine AllReadyH.cons rfl (fun K hK => ?_) AllReadyH.nil
  go_simp
  go_at_call 147
  go_split_ands
  refine (xSpan_any _ _ _ _).mono ?_
  rintro e' wx ⟨rfl, rfl⟩
  go_wp2_with fail
  refine hK.out _ _ ?_ (fun hHeld => ?_)
  · (try dsimp only)
    first | exact hHeld | exact MK.out _ HBd.out
  clear hK K
  try simp only [Act.put, List.getElem_toArray, List.getElem_cons_succ, List.getElem_cons_zero, List.setIfInBounds_toArray, List.set_cons_zero, List.set_cons_succ]
  refine wpAnyH_take (i := 16) (v := ?val16x50) rfl (by kernel_rfl) (by kernel_rfl) (by kernel_rfl) (fun _ _ _ h => h) (Or.inl ⟨by rfl, fun w9 hS9 => ?yields16x50⟩) (by assumption) ?later16x50
  case yields16x50 =>
    dsimp only at hS9
    go_simp
    try with_reducible rfl
  try simp only [Act.put, List.getElem_toArray, List.getElem_cons_succ, List.getElem_cons_zero, List.setIfInBounds_toArray, List.set_cons_zero, List.set_cons_succ]
  refine wpAnyH_done (by kernel_rfl) ?_ _
  obtain ⟨-, -, -, -, -, HB⟩ := hHeld
  clear HBd MK
  have HB0 := HB
  replace HA := Lib.hid (HA.out.keep (Keep.below HB.out))
  replace HG := Lib.hid (Keep.below HB.out _ _ HG.out)
  replace HQ := Lib.hid (Keep.below HB.out _ _ HQ.out)
  replace HW := Lib.hid (HW.out.trans (HB.out.mono HW.out.size))
  clear HB HB0 cg cq q0 q1 q2
  obtain ⟨E, hE⟩ : ∃ E, E = nameSpan (listW l k).who (listW l k).beg (listW l k).fin := ⟨_, rfl⟩
  rw [← hE]
  by_cases he : E = 0
  · have HU := Lib.hid (show useBad l k = 0 ∨ useBad l k = 13 from by
      unfold nameSpan at hE
      unfold useBad
      cases hn : isName (listW l k).who with
      | false => rw [hn, if_neg (by decide)] at hE; omega
      | true =>
        rw [hn, if_pos rfl] at hE
        rw [if_neg (by decide), if_neg (fun hh => hh (by rw [← hE]; exact he))]
        split
        · exact Or.inr rfl
        · exact Or.inl rfl)
    have HU2 := Lib.hid (show useBad l k = 13 ↔ ∃ i, i < k ∧ clashAt l k i from by
      unfold nameSpan at hE
      unfold useBad
      cases hn : isName (listW l k).who with
      | false => rw [hn, if_neg (by decide)] at hE; omega
      | true =>
        rw [hn, if_pos rfl] at hE
        rw [if_neg (by decide), if_neg (fun hh => hh (by rw [← hE]; exact he))]
        by_cases hc : ∃ i, i < k ∧ clashAt l k i
        · rw [if_pos hc]; exact ⟨fun _ => hc, fun _ => rfl⟩
        · rw [if_neg hc]; exact ⟨fun h => absurd h (by decide), fun h => absurd h hc⟩)
    rw [he]
    clear he hE
    obtain ⟨m, hm⟩ : ∃ m, m = l.take k := ⟨_, rfl⟩
    have HML := Lib.hid (show m.length = k by rw [hm]; exact xtake_len (by have := HK.out; omega))
    have HMM := Lib.hid hm
    clear hm
    have cg := HG.out
    have cq := HQ.out
    have hkc : (k : Int) ≤ (c : Int) := by omega
    go_wp2_with fail
    refine (xContains_any l _ c g w.heap.size k _ HG.out HQ.out HA.out HK.out).mono ?_
    rintro e' w5 ⟨⟨r, rfl, hr⟩, hb1⟩
    have HW5 := Lib.hid (HW.out.trans (hb1.mono HW.out.size))
    clear hb1 cg cq
    cases r with
    | true =>
      have HF := Lib.hid (HU2.out.2 (hr.1 rfl))
      clear hr
      go_wp2_with fail
      go_ret
      exact ⟨ret_int HF.out.symm, HW5.out⟩
    | false =>
      have HF := Lib.hid (show useBad l k = 0 from HU.out.elim id (fun h => absurd (hr.2 (HU2.out.1 h)) (by decide)))
      clear hr
      go_wp2_with fail
      go_ret
      exact ⟨ret_int HF.out.symm, HW5.out⟩
  · have HF := Lib.hid (show useBad l k = E from by
      rw [hE] at he ⊢
      unfold nameSpan at he ⊢
      unfold useBad
      cases hn : isName (listW l k).who with
      | false => rfl
      | true =>
        rw [hn, if_pos rfl] at he
        rw [if_neg (by decide), if_pos he]
        rfl)
    have e1 : (E == 0) = false := by simpa using he
    have e2 : (E != 0) = true := by simpa using he
    clear he hE
    go_wp2_with fail
    go_ret
    exact ⟨ret_int HF.out.symm, HW.out⟩
set_option maxHeartbeats 400000 in
theorem xUsesErr_any (l : List WRec) (A : Option Addr) (c : Nat) (w : World) (h : ArrW w A l c) :
    Calls Try.prog 120 #[.slice A l.length c] w fun e w' => e = .returned (.int .i64 (usesErr l)) ∧ Below w.heap.size w w' := by
  have b1 := h.le.1
  have b2 := h.le.2
  have HA := Lib.hid (h.keep (Keep.alloc w (.cells #[.slice A l.length c] 101)))
  clear h
  have HC := Lib.hid (cellNew w #[.slice A l.length c] 101 0)
  have c0 := HC.out
  go_enter Try.func120, Try.ntmps120
  go_wp2_with fail
  refine (xList_any 152 (.pointer (some ⟨w.heap.size, 0, none⟩)) l.length 14 (useBad l) _ (by omega) (by omega) (fun args w => by kernel_rfl) (fun w' hb i hi => xUseBad_any l A c _ i w' (Keep.below hb _ _ HC.out) (HA.out.keep (Keep.below hb)) hi)).mono ?_
  rintro e w1 ⟨rfl, hb1⟩
  go_wp2_with fail
  go_ret
  exact ⟨rfl, ((Below.refl _ _).alloc (Nat.le_refl _) _).trans (hb1.mono (by simp))⟩
set_option linter.unusedSimpArgs false in
set_option maxHeartbeats 12800000 in
set_option maxRecDepth 100000 in
theorem xUsesAt_any (l : List WRec) (A : Option Addr) (c : Nat) (t : Int) (w : World) (h : ArrW w A l c) (hS : SmallU l) :
    Calls Try.prog 124 #[.slice A l.length c, .int .i64 t] w fun e w' => e = .returned (.int .i64 (atTo l t l.length)) ∧ Below w.heap.size w w' := by
  have b1 := h.le.1
  have b2 := h.le.2
  have HA := Lib.hid h
  have HS := Lib.hid hS.2
  have h100 := hS.1
  clear h hS
  go_enter Try.func124, Try.ntmps124
  go_wp2_with fail
  go_loopw [5, 10] (fun u i wr => ∃ k : Nat, k ≤ l.length ∧ u = .int .i64 (atTo l t k) ∧ i = .int .i64 k ∧ Hid (Below w.heap.size w wr)) (fun _ i _ => l.length - (intOf i).toNat)
  case atStart => exact ⟨0, Nat.zero_le _, rfl, rfl, Lib.hid (Below.refl _ _)⟩
  case round =>
    obtain ⟨k, hk, rfl, rfl, HB⟩ := hrel
    by_cases hlt : k < l.length
    · have hkn : (k : Int) < (l.length : Int) := by omega
      obtain ⟨b, o, rfl, q⟩ := (HA.out.keep (Keep.below HB.out)).at_ hlt
      obtain ⟨q0, q1, q2⟩ := q
      have x1 := HS.out k hlt
      have x2 := atTo_is l t k
      have hwf : IntKind.i64.wrap ((listW l k).fin - 1) = (listW l k).fin - 1 := by rw [IntKind.wrap_i64]; omega
      have n0 := cellNew wr #[.string (listW l k).who, .int .i64 (listW l k).beg, .int .i64 (listW l k).fin] 113 0
      have n1 := cellNew wr #[.string (listW l k).who, .int .i64 (listW l k).beg, .int .i64 (listW l k).fin] 113 1
      have n2 := cellNew wr #[.string (listW l k).who, .int .i64 (listW l k).beg, .int .i64 (listW l k).fin] 113 2
      have HB1 := Lib.hid (HB.out.alloc HB.out.size (.cells #[.string (listW l k).who, .int .i64 (listW l k).beg, .int .i64 (listW l k).fin] 113))
      have hw1 : IntKind.i64.wrap (atTo l t k + 1) = atTo l t k + 1 := by rw [IntKind.wrap_i64]; omega
      clear x1
      cases hw : within t (listW l k).beg ((listW l k).fin - 1) with
      | true =>
        have F := Lib.hid (show atTo l t (k + 1) = atTo l t k + 1 from if_pos hw)
        have HWI := Lib.hid hw
        clear hw
        go_wp2_with fail
        refine (within_any _ _ _ _).mono ?_
        rintro e' wx ⟨rfl, rfl⟩
        rw [HWI.out]
        go_wp2_with fail
        rw [← F.out]
        go_roundw
        case rel => exact ⟨k + 1, by omega, rfl, by go_num, HB1⟩
        case measure => simp [intOf]; omega
      | false =>
        have F := Lib.hid (show atTo l t (k + 1) = atTo l t k from if_neg (by rw [hw]; decide))
        have HWI := Lib.hid hw
        clear hw
        go_wp2_with fail
        refine (within_any _ _ _ _).mono ?_
        rintro e' wx ⟨rfl, rfl⟩
        rw [HWI.out]
        go_wp2_with fail
        rw [← F.out]
        go_roundw
        case rel => exact ⟨k + 1, by omega, rfl, by go_num, HB1⟩
        case measure => simp [intOf]; omega
    · obtain rfl : k = l.length := by omega
      go_wp2_with fail
      go_ret
      exact ⟨rfl, HB.out⟩
end Go.Proofs.Ytaihiahoedpbiaa

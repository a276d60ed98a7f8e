/- The reference's net without a road. Conditions: the road is one; no list has more than a million elements. -/
import Derived.Test.YtnjaadmmbdlfoaaT75
import Derived.ArgAppend
import Derived.Deep.Upon
namespace Go.Proofs.Ytnjaadmmbdlfoaa
open Go.RowKit Fs

theorem opAppend {P : Program} {o : Oper} {a : Act} {w w' : World} {K : Act → World → Prop} {Q : Exit → Act → World → Prop} {v vs vx : Value} {s x : Operand} {t : TypeId}
    (hop : o.op = .call { callee := .builtin .append, args := #[s, x], argTypes := #[t, t] }) (hs : a.eval s = vs) (hx : a.eval x = vx) (hrun : (Builtin.append_ #[t, t] o.type #[vs, vx]).run P w = .ok v w') (h : K (a.put o.dst v) w') : Oper.wp P o a w K Q := by
  unfold Oper.wp
  simp [execOp, hop, resolve, invoke, builtin, hs, hx, hrun, Result.andThen]
  exact h
theorem flat_cells {w : World} {b o n c size : Nat} {C : Nat → Nat → Value} (hsz : 0 < size) (h : Arr w (some ⟨b, o, none⟩) n c size C) : ∀ j u, (flat n size C)[j]? = some u → w.cell? (Addr.add ⟨b, o, none⟩ j) = some u := by
  intro j u hu
  have hj : j < n * size := by
    rcases Nat.lt_or_ge j (n * size) with h | h
    · exact h
    · rw [List.getElem?_eq_none (by simpa [flat] using h)] at hu; cases hu
  rw [flat_get _ hj] at hu
  injection hu with hu
  have hm : 0 < n := Nat.pos_of_ne_zero fun h => by rw [h, Nat.zero_mul] at hj; omega
  obtain ⟨b', o', he, hc⟩ := h.2.2 hm
  injection he with he
  injection he with e1 e2
  subst e1; subst e2
  have hq := hc (j / size) (j % size) (Nat.div_lt_of_lt_mul (by rw [Nat.mul_comm]; exact hj)) (Nat.mod_lt _ hsz)
  have e1 : o + j / size * size + j % size = o + j := by
    have := Nat.div_add_mod j size
    rw [Nat.mul_comm] at this
    omega
  rw [e1, hu] at hq
  unfold Addr.add
  by_cases h0 : j = 0
  · subst h0; simpa using hq
  · rw [if_neg h0]; exact hq
/-- A slice without room behind it is appended to. -/
theorem appendFull {P : Program} (w : World) (t ty e : TypeId) (i : TypeInfo) (z : Value) (size bytes : Nat) (ht : P.underlying t = some (.slice e)) (hi : P.info? e = some i) (hz : i.zero = some z)
    (hsize : i.size = size) (hby : i.bytes = bytes) (hzs : z.cells.size = size) (hsz : 0 < size)
    (b o n : Nat) (C : Nat → Nat → Value) (hA : Arr w (some ⟨b, o, none⟩) n n size C) (B : Option Addr) (m c : Nat) (D : Nat → Nat → Value) (hB : Arr w B m c size D) (h63 : n + m ≤ maxLen) (hbytes : (n + m) * bytes ≤ 140737488355328) :
    ∃ A c' w', (Builtin.append_ #[t, t] ty #[.slice (some ⟨b, o, none⟩) n n, .slice B m c]).run P w = .ok (.slice A (n + m) c') w' ∧ Arr w' A (n + m) c' size (fun i j => if i < n then C i j else D (i - n) j) ∧ Below w.heap.size w w' ∧ (A = some ⟨b, o, none⟩ ∨ Above w.heap.size A) := by
  have h9 : n + m ≤ 9223372036854775807 := by unfold maxLen at h63; omega
  rcases Nat.eq_zero_or_pos m with h0 | h0
  · subst h0
    refine ⟨some ⟨b, o, none⟩, n, w, ?_, ⟨Nat.le_refl _, by omega, fun hn => ?_⟩, Below.refl _ _, .inl rfl⟩
    · cases B with
      | none => simp [Builtin.append_, run_underlying ht, sizeOf, typeInfo, hi, Builtin.lenOf, Builtin.firstCells, storeCells]
      | some ad => simp [Builtin.append_, run_underlying ht, sizeOf, typeInfo, hi, Builtin.lenOf, Builtin.firstCells, storeCells, loadCells, loadCellsFrom]
    · obtain ⟨b', o', e, hc⟩ := hA.2.2 (by omega)
      refine ⟨b', o', e, fun i j hi hj => ?_⟩
      rw [hc i j (by omega) hj]
      dsimp only
      rw [if_pos (by omega)]
  · obtain ⟨b', o', e', hc'⟩ := hB.2.2 h0
    subst e'
    obtain ⟨v', w', r1, r2, r3⟩ := run_append_arg_grows (P := P) w t ty e i z size bytes ht hi hz hsize hby hzs hsz ⟨b, o, none⟩ n n (flat n size C) (by simp [flat]) (flat_cells hsz hA) ⟨b', o', none⟩ m c (flat m size D) (by simp [flat]) (flat_cells hsz hB) (by omega) h63 hbytes
    rw [flat_join C D hsz] at r2
    obtain ⟨A, c2, hv, ha⟩ := own_row r2
    subst hv
    exact ⟨A, c2, w', r1, ha, (Below.refl _ _).grown r3 (Nat.le_refl _) (fun k hk => by cases hk), .inr (own_above r2)⟩
/-- What lies ahead of g, and reads as no slice where a row begins, lies not in the block z of two slices. -/
theorem Aw.typed {S : Nat → Prop} {w : World} {A : Option Addr} {n c size z : Nat} {C : Nat → Nat → Value} {ty : TypeId} {fr : Nat × Nat} (h : Arr w A n c size C) (hs : 0 < size) (hS : ∀ b, b < w.heap.size → S b → b = z) (hz : w.heap[z]? = some (.cells #[.slice none 0 0, .slice none 0 0] ty fr)) (hC : ∀ x n c, C 0 0 ≠ .slice x n c) : Aw S w A n c size C := by
  refine ⟨h.1, h.2.1, fun hn => ?_⟩
  obtain ⟨b, o, h1, h3⟩ := h.2.2 hn
  refine ⟨b, o, h1, fun hb => ?_, h3⟩
  have h0 := h3 0 0 hn hs
  have e := hS b (World.block_lt_of_cell? w _ h0) hb
  subst e
  rw [cell_of_row w _ _ _ _ _ hz] at h0
  match ho : o + 0 * size + 0, h0 with
  | 0, h0 => exact hC _ _ _ (by injection h0 with h0; exact h0.symm)
  | 1, h0 => exact hC _ _ _ (by injection h0 with h0; exact h0.symm)
  | k + 2, h0 => simp at h0
theorem Arr.same {w : World} {A : Option Addr} {n c size : Nat} {C D : Nat → Nat → Value} (h : Arr w A n c size C) (e : ∀ i j, C i j = D i j) : Arr w A n c size D := by
  have : C = D := funext fun i => funext fun j => e i j
  rwa [this] at h
theorem wo_cells (N : Net) (a : DA) (r i j : Nat) : (if i < r then rdCells (listD N.roads i) (a.p i) (a.pc i) j else rdCells (listD N.roads (r + 1 + (i - r))) (a.p (r + 1 + (i - r))) (a.pc (r + 1 + (i - r))) j) = rdCells (listD (withoutN N r).roads i) ((a.wo r).p i) ((a.wo r).pc i) j := by
  rw [wo_at]
  unfold DA.wo upOf
  dsimp only
  by_cases h : i < r
  · simp only [if_pos h]
  · simp only [if_neg h]
    rw [show r + 1 + (i - r) = i + 1 by omega]

set_option linter.unusedSimpArgs false in
set_option maxHeartbeats 6400000 in
set_option maxRecDepth 100000 in
theorem rWithout_any (N : Net) (v : Value) (r : Nat) (w : World) (hN : RdNet w v N) (hr : r < N.roads.length) (hL1 : N.places.length ≤ 1000000) (hL2 : N.roads.length ≤ 1000000) (hL3 : ∀ i, i < N.roads.length → (listD N.roads i).pts.length ≤ 1000000) :
    Calls Try.prog 23 #[v, .int .i64 r] w fun e w' => ∃ v', e = .returned v' ∧ RdNet w' v' (withoutN N r) ∧ Below w.heap.size w w' := by
  have hN0 := Lib.hid hN
  obtain ⟨P, R, pc, rc, ar, rfl, m⟩ := hN
  clear m
  have HL3 := Lib.hid hL3
  have HLN := Lib.hid (wo_len hr)
  clear hL3
  obtain ⟨j0, hj, jz0, jz1, jz2⟩ := info_parts Try.infoRd
  have BN := Lib.hid ((BoxN.new w N P R pc rc 25).keep (Keep.alloc _ (.cells #[.slice none 0 0, .slice none 0 0] 25)))
  have BZ : Hid (OutZ ((w.alloc (.cells #[.slice P N.places.length pc, .slice R N.roads.length rc] 25)).alloc (.cells #[.slice none 0 0, .slice none 0 0] 25)) (w.heap.size + 1)) := Lib.hid (OutZ.new1 w _ _)
  have BH : Hid (((w.alloc (.cells #[.slice P N.places.length pc, .slice R N.roads.length rc] 25)).alloc (.cells #[.slice none 0 0, .slice none 0 0] 25)).heap[w.heap.size + 1]? = some (.cells #[.slice none 0 0, .slice none 0 0] 25 (0, 0))) := by
    have := heap_alloc_new (w.alloc (.cells #[.slice P N.places.length pc, .slice R N.roads.length rc] 25)) (.cells #[.slice none 0 0, .slice none 0 0] 25)
    rw [World.size_alloc] at this
    exact Lib.hid this
  go_enter Try.func23, Try.ntmps23
  go_upto_region 1 with fail
  generalize hwb : (w.alloc _).alloc _ = wb at *
  have HW : Hid (Below w.heap.size w wb) := by rw [← hwb]; exact Lib.hid (((Below.refl _ _).alloc (Nat.le_refl _) _).alloc (by simp) _)
  clear hwb
  obtain ⟨n0, n1⟩ := BN.out
  go_wp2_with fail
  refine (copyNet_any N _ _ (hN0.out.keep (Keep.below HW.out)) hL1 hL2 HL3.out).mono ?_
  rintro e' w1 ⟨v1, rfl, hv1, hb1⟩
  obtain ⟨P1, R1, pc1, rc1, a1, rfl, m1⟩ := hv1
  have M1 := Lib.hid m1
  have pb1 := m1.places.le.1
  have pb2 := m1.places.le.2
  have rb1 := m1.roads.le.1
  have rb2 := m1.roads.le.2
  obtain ⟨rb, ro, hRa, -⟩ := m1.roads.at_ hr
  subst hRa
  replace BH := Lib.hid ((hb1.block _ BZ.out.lt).trans BH.out)
  replace BZ := Lib.hid (BZ.out.below hb1 BZ.out.lt)
  replace HW := Lib.hid (HW.out.trans (hb1.mono HW.out.size))
  clear m1 n0 n1 hb1 BN hN0
  have OA : Hid (OutAt (w1.alloc (.cells #[.slice P1 N.places.length pc1, .slice (some ⟨rb, ro, none⟩) N.roads.length rc1] 25)) w1.heap.size (.slice P1 N.places.length pc1) (.slice (some ⟨rb, ro, none⟩) N.roads.length rc1)) := Lib.hid ⟨cellNew _ _ _ 0, cellNew _ _ _ 1, frozenNew _ _ _ 1⟩
  have HG : Hid (Below w1.heap.size w1 (w1.alloc (.cells #[.slice P1 N.places.length pc1, .slice (some ⟨rb, ro, none⟩) N.roads.length rc1] 25))) := Lib.hid ((Below.refl _ _).alloc (Nat.le_refl _) _)
  obtain ⟨g, hg⟩ : ∃ g, g = w1.heap.size := ⟨_, rfl⟩
  go_upto_region 2 with fail
  rw [← hg] at OA ⊢
  generalize hwo : w1.alloc _ = wo at *
  have M2 := Lib.hid (M1.out.keep (Keep.below HG.out))
  have hg1 : w.heap.size + 1 < g := by rw [hg]; exact BZ.out.lt
  have HSB := Lib.hid (show ∀ b, b < w1.heap.size → (b = g ∨ b = w.heap.size + 1) → b = w.heap.size + 1 from fun b hb h => by omega)
  have AP := Lib.hid (Aw.typed (S := fun b => b = g ∨ b = w.heap.size + 1) M1.out.places (by decide) HSB.out BH.out (fun x n c h => by cases h))
  have AQ := Lib.hid (show ∀ i, i < N.roads.length → AwP (fun b => b = g ∨ b = w.heap.size + 1) w1 (a1.p i) (listD N.roads i).pts (a1.pc i) from fun i hi => Aw.typed (M1.out.roads.2 i hi) (by decide) HSB.out BH.out (fun x n c h => by cases h))
  have AR := Lib.hid (Aw.typed (S := fun b => b = g ∨ b = w.heap.size + 1) M1.out.roads.1 (by decide) HSB.out BH.out (fun x n c h => by cases h))
  have hg0 : g ≤ w1.heap.size := by omega
  have hg2 : w1.heap.size ≤ g := by omega
  have hwos : g + 1 ≤ wo.heap.size := by rw [← hwo]; simp; omega
  clear hg
  replace BZ := Lib.hid (BZ.out.below HG.out (by omega))
  have HW2 := Lib.hid (HW.out.trans (HG.out.mono HW.out.size))
  clear hwo
  obtain ⟨o0, o1, of1⟩ := OA.out
  have e1 : IntKind.i64.wrap ((r : Int) + 1) = (r : Int) + 1 := by rw [IntKind.wrap_i64]; omega
  have e2 : ((r : Int) + 1).toNat = r + 1 := by omega
  have e3 : (0 : Int) ≤ (r : Int) + 1 := by omega
  have e4 : (r : Int) + 1 ≤ (N.roads.length : Int) := by omega
  have e5 : (r : Int) ≤ (rc1 : Int) := by omega
  have e6 : (r + 1) ≤ N.roads.length := by omega
  have HBd : Hid (Below wo.heap.size wo wo.drew) := Lib.hid (Below.refl _ _).drew
  have MK : Hid (∀ w', Below wo.heap.size wo w' → w'.cell? ⟨g, 1, none⟩ = some (.slice (some ⟨rb, ro, none⟩) N.roads.length rc1) ∧ Hid (Below wo.heap.size wo w')) :=
    Lib.hid fun w' hw => ⟨Keep.below hw _ _ o1, Lib.hid hw⟩
  have hlen : r + (N.roads.length - (r + 1)) = (withoutN N r).roads.length := by rw [HLN.out]; omega
  have hz63 : r + (N.roads.length - (r + 1)) ≤ maxLen := by unfold maxLen; omega
  have hz64 : (r + (N.roads.length - (r + 1))) * 64 ≤ 140737488355328 := by omega
  by_cases hcap : rc1 = r + 1
  · have hcf : (rc1 = r + 1) = True := eq_true hcap
    have HC := Lib.hid hcap
    clear hcap
    have KA1 := Arr.head (Arr.keep (Keep.drew wo) M2.out.roads.1) (k := r) (c' := r) (by omega) (Nat.le_refl _) (by omega)
    have KA2 : Arr wo.drew (some ⟨rb, ro, none⟩) (N.roads.length - (r + 1)) (rc1 - (r + 1)) 5 (fun j k => rdCells (listD N.roads (r + 1 + j)) (a1.p (r + 1 + j)) (a1.pc (r + 1 + j)) k) := (by have := HC.out; exact ⟨by omega, by omega, fun hh => absurd hh (by omega)⟩)
    obtain ⟨A9, c9, w9, hrun, ha9, hb9, hab9⟩ := appendFull (P := Try.prog) wo.drew 23 23 68 j0 _ 5 64 Try.underlying23 hj jz0 jz1 jz2 rfl (by decide) rb ro r _ KA1 (some ⟨rb, ro, none⟩) (N.roads.length - (r + 1)) (rc1 - (r + 1)) _ KA2 hz63 hz64
    rw [hlen] at hrun ha9
    have HA9 := Lib.hid (ha9.same (wo_cells N a1 r))
    have HAW : Hid (Aw (fun b => b = g ∨ b = w.heap.size + 1) w9 A9 (withoutN N r).roads.length c9 5 (fun i j => rdCells (listD (withoutN N r).roads i) ((a1.wo r).p i) ((a1.wo r).pc i) j)) := Lib.hid (by
      rcases hab9 with h | h
      · subst h
        refine ⟨HA9.out.1, HA9.out.2.1, fun hn => ?_⟩
        obtain ⟨b', o', e', hc'⟩ := HA9.out.2.2 hn
        obtain ⟨b2, o2, e2, hn2, -⟩ := AR.out.2.2 (by omega)
        rw [e2] at e'
        injection e' with e'
        injection e' with f1 f2
        subst f1; subst f2
        exact ⟨_, _, e2, hn2, hc'⟩
      · exact Aw.new HA9.out h (fun b hb hS => by have : wo.drew.heap.size ≤ b := hb; simp at this; omega))
    have HB9 := Lib.hid (((Below.refl wo.heap.size wo).drew).trans hb9)
    clear KA1 KA2 ha9 hb9 hab9 hlen hz63 hz64
    refine heldPeel (S := fun w' => w'.cell? ⟨g, 1, none⟩ = some (.slice (some ⟨rb, ro, none⟩) N.roads.length rc1) ∧ Hid (Below wo.heap.size wo w')) (l := [_, _, _, _, _, _, _, _, _, _, _, _]) (by kernel_rfl) (by kernel_rfl) (MK.out _ HBd.out) (fun hHeld => ?_)
    refine wpAnyH_take (i := 0) (v := ?val0x1) rfl (by kernel_rfl) (by kernel_rfl) (by kernel_rfl) (fun _ _ _ h => h) (Or.inl ⟨by rfl, fun w9 hS9 => ?yields0x1⟩) (by assumption) ?later0x1
    case yields0x1 =>
      dsimp only at hS9
      go_simp
      try with_reducible rfl
    try simp only [Act.put, List.getElem_toArray, List.getElem_cons_succ, List.getElem_cons_zero, List.setIfInBounds_toArray, List.set_cons_zero, List.set_cons_succ]
    refine wpAnyH_take (i := 1) (v := ?val1x2) rfl (by kernel_rfl) (by kernel_rfl) (by kernel_rfl) (fun _ _ _ h => h) (Or.inl ⟨by rfl, fun w9 hS9 => ?yields1x2⟩) (by assumption) ?later1x2
    case yields1x2 =>
      dsimp only at hS9
      go_simp
      try with_reducible rfl
    try simp only [Act.put, List.getElem_toArray, List.getElem_cons_succ, List.getElem_cons_zero, List.setIfInBounds_toArray, List.set_cons_zero, List.set_cons_succ]
    refine wpAnyH_take (i := 2) (v := ?val2x3) rfl (by kernel_rfl) (by kernel_rfl) (by kernel_rfl) (fun _ _ _ h => h) (Or.inl ⟨by rfl, fun w9 hS9 => ?yields2x3⟩) (by assumption) ?later2x3
    case yields2x3 =>
      dsimp only at hS9
      go_simp
      try with_reducible rfl
    try simp only [Act.put, List.getElem_toArray, List.getElem_cons_succ, List.getElem_cons_zero, List.setIfInBounds_toArray, List.set_cons_zero, List.set_cons_succ]
    refine wpAnyH_take (i := 3) (v := ?val3x4) rfl (by kernel_rfl) (by kernel_rfl) (by kernel_rfl) (fun _ _ _ h => h) (Or.inl ⟨by rfl, fun w9 hS9 => ?yields3x4⟩) (by assumption) ?later3x4
    case yields3x4 =>
      dsimp only at hS9
      go_simp
      try with_reducible rfl
    try simp only [Act.put, List.getElem_toArray, List.getElem_cons_succ, List.getElem_cons_zero, List.setIfInBounds_toArray, List.set_cons_zero, List.set_cons_succ]
    refine wpAnyH_take (i := 4) (v := ?val4x5) rfl (by kernel_rfl) (by kernel_rfl) (by kernel_rfl) (fun _ _ _ h => h) (Or.inl ⟨by rfl, fun w9 hS9 => ?yields4x5⟩) (by assumption) ?later4x5
    case yields4x5 =>
      dsimp only at hS9
      go_simp
      try with_reducible rfl
    try simp only [Act.put, List.getElem_toArray, List.getElem_cons_succ, List.getElem_cons_zero, List.setIfInBounds_toArray, List.set_cons_zero, List.set_cons_succ]
    refine wpAnyH_take (i := 5) (v := ?val5x6) rfl (by kernel_rfl) (by kernel_rfl) (by kernel_rfl) (fun _ _ _ h => h) (Or.inl ⟨by rfl, fun w9 hS9 => ?yields5x6⟩) (by assumption) ?later5x6
    case yields5x6 =>
      dsimp only at hS9
      go_simp
      try with_reducible rfl
    try simp only [Act.put, List.getElem_toArray, List.getElem_cons_succ, List.getElem_cons_zero, List.setIfInBounds_toArray, List.set_cons_zero, List.set_cons_succ]
    refine wpAnyH_take (i := 6) (v := ?val6x7) rfl (by kernel_rfl) (by kernel_rfl) (by kernel_rfl) (fun _ _ _ h => h) (Or.inl ⟨by rfl, fun w9 hS9 => ?yields6x7⟩) (by assumption) ?later6x7
    case yields6x7 =>
      dsimp only at hS9
      go_simp
      try with_reducible rfl
    try simp only [Act.put, List.getElem_toArray, List.getElem_cons_succ, List.getElem_cons_zero, List.setIfInBounds_toArray, List.set_cons_zero, List.set_cons_succ]
    refine wpAnyH_take (i := 7) (v := ?val7x8) rfl (by kernel_rfl) (by kernel_rfl) (by kernel_rfl) (fun _ _ _ h => h) (Or.inl ⟨by rfl, fun w9 hS9 => ?yields7x8⟩) (by assumption) ?later7x8
    case yields7x8 =>
      dsimp only at hS9
      go_simp
      try with_reducible rfl
    try simp only [Act.put, List.getElem_toArray, List.getElem_cons_succ, List.getElem_cons_zero, List.setIfInBounds_toArray, List.set_cons_zero, List.set_cons_succ]
    refine wpAnyH_take (i := 8) (v := ?val8x9) rfl (by kernel_rfl) (by kernel_rfl) (by kernel_rfl) (fun _ _ _ h => h) (Or.inl ⟨by rfl, fun w9 hS9 => ?yields8x9⟩) (by assumption) ?later8x9
    case yields8x9 =>
      dsimp only at hS9
      go_simp
      try with_reducible rfl
    try simp only [Act.put, List.getElem_toArray, List.getElem_cons_succ, List.getElem_cons_zero, List.setIfInBounds_toArray, List.set_cons_zero, List.set_cons_succ]
    refine wpAnyH_take (i := 9) (v := ?val9x10) rfl (by kernel_rfl) (by kernel_rfl) (by kernel_rfl) (fun _ _ _ h => h) (Or.inl ⟨by rfl, fun w9 hS9 => ?yields9x10⟩) (by assumption) ?later9x10
    case yields9x10 =>
      dsimp only at hS9
      go_simp
      try with_reducible rfl
    try simp only [Act.put, List.getElem_toArray, List.getElem_cons_succ, List.getElem_cons_zero, List.setIfInBounds_toArray, List.set_cons_zero, List.set_cons_succ]
    refine wpAnyH_ready (rs := [10]) (by kernel_rfl) (by simp) ?_
    refine AllReadyH.cons rfl (fun K hK => ?_) AllReadyH.nil
    rw [if_pos (by kernel_rfl)]
    refine opAppend (s := .tmp 12) (x := .tmp 17) (t := 23) rfl rfl rfl hrun ?_
    refine hK.out _ _ ?_ (fun hHeld => ?_)
    · exact MK.out _ HB9.out
    clear hK K
    try simp only [Act.put, List.getElem_toArray, List.getElem_cons_succ, List.getElem_cons_zero, List.setIfInBounds_toArray, List.set_cons_zero, List.set_cons_succ]
    refine wpAnyH_take (i := 11) (v := ?val11x11) rfl (by kernel_rfl) (by kernel_rfl) (by kernel_rfl) (fun _ _ _ h => h) (Or.inl ⟨by rfl, fun w9 hS9 => ?yields11x11⟩) (by assumption) ?later11x11
    case yields11x11 =>
      dsimp only at hS9
      go_simp
      try with_reducible rfl
    try simp only [Act.put, List.getElem_toArray, List.getElem_cons_succ, List.getElem_cons_zero, List.setIfInBounds_toArray, List.set_cons_zero, List.set_cons_succ]
    refine wpAnyH_done (by kernel_rfl) ?_ _
    unfold Peeled
    dsimp only
    replace HW2 := Lib.hid (HW2.out.trans (HB9.out.mono HW2.out.size))
    obtain ⟨p0, p1, pf1⟩ := OA.out.below HB9.out (by have := OA.out.lt; omega)
    have BZ9 := Lib.hid (BZ.out.below HB9.out (by have := OA.out.lt; omega))
    have APn := Lib.hid ((((AP.out.keep (Keep.below HG.out)).keep (Keep.below HB9.out)).set (p := ⟨g, 1, none⟩) (.inl rfl) (.slice A9 (withoutN N r).roads.length c9)).set (p := ⟨w.heap.size + 1, 0, none⟩) (.inr rfl) (.slice P1 N.places.length pc1) |>.set (p := ⟨w.heap.size + 1, 1, none⟩) (.inr rfl) (.slice A9 (withoutN N r).roads.length c9))
    have AQn := Lib.hid fun i hi => ((((AQ.out i hi).keep (Keep.below HG.out)).keep (Keep.below HB9.out)).set (p := ⟨g, 1, none⟩) (.inl rfl) (.slice A9 (withoutN N r).roads.length c9)).set (p := ⟨w.heap.size + 1, 0, none⟩) (.inr rfl) (.slice P1 N.places.length pc1) |>.set (p := ⟨w.heap.size + 1, 1, none⟩) (.inr rfl) (.slice A9 (withoutN N r).roads.length c9)
    have ARn := Lib.hid (((HAW.out.set (p := ⟨g, 1, none⟩) (.inl rfl) (.slice A9 (withoutN N r).roads.length c9)).set (p := ⟨w.heap.size + 1, 0, none⟩) (.inr rfl) (.slice P1 N.places.length pc1)).set (p := ⟨w.heap.size + 1, 1, none⟩) (.inr rfl) (.slice A9 (withoutN N r).roads.length c9))
    have HFIN : Hid (RdNet (((w9.setCell ⟨g, 1, none⟩ (.slice A9 (withoutN N r).roads.length c9)).setCell ⟨w.heap.size + 1, 0, none⟩ (.slice P1 N.places.length pc1)).setCell ⟨w.heap.size + 1, 1, none⟩ (.slice A9 (withoutN N r).roads.length c9)) (.agg #[.slice P1 N.places.length pc1, .slice A9 (withoutN N r).roads.length c9]) (withoutN N r)) := Lib.hid
      ⟨P1, A9, pc1, c9, a1.wo r, rfl, APn.out.arr, ARn.out.arr, fun i hi => by
        have := (AQn.out (upOf r i) (upOf_lt hr hi)).arr
        rw [wo_at]
        exact this⟩
    obtain ⟨z0, z1, zf0, zf1⟩ := BZ9.out
    have hgz : g ≠ w.heap.size + 1 := by omega
    have hzg : w.heap.size + 1 ≠ g := by omega
    clear APn AQn ARn HAW HA9 o0 o1 of1 hrun MK HBd e1 e2 e3 e4 e5 e6 hcf
    go_wp2_with fail
    refine bodyPost_ret (v := .agg #[.slice P1 N.places.length pc1, .slice A9 (withoutN N r).roads.length c9]) (by simp [results, Try.results23, go_sem, p0, p1, z0, z1, hgz, hzg]) rfl ⟨_, rfl, HFIN.out, ?_⟩
    exact ((HW2.out.setCell (p := ⟨g, 1, none⟩) (by show w.heap.size ≤ g; omega) _).setCell (p := ⟨w.heap.size + 1, 0, none⟩) (by simp) _).setCell (p := ⟨w.heap.size + 1, 1, none⟩) (by simp) _
  · have hcf : (rc1 = r + 1) = False := eq_false hcap
    clear hcap
    have KA1 := Arr.head (Arr.keep (Keep.drew wo) M2.out.roads.1) (k := r) (c' := r) (by omega) (Nat.le_refl _) (by omega)
    have KA2 : Arr wo.drew (some ⟨rb, ro + (r + 1) * 5, none⟩) (N.roads.length - (r + 1)) (rc1 - (r + 1)) 5 (fun j k => rdCells (listD N.roads (r + 1 + j)) (a1.p (r + 1 + j)) (a1.pc (r + 1 + j)) k) := Arr.tail (Arr.keep (Keep.drew wo) M2.out.roads.1) (by omega) (by omega) (by omega) (by omega) (fun _ _ => rfl)
    obtain ⟨A9, c9, w9, hrun, ha9, hb9, hab9⟩ := appendFull (P := Try.prog) wo.drew 23 23 68 j0 _ 5 64 Try.underlying23 hj jz0 jz1 jz2 rfl (by decide) rb ro r _ KA1 (some ⟨rb, ro + (r + 1) * 5, none⟩) (N.roads.length - (r + 1)) (rc1 - (r + 1)) _ KA2 hz63 hz64
    rw [hlen] at hrun ha9
    have HA9 := Lib.hid (ha9.same (wo_cells N a1 r))
    have HAW : Hid (Aw (fun b => b = g ∨ b = w.heap.size + 1) w9 A9 (withoutN N r).roads.length c9 5 (fun i j => rdCells (listD (withoutN N r).roads i) ((a1.wo r).p i) ((a1.wo r).pc i) j)) := Lib.hid (by
      rcases hab9 with h | h
      · subst h
        refine ⟨HA9.out.1, HA9.out.2.1, fun hn => ?_⟩
        obtain ⟨b', o', e', hc'⟩ := HA9.out.2.2 hn
        obtain ⟨b2, o2, e2, hn2, -⟩ := AR.out.2.2 (by omega)
        rw [e2] at e'
        injection e' with e'
        injection e' with f1 f2
        subst f1; subst f2
        exact ⟨_, _, e2, hn2, hc'⟩
      · exact Aw.new HA9.out h (fun b hb hS => by have : wo.drew.heap.size ≤ b := hb; simp at this; omega))
    have HB9 := Lib.hid (((Below.refl wo.heap.size wo).drew).trans hb9)
    clear KA1 KA2 ha9 hb9 hab9 hlen hz63 hz64
    refine heldPeel (S := fun w' => w'.cell? ⟨g, 1, none⟩ = some (.slice (some ⟨rb, ro, none⟩) N.roads.length rc1) ∧ Hid (Below wo.heap.size wo w')) (l := [_, _, _, _, _, _, _, _, _, _, _, _]) (by kernel_rfl) (by kernel_rfl) (MK.out _ HBd.out) (fun hHeld => ?_)
    refine wpAnyH_take (i := 0) (v := ?val0x12) rfl (by kernel_rfl) (by kernel_rfl) (by kernel_rfl) (fun _ _ _ h => h) (Or.inl ⟨by rfl, fun w9 hS9 => ?yields0x12⟩) (by assumption) ?later0x12
    case yields0x12 =>
      dsimp only at hS9
      go_simp
      try with_reducible rfl
    try simp only [Act.put, List.getElem_toArray, List.getElem_cons_succ, List.getElem_cons_zero, List.setIfInBounds_toArray, List.set_cons_zero, List.set_cons_succ]
    refine wpAnyH_take (i := 1) (v := ?val1x13) rfl (by kernel_rfl) (by kernel_rfl) (by kernel_rfl) (fun _ _ _ h => h) (Or.inl ⟨by rfl, fun w9 hS9 => ?yields1x13⟩) (by assumption) ?later1x13
    case yields1x13 =>
      dsimp only at hS9
      go_simp
      try with_reducible rfl
    try simp only [Act.put, List.getElem_toArray, List.getElem_cons_succ, List.getElem_cons_zero, List.setIfInBounds_toArray, List.set_cons_zero, List.set_cons_succ]
    refine wpAnyH_take (i := 2) (v := ?val2x14) rfl (by kernel_rfl) (by kernel_rfl) (by kernel_rfl) (fun _ _ _ h => h) (Or.inl ⟨by rfl, fun w9 hS9 => ?yields2x14⟩) (by assumption) ?later2x14
    case yields2x14 =>
      dsimp only at hS9
      go_simp
      try with_reducible rfl
    try simp only [Act.put, List.getElem_toArray, List.getElem_cons_succ, List.getElem_cons_zero, List.setIfInBounds_toArray, List.set_cons_zero, List.set_cons_succ]
    refine wpAnyH_take (i := 3) (v := ?val3x15) rfl (by kernel_rfl) (by kernel_rfl) (by kernel_rfl) (fun _ _ _ h => h) (Or.inl ⟨by rfl, fun w9 hS9 => ?yields3x15⟩) (by assumption) ?later3x15
    case yields3x15 =>
      dsimp only at hS9
      go_simp
      try with_reducible rfl
    try simp only [Act.put, List.getElem_toArray, List.getElem_cons_succ, List.getElem_cons_zero, List.setIfInBounds_toArray, List.set_cons_zero, List.set_cons_succ]
    refine wpAnyH_take (i := 4) (v := ?val4x16) rfl (by kernel_rfl) (by kernel_rfl) (by kernel_rfl) (fun _ _ _ h => h) (Or.inl ⟨by rfl, fun w9 hS9 => ?yields4x16⟩) (by assumption) ?later4x16
    case yields4x16 =>
      dsimp only at hS9
      go_simp
      try with_reducible rfl
    try simp only [Act.put, List.getElem_toArray, List.getElem_cons_succ, List.getElem_cons_zero, List.setIfInBounds_toArray, List.set_cons_zero, List.set_cons_succ]
    refine wpAnyH_take (i := 5) (v := ?val5x17) rfl (by kernel_rfl) (by kernel_rfl) (by kernel_rfl) (fun _ _ _ h => h) (Or.inl ⟨by rfl, fun w9 hS9 => ?yields5x17⟩) (by assumption) ?later5x17
    case yields5x17 =>
      dsimp only at hS9
      go_simp
      try with_reducible rfl
    try simp only [Act.put, List.getElem_toArray, List.getElem_cons_succ, List.getElem_cons_zero, List.setIfInBounds_toArray, List.set_cons_zero, List.set_cons_succ]
    refine wpAnyH_take (i := 6) (v := ?val6x18) rfl (by kernel_rfl) (by kernel_rfl) (by kernel_rfl) (fun _ _ _ h => h) (Or.inl ⟨by rfl, fun w9 hS9 => ?yields6x18⟩) (by assumption) ?later6x18
    case yields6x18 =>
      dsimp only at hS9
      go_simp
      try with_reducible rfl
    try simp only [Act.put, List.getElem_toArray, List.getElem_cons_succ, List.getElem_cons_zero, List.setIfInBounds_toArray, List.set_cons_zero, List.set_cons_succ]
    refine wpAnyH_take (i := 7) (v := ?val7x19) rfl (by kernel_rfl) (by kernel_rfl) (by kernel_rfl) (fun _ _ _ h => h) (Or.inl ⟨by rfl, fun w9 hS9 => ?yields7x19⟩) (by assumption) ?later7x19
    case yields7x19 =>
      dsimp only at hS9
      go_simp
      try with_reducible rfl
    try simp only [Act.put, List.getElem_toArray, List.getElem_cons_succ, List.getElem_cons_zero, List.setIfInBounds_toArray, List.set_cons_zero, List.set_cons_succ]
    refine wpAnyH_take (i := 8) (v := ?val8x20) rfl (by kernel_rfl) (by kernel_rfl) (by kernel_rfl) (fun _ _ _ h => h) (Or.inl ⟨by rfl, fun w9 hS9 => ?yields8x20⟩) (by assumption) ?later8x20
    case yields8x20 =>
      dsimp only at hS9
      go_simp
      try with_reducible rfl
    try simp only [Act.put, List.getElem_toArray, List.getElem_cons_succ, List.getElem_cons_zero, List.setIfInBounds_toArray, List.set_cons_zero, List.set_cons_succ]
    refine wpAnyH_take (i := 9) (v := ?val9x21) rfl (by kernel_rfl) (by kernel_rfl) (by kernel_rfl) (fun _ _ _ h => h) (Or.inl ⟨by rfl, fun w9 hS9 => ?yields9x21⟩) (by assumption) ?later9x21
    case yields9x21 =>
      dsimp only at hS9
      go_simp
      try with_reducible rfl
    try simp only [Act.put, List.getElem_toArray, List.getElem_cons_succ, List.getElem_cons_zero, List.setIfInBounds_toArray, List.set_cons_zero, List.set_cons_succ]
    refine wpAnyH_ready (rs := [10]) (by kernel_rfl) (by simp) ?_
    refine AllReadyH.cons rfl (fun K hK => ?_) AllReadyH.nil
    rw [if_pos (by kernel_rfl)]
    refine opAppend (s := .tmp 12) (x := .tmp 17) (t := 23) rfl rfl rfl hrun ?_
    refine hK.out _ _ ?_ (fun hHeld => ?_)
    · exact MK.out _ HB9.out
    clear hK K
    try simp only [Act.put, List.getElem_toArray, List.getElem_cons_succ, List.getElem_cons_zero, List.setIfInBounds_toArray, List.set_cons_zero, List.set_cons_succ]
    refine wpAnyH_take (i := 11) (v := ?val11x22) rfl (by kernel_rfl) (by kernel_rfl) (by kernel_rfl) (fun _ _ _ h => h) (Or.inl ⟨by rfl, fun w9 hS9 => ?yields11x22⟩) (by assumption) ?later11x22
    case yields11x22 =>
      dsimp only at hS9
      go_simp
      try with_reducible rfl
    try simp only [Act.put, List.getElem_toArray, List.getElem_cons_succ, List.getElem_cons_zero, List.setIfInBounds_toArray, List.set_cons_zero, List.set_cons_succ]
    refine wpAnyH_done (by kernel_rfl) ?_ _
    unfold Peeled
    dsimp only
    replace HW2 := Lib.hid (HW2.out.trans (HB9.out.mono HW2.out.size))
    obtain ⟨p0, p1, pf1⟩ := OA.out.below HB9.out (by have := OA.out.lt; omega)
    have BZ9 := Lib.hid (BZ.out.below HB9.out (by have := OA.out.lt; omega))
    have APn := Lib.hid ((((AP.out.keep (Keep.below HG.out)).keep (Keep.below HB9.out)).set (p := ⟨g, 1, none⟩) (.inl rfl) (.slice A9 (withoutN N r).roads.length c9)).set (p := ⟨w.heap.size + 1, 0, none⟩) (.inr rfl) (.slice P1 N.places.length pc1) |>.set (p := ⟨w.heap.size + 1, 1, none⟩) (.inr rfl) (.slice A9 (withoutN N r).roads.length c9))
    have AQn := Lib.hid fun i hi => ((((AQ.out i hi).keep (Keep.below HG.out)).keep (Keep.below HB9.out)).set (p := ⟨g, 1, none⟩) (.inl rfl) (.slice A9 (withoutN N r).roads.length c9)).set (p := ⟨w.heap.size + 1, 0, none⟩) (.inr rfl) (.slice P1 N.places.length pc1) |>.set (p := ⟨w.heap.size + 1, 1, none⟩) (.inr rfl) (.slice A9 (withoutN N r).roads.length c9)
    have ARn := Lib.hid (((HAW.out.set (p := ⟨g, 1, none⟩) (.inl rfl) (.slice A9 (withoutN N r).roads.length c9)).set (p := ⟨w.heap.size + 1, 0, none⟩) (.inr rfl) (.slice P1 N.places.length pc1)).set (p := ⟨w.heap.size + 1, 1, none⟩) (.inr rfl) (.slice A9 (withoutN N r).roads.length c9))
    have HFIN : Hid (RdNet (((w9.setCell ⟨g, 1, none⟩ (.slice A9 (withoutN N r).roads.length c9)).setCell ⟨w.heap.size + 1, 0, none⟩ (.slice P1 N.places.length pc1)).setCell ⟨w.heap.size + 1, 1, none⟩ (.slice A9 (withoutN N r).roads.length c9)) (.agg #[.slice P1 N.places.length pc1, .slice A9 (withoutN N r).roads.length c9]) (withoutN N r)) := Lib.hid
      ⟨P1, A9, pc1, c9, a1.wo r, rfl, APn.out.arr, ARn.out.arr, fun i hi => by
        have := (AQn.out (upOf r i) (upOf_lt hr hi)).arr
        rw [wo_at]
        exact this⟩
    obtain ⟨z0, z1, zf0, zf1⟩ := BZ9.out
    have hgz : g ≠ w.heap.size + 1 := by omega
    have hzg : w.heap.size + 1 ≠ g := by omega
    clear APn AQn ARn HAW HA9 o0 o1 of1 hrun MK HBd e1 e2 e3 e4 e5 e6 hcf
    go_wp2_with fail
    refine bodyPost_ret (v := .agg #[.slice P1 N.places.length pc1, .slice A9 (withoutN N r).roads.length c9]) (by simp [results, Try.results23, go_sem, p0, p1, z0, z1, hgz, hzg]) rfl ⟨_, rfl, HFIN.out, ?_⟩
    exact ((HW2.out.setCell (p := ⟨g, 1, none⟩) (by show w.heap.size ≤ g; omega) _).setCell (p := ⟨w.heap.size + 1, 0, none⟩) (by simp) _).setCell (p := ⟨w.heap.size + 1, 1, none⟩) (by simp) _
end Go.Proofs.Ytnjaadmmbdlfoaa
/- Two nets that read alike are told to be the same. No condition. -/
namespace Go.Proofs.Ytnjaadmmbdlfoaa
open Go.RowKit Fs

set_option maxHeartbeats 800000 in
set_option maxRecDepth 100000 in
theorem textsD_same (l : List ByteArray) (A B : Option Addr) (c e : Nat) (w : World) (hA : ArrS w A l c) (hB : ArrS w B l e) :
    Calls Try.prog 45 #[.slice A l.length c, .slice B l.length e] w fun x w' => x = .returned (.bool true) ∧ Below w.heap.size w w' := by
  have b1 := hA.le.1
  have b2 := hA.le.2
  go_enter Try.func45, Try.ntmps45
  have d1 : ((l.length : Int) != (l.length : Int)) = false := by simp
  go_wp2_with fail
  clear d1
  go_loopw [5] (fun u wr => ∃ k : Nat, k ≤ l.length ∧ u = .int .i64 k ∧ Hid (Below w.heap.size w wr)) (fun u _ => l.length - (intOf u).toNat)
  case atStart => exact ⟨0, Nat.zero_le _, rfl, Lib.hid (Below.refl _ _)⟩
  case round =>
    obtain ⟨k, hk, rfl, HB⟩ := hrel
    by_cases hlt : k < l.length
    · have hkr : decide ((k : Int) < (l.length : Int)) = true := decide_eq_true (by omega)
      obtain ⟨b, o, rfl, h1⟩ := (hA.keep (Keep.below HB.out)).at_ hlt
      obtain ⟨b', o', rfl, h2⟩ := (hB.keep (Keep.below HB.out)).at_ hlt
      have i0 : (0 : Int) ≤ (k : Int) := by omega
      have i1 : (k : Int) < (l.length : Int) := by omega
      go_wp2_with fail
      go_quiet (fail)
      go_wp2_with fail
      go_roundw
      case rel => exact ⟨k + 1, by omega, by go_num, Lib.hid (bdrewN HB.out _)⟩
      case measure => simp [intOf]; omega
    · have hkr : decide ((k : Int) < (l.length : Int)) = false := decide_eq_false (by omega)
      go_wp2_with fail
      go_ret
      exact ⟨rfl, HB.out⟩
set_option linter.unusedSimpArgs false in
set_option maxHeartbeats 6400000 in
set_option maxRecDepth 100000 in
theorem netSame_any (N : Net) (v v' : Value) (w : World) (hN : RdNet w v N) (hN' : RdNet w v' N) :
    Calls Try.prog 22 #[v, v'] w fun e w' => e = .returned (.bool true) ∧ Below w.heap.size w w' := by
  obtain ⟨P, R, pc, rc, ar, rfl, m⟩ := hN
  obtain ⟨P', R', pc', rc', ar', rfl, m'⟩ := hN'
  have M := Lib.hid m
  have M' := Lib.hid m'
  have b1 := m.roads.le.1
  have b2 := m.roads.le.2
  have b3 := m'.roads.le.1
  have b4 := m'.roads.le.2
  have b5 := m.places.le.1
  have b6 := m.places.le.2
  clear m m'
  have BN := Lib.hid ((BoxN.new w N P R pc rc 25).keep (Keep.alloc _ (.cells #[.slice P' N.places.length pc', .slice R' N.roads.length rc'] 25)))
  have BM : Hid (BoxN ((w.alloc (.cells #[.slice P N.places.length pc, .slice R N.roads.length rc] 25)).alloc (.cells #[.slice P' N.places.length pc', .slice R' N.roads.length rc'] 25)) (w.heap.size + 1) N P' R' pc' rc') := Lib.hid ⟨cellNew1 _ _ _ _ 0, cellNew1 _ _ _ _ 1⟩
  go_enter Try.func22, Try.ntmps22
  go_upto_region 1 with fail
  generalize hwb : (w.alloc _).alloc _ = wb at *
  have HW : Hid (Below w.heap.size w wb) := by rw [← hwb]; exact Lib.hid (((Below.refl _ _).alloc (Nat.le_refl _) _).alloc (by simp) _)
  clear hwb
  obtain ⟨n0, n1⟩ := BN.out
  obtain ⟨m0, m1⟩ := BM.out
  go_wp2_with fail
  refine (textsD_same N.places P P' pc pc' _ (M.out.places.keep (Keep.below HW.out)) (M'.out.places.keep (Keep.below HW.out))).mono ?_
  rintro e' w1 ⟨rfl, hb1⟩
  replace BN := Lib.hid (BN.out.keep (Keep.below hb1))
  replace BM := Lib.hid (BM.out.keep (Keep.below hb1))
  replace HW := Lib.hid (HW.out.trans (hb1.mono HW.out.size))
  clear n0 n1 m0 m1 hb1
  obtain ⟨n0, n1⟩ := BN.out
  obtain ⟨m0, m1⟩ := BM.out
  have d1 : ((N.roads.length : Int) != (N.roads.length : Int)) = false := by simp
  go_wp2_with fail
  clear d1 n0 n1 m0 m1
  go_loopw [5] (fun u wr => ∃ k : Nat, k ≤ N.roads.length ∧ u = .int .i64 k ∧ Hid (Below w1.heap.size w1 wr)) (fun u _ => N.roads.length - (intOf u).toNat)
  case atStart => exact ⟨0, Nat.zero_le _, rfl, Lib.hid (Below.refl _ _)⟩
  case round =>
    obtain ⟨k, hk, rfl, HB⟩ := hrel
    have HX := Lib.hid (HW.out.trans (HB.out.mono HW.out.size))
    obtain ⟨n0, n1⟩ := BN.out.keep (Keep.below HB.out)
    obtain ⟨m0, m1⟩ := BM.out.keep (Keep.below HB.out)
    by_cases hlt : k < N.roads.length
    · obtain ⟨b, o, hR, q⟩ := (M.out.roads.keep (Keep.below HX.out)).at_ hlt
      obtain ⟨b', o', hR', q'⟩ := (M'.out.roads.keep (Keep.below HX.out)).at_ hlt
      subst hR; subst hR'
      obtain ⟨x0, x1, x2, x3, x4⟩ := q
      obtain ⟨y0, y1, y2, y3, y4⟩ := q'
      have hkn : (k : Int) < (N.roads.length : Int) := by omega
      have HP := Lib.hid ((M.out.roads.2 k hlt).keep (Keep.below HX.out))
      have HP' := Lib.hid ((M'.out.roads.2 k hlt).keep (Keep.below HX.out))
      obtain ⟨wq, hwq⟩ : ∃ wq : World, wq = wr := ⟨_, rfl⟩
      subst hwq
      go_wp2_with fail
      go_cut [6, 7] from 31 to 41 (fun s s7 wx => ∃ g h : Nat, s = .pointer (some ⟨g, 0, none⟩) ∧ s7 = .pointer (some ⟨h, 0, none⟩) ∧ Hid (BoxD wx g (listD N.roads k) (ar.p k) (ar.pc k)) ∧ Hid (BoxD wx h (listD N.roads k) (ar'.p k) (ar'.pc k)) ∧ Hid (Below wq.heap.size wq wx))
      case first =>
        have HBd : Hid (Below wq.heap.size wq wq.drew) := Lib.hid (Below.refl _ _).drew
        have MK : Hid (∀ w', Below wq.heap.size wq w' → w'.cell? ⟨w.heap.size, 1, none⟩ = some (.slice (some ⟨b, o, none⟩) N.roads.length rc) ∧ w'.cell? ⟨w.heap.size + 1, 1, none⟩ = some (.slice (some ⟨b', o', none⟩) N.roads.length rc') ∧
            w'.cell? ⟨b, o + k * 5, none⟩ = some (.string (listD N.roads k).name) ∧ w'.cell? ⟨b, o + k * 5 + 1, none⟩ = some (.int .i64 (listD N.roads k).src) ∧ w'.cell? ⟨b, o + k * 5 + 2, none⟩ = some (.int .i64 (listD N.roads k).dst) ∧ w'.cell? ⟨b, o + k * 5 + 3, none⟩ = some (.int .i64 (listD N.roads k).metres) ∧ w'.cell? ⟨b, o + k * 5 + 4, none⟩ = some (.slice (ar.p k) (listD N.roads k).pts.length (ar.pc k)) ∧
            w'.cell? ⟨b', o' + k * 5, none⟩ = some (.string (listD N.roads k).name) ∧ w'.cell? ⟨b', o' + k * 5 + 1, none⟩ = some (.int .i64 (listD N.roads k).src) ∧ w'.cell? ⟨b', o' + k * 5 + 2, none⟩ = some (.int .i64 (listD N.roads k).dst) ∧ w'.cell? ⟨b', o' + k * 5 + 3, none⟩ = some (.int .i64 (listD N.roads k).metres) ∧ w'.cell? ⟨b', o' + k * 5 + 4, none⟩ = some (.slice (ar'.p k) (listD N.roads k).pts.length (ar'.pc k)) ∧ Hid (Below wq.heap.size wq w')) :=
          Lib.hid fun w' hw => ⟨Keep.below hw _ _ n1, Keep.below hw _ _ m1, Keep.below hw _ _ x0, Keep.below hw _ _ x1, Keep.below hw _ _ x2, Keep.below hw _ _ x3, Keep.below hw _ _ x4, Keep.below hw _ _ y0, Keep.below hw _ _ y1, Keep.below hw _ _ y2, Keep.below hw _ _ y3, Keep.below hw _ _ y4, Lib.hid hw⟩
        go_region_held3 (fun w' => w'.cell? ⟨w.heap.size, 1, none⟩ = some (.slice (some ⟨b, o, none⟩) N.roads.length rc) ∧ w'.cell? ⟨w.heap.size + 1, 1, none⟩ = some (.slice (some ⟨b', o', none⟩) N.roads.length rc') ∧
            w'.cell? ⟨b, o + k * 5, none⟩ = some (.string (listD N.roads k).name) ∧ w'.cell? ⟨b, o + k * 5 + 1, none⟩ = some (.int .i64 (listD N.roads k).src) ∧ w'.cell? ⟨b, o + k * 5 + 2, none⟩ = some (.int .i64 (listD N.roads k).dst) ∧ w'.cell? ⟨b, o + k * 5 + 3, none⟩ = some (.int .i64 (listD N.roads k).metres) ∧ w'.cell? ⟨b, o + k * 5 + 4, none⟩ = some (.slice (ar.p k) (listD N.roads k).pts.length (ar.pc k)) ∧
            w'.cell? ⟨b', o' + k * 5, none⟩ = some (.string (listD N.roads k).name) ∧ w'.cell? ⟨b', o' + k * 5 + 1, none⟩ = some (.int .i64 (listD N.roads k).src) ∧ w'.cell? ⟨b', o' + k * 5 + 2, none⟩ = some (.int .i64 (listD N.roads k).dst) ∧ w'.cell? ⟨b', o' + k * 5 + 3, none⟩ = some (.int .i64 (listD N.roads k).metres) ∧ w'.cell? ⟨b', o' + k * 5 + 4, none⟩ = some (.slice (ar'.p k) (listD N.roads k).pts.length (ar'.pc k)) ∧ Hid (Below wq.heap.size wq w'))
          (first
            | exact MK.out _ HBd.out
            | (go_split_ands; exact MK.out _ (Below.alloc (Hid.out (by assumption)) (Hid.out (by assumption) : Below wq.heap.size wq _).size _))
            | exact MK.out _ (((Below.refl _ _).alloc (Nat.le_refl _) _).drew)
            | exact MK.out _ ((((Below.refl _ _).alloc (Nat.le_refl _) _).alloc (by simp) _).drew))
          (fail)
        all_goals
          rename_i hS
          have hbb := hS.2.2.2.2.2.2.2.2.2.2.2.2
          clear hS
          go_wp2_with fail
          go_meet
          first
            | exact ⟨_, _, rfl, rfl, Lib.hid (((BoxD.new wq (listD N.roads k) (ar.p k) (ar.pc k) 68).keep (Keep.alloc _ _)).keep (Keep.drew _)), Lib.hid ((BoxD.new1 wq _ (listD N.roads k) (ar'.p k) (ar'.pc k) 68).keep (Keep.drew _)), hbb⟩
            | exact ⟨_, _, rfl, rfl, Lib.hid ((BoxD.new1 wq _ (listD N.roads k) (ar.p k) (ar.pc k) 68).keep (Keep.drew _)), Lib.hid (((BoxD.new wq (listD N.roads k) (ar'.p k) (ar'.pc k) 68).keep (Keep.alloc _ _)).keep (Keep.drew _)), hbb⟩
      case rest =>
        obtain ⟨g, h, rfl, rfl, HG, HH, HB2⟩ := hcut
        obtain ⟨wz, hwz⟩ : ∃ wz : World, wz = wc := ⟨_, rfl⟩
        subst hwz
        have HBz := Lib.hid (HB.out.trans (HB2.out.mono HB.out.size))
        replace HP := Lib.hid (HP.out.keep (Keep.below HB2.out))
        replace HP' := Lib.hid (HP'.out.keep (Keep.below HB2.out))
        clear HB2 n0 n1 m0 m1 x0 x1 x2 x3 x4 y0 y1 y2 y3 y4
        obtain ⟨g0, g1, g2, g3, g4⟩ := HG.out
        obtain ⟨h0, h1, h2, h3, h4⟩ := HH.out
        have e1 : ((listD N.roads k).src != (listD N.roads k).src) = false := by simp
        have e2 : ((listD N.roads k).dst != (listD N.roads k).dst) = false := by simp
        have e3 : ((listD N.roads k).metres != (listD N.roads k).metres) = false := by simp
        have e4 : (((listD N.roads k).pts.length : Int) != ((listD N.roads k).pts.length : Int)) = false := by simp
        have hp1 := HP.out.le.1
        have hp2 := HP.out.le.2
        have hp3 := HP'.out.le.1
        have hp4 := HP'.out.le.2
        go_wp2_with fail
        clear e1 e2 e3 e4 g0 g1 g2 g3 g4 h0 h1 h2 h3 h4
        go_loopw [8] (fun u wr => ∃ j : Nat, j ≤ (listD N.roads k).pts.length ∧ u = .int .i64 j ∧ Hid (Below wz.heap.size wz wr)) (fun u _ => (listD N.roads k).pts.length - (intOf u).toNat)
        case atStart => exact ⟨0, Nat.zero_le _, rfl, Lib.hid (Below.refl _ _)⟩
        case round =>
          obtain ⟨j, hj, rfl, HBj⟩ := hrel
          obtain ⟨g0, g1, g2, g3, g4⟩ := HG.out.keep (Keep.below HBj.out)
          obtain ⟨h0, h1, h2, h3, h4⟩ := HH.out.keep (Keep.below HBj.out)
          by_cases hlj : j < (listD N.roads k).pts.length
          · have hjn : (j : Int) < ((listD N.roads k).pts.length : Int) := by omega
            obtain ⟨c, z, hA, c0, c1, c2⟩ := (HP.out.keep (Keep.below HBj.out)).at_ hlj
            obtain ⟨c', z', hA', c0', c1', c2'⟩ := (HP'.out.keep (Keep.below HBj.out)).at_ hlj
            rw [hA] at g4
            rw [hA'] at h4
            have e0 : ((listP (listD N.roads k).pts j).hour == (listP (listD N.roads k).pts j).hour) = true := by simp
            have e1 : ((listP (listD N.roads k).pts j).lo == (listP (listD N.roads k).pts j).lo) = true := by simp
            have e2 : ((listP (listD N.roads k).pts j).hi == (listP (listD N.roads k).pts j).hi) = true := by simp
            clear hA hA'
            go_wp2_with fail
            go_quiet (fail)
            go_wp2_with fail
            go_roundw
            case rel => exact ⟨j + 1, by omega, by go_num, Lib.hid (bdrewN HBj.out _)⟩
            case measure => simp [intOf]; omega
          · obtain rfl : j = (listD N.roads k).pts.length := by omega
            clear hlj hj
            have HE := Lib.hid (HBz.out.trans (HBj.out.mono HBz.out.size))
            go_wp2_with fail
            go_roundw
            case rel => exact ⟨k + 1, by omega, by go_num, HE⟩
            case measure => simp [intOf]; omega
    · obtain rfl : k = N.roads.length := by omega
      clear hlt hk
      go_wp2_with fail
      go_ret
      exact ⟨rfl, HX.out⟩
end Go.Proofs.Ytnjaadmmbdlfoaa

/- From when the week is kept. Condition: the trip is right. -/
import Derived.Test.YtaihiahoedpbiaaX11
import Derived.Test.YtaihiahoedpbiaaD24
import Derived.Shelf.Sort.Plain
import Derived.Ground.Names2Prog
import Derived.Test.YtaihiahoedpbiaaProg
import Derived.Lib.OwnBridge
import Derived.Lib.AppendIntMem
import Derived.Laws.OwnMore
namespace Go.Proofs.Ytaihiahoedpbiaa
open Go.RowKit Fs

theorem xWeekMore_any (R : DRules) (l V : List WRec) (who : ByteArray) (s n : Int) (A : Option Addr) (c : Nat) (w : World) (hV : V = l ++ [⟨who, s, s + n⟩]) (h : ArrW w A V c) (hM : Mild V) (hr : Right l) (hl : 0 < l.length → (listW l (l.length - 1)).fin ≤ s) (hn : 0 ≤ n) (hn' : n ≤ 604800) :
    Calls Try.prog 161 #[bookV R A V.length c] w fun e w' => e = .returned (.bool (decide (R.week < weekly l s n))) ∧ Below w.heap.size w w' := by
  have e := xWeek_any R V A c l.length w h hM (by rw [hV]; simp) (by rw [hV]; simp)
  have e1 : (listW V l.length).fin = s + n := by rw [hV, listW_last]
  have e2 : V.length = l.length + 1 := by rw [hV]; simp
  have e3 : workTo V (s + n - 604800) (s + n) V.length = weekly l s n := by rw [e2, hV]; exact work_more hr hl hn hn'
  rw [e1, e3] at e
  exact e
set_option linter.unusedSimpArgs false in
set_option maxHeartbeats 12800000 in
set_option maxRecDepth 100000 in
theorem xKeeps_any (R : DRules) (l : List WRec) (t : DTrip) (A : Option Addr) (c g q k : Nat) (w : World) (h : ArrW w A l c) (hB : BookIn w g R A l.length c) (hT : TripIn w q t) (hR : Right l) (hBT : Behind l t) (hh0 : 0 ≤ t.hi) (hh1 : t.hi ≤ 200000) (hk : t.start + (k : Int) ≤ 8640000000) :
    Calls Try.prog 164 #[.int .i64 k, .pointer (some ⟨q, 0, none⟩), .pointer (some ⟨g, 0, none⟩)] w fun e w' => e = .returned (.bool (decide (weekly l (t.start + (k : Int)) t.hi ≤ R.week))) ∧ Below w.heap.size w w' := by
  have HA := Lib.hid h
  have HRT := Lib.hid hR
  have hl40 := hBT.len
  have hs0 := hBT.from0
  have HBT := Lib.hid hBT
  clear h hR hBT
  have HT := Lib.hid hT
  have HB := Lib.hid hB
  clear hT hB
  obtain ⟨t0, t1, t2, t3⟩ := HT.out
  obtain ⟨k0, k1, k2, k3, k4, k5⟩ := HB.out
  obtain ⟨s, hs⟩ : ∃ s : Int, s = t.start + (k : Int) := ⟨_, rfl⟩
  have hsk : t.start + (k : Int) = s := hs.symm
  have hs1 : 0 ≤ s := by omega
  have hs2 : s ≤ 8640000000 := by omega
  have HL := Lib.hid (show 0 < l.length → (listW l (l.length - 1)).fin ≤ s from fun hp => Int.le_trans (HBT.out.last hp) (by omega))
  have hw1 : IntKind.i64.wrap s = s := by rw [IntKind.wrap_i64]; omega
  have hw2 : IntKind.i64.wrap (s + t.hi) = s + t.hi := by rw [IntKind.wrap_i64]; omega
  obtain ⟨V, hV⟩ : ∃ V : List WRec, V = l ++ [⟨⟨#[]⟩, s, s + t.hi⟩] := ⟨_, rfl⟩
  have HM := Lib.hid (show Mild V by rw [hV]; exact more_mild HRT.out (by omega) hs1 hs2 hh0 hh1)
  have HV := Lib.hid hV
  rw [← hs]
  clear hV hs hk
  go_enter Try.func164, Try.ntmps164
  go_wp2_with fail
  refine (xWithV_any R l V ⟨⟨#[]⟩, s, s + t.hi⟩ A c _ HV.out HA.out (by omega)).mono ?_
  rintro e' w1 ⟨⟨A1, c1, rfl, h1⟩, hb1⟩
  have HW := Lib.hid hb1
  have H1 := Lib.hid h1
  clear h1 hb1 t0 t1 t2 t3 k0 k1 k2 k3 k4 k5
  go_wp2_with fail
  refine (xWeekMore_any R l V ⟨#[]⟩ s t.hi A1 c1 _ HV.out H1.out HM.out HRT.out HL.out hh0 (by omega)).mono ?_
  rintro e' w2 ⟨rfl, hb1⟩
  go_wp2_with fail
  go_ret
  refine ⟨ret_bool ?_, HW.out.trans (hb1.mono HW.out.size)⟩
  by_cases hc : weekly l s t.hi ≤ R.week
  · simp [hc, Int.not_lt.2 hc]
  · simp [hc]; omega
set_option linter.unusedSimpArgs false in
set_option maxHeartbeats 12800000 in
set_option maxRecDepth 100000 in
theorem xKeptFrom_any (R : DRules) (l : List WRec) (t : DTrip) (A : Option Addr) (c n : Nat) (L : Int) (w : World) (h : ArrW w A l c) (hR : Right l) (hBT : Behind l t) (hh0 : 0 ≤ t.hi) (hh1 : t.hi ≤ 200000) (hL : L = t.start + (n : Int)) (hL1 : L ≤ 8640000000) (hn : n ≤ 10000000) :
    Calls Try.prog 138 #[bookV R A l.length c, dtripV t, .int .i64 L] w fun e w' => (∃ x, e = .returned (.int .i64 x) ∧ WeekAt R l t t.start L x) ∧ Below w.heap.size w w' := by
  have b1 := h.le.1
  have b2 := h.le.2
  have HA := Lib.hid h
  have HRT := Lib.hid hR
  have hs0 := hBT.from0
  have HBT := Lib.hid hBT
  have HL := Lib.hid hL
  have hwn : IntKind.i64.wrap (L - t.start) = (n : Int) := by rw [IntKind.wrap_i64]; omega
  have hLn : L - t.start = (n : Int) := by omega
  have hwn2 : IntKind.i64.wrap (n : Int) = (n : Int) := by rw [IntKind.wrap_i64]; omega
  have hst : t.start + (n : Int) ≤ 8640000000 := by omega
  clear h hR hBT hL
  have BB := Lib.hid ((BookIn.new w R A l.length c 127).keep (Keep.alloc _ (.cells #[.int .i64 t.start, .int .i64 t.lo, .int .i64 t.hi, .int .i64 t.next] 54)))
  have BT := Lib.hid (show TripIn ((w.alloc (.cells #[.int .i64 R.brk, .int .i64 R.rest, .int .i64 R.stint, .int .i64 R.shift, .int .i64 R.week, .slice A l.length c] 127)).alloc (.cells #[.int .i64 t.start, .int .i64 t.lo, .int .i64 t.hi, .int .i64 t.next] 54)) (w.heap.size + 1) t from ⟨cellNew1 _ _ _ _ 0, cellNew1 _ _ _ _ 1, cellNew1 _ _ _ _ 2, cellNew1 _ _ _ _ 3⟩)
  go_enter Try.func138, Try.ntmps138
  go_upto_region 1 with fail
  generalize hwb : (w.alloc _).alloc _ = wb at *
  have HW : Hid (Below w.heap.size w wb) := by rw [← hwb]; exact Lib.hid (((Below.refl _ _).alloc (Nat.le_refl _) _).alloc (by simp) _)
  clear hwb
  obtain ⟨t0, t1, t2, t3⟩ := BT.out
  obtain ⟨k0, k1, k2, k3, k4, k5⟩ := BB.out
  have KS : Hid (∀ w1, Below wb.heap.size wb w1 → ∀ w', Below w1.heap.size w1 w' → ∀ i : Nat, i < n → Calls Try.prog 164 #[.int .i64 i, .pointer (some ⟨w.heap.size + 1, 0, none⟩), .pointer (some ⟨w.heap.size, 0, none⟩)] w' fun e w'' => e = .returned (.bool (decide (weekly l (t.start + (i : Int)) t.hi ≤ R.week))) ∧ Below w'.heap.size w' w'') :=
    Lib.hid fun w1 hw1 w' hb i hi => by
      have hb2 := hw1.trans (hb.mono hw1.size)
      exact xKeeps_any R l t A c w.heap.size (w.heap.size + 1) i w' (HA.out.keep (Keep.below (HW.out.trans (hb2.mono HW.out.size)))) (BB.out.keep (Keep.below hb2)) (BT.out.keep (Keep.below hb2)) HRT.out HBT.out hh0 hh1 (by omega)
  have KM : Hid (∀ a b : Nat, a ≤ b → b < n → decide (weekly l (t.start + (a : Int)) t.hi ≤ R.week) = true → decide (weekly l (t.start + (b : Int)) t.hi ≤ R.week) = true) :=
    Lib.hid fun a b hab hb hpa => by
      simp only [decide_eq_true_eq] at hpa ⊢
      exact Int.le_trans (weekly_falls HRT.out (by omega) (fun hp => Int.le_trans (HBT.out.last hp) (by omega))) hpa
  go_wp2_with fail
  have HBd : Hid (Below wb.heap.size wb wb.drew) := Lib.hid (Below.refl _ _).drew
  have MK : Hid (∀ w', Below wb.heap.size wb w' → w'.cell? ⟨w.heap.size, 0, none⟩ = some (.int .i64 R.brk) ∧ w'.cell? ⟨w.heap.size, 1, none⟩ = some (.int .i64 R.rest) ∧ w'.cell? ⟨w.heap.size, 2, none⟩ = some (.int .i64 R.stint) ∧ w'.cell? ⟨w.heap.size, 3, none⟩ = some (.int .i64 R.shift) ∧ w'.cell? ⟨w.heap.size, 4, none⟩ = some (.int .i64 R.week) ∧ w'.cell? ⟨w.heap.size, 5, none⟩ = some (.slice A l.length c) ∧ w'.cell? ⟨w.heap.size + 1, 0, none⟩ = some (.int .i64 t.start) ∧ w'.cell? ⟨w.heap.size + 1, 1, none⟩ = some (.int .i64 t.lo) ∧ w'.cell? ⟨w.heap.size + 1, 2, none⟩ = some (.int .i64 t.hi) ∧ w'.cell? ⟨w.heap.size + 1, 3, none⟩ = some (.int .i64 t.next) ∧ Hid (Below wb.heap.size wb w')) :=
    Lib.hid fun w' hw => ⟨Keep.below hw _ _ k0, Keep.below hw _ _ k1, Keep.below hw _ _ k2, Keep.below hw _ _ k3, Keep.below hw _ _ k4, Keep.below hw _ _ k5, Keep.below hw _ _ t0, Keep.below hw _ _ t1, Keep.below hw _ _ t2, Keep.below hw _ _ t3, Lib.hid hw⟩
  refine wp_region_held_drew (S := fun w' => w'.cell? ⟨w.heap.size, 0, none⟩ = some (.int .i64 R.brk) ∧ w'.cell? ⟨w.heap.size, 1, none⟩ = some (.int .i64 R.rest) ∧ w'.cell? ⟨w.heap.size, 2, none⟩ = some (.int .i64 R.stint) ∧ w'.cell? ⟨w.heap.size, 3, none⟩ = some (.int .i64 R.shift) ∧ w'.cell? ⟨w.heap.size, 4, none⟩ = some (.int .i64 R.week) ∧ w'.cell? ⟨w.heap.size, 5, none⟩ = some (.slice A l.length c) ∧ w'.cell? ⟨w.heap.size + 1, 0, none⟩ = some (.int .i64 t.start) ∧ w'.cell? ⟨w.heap.size + 1, 1, none⟩ = some (.int .i64 t.lo) ∧ w'.cell? ⟨w.heap.size + 1, 2, none⟩ = some (.int .i64 t.hi) ∧ w'.cell? ⟨w.heap.size + 1, 3, none⟩ = some (.int .i64 t.next) ∧ Hid (Below wb.heap.size wb w')) (by kernel_rfl) (MK.out _ HBd.out) (fun hHeld => ?_)
  refine wpAnyH_take (i := 0) (v := ?val0x28) rfl (by kernel_rfl) (by kernel_rfl) (by kernel_rfl) (fun _ _ _ h => h) (Or.inl ⟨by rfl, fun w9 hS9 => ?yields0x28⟩) (by assumption) ?later0x28
  case yields0x28 =>
    dsimp only at hS9
    go_simp
    try with_reducible rfl
  try simp only [Act.put, List.getElem_toArray, List.getElem_cons_succ, List.getElem_cons_zero, List.setIfInBounds_toArray, List.set_cons_zero, List.set_cons_succ]
  refine wpAnyH_take (i := 1) (v := ?val1x29) rfl (by kernel_rfl) (by kernel_rfl) (by kernel_rfl) (fun _ _ _ h => h) (Or.inl ⟨by rfl, fun w9 hS9 => ?yields1x29⟩) (by assumption) ?later1x29
  case yields1x29 =>
    dsimp only at hS9
    go_simp
    try with_reducible rfl
  try simp only [Act.put, List.getElem_toArray, List.getElem_cons_succ, List.getElem_cons_zero, List.setIfInBounds_toArray, List.set_cons_zero, List.set_cons_succ]
  refine wpAnyH_take (i := 2) (v := ?val2x30) rfl (by kernel_rfl) (by kernel_rfl) (by kernel_rfl) (fun _ _ _ h => h) (Or.inl ⟨by rfl, fun w9 hS9 => ?yields2x30⟩) (by assumption) ?later2x30
  case yields2x30 =>
    dsimp only at hS9
    go_simp
    try with_reducible rfl
  try simp only [Act.put, List.getElem_toArray, List.getElem_cons_succ, List.getElem_cons_zero, List.setIfInBounds_toArray, List.set_cons_zero, List.set_cons_succ]
  refine wpAnyH_take (i := 3) (v := ?val3x31) rfl (by kernel_rfl) (by kernel_rfl) (by kernel_rfl) (fun _ _ _ h => h) (Or.inl ⟨by rfl, fun w9 hS9 => ?yields3x31⟩) (by assumption) ?later3x31
  case yields3x31 =>
    dsimp only at hS9
    go_simp
    try with_reducible rfl
  try simp only [Act.put, List.getElem_toArray, List.getElem_cons_succ, List.getElem_cons_zero, List.setIfInBounds_toArray, List.set_cons_zero, List.set_cons_succ]
  refine wpAnyH_take (i := 4) (v := ?val4x32) rfl (by kernel_rfl) (by kernel_rfl) (by kernel_rfl) (fun _ _ _ h => h) (Or.inl ⟨by rfl, fun w9 hS9 => ?yields4x32⟩) (by assumption) ?later4x32
  case yields4x32 =>
    dsimp only at hS9
    go_simp
    try with_reducible rfl
  try simp only [Act.put, List.getElem_toArray, List.getElem_cons_succ, List.getElem_cons_zero, List.setIfInBounds_toArray, List.set_cons_zero, List.set_cons_succ]
  refine wpAnyH_take (i := 5) (v := ?val5x33) rfl (by kernel_rfl) (by kernel_rfl) (by kernel_rfl) (fun _ _ _ h => h) (Or.inl ⟨by rfl, fun w9 hS9 => ?yields5x33⟩) (by assumption) ?later5x33
  case yields5x33 =>
    dsimp only at hS9
    go_simp
    try with_reducible rfl
  try simp only [Act.put, List.getElem_toArray, List.getElem_cons_succ, List.getElem_cons_zero, List.setIfInBounds_toArray, List.set_cons_zero, List.set_cons_succ]
  refine wpAnyH_ready (rs := [6]) (by kernel_rfl) (by simp) ?_
  refine AllReadyH.cons rfl (fun K hK => ?_) AllReadyH.nil
  go_simp
  refine hK.out _ _ ?_ (fun hHeld => ?_)
  · (try dsimp only)
    first | assumption | exact hHeld | exact MK.out _ HBd.out
  clear hK K
  try simp only [Act.put, List.getElem_toArray, List.getElem_cons_succ, List.getElem_cons_zero, List.setIfInBounds_toArray, List.set_cons_zero, List.set_cons_succ]
  refine wpAnyH_ready (rs := [7]) (by kernel_rfl) (by simp) ?_
  refine AllReadyH.cons rfl (fun K hK => ?_) AllReadyH.nil
  go_simp
  go_at_call 89
  go_split_ands
  refine (sortSearch_any 164 (.pointer (some ⟨w.heap.size + 1, 0, none⟩)) (.pointer (some ⟨w.heap.size, 0, none⟩)) n (fun k => decide (weekly l (t.start + (k : Int)) t.hi ≤ R.week)) _ (by omega) (fun args w => by kernel_rfl) (KS.out _ (Hid.out (by assumption))) KM.out).mono ?_
  rintro e' w5 ⟨k, hk, rfl, hk1, hk2, hb1⟩
  have HK1 := Lib.hid hk1
  have HK2 := Lib.hid hk2
  have hwk : IntKind.i64.wrap (t.start + (k : Int)) = t.start + (k : Int) := by rw [IntKind.wrap_i64]; omega
  clear hk1 hk2
  go_wp2_with fail
  refine hK.out _ _ ?_ (fun hHeld => ?_)
  · (try dsimp only)
    (go_split_ands; exact MK.out _ (Below.trans (Hid.out (by assumption)) (hb1.mono (Hid.out (by assumption) : Below wb.heap.size wb _).size)))
  clear hK K
  try simp only [Act.put, List.getElem_toArray, List.getElem_cons_succ, List.getElem_cons_zero, List.setIfInBounds_toArray, List.set_cons_zero, List.set_cons_succ]
  refine wpAnyH_take (i := 8) (v := ?val8x34) rfl (by kernel_rfl) (by kernel_rfl) (by kernel_rfl) (fun _ _ _ h => h) (Or.inl ⟨by rfl, fun w9 hS9 => ?yields8x34⟩) (by assumption) ?later8x34
  case yields8x34 =>
    dsimp only at hS9
    go_simp
    try with_reducible rfl
  try simp only [Act.put, List.getElem_toArray, List.getElem_cons_succ, List.getElem_cons_zero, List.setIfInBounds_toArray, List.set_cons_zero, List.set_cons_succ]
  refine wpAnyH_take (i := 9) (v := ?val9x35) rfl (by kernel_rfl) (by kernel_rfl) (by kernel_rfl) (fun _ _ _ h => h) (Or.inl ⟨by rfl, fun w9 hS9 => ?yields9x35⟩) (by assumption) ?later9x35
  case yields9x35 =>
    dsimp only at hS9
    go_simp
    try with_reducible rfl
  try simp only [Act.put, List.getElem_toArray, List.getElem_cons_succ, List.getElem_cons_zero, List.setIfInBounds_toArray, List.set_cons_zero, List.set_cons_succ]
  refine wpAnyH_done (by kernel_rfl) ?_ _
  obtain ⟨-, -, -, -, -, -, -, -, -, -, HB⟩ := hHeld
  clear HBd MK
  go_wp2_with fail
  go_ret
  refine ⟨⟨_, rfl, ⟨by omega, by have := HL.out; omega, fun z h1 h2 => ?_, ?_⟩⟩, HW.out.trans (HB.out.mono HW.out.size)⟩
  · have := HK1.out (z - t.start).toNat (by omega)
    rw [show t.start + (((z - t.start).toNat : Nat) : Int) = z by omega] at this
    simp only [decide_eq_false_iff_not, Int.not_le] at this
    exact this
  · by_cases e : k = n
    · left; rw [e]; exact HL.out.symm
    · right
      have := HK2.out k (Nat.le_refl _) (by omega)
      simpa using this
end Go.Proofs.Ytaihiahoedpbiaa
/- The library's sort of numbers, tied to this program's numbers (laid by the library's own command). -/
namespace Go.Proofs.Ytaihiahoedpbiaa
open Go.Shelf
def sortLays_ren : Go.Shelf.Ren := ⟨fun | 189 => 139 | 125 => 142 | 257 => 165 | 128 => 174 | 129 => 175 | 294 => 178 | 295 => 179 | 296 => 180 | 297 => 181 | 298 => 182 | 299 => 183 | 216 => 149 | 300 => 184 | 301 => 185 | 328 => 193 | 329 => 187 | 330 => 188 | 331 => 194 | 332 => 195 | 215 => 143 | 343 => 198 | n => n, fun | 28 => 92 | 3 => 3 | 46 => 173 | 0 => 0 | 51 => 199 | 53 => 201 | 4 => 4 | 183 => 193 | 182 => 192 | 131 => 157 | 5 => 5 | 9 => 9 | 218 => 209 | 222 => 213 | 228 => 219 | 229 => 58 | n => n, fun | n => n⟩
theorem sortLays : Go.Proofs.Lays.n189 Try.prog sortLays_ren := {
  mixed := by kernel_rfl
  f125 := Try.func142.trans (congrArg some (by kernel_rfl))
  f128 := Try.func174.trans (congrArg some (by kernel_rfl))
  f129 := Try.func175.trans (congrArg some (by kernel_rfl))
  f189 := Try.func139.trans (congrArg some (by kernel_rfl))
  f215 := Try.func143.trans (congrArg some (by kernel_rfl))
  f216 := Try.func149.trans (congrArg some (by kernel_rfl))
  f257 := Try.func165.trans (congrArg some (by kernel_rfl))
  f294 := Try.func178.trans (congrArg some (by kernel_rfl))
  f295 := Try.func179.trans (congrArg some (by kernel_rfl))
  f296 := Try.func180.trans (congrArg some (by kernel_rfl))
  f297 := Try.func181.trans (congrArg some (by kernel_rfl))
  f298 := Try.func182.trans (congrArg some (by kernel_rfl))
  f299 := Try.func183.trans (congrArg some (by kernel_rfl))
  f300 := Try.func184.trans (congrArg some (by kernel_rfl))
  f301 := Try.func185.trans (congrArg some (by kernel_rfl))
  f328 := Try.func193.trans (congrArg some (by kernel_rfl))
  f329 := Try.func187.trans (congrArg some (by kernel_rfl))
  f330 := Try.func188.trans (congrArg some (by kernel_rfl))
  f331 := Try.func194.trans (congrArg some (by kernel_rfl))
  f332 := Try.func195.trans (congrArg some (by kernel_rfl))
  f343 := Try.func198.trans (congrArg some (by kernel_rfl))
  t0 := Try.underlying0
  a0 := Try.isAgg0
  z0 := Try.sizeOf0
  v0 := Try.zeroValue0
  t3 := Try.underlying3
  a3 := Try.isAgg3
  z3 := Try.sizeOf3
  v3 := Try.zeroValue3
  t4 := Try.underlying4
  a4 := Try.isAgg4
  z4 := Try.sizeOf4
  v4 := Try.zeroValue4
  t5 := Try.underlying5
  a5 := Try.isAgg5
  z5 := Try.sizeOf5
  v5 := Try.zeroValue5
  t9 := Try.underlying9
  a9 := Try.isAgg9
  z9 := Try.sizeOf9
  v9 := Try.zeroValue9
  t28 := Try.underlying92
  a28 := Try.isAgg92
  z28 := Try.sizeOf92
  v28 := Try.zeroValue92
  t46 := Try.underlying173
  a46 := Try.isAgg173
  z46 := Try.sizeOf173
  v46 := Try.zeroValue173
  t51 := Try.underlying199
  a51 := Try.isAgg199
  z51 := Try.sizeOf199
  v51 := Try.zeroValue199
  t53 := Try.underlying201
  a53 := Try.isAgg201
  z53 := Try.sizeOf201
  v53 := Try.zeroValue201
  t131 := Try.underlying157
  a131 := Try.isAgg157
  z131 := Try.sizeOf157
  v131 := Try.zeroValue157
  t182 := Try.underlying192
  a182 := Try.isAgg192
  z182 := Try.sizeOf192
  v182 := Try.zeroValue192
  t183 := Try.underlying193
  a183 := Try.isAgg193
  z183 := Try.sizeOf193
  v183 := Try.zeroValue193
  t218 := Try.underlying209
  a218 := Try.isAgg209
  z218 := Try.sizeOf209
  v218 := Try.zeroValue209
  t222 := Try.underlying213
  a222 := Try.isAgg213
  z222 := Try.sizeOf213
  v222 := Try.zeroValue213
  t228 := Try.underlying219
  a228 := Try.isAgg219
  z228 := Try.sizeOf219
  v228 := Try.zeroValue219
  t229 := Try.underlying58
  a229 := Try.isAgg58
  z229 := Try.sizeOf58
  v229 := Try.zeroValue58 }
open Go.Sort Go.RowKit in
theorem sort_any (blk off cap : Nat) (zs : List Int) (w : World) (hH : Holds (Value.int .i64) w blk off zs.toArray) (hblk : blk < w.heap.size) (hsz : zs.length < 4611686018427387904) :
    Calls Try.prog 139 #[.slice (some ⟨blk, off, none⟩) zs.length cap] w fun e w' =>
      e = .returned (.tuple #[]) ∧ ∃ n os, w' = grow (putRow (Value.int .i64) (Sort.ahead w n) blk off (zs.mergeSort fun x y => decide (x ≤ y)).toArray) os := Any.slices_Sort_int sortLays blk off cap zs w hH hblk hsz
end Go.Proofs.Ytaihiahoedpbiaa
/- The times of which one is the earliest start, ascending. Condition: the trip is right. -/
namespace Go.Proofs.Ytaihiahoedpbiaa
open Go.RowKit Fs

theorem xPutBelow {w0 w : World} {g : Nat} {d : Array Int} {B : Nat} (h : Below B w0 w) (n : Nat) (hg : B ≤ g) : Below B w0 (Go.Sort.putRow (Value.int .i64) (Go.Sort.ahead w n) g 0 d) := by
  refine ⟨h.os, h.tape, h.output, by unfold Go.Sort.putRow Go.Sort.mapBlock Go.Sort.ahead; simpa using h.size, fun k hk => ?_⟩
  rw [← h.block k hk]
  unfold Go.Sort.putRow Go.Sort.mapBlock Go.Sort.ahead
  simp only [Array.getElem?_modify]
  rw [if_neg (by omega)]
theorem xGrowBelow {w0 w : World} {B : Nat} (h : Below B w0 w) (os : Array Obj) (hB : B ≤ w.heap.size) : Below B w0 (Go.Sort.grow w os) := by
  refine ⟨h.os, h.tape, h.output, by unfold Go.Sort.grow; have := h.size; simp; omega, fun k hk => ?_⟩
  rw [← h.block k hk]
  exact Go.Sort.heap_grow_old w os (by omega)
noncomputable def Fs.sortedI (l : List Int) : List Int := l.mergeSort fun x y => decide (x ≤ y)
theorem Fs.sortedI_len (l : List Int) : (sortedI l).length = l.length := List.length_mergeSort _
theorem Fs.sortedI_mem {l : List Int} {x : Int} : x ∈ sortedI l ↔ x ∈ l := List.mem_mergeSort
theorem Fs.sortedI_up (l : List Int) : ∀ a b, a < b → b < (sortedI l).length → listI (sortedI l) a ≤ listI (sortedI l) b := by
  intro a b hab hb
  have h := List.pairwise_mergeSort (le := fun x y : Int => decide (x ≤ y)) (fun a b c h1 h2 => by simp at *; omega) (fun a b => by simp; omega) l
  have h2 := List.pairwise_iff_getElem.1 h a b (by unfold sortedI at hb; omega) hb hab
  unfold listI sortedI
  rw [List.getD_eq_getElem?_getD, List.getD_eq_getElem?_getD, List.getElem?_eq_getElem (by unfold sortedI at hb; omega), List.getElem?_eq_getElem (by unfold sortedI at hb; exact hb)]
  simpa using h2
theorem xSortI_any (base : Nat) (e : TypeId) (zs : List Int) (v : Value) (w w0 : World) (h : w.ownsRow base e 1 v zs.length (intVals zs)) (hp : 0 < zs.length) (hn : zs.length ≤ 1000000) (hB : Below base w0 w) :
    Calls Try.prog 139 #[v] w fun e' w' => e' = .returned (.tuple #[]) ∧ w'.ownsRow base e 1 v zs.length (intVals (sortedI zs)) ∧ Below base w0 w' := by
  obtain ⟨g, cap, rfl, hg1, hg2, hc1, hc2, hl, hH⟩ := Go.Lib.holds_of_ownsRow (enc := Value.int .i64) (zs := zs) h (by
    intro hv
    rw [hv] at h
    rcases h.2 with ⟨-, h0⟩ | ⟨g, cap, cur, hv, -⟩
    · omega
    · cases hv)
  refine (sort_any g 0 cap zs w hH hg2 (by omega)).mono ?_
  rintro e' w' ⟨rfl, n, os, rfl⟩
  have hs : (zs.mergeSort fun x y => decide (x ≤ y)).length = zs.length := List.length_mergeSort _
  have h1 := Go.Lib.ownsRow_putRow (enc := Value.int .i64) (q := n) (k := zs.length) h hs (Nat.le_refl _)
  rw [List.take_of_length_le (by rw [hs]; exact Nat.le_refl _)] at h1
  have h2 := Go.Lib.ownsRow_grow h1 0 os
  refine ⟨rfl, h2, xGrowBelow (xPutBelow hB n hg1) os ?_⟩
  have := hB.size
  unfold Go.Sort.putRow Go.Sort.mapBlock Go.Sort.ahead
  simp
  omega
def Fs.candL (R : DRules) (l : List WRec) (t : DTrip) (W : Int) : List Int := if 0 < l.length then [t.start, W, lastFin l + R.brk, lastFin l + R.rest] else [t.start, W]
theorem Fs.candL_is (R : DRules) (l : List WRec) (t : DTrip) (W : Int) : Cands R l t W (sortedI (candL R l t W)) := by
  unfold candL
  by_cases h : 0 < l.length
  · rw [if_pos h]
    exact ⟨sortedI_mem.2 (by simp), sortedI_mem.2 (by simp), fun _ => sortedI_mem.2 (by simp), fun _ => sortedI_mem.2 (by simp)⟩
  · rw [if_neg h]
    exact ⟨sortedI_mem.2 (by simp), sortedI_mem.2 (by simp), fun hp => absurd hp h, fun hp => absurd hp h⟩
theorem Try.infoNum : (Try.prog.info? 3).map (fun i => (i.zero, i.size, i.bytes)) = some (some (.int .i64 0), 1, 8) := by kernel_rfl
set_option linter.unusedSimpArgs false in
set_option maxHeartbeats 12800000 in
set_option maxRecDepth 100000 in
theorem xStartsFor_any (R : DRules) (l : List WRec) (t : DTrip) (A : Option Addr) (c n : Nat) (L : Int) (w : World) (h : ArrW w A l c) (hR : Right l) (hBT : Behind l t) (hh0 : 0 ≤ t.hi) (hh1 : t.hi ≤ 200000) (hL : L = t.start + (n : Int)) (hL1 : L ≤ 8640000000) (hn : n ≤ 10000000) (hbr : 0 ≤ R.brk ∧ R.brk ≤ 2000000) (hre : 0 ≤ R.rest ∧ R.rest ≤ 2000000) :
    Calls Try.prog 92 #[bookV R A l.length c, dtripV t, .int .i64 L] w fun e w' => (∃ A' c' W, e = .returned (.slice A' (sortedI (candL R l t W)).length c') ∧ ArrI w' A' (sortedI (candL R l t W)) c' ∧ WeekAt R l t t.start L W) ∧ Below w.heap.size w w' := by
  obtain ⟨i0, hi, hz0, hz1, hz2⟩ := info_parts Try.infoNum
  have b1 := h.le.1
  have b2 := h.le.2
  have HA := Lib.hid h
  have HRT := Lib.hid hR
  have HBT := Lib.hid hBT
  have HL := Lib.hid hL
  have hlen := hR.len
  clear h hR hBT hL
  have BB := Lib.hid ((BookIn.new w R A l.length c 127).keep (Keep.alloc _ (.cells #[.int .i64 t.start, .int .i64 t.lo, .int .i64 t.hi, .int .i64 t.next] 54)))
  have BT := Lib.hid (show TripIn ((w.alloc (.cells #[.int .i64 R.brk, .int .i64 R.rest, .int .i64 R.stint, .int .i64 R.shift, .int .i64 R.week, .slice A l.length c] 127)).alloc (.cells #[.int .i64 t.start, .int .i64 t.lo, .int .i64 t.hi, .int .i64 t.next] 54)) (w.heap.size + 1) t from ⟨cellNew1 _ _ _ _ 0, cellNew1 _ _ _ _ 1, cellNew1 _ _ _ _ 2, cellNew1 _ _ _ _ 3⟩)
  go_enter Try.func92, Try.ntmps92
  go_upto_region 1 with fail
  generalize hwb : (w.alloc _).alloc _ = wb at *
  have HW : Hid (Below w.heap.size w wb) := by rw [← hwb]; exact Lib.hid (((Below.refl _ _).alloc (Nat.le_refl _) _).alloc (by simp) _)
  clear hwb
  obtain ⟨t0, t1, t2, t3⟩ := BT.out
  obtain ⟨k0, k1, k2, k3, k4, k5⟩ := BB.out
  go_wp2_with fail
  have HBd : Hid (Below wb.heap.size wb wb.drew) := Lib.hid (Below.refl _ _).drew
  have MK : Hid (∀ w', Below wb.heap.size wb w' → w'.cell? ⟨w.heap.size, 0, none⟩ = some (.int .i64 R.brk) ∧ w'.cell? ⟨w.heap.size, 1, none⟩ = some (.int .i64 R.rest) ∧ w'.cell? ⟨w.heap.size, 2, none⟩ = some (.int .i64 R.stint) ∧ w'.cell? ⟨w.heap.size, 3, none⟩ = some (.int .i64 R.shift) ∧ w'.cell? ⟨w.heap.size, 4, none⟩ = some (.int .i64 R.week) ∧ w'.cell? ⟨w.heap.size, 5, none⟩ = some (.slice A l.length c) ∧ w'.cell? ⟨w.heap.size + 1, 0, none⟩ = some (.int .i64 t.start) ∧ w'.cell? ⟨w.heap.size + 1, 1, none⟩ = some (.int .i64 t.lo) ∧ w'.cell? ⟨w.heap.size + 1, 2, none⟩ = some (.int .i64 t.hi) ∧ w'.cell? ⟨w.heap.size + 1, 3, none⟩ = some (.int .i64 t.next) ∧ Hid (Below wb.heap.size wb w')) :=
    Lib.hid fun w' hw => ⟨Keep.below hw _ _ k0, Keep.below hw _ _ k1, Keep.below hw _ _ k2, Keep.below hw _ _ k3, Keep.below hw _ _ k4, Keep.below hw _ _ k5, Keep.below hw _ _ t0, Keep.below hw _ _ t1, Keep.below hw _ _ t2, Keep.below hw _ _ t3, Lib.hid hw⟩
  have KA : Hid (∀ w', Below wb.heap.size wb w' → ArrW w' A l c) := Lib.hid fun w' hw => (HA.out.keep (Keep.below (HW.out.trans (hw.mono HW.out.size))))
  refine wp_region_held_drew (S := fun w' => w'.cell? ⟨w.heap.size, 0, none⟩ = some (.int .i64 R.brk) ∧ w'.cell? ⟨w.heap.size, 1, none⟩ = some (.int .i64 R.rest) ∧ w'.cell? ⟨w.heap.size, 2, none⟩ = some (.int .i64 R.stint) ∧ w'.cell? ⟨w.heap.size, 3, none⟩ = some (.int .i64 R.shift) ∧ w'.cell? ⟨w.heap.size, 4, none⟩ = some (.int .i64 R.week) ∧ w'.cell? ⟨w.heap.size, 5, none⟩ = some (.slice A l.length c) ∧ w'.cell? ⟨w.heap.size + 1, 0, none⟩ = some (.int .i64 t.start) ∧ w'.cell? ⟨w.heap.size + 1, 1, none⟩ = some (.int .i64 t.lo) ∧ w'.cell? ⟨w.heap.size + 1, 2, none⟩ = some (.int .i64 t.hi) ∧ w'.cell? ⟨w.heap.size + 1, 3, none⟩ = some (.int .i64 t.next) ∧ Hid (Below wb.heap.size wb w')) (by kernel_rfl) (MK.out _ HBd.out) (fun hHeld => ?_)
  refine wpAnyH_take (i := 0) (v := ?val0x36) rfl (by kernel_rfl) (by kernel_rfl) (by kernel_rfl) (fun _ _ _ h => h) (Or.inl ⟨by rfl, fun w9 hS9 => ?yields0x36⟩) (by assumption) ?later0x36
  case yields0x36 =>
    dsimp only at hS9
    go_simp
    try with_reducible rfl
  try simp only [Act.put, List.getElem_toArray, List.getElem_cons_succ, List.getElem_cons_zero, List.setIfInBounds_toArray, List.set_cons_zero, List.set_cons_succ]
  refine wpAnyH_take (i := 1) (v := ?val1x37) rfl (by kernel_rfl) (by kernel_rfl) (by kernel_rfl) (fun _ _ _ h => h) (Or.inl ⟨by rfl, fun w9 hS9 => ?yields1x37⟩) (by assumption) ?later1x37
  case yields1x37 =>
    dsimp only at hS9
    go_simp
    try with_reducible rfl
  try simp only [Act.put, List.getElem_toArray, List.getElem_cons_succ, List.getElem_cons_zero, List.setIfInBounds_toArray, List.set_cons_zero, List.set_cons_succ]
  refine wpAnyH_take (i := 2) (v := ?val2x38) rfl (by kernel_rfl) (by kernel_rfl) (by kernel_rfl) (fun _ _ _ h => h) (Or.inl ⟨by rfl, fun w9 hS9 => ?yields2x38⟩) (by assumption) ?later2x38
  case yields2x38 =>
    dsimp only at hS9
    go_simp
    try with_reducible rfl
  try simp only [Act.put, List.getElem_toArray, List.getElem_cons_succ, List.getElem_cons_zero, List.setIfInBounds_toArray, List.set_cons_zero, List.set_cons_succ]
  refine wpAnyH_take (i := 3) (v := ?val3x39) rfl (by kernel_rfl) (by kernel_rfl) (by kernel_rfl) (fun _ _ _ h => h) (Or.inl ⟨by rfl, fun w9 hS9 => ?yields3x39⟩) (by assumption) ?later3x39
  case yields3x39 =>
    dsimp only at hS9
    go_simp
    try with_reducible rfl
  try simp only [Act.put, List.getElem_toArray, List.getElem_cons_succ, List.getElem_cons_zero, List.setIfInBounds_toArray, List.set_cons_zero, List.set_cons_succ]
  refine wpAnyH_take (i := 4) (v := ?val4x40) rfl (by kernel_rfl) (by kernel_rfl) (by kernel_rfl) (fun _ _ _ h => h) (Or.inl ⟨by rfl, fun w9 hS9 => ?yields4x40⟩) (by assumption) ?later4x40
  case yields4x40 =>
    dsimp only at hS9
    go_simp
    try with_reducible rfl
  try simp only [Act.put, List.getElem_toArray, List.getElem_cons_succ, List.getElem_cons_zero, List.setIfInBounds_toArray, List.set_cons_zero, List.set_cons_succ]
  refine wpAnyH_ready (rs := [5]) (by kernel_rfl) (by simp) ?_
  refine AllReadyH.cons rfl (fun K hK => ?_) AllReadyH.nil
  go_simp
  go_at_call 138
  go_split_ands
  refine (xKeptFrom_any R l t A c n L _ (KA.out _ (Hid.out (by assumption))) HRT.out HBT.out hh0 hh1 HL.out hL1 hn).mono ?_
  rintro e' w5 ⟨⟨W, rfl, hw5⟩, hb1⟩
  have HWK := Lib.hid hw5
  clear hw5
  go_wp2_with fail
  refine hK.out _ _ ?_ (fun hHeld => ?_)
  · (try dsimp only)
    (go_split_ands; exact MK.out _ (Below.trans (Hid.out (by assumption)) (hb1.mono (Hid.out (by assumption) : Below wb.heap.size wb _).size)))
  clear hK K
  try simp only [Act.put, List.getElem_toArray, List.getElem_cons_succ, List.getElem_cons_zero, List.setIfInBounds_toArray, List.set_cons_zero, List.set_cons_succ]
  refine wpAnyH_ready (rs := [6]) (by kernel_rfl) (by simp) ?_
  refine AllReadyH.cons rfl (fun K hK => ?_) AllReadyH.nil
  go_simp
  obtain ⟨-, -, -, -, -, -, -, -, -, -, HBX⟩ := hHeld
  have HO := Lib.hid (World.ownsRow_lit (base := wb.heap.size) (e := 3) (size := 1) w5 #[.int .i64 t.start, .int .i64 W] 2 HBX.out.size (by unfold maxLen; omega) rfl)
  refine hK.out _ _ (MK.out _ (HBX.out.alloc HBX.out.size _)) (fun hHeld => ?_)
  try simp only [Act.put, List.getElem_toArray, List.getElem_cons_succ, List.getElem_cons_zero, List.setIfInBounds_toArray, List.set_cons_zero, List.set_cons_succ]
  clear HBX hK K
  generalize hyy : World.alloc w5 _ = y1 at *
  clear hyy
  refine wpAnyH_take (i := 7) (v := ?val7x41) rfl (by kernel_rfl) (by kernel_rfl) (by kernel_rfl) (fun _ _ _ h => h) (Or.inl ⟨by rfl, fun w9 hS9 => ?yields7x41⟩) (by assumption) ?later7x41
  case yields7x41 =>
    dsimp only at hS9
    go_simp
    try with_reducible rfl
  try simp only [Act.put, List.getElem_toArray, List.getElem_cons_succ, List.getElem_cons_zero, List.setIfInBounds_toArray, List.set_cons_zero, List.set_cons_succ]
  refine wpAnyH_done (by kernel_rfl) ?_ _
  obtain ⟨-, -, -, -, -, -, -, -, -, -, HB⟩ := hHeld
  clear HBd
  have BBw := Lib.hid (BB.out.keep (Keep.below HB.out))
  clear k0 k1 k2 k3 k4 k5 t0 t1 t2 t3
  obtain ⟨k0, k1, k2, k3, k4, k5⟩ := BBw.out
  by_cases h0 : 0 < l.length
  · obtain ⟨m, hm⟩ : ∃ m, l.length = m + 1 := ⟨l.length - 1, by omega⟩
    have e6 : decide (0 < (l.length : Int)) = true := decide_eq_true (by omega)
    have e5 : decide ((l.length : Int) > 0) = true := decide_eq_true (by omega)
    have HN1 := Lib.hid (show m < l.length by omega)
    have HN2 := Lib.hid (show l.length ≤ m + 1 by omega)
    have HFN := Lib.hid (show lastFin l = (listW l m).fin by unfold lastFin; rw [hm]; rfl)
    have hfin := HRT.out.one m (by omega)
    have hwa : IntKind.i64.wrap ((listW l m).fin + R.brk) = (listW l m).fin + R.brk := by rw [IntKind.wrap_i64]; omega
    have hwb2 : IntKind.i64.wrap ((listW l m).fin + R.rest) = (listW l m).fin + R.rest := by rw [IntKind.wrap_i64]; omega
    obtain ⟨ZS, hZ⟩ : ∃ ZS : List Int, ZS = [t.start, W, (listW l m).fin + R.brk, (listW l m).fin + R.rest] := ⟨_, rfl⟩
    have hZl : ZS.length = 4 := by rw [hZ]; rfl
    have HZ := Lib.hid (show candL R l t W = ZS by unfold candL; rw [if_pos h0, HFN.out, hZ])
    have HZV := Lib.hid (show intVals ZS = [.int .i64 t.start, .int .i64 W] ++ [.int .i64 ((listW l m).fin + R.brk), .int .i64 ((listW l m).fin + R.rest)] by rw [hZ]; rfl)
    clear hm hZ
    go_wp2_with fail
    have HBd : Hid (Below wb.heap.size wb y1.drew) := Lib.hid HB.out.drew
    have HO1 := Lib.hid (below_of_own HO.out (Below.refl _ _).drew)
    refine wp_region_held_drew (S := fun w' => w'.cell? ⟨w.heap.size, 0, none⟩ = some (.int .i64 R.brk) ∧ w'.cell? ⟨w.heap.size, 1, none⟩ = some (.int .i64 R.rest) ∧ w'.cell? ⟨w.heap.size, 2, none⟩ = some (.int .i64 R.stint) ∧ w'.cell? ⟨w.heap.size, 3, none⟩ = some (.int .i64 R.shift) ∧ w'.cell? ⟨w.heap.size, 4, none⟩ = some (.int .i64 R.week) ∧ w'.cell? ⟨w.heap.size, 5, none⟩ = some (.slice A l.length c) ∧ w'.cell? ⟨w.heap.size + 1, 0, none⟩ = some (.int .i64 t.start) ∧ w'.cell? ⟨w.heap.size + 1, 1, none⟩ = some (.int .i64 t.lo) ∧ w'.cell? ⟨w.heap.size + 1, 2, none⟩ = some (.int .i64 t.hi) ∧ w'.cell? ⟨w.heap.size + 1, 3, none⟩ = some (.int .i64 t.next) ∧ Hid (Below wb.heap.size wb w')) (by kernel_rfl) (MK.out _ HBd.out) (fun hHeld => ?_)
    refine wpAnyH_take (i := 0) (v := ?val0x42) rfl (by kernel_rfl) (by kernel_rfl) (by kernel_rfl) (fun _ _ _ h => h) (Or.inl ⟨by rfl, fun w9 hS9 => ?yields0x42⟩) (by assumption) ?later0x42
    case yields0x42 =>
      dsimp only at hS9
      go_simp
      try with_reducible rfl
    try simp only [Act.put, List.getElem_toArray, List.getElem_cons_succ, List.getElem_cons_zero, List.setIfInBounds_toArray, List.set_cons_zero, List.set_cons_succ]
    refine wpAnyH_take (i := 1) (v := ?val1x43) rfl (by kernel_rfl) (by kernel_rfl) (by kernel_rfl) (fun _ _ _ h => h) (Or.inl ⟨by rfl, fun w9 hS9 => ?yields1x43⟩) (by assumption) ?later1x43
    case yields1x43 =>
      dsimp only at hS9
      go_simp
      try with_reducible rfl
    try simp only [Act.put, List.getElem_toArray, List.getElem_cons_succ, List.getElem_cons_zero, List.setIfInBounds_toArray, List.set_cons_zero, List.set_cons_succ]
    refine wpAnyH_take (i := 3) (v := ?val3x44) rfl (by kernel_rfl) (by kernel_rfl) (by kernel_rfl) (fun _ _ _ h => h) (Or.inl ⟨by rfl, fun w9 hS9 => ?yields3x44⟩) (by assumption) ?later3x44
    case yields3x44 =>
      dsimp only at hS9
      go_simp
      try with_reducible rfl
    try simp only [Act.put, List.getElem_toArray, List.getElem_cons_succ, List.getElem_cons_zero, List.setIfInBounds_toArray, List.set_cons_zero, List.set_cons_succ]
    refine wpAnyH_take (i := 4) (v := ?val4x45) rfl (by kernel_rfl) (by kernel_rfl) (by kernel_rfl) (fun _ _ _ h => h) (Or.inl ⟨by rfl, fun w9 hS9 => ?yields4x45⟩) (by assumption) ?later4x45
    case yields4x45 =>
      dsimp only at hS9
      go_simp
      try with_reducible rfl
    try simp only [Act.put, List.getElem_toArray, List.getElem_cons_succ, List.getElem_cons_zero, List.setIfInBounds_toArray, List.set_cons_zero, List.set_cons_succ]
    refine wpAnyH_take (i := 5) (v := ?val5x46) rfl (by kernel_rfl) (by kernel_rfl) (by kernel_rfl) (fun _ _ _ h => h) (Or.inl ⟨by rfl, fun w9 hS9 => ?yields5x46⟩) (by assumption) ?later5x46
    case yields5x46 =>
      dsimp only at hS9
      go_simp
      try with_reducible rfl
    try simp only [Act.put, List.getElem_toArray, List.getElem_cons_succ, List.getElem_cons_zero, List.setIfInBounds_toArray, List.set_cons_zero, List.set_cons_succ]
    refine wpAnyH_take (i := 7) (v := ?val7x47) rfl (by kernel_rfl) (by kernel_rfl) (by kernel_rfl) (fun _ _ _ h => h) (Or.inl ⟨by rfl, fun w9 hS9 => ?yields7x47⟩) (by assumption) ?later7x47
    case yields7x47 =>
      dsimp only at hS9
      go_simp
      try with_reducible rfl
    try simp only [Act.put, List.getElem_toArray, List.getElem_cons_succ, List.getElem_cons_zero, List.setIfInBounds_toArray, List.set_cons_zero, List.set_cons_succ]
    refine wpAnyH_take (i := 9) (v := ?val9x48) rfl (by kernel_rfl) (by kernel_rfl) (by kernel_rfl) (fun _ _ _ h => h) (Or.inl ⟨by rfl, fun w9 hS9 => ?yields9x48⟩) (by assumption) ?later9x48
    case yields9x48 =>
      dsimp only at hS9
      go_simp
      try with_reducible rfl
    try simp only [Act.put, List.getElem_toArray, List.getElem_cons_succ, List.getElem_cons_zero, List.setIfInBounds_toArray, List.set_cons_zero, List.set_cons_succ]
    refine wpAnyH_take (i := 10) (v := ?val10x49) rfl (by kernel_rfl) (by kernel_rfl) (by kernel_rfl) (fun _ _ _ h => h) (Or.inl ⟨by rfl, fun w9 hS9 => ?yields10x49⟩) (by assumption) ?later10x49
    case yields10x49 =>
      dsimp only at hS9
      go_simp
      try with_reducible rfl
    try simp only [Act.put, List.getElem_toArray, List.getElem_cons_succ, List.getElem_cons_zero, List.setIfInBounds_toArray, List.set_cons_zero, List.set_cons_succ]
    refine wpAnyH_take (i := 11) (v := ?val11x50) rfl (by kernel_rfl) (by kernel_rfl) (by kernel_rfl) (fun _ _ _ h => h) (Or.inl ⟨by rfl, fun w9 hS9 => ?yields11x50⟩) (by assumption) ?later11x50
    case yields11x50 =>
      dsimp only at hS9
      go_simp
      try with_reducible rfl
    try simp only [Act.put, List.getElem_toArray, List.getElem_cons_succ, List.getElem_cons_zero, List.setIfInBounds_toArray, List.set_cons_zero, List.set_cons_succ]
    refine wpAnyH_ready (rs := [2]) (by kernel_rfl) (by simp) ?_
    refine AllReadyH.cons rfl (fun K hK => ?_) AllReadyH.nil
    go_simp
    go_at_call 136
    go_split_ands
    refine (xEnd_any R l A c m _ (KA.out _ (Hid.out (by assumption))) HN1.out HN2.out).mono ?_
    rintro e' w6 ⟨rfl, hb1⟩
    replace HO1 := Lib.hid (below_of_own HO1.out hb1)
    go_wp2_with fail
    refine hK.out _ _ ?_ (fun hHeld => ?_)
    · (try dsimp only)
      (go_split_ands; exact MK.out _ (Below.trans (Hid.out (by assumption)) (hb1.mono (Hid.out (by assumption) : Below wb.heap.size wb _).size)))
    clear hK K
    try simp only [Act.put, List.getElem_toArray, List.getElem_cons_succ, List.getElem_cons_zero, List.setIfInBounds_toArray, List.set_cons_zero, List.set_cons_succ]
    refine wpAnyH_take (i := 6) (v := ?val6x51) rfl (by kernel_rfl) (by kernel_rfl) (by kernel_rfl) (fun _ _ _ h => h) (Or.inl ⟨by rfl, fun w9 hS9 => ?yields6x51⟩) (by assumption) ?later6x51
    case yields6x51 =>
      dsimp only at hS9
      go_simp
      try with_reducible rfl
    try simp only [Act.put, List.getElem_toArray, List.getElem_cons_succ, List.getElem_cons_zero, List.setIfInBounds_toArray, List.set_cons_zero, List.set_cons_succ]
    refine wpAnyH_ready (rs := [8]) (by kernel_rfl) (by simp) ?_
    refine AllReadyH.cons rfl (fun K hK => ?_) AllReadyH.nil
    go_simp
    go_at_call 136
    go_split_ands
    refine (xEnd_any R l A c m _ (KA.out _ (Hid.out (by assumption))) HN1.out HN2.out).mono ?_
    rintro e' w7 ⟨rfl, hb1⟩
    replace HO1 := Lib.hid (below_of_own HO1.out hb1)
    go_wp2_with fail
    refine hK.out _ _ ?_ (fun hHeld => ?_)
    · (try dsimp only)
      (go_split_ands; exact MK.out _ (Below.trans (Hid.out (by assumption)) (hb1.mono (Hid.out (by assumption) : Below wb.heap.size wb _).size)))
    clear hK K
    try simp only [Act.put, List.getElem_toArray, List.getElem_cons_succ, List.getElem_cons_zero, List.setIfInBounds_toArray, List.set_cons_zero, List.set_cons_succ]
    refine wpAnyH_take (i := 12) (v := ?val12x52) rfl (by kernel_rfl) (by kernel_rfl) (by kernel_rfl) (fun _ _ _ h => h) (Or.inl ⟨by rfl, fun w9 hS9 => ?yields12x52⟩) (by assumption) ?later12x52
    case yields12x52 =>
      dsimp only at hS9
      go_simp
      try with_reducible rfl
    try simp only [Act.put, List.getElem_toArray, List.getElem_cons_succ, List.getElem_cons_zero, List.setIfInBounds_toArray, List.set_cons_zero, List.set_cons_succ]
    refine wpAnyH_ready (rs := [13]) (by kernel_rfl) (by simp) ?_
    refine AllReadyH.cons rfl (fun K hK => ?_) AllReadyH.nil
    go_simp
    obtain ⟨-, -, -, -, -, -, -, -, -, -, HBX⟩ := hHeld
    have HO2 := Lib.hid (below_of_own HO1.out ((Below.refl w7.heap.size w7).alloc (Nat.le_refl _) (.cells #[.int .i64 ((listW l m).fin + R.brk), .int .i64 ((listW l m).fin + R.rest)] 3)))
    have HNW := Lib.hid (World.news_of_block (B := w7.heap.size) (heap_alloc_new w7 (.cells #[.int .i64 ((listW l m).fin + R.brk), .int .i64 ((listW l m).fin + R.rest)] 3)))
    refine hK.out _ _ (MK.out _ (HBX.out.alloc HBX.out.size _)) (fun hHeld => ?_)
    try simp only [Act.put, List.getElem_toArray, List.getElem_cons_succ, List.getElem_cons_zero, List.setIfInBounds_toArray, List.set_cons_zero, List.set_cons_succ]
    clear HBX hK K
    generalize hyy : World.alloc w7 _ = y2 at *
    clear hyy
    refine wpAnyH_ready (rs := [14]) (by kernel_rfl) (by simp) ?_
    refine AllReadyH.cons rfl (fun K hK => ?_) AllReadyH.nil
    obtain ⟨-, -, -, -, -, -, -, -, -, -, HBX⟩ := hHeld
    refine step_append_lies _ rfl (.tmp 19) (.tmp 32) 92 rfl wb.heap.size 3 i0 _ 1 8 Try.underlying92 hi hz0 hz1 hz2 rfl (by decide) _ 2 _ rfl HO2.out _ 2 2 [.int .i64 ((listW l m).fin + R.brk), .int .i64 ((listW l m).fin + R.rest)] rfl rfl HNW.out ?c2 (by decide) (by unfold maxLen; omega) (by omega) HBX.out.size _ rfl ?c4
    case c2 => intro u hu; simp at hu; rcases hu with rfl | rfl <;> rfl
    case c4 =>
      rintro g9 c9 y9 ho9 hg9 - -
      have hb9 := HBX.out.grown hg9 HBX.out.size (fun k hk => (HO2.out.lt k hk).1)
      have HOZ := Lib.hid (show y9.ownsRow wb.heap.size 3 1 (.slice (some ⟨g9, 0, none⟩) 4 c9) ZS.length (intVals ZS) by rw [hZl, HZV.out]; exact ho9)
      refine hK.out _ _ (MK.out _ hb9) (fun hHeld => ?_)
      try simp only [Act.put, List.getElem_toArray, List.getElem_cons_succ, List.getElem_cons_zero, List.setIfInBounds_toArray, List.set_cons_zero, List.set_cons_succ]
      clear ho9 hb9 hg9 HBX hK K
      refine wpAnyH_take (i := 15) (v := ?val15x53) rfl (by kernel_rfl) (by kernel_rfl) (by kernel_rfl) (fun _ _ _ h => h) (Or.inl ⟨by rfl, fun w9 hS9 => ?yields15x53⟩) (by assumption) ?later15x53
      case yields15x53 =>
        dsimp only at hS9
        go_simp
        try with_reducible rfl
      try simp only [Act.put, List.getElem_toArray, List.getElem_cons_succ, List.getElem_cons_zero, List.setIfInBounds_toArray, List.set_cons_zero, List.set_cons_succ]
      refine wpAnyH_done (by kernel_rfl) ?_ _
      obtain ⟨-, -, -, -, -, -, -, -, -, -, HB⟩ := hHeld
      go_wp2_with fail
      refine (xSortI_any wb.heap.size 3 ZS (.slice (some ⟨g9, 0, none⟩) 4 c9) _ wb HOZ.out (by rw [hZl]; decide) (by rw [hZl]; decide) HB.out).mono ?_
      rintro e' w9 ⟨rfl, ho, hb9⟩
      have HAR : Hid (ArrI w9 (some ⟨g9, 0, none⟩) (sortedI ZS) c9) := by
        obtain ⟨A9, c9', e9, ha⟩ := own_arr (l := sortedI ZS) (by rw [sortedI_len]; exact ho)
        rw [sortedI_len, hZl] at e9
        injection e9 with e10 e11 e12
        rw [e10, e12]
        exact Lib.hid ha
      have HB9 := Lib.hid hb9
      have HSL := Lib.hid (show (sortedI ZS).length = 4 by rw [sortedI_len, hZl])
      clear ho hb9
      go_wp2_with fail
      go_ret
      exact ⟨⟨some ⟨g9, 0, none⟩, c9, W, by rw [HZ.out, HSL.out]; rfl, by rw [HZ.out]; exact HAR.out, HWK.out⟩, HW.out.trans (HB9.out.mono HW.out.size)⟩
  · have e6 : decide (0 < (l.length : Int)) = false := decide_eq_false (by omega)
    have e5 : decide ((l.length : Int) > 0) = false := decide_eq_false (by omega)
    have e7 : decide (0 < l.length) = false := decide_eq_false h0
    obtain ⟨ZS, hZ⟩ : ∃ ZS : List Int, ZS = [t.start, W] := ⟨_, rfl⟩
    have hZl : ZS.length = 2 := by rw [hZ]; rfl
    have HZ := Lib.hid (show candL R l t W = ZS by unfold candL; rw [if_neg h0, hZ])
    have HOZ := Lib.hid (show y1.ownsRow wb.heap.size 3 1 (.slice (some ⟨w5.heap.size, 0, none⟩) 2 2) ZS.length (intVals ZS) by rw [hZl, hZ]; exact HO.out)
    clear hZ
    go_wp2_with fail
    refine (xSortI_any wb.heap.size 3 ZS (.slice (some ⟨w5.heap.size, 0, none⟩) 2 2) _ wb HOZ.out (by rw [hZl]; decide) (by rw [hZl]; decide) HB.out).mono ?_
    rintro e' w9 ⟨rfl, ho, hb9⟩
    have HAR : Hid (ArrI w9 (some ⟨w5.heap.size, 0, none⟩) (sortedI ZS) 2) := by
      obtain ⟨A9, c9', e9, ha⟩ := own_arr (l := sortedI ZS) (by rw [sortedI_len]; exact ho)
      rw [sortedI_len, hZl] at e9
      injection e9 with e10 e11 e12
      rw [e10, e12]
      exact Lib.hid ha
    have HB9 := Lib.hid hb9
    have HSL := Lib.hid (show (sortedI ZS).length = 2 by rw [sortedI_len, hZl])
    clear ho hb9
    go_wp2_with fail
    go_ret
    exact ⟨⟨some ⟨w5.heap.size, 0, none⟩, 2, W, by rw [HZ.out, HSL.out]; rfl, by rw [HZ.out]; exact HAR.out, HWK.out⟩, HW.out.trans (HB9.out.mono HW.out.size)⟩
end Go.Proofs.Ytaihiahoedpbiaa

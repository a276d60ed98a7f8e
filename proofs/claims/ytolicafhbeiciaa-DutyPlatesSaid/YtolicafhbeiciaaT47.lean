/- Lists joined: slices.Grow and slices.Concat of numbers. Condition: at most ten lists of a hundred thousand numbers each. -/
import Derived.Shelf.Spec.SlicesGrow
import Derived.Test.YtolicafhbeiciaaT43
import Derived.Test.YtolicafhbeiciaaT10
import Derived.Test.YtolicafhbeiciaaD3
namespace Go.Proofs.Ytolicafhbeiciaa
open Go.RowKit Fs Go.Shelf

/-! ### appended from an array -/
theorem appendNoneA {P : Program} {w : World} (t ty e : TypeId) (i : TypeInfo) (ht : P.underlying t = some (.slice e)) (hi : P.info? e = some i) (c : Nat) :
    (Builtin.append_ #[t, t] ty #[.slice none 0 0, .slice none 0 c]).run P w = .ok (.slice none 0 0) w := by
  simp [Builtin.append_, run_underlying ht, sizeOf, typeInfo, hi, Builtin.lenOf, Builtin.firstCells]
theorem appendNoneB {P : Program} {w : World} (t ty e : TypeId) (i : TypeInfo) (ht : P.underlying t = some (.slice e)) (hi : P.info? e = some i) (g n cap c : Nat) (h : n ≤ cap) :
    (Builtin.append_ #[t, t] ty #[.slice (some ⟨g, 0, none⟩) n cap, .slice none 0 c]).run P w = .ok (.slice (some ⟨g, 0, none⟩) n cap) w := by
  simp [Builtin.append_, run_underlying ht, sizeOf, typeInfo, hi, Builtin.lenOf, Builtin.firstCells, storeCells, h]
theorem wpList_join {P : Program} {w : World} {ops : Array Oper} {rest : List Oper} {o : Oper} {a : Act} {Q : Exit → Act → World → Prop} (hgd : o.guard = none) (s x : Operand) (t : TypeId)
    (ho : o.op = .call { callee := .builtin .append, args := #[s, x], argTypes := #[t, t] })
    (e : TypeId) (i : TypeInfo) (z : Value) (size bytes : Nat) (ht : P.underlying t = some (.slice e)) (hi : P.info? e = some i) (hz : i.zero = some z)
    (hsize : i.size = size) (hby : i.bytes = bytes) (hzs : z.cells.size = size) (hsz : 0 < size)
    (base : Nat) (v : Value) (n : Nat) (xs : List Value) (hs : a.eval s = v) (hown : w.ownsRow base e size v n xs) (hbase : base ≤ w.heap.size)
    (A : Option Addr) (m c : Nat) (C : Nat → Nat → Value) (hx : a.eval x = .slice A m c) (hA : Arr w A m c size C) (h1 : ∀ i j, (C i j).oneCell' = true)
    (h63 : n + m ≤ maxLen) (hbytes : (n + m) * bytes ≤ 140737488355328)
    (h : ∀ v' w', w'.ownsRow base e size v' (n + m) (xs ++ flat m size C) → Below base w w' → wpList P ops Q rest (a.put o.dst v') w') : wpList P ops Q (o :: rest) a w := by
  cases A with
  | none =>
    have hm : m = 0 := by
      rcases Nat.eq_zero_or_pos m with h | h
      · exact h
      · obtain ⟨_, _, he, -⟩ := hA.2.2 h
        cases he
    subst hm
    have hr : (Builtin.append_ #[t, t] o.type #[v, .slice none 0 c]).run P w = .ok v w := by
      rcases hown.2 with ⟨hv, -⟩ | ⟨g, cap, cur, hv, -, -, hc, -⟩
      · rw [hv]; exact appendNoneA t o.type e i ht hi c
      · rw [hv]; exact appendNoneB t o.type e i ht hi g n cap c hc
    refine wpList_plain hgd fun K hK => ?_
    unfold Oper.wp execOp
    simp only [ho, resolve, invoke, builtin, Sem.run_bind, Sem.run_pure, Result.andThen_ok, List.map_toArray, List.map_cons, List.map_nil, hs, hx, hr]
    exact hK _ _ (h _ w (by simpa [flat] using hown) (Below.refl _ _))
  | some ad =>
    refine wpList_append_own_at w hgd s x t ho base e i z size bytes ht hi hz hsize hby hzs hsz _ n xs hs hown ad m c (flat m size C) hx (by simp [flat]) ?_ ?_ h63 hbytes hbase ?_
    · intro j u hu
      have hj : j < m * size := by
        rcases Nat.lt_or_ge j (m * size) with h | h
        · exact h
        · rw [List.getElem?_eq_none (by simpa [flat] using h)] at hu; cases hu
      rw [flat_get _ hj] at hu
      injection hu with hu
      have hm : 0 < m := Nat.pos_of_ne_zero fun h => by rw [h, Nat.zero_mul] at hj; omega
      obtain ⟨b, o', he, hc⟩ := hA.2.2 hm
      injection he with he
      subst he
      have hq := hc (j / size) (j % size) (Nat.div_lt_of_lt_mul (by rw [Nat.mul_comm]; exact hj)) (Nat.mod_lt _ hsz)
      have e1 : o' + j / size * size + j % size = o' + j := by
        have := Nat.div_add_mod j size
        rw [Nat.mul_comm] at this
        omega
      rw [e1, hu] at hq
      unfold Addr.add
      by_cases h0 : j = 0
      · subst h0; simpa using hq
      · rw [if_neg h0]; exact hq
    · intro u hu
      unfold flat at hu
      simp only [List.mem_map] at hu
      obtain ⟨t, -, rfl⟩ := hu
      exact h1 _ _
    · intro v' w' h2 h3 _ _
      exact h v' w' h2 ((Below.refl _ _).grown h3 hbase (fun k hk => (hown.lt k hk).1))
theorem flat_ints (l : List Int) : flat l.length 1 (fun i _ => .int .i64 (listI l i)) = intVals l := by
  refine List.ext_getElem? fun k => ?_
  by_cases hk : k < l.length
  · rw [flat_get _ (by omega), Nat.div_one]
    have := intVals_get hk []
    rw [List.append_nil] at this
    rw [this]
  · rw [List.getElem?_eq_none (by simp [flat]; omega), List.getElem?_eq_none (by simp [intVals]; omega)]

/-! ### lists of lists -/
def Fs.listL (ls : List (List Int)) (i : Nat) : List Int := ls.getD i []
def Fs.flatTo (ls : List (List Int)) : Nat → List Int
  | 0 => []
  | k + 1 => flatTo ls k ++ listL ls k
/-- The row A reads as lists that lie at a. -/
def ArrL (w : World) (A : Option Addr) (ls : List (List Int)) (c : Nat) (a : DA) : Prop :=
  Arr w A ls.length c 1 (fun i _ => .slice (a.p i) (listL ls i).length (a.pc i)) ∧ ∀ i, i < ls.length → ArrI w (a.p i) (listL ls i) (a.pc i)
theorem ArrL.keep {w w' : World} (k : Keep w w') {A : Option Addr} {ls : List (List Int)} {c : Nat} {a : DA} (h : ArrL w A ls c a) : ArrL w' A ls c a := ⟨Arr.keep k h.1, fun i hi => (h.2 i hi).keep k⟩
theorem ArrL.at_ {w : World} {A : Option Addr} {ls : List (List Int)} {c : Nat} {a : DA} (h : ArrL w A ls c a) {k : Nat} (hk : k < ls.length) : ∃ b o, A = some ⟨b, o, none⟩ ∧ w.cell? ⟨b, o + k, none⟩ = some (.slice (a.p k) (listL ls k).length (a.pc k)) := by
  obtain ⟨b, o, e, hc⟩ := h.1.at_ hk
  have := hc 0 (by omega)
  exact ⟨b, o, e, by simpa using this⟩
theorem Fs.flatTo_len {ls : List (List Int)} {B : Nat} (h : ∀ i, i < ls.length → (listL ls i).length ≤ B) : ∀ k, k ≤ ls.length → (flatTo ls k).length ≤ B * k
  | 0, _ => Nat.zero_le _
  | k + 1, hk => by
    have h1 := flatTo_len h k (by omega)
    have h2 := h k (by omega)
    rw [flatTo, List.length_append, Nat.mul_succ]
    omega

end Go.Proofs.Ytolicafhbeiciaa
/- The reference's Broken; copies of records. Condition: records are in order, of small numbers. -/
namespace Go.Proofs.Ytolicafhbeiciaa
open Go.RowKit Fs

set_option maxHeartbeats 3200000 in
set_option maxRecDepth 100000 in
theorem rBroken_any (R : DRules) (l : List WRec) (A : Option Addr) (c : Nat) (w : World) (h : ArrW w A l c) (hF : Fit l) :
    Calls Try.prog 30 #[drulesV R, .slice A l.length c] w fun e w' => e = .returned (.agg #[.int .i64 (brokenRule R l), .int .i64 (brokenRec R l : Nat)]) ∧ Below w.heap.size w w' := by
  have b1 := h.le.1
  have b2 := h.le.2
  have HA := Lib.hid h
  clear h
  have HFT := Lib.hid hF
  clear hF
  have BR := Lib.hid ((RulesIn.new w R 23).keep (Keep.alloc _ (.cells #[.int .i64 0, .int .i64 0] 47)))
  have MK := Lib.hid (show MarkAt ((w.alloc (.cells #[.int .i64 R.brk, .int .i64 R.rest, .int .i64 R.stint, .int .i64 R.shift, .int .i64 R.week] 23)).alloc (.cells #[.int .i64 0, .int .i64 0] 47)) (w.heap.size + 1) from ⟨cellNew1 _ _ _ _ 0, cellNew1 _ _ _ _ 1, frozenNew1 _ _ _ _ 0, frozenNew1 _ _ _ _ 1⟩)
  go_enter Try.func30, Try.ntmps30
  go_upto_region 1 with fail
  generalize hwb : (w.alloc _).alloc _ = wb at *
  have HW : Hid (Below w.heap.size w wb) := by rw [← hwb]; exact Lib.hid (((Below.refl _ _).alloc (Nat.le_refl _) _).alloc (by simp) _)
  clear hwb
  have hgb : w.heap.size + 1 < wb.heap.size := MK.out.lt
  go_wp2_with fail
  go_loopw [5] (fun i wr => ∃ k : Nat, k ≤ l.length ∧ i = .int .i64 k ∧ Hid (∀ j, j < k → brokenAt R l j = 0) ∧ Hid (Below wb.heap.size wb wr)) (fun i _ => l.length - (intOf i).toNat)
  case atStart => exact ⟨0, Nat.zero_le _, rfl, Lib.hid fun j hj => absurd hj (Nat.not_lt_zero _), Lib.hid (Below.refl _ _)⟩
  case round =>
    obtain ⟨k, hk, rfl, Hn, HB⟩ := hrel
    by_cases hlt : k < l.length
    · have hkn : (k : Int) < (l.length : Int) := by omega
      obtain ⟨a0, a1, a2, a3, a4⟩ := BR.out.keep (Keep.below HB.out)
      go_wp2_with fail
      refine (rBrokenAt_any R l A c k _ ((HA.out.keep (Keep.below HW.out)).keep (Keep.below HB.out)) HFT.out hlt).mono ?_
      rintro e' w1 ⟨rfl, hb1⟩
      have HB1 := Lib.hid (HB.out.trans (hb1.mono HB.out.size))
      clear hb1 a0 a1 a2 a3 a4
      by_cases he : brokenAt R l k = 0
      · have HE := Lib.hid he
        rw [he]
        clear he
        go_wp2_with fail
        go_roundw
        case rel =>
          exact ⟨k + 1, by omega, by go_num, Lib.hid fun j hj => by
            by_cases e : j = k
            · subst e; exact HE.out
            · exact Hn.out j (by omega), HB1⟩
        case measure => simp [intOf]; omega
      · obtain ⟨F1, F2⟩ := fst_hit hlt Hn.out he
        have G1 := Lib.hid (show brokenRule R l = brokenAt R l k from F1)
        have G2 := Lib.hid (show brokenRec R l = k from F2)
        have e2 : (brokenAt R l k != 0) = true := by simpa using he
        clear F1 F2 he
        obtain ⟨m0, m1, mf0, mf1⟩ := MK.out.below HB1.out hgb
        go_wp2_with fail
        refine bodyPost_ret (v := .agg #[.int .i64 (brokenAt R l k), .int .i64 k]) (by simp [results, Try.results30, go_sem, m0, m1]) rfl ⟨by rw [G1.out, G2.out], ?_⟩
        exact ((HW.out.trans (HB1.out.mono HW.out.size)).setCell (p := ⟨w.heap.size + 1, 0, none⟩) (by dsimp only; omega) _).setCell (p := ⟨w.heap.size + 1, 1, none⟩) (by dsimp only; omega) _
    · have hkl : k = l.length := by omega
      subst hkl
      have G1 := Lib.hid (show brokenRule R l = 0 from fst_none Hn.out)
      have G2 := Lib.hid (show brokenRec R l = 0 from idx_none Hn.out)
      obtain ⟨m0, m1, mf0, mf1⟩ := MK.out.below HB.out hgb
      go_wp2_with fail
      refine bodyPost_ret (v := .agg #[.int .i64 0, .int .i64 0]) (by simp [results, Try.results30, go_sem, m0, m1]) rfl ⟨by rw [G1.out, G2.out]; rfl, ?_⟩
      exact ((HW.out.trans (HB.out.mono HW.out.size)).setCell (p := ⟨w.heap.size + 1, 0, none⟩) (by dsimp only; omega) _).setCell (p := ⟨w.heap.size + 1, 1, none⟩) (by dsimp only; omega) _

theorem Try.infoDRec : (Try.prog.info? 39).map (fun i => (i.zero, i.size, i.bytes)) = some (some (.agg #[.string ⟨#[]⟩, .int .i64 0, .int .i64 0]), 3, 32) := by kernel_rfl
def recFlat (l : List WRec) : List Value := flat l.length 3 fun i j => recCells (listW l i) j
set_option maxHeartbeats 400000 in
theorem rCopyRecords_any (l : List WRec) (A : Option Addr) (c : Nat) (w : World) (h : ArrW w A l c) (hn : l.length ≤ 1000000) :
    Calls Try.prog 20 #[.slice A l.length c] w fun e w' => ∃ v, e = .returned v ∧ w'.ownsRow w.heap.size 39 3 v l.length (recFlat l) ∧ Below w.heap.size w w' := by
  obtain ⟨i0, hi, hz0, hz1, hz2⟩ := info_parts Try.infoDRec
  go_enter Try.func20, Try.ntmps20
  go_wp2_with (at_builtin
               refine wpList_copy rfl (.tmp 3) (.tmp 4) 24 rfl 39 i0 (.agg #[.string ⟨#[]⟩, .int .i64 0, .int .i64 0]) 3 32 Try.underlying24 hi hz0 hz1 hz2 rfl (by decide) w.heap.size w.heap.size rfl (Nat.le_refl _) (heap_alloc_new _ _) A l.length c _ rfl (Arr.keep (Keep.alloc w _) h) (by intro i j; unfold recCells; split <;> rfl) (by unfold maxLen; omega) (by omega) ?_
               intro A1 c1 w1 ha hb)
  go_ret
  exact ⟨_, rfl, ha, ((Below.refl _ _).alloc (Nat.le_refl _) _).trans hb⟩
end Go.Proofs.Ytolicafhbeiciaa

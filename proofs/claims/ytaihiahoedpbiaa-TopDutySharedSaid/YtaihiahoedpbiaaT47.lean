/- Lists joined: slices.Grow and slices.Concat of numbers. Condition: at most ten lists of a hundred thousand numbers each. -/
import Derived.Shelf.Spec.SlicesGrow
import Derived.Test.YtaihiahoedpbiaaT43
import Derived.Test.YtaihiahoedpbiaaT9
import Derived.Test.YtaihiahoedpbiaaD1
import Derived.Deep.AppendLies
namespace Go.Proofs.Ytaihiahoedpbiaa
open Go.RowKit Fs Go.Shelf

/-! ### appended from an array -/
theorem appendNoneA {P : Program} {w : World} (t ty e : TypeId) (i : TypeInfo) (ht : P.underlying t = some (.slice e)) (hi : P.info? e = some i) (c : Nat) :
    (Builtin.append_ #[t, t] ty #[.slice none 0 0, .slice none 0 c]).run P w = .ok (.slice none 0 0) w := by
  simp [Builtin.append_, run_underlying ht, sizeOf, typeInfo, hi, Builtin.lenOf, Builtin.firstCells]
theorem appendNoneB {P : Program} {w : World} (t ty e : TypeId) (i : TypeInfo) (ht : P.underlying t = some (.slice e)) (hi : P.info? e = some i) (g n cap c : Nat) (h : n ≤ cap) :
    (Builtin.append_ #[t, t] ty #[.slice (some ⟨g, 0, none⟩) n cap, .slice none 0 c]).run P w = .ok (.slice (some ⟨g, 0, none⟩) n cap) w := by
  simp [Builtin.append_, run_underlying ht, sizeOf, typeInfo, hi, Builtin.lenOf, Builtin.firstCells, storeCells, h]
theorem wpList_join {P : Program} {w : World} {ops : Array Oper} {rest : List Oper} {o : Oper} {a : Act} {Q : Exit → Act → World → Prop} (hgd : o.guard = none) (s x : Operand) (t : TypeId)
    (ho : o.op = .call { callee := .builtin .append, args := #[s, x], argTypes := #[t, t] })
    (e : TypeId) (i : TypeInfo) (z : Value) (size bytes : Nat) (ht : P.underlying t = some (.slice e)) (hi : P.info? e = some i) (hz : i.zero = some z)
    (hsize : i.size = size) (hby : i.bytes = bytes) (hzs : z.cells.size = size) (hsz : 0 < size)
    (base : Nat) (v : Value) (n : Nat) (xs : List Value) (hs : a.eval s = v) (hown : w.ownsRow base e size v n xs) (hbase : base ≤ w.heap.size)
    (A : Option Addr) (m c : Nat) (C : Nat → Nat → Value) (hx : a.eval x = .slice A m c) (hA : Arr w A m c size C) (h1 : ∀ i j, (C i j).oneCell' = true)
    (h63 : n + m ≤ maxLen) (hbytes : (n + m) * bytes ≤ 140737488355328)
    (h : ∀ v' w', w'.ownsRow base e size v' (n + m) (xs ++ flat m size C) → Below base w w' → wpList P ops Q rest (a.put o.dst v') w') : wpList P ops Q (o :: rest) a w := by
  cases A with
  | none =>
    have hm : m = 0 := by
      rcases Nat.eq_zero_or_pos m with h | h
      · exact h
      · obtain ⟨_, _, he, -⟩ := hA.2.2 h
        cases he
    subst hm
    have hr : (Builtin.append_ #[t, t] o.type #[v, .slice none 0 c]).run P w = .ok v w := by
      rcases hown.2 with ⟨hv, -⟩ | ⟨g, cap, cur, hv, -, -, hc, -⟩
      · rw [hv]; exact appendNoneA t o.type e i ht hi c
      · rw [hv]; exact appendNoneB t o.type e i ht hi g n cap c hc
    refine wpList_plain hgd fun K hK => ?_
    unfold Oper.wp execOp
    simp only [ho, resolve, invoke, builtin, Sem.run_bind, Sem.run_pure, Result.andThen_ok, List.map_toArray, List.map_cons, List.map_nil, hs, hx, hr]
    exact hK _ _ (h _ w (by simpa [flat] using hown) (Below.refl _ _))
  | some ad =>
    refine wpList_append_own_at w hgd s x t ho base e i z size bytes ht hi hz hsize hby hzs hsz _ n xs hs hown ad m c (flat m size C) hx (by simp [flat]) ?_ ?_ h63 hbytes hbase ?_
    · intro j u hu
      have hj : j < m * size := by
        rcases Nat.lt_or_ge j (m * size) with h | h
        · exact h
        · rw [List.getElem?_eq_none (by simpa [flat] using h)] at hu; cases hu
      rw [flat_get _ hj] at hu
      injection hu with hu
      have hm : 0 < m := Nat.pos_of_ne_zero fun h => by rw [h, Nat.zero_mul] at hj; omega
      obtain ⟨b, o', he, hc⟩ := hA.2.2 hm
      injection he with he
      subst he
      have hq := hc (j / size) (j % size) (Nat.div_lt_of_lt_mul (by rw [Nat.mul_comm]; exact hj)) (Nat.mod_lt _ hsz)
      have e1 : o' + j / size * size + j % size = o' + j := by
        have := Nat.div_add_mod j size
        rw [Nat.mul_comm] at this
        omega
      rw [e1, hu] at hq
      unfold Addr.add
      by_cases h0 : j = 0
      · subst h0; simpa using hq
      · rw [if_neg h0]; exact hq
    · intro u hu
      unfold flat at hu
      simp only [List.mem_map] at hu
      obtain ⟨t, -, rfl⟩ := hu
      exact h1 _ _
    · intro v' w' h2 h3 _ _
      exact h v' w' h2 ((Below.refl _ _).grown h3 hbase (fun k hk => (hown.lt k hk).1))
theorem flat_ints (l : List Int) : flat l.length 1 (fun i _ => .int .i64 (listI l i)) = intVals l := by
  refine List.ext_getElem? fun k => ?_
  by_cases hk : k < l.length
  · rw [flat_get _ (by omega), Nat.div_one]
    have := intVals_get hk []
    rw [List.append_nil] at this
    rw [this]
  · rw [List.getElem?_eq_none (by simp [flat]; omega), List.getElem?_eq_none (by simp [intVals]; omega)]

/-! ### lists of lists -/
def Fs.listL (ls : List (List Int)) (i : Nat) : List Int := ls.getD i []
def Fs.flatTo (ls : List (List Int)) : Nat → List Int
  | 0 => []
  | k + 1 => flatTo ls k ++ listL ls k
/-- The row A reads as lists that lie at a. -/
def ArrL (w : World) (A : Option Addr) (ls : List (List Int)) (c : Nat) (a : DA) : Prop :=
  Arr w A ls.length c 1 (fun i _ => .slice (a.p i) (listL ls i).length (a.pc i)) ∧ ∀ i, i < ls.length → ArrI w (a.p i) (listL ls i) (a.pc i)
theorem ArrL.keep {w w' : World} (k : Keep w w') {A : Option Addr} {ls : List (List Int)} {c : Nat} {a : DA} (h : ArrL w A ls c a) : ArrL w' A ls c a := ⟨Arr.keep k h.1, fun i hi => (h.2 i hi).keep k⟩
theorem ArrL.at_ {w : World} {A : Option Addr} {ls : List (List Int)} {c : Nat} {a : DA} (h : ArrL w A ls c a) {k : Nat} (hk : k < ls.length) : ∃ b o, A = some ⟨b, o, none⟩ ∧ w.cell? ⟨b, o + k, none⟩ = some (.slice (a.p k) (listL ls k).length (a.pc k)) := by
  obtain ⟨b, o, e, hc⟩ := h.1.at_ hk
  have := hc 0 (by omega)
  exact ⟨b, o, e, by simpa using this⟩
theorem Fs.flatTo_len {ls : List (List Int)} {B : Nat} (h : ∀ i, i < ls.length → (listL ls i).length ≤ B) : ∀ k, k ≤ ls.length → (flatTo ls k).length ≤ B * k
  | 0, _ => Nat.zero_le _
  | k + 1, hk => by
    have h1 := flatTo_len h k (by omega)
    have h2 := h k (by omega)
    rw [flatTo, List.length_append, Nat.mul_succ]
    omega

end Go.Proofs.Ytaihiahoedpbiaa
/- The reference's Broken; copies of records. Condition: records are in order, of small numbers. -/
namespace Go.Proofs.Ytaihiahoedpbiaa
open Go.RowKit Fs

set_option maxHeartbeats 3200000 in
set_option maxRecDepth 100000 in
theorem rBroken_any (R : DRules) (l : List WRec) (A : Option Addr) (c : Nat) (w : World) (h : ArrW w A l c) (hF : Fit l) :
    Calls Try.prog 30 #[drulesV R, .slice A l.length c] w fun e w' => e = .returned (.agg #[.int .i64 (brokenRule R l), .int .i64 (brokenRec R l : Nat)]) ∧ Below w.heap.size w w' := by
  have b1 := h.le.1
  have b2 := h.le.2
  have HA := Lib.hid h
  clear h
  have HFT := Lib.hid hF
  clear hF
  have BR := Lib.hid ((RulesIn.new w R 23).keep (Keep.alloc _ (.cells #[.int .i64 0, .int .i64 0] 47)))
  have MK := Lib.hid (show MarkAt ((w.alloc (.cells #[.int .i64 R.brk, .int .i64 R.rest, .int .i64 R.stint, .int .i64 R.shift, .int .i64 R.week] 23)).alloc (.cells #[.int .i64 0, .int .i64 0] 47)) (w.heap.size + 1) from ⟨cellNew1 _ _ _ _ 0, cellNew1 _ _ _ _ 1, frozenNew1 _ _ _ _ 0, frozenNew1 _ _ _ _ 1⟩)
  go_enter Try.func30, Try.ntmps30
  go_upto_region 1 with fail
  generalize hwb : (w.alloc _).alloc _ = wb at *
  have HW : Hid (Below w.heap.size w wb) := by rw [← hwb]; exact Lib.hid (((Below.refl _ _).alloc (Nat.le_refl _) _).alloc (by simp) _)
  clear hwb
  have hgb : w.heap.size + 1 < wb.heap.size := MK.out.lt
  go_wp2_with fail
  go_loopw [5] (fun i wr => ∃ k : Nat, k ≤ l.length ∧ i = .int .i64 k ∧ Hid (∀ j, j < k → brokenAt R l j = 0) ∧ Hid (Below wb.heap.size wb wr)) (fun i _ => l.length - (intOf i).toNat)
  case atStart => exact ⟨0, Nat.zero_le _, rfl, Lib.hid fun j hj => absurd hj (Nat.not_lt_zero _), Lib.hid (Below.refl _ _)⟩
  case round =>
    obtain ⟨k, hk, rfl, Hn, HB⟩ := hrel
    by_cases hlt : k < l.length
    · have hkn : (k : Int) < (l.length : Int) := by omega
      obtain ⟨a0, a1, a2, a3, a4⟩ := BR.out.keep (Keep.below HB.out)
      go_wp2_with fail
      refine (rBrokenAt_any R l A c k _ ((HA.out.keep (Keep.below HW.out)).keep (Keep.below HB.out)) HFT.out hlt).mono ?_
      rintro e' w1 ⟨rfl, hb1⟩
      have HB1 := Lib.hid (HB.out.trans (hb1.mono HB.out.size))
      clear hb1 a0 a1 a2 a3 a4
      by_cases he : brokenAt R l k = 0
      · have HE := Lib.hid he
        rw [he]
        clear he
        go_wp2_with fail
        go_roundw
        case rel =>
          exact ⟨k + 1, by omega, by go_num, Lib.hid fun j hj => by
            by_cases e : j = k
            · subst e; exact HE.out
            · exact Hn.out j (by omega), HB1⟩
        case measure => simp [intOf]; omega
      · obtain ⟨F1, F2⟩ := fst_hit hlt Hn.out he
        have G1 := Lib.hid (show brokenRule R l = brokenAt R l k from F1)
        have G2 := Lib.hid (show brokenRec R l = k from F2)
        have e2 : (brokenAt R l k != 0) = true := by simpa using he
        clear F1 F2 he
        obtain ⟨m0, m1, mf0, mf1⟩ := MK.out.below HB1.out hgb
        go_wp2_with fail
        refine bodyPost_ret (v := .agg #[.int .i64 (brokenAt R l k), .int .i64 k]) (by simp [results, Try.results30, go_sem, m0, m1]) rfl ⟨by rw [G1.out, G2.out], ?_⟩
        exact ((HW.out.trans (HB1.out.mono HW.out.size)).setCell (p := ⟨w.heap.size + 1, 0, none⟩) (by dsimp only; omega) _).setCell (p := ⟨w.heap.size + 1, 1, none⟩) (by dsimp only; omega) _
    · have hkl : k = l.length := by omega
      subst hkl
      have G1 := Lib.hid (show brokenRule R l = 0 from fst_none Hn.out)
      have G2 := Lib.hid (show brokenRec R l = 0 from idx_none Hn.out)
      obtain ⟨m0, m1, mf0, mf1⟩ := MK.out.below HB.out hgb
      go_wp2_with fail
      refine bodyPost_ret (v := .agg #[.int .i64 0, .int .i64 0]) (by simp [results, Try.results30, go_sem, m0, m1]) rfl ⟨by rw [G1.out, G2.out]; rfl, ?_⟩
      exact ((HW.out.trans (HB.out.mono HW.out.size)).setCell (p := ⟨w.heap.size + 1, 0, none⟩) (by dsimp only; omega) _).setCell (p := ⟨w.heap.size + 1, 1, none⟩) (by dsimp only; omega) _

theorem Try.infoDRec : (Try.prog.info? 39).map (fun i => (i.zero, i.size, i.bytes)) = some (some (.agg #[.string ⟨#[]⟩, .int .i64 0, .int .i64 0]), 3, 32) := by kernel_rfl
def recFlat (l : List WRec) : List Value := flat l.length 3 fun i j => recCells (listW l i) j
set_option maxHeartbeats 400000 in
theorem rCopyRecords_any (l : List WRec) (A : Option Addr) (c : Nat) (w : World) (h : ArrW w A l c) (hn : l.length ≤ 1000000) :
    Calls Try.prog 20 #[.slice A l.length c] w fun e w' => ∃ v, e = .returned v ∧ w'.ownsRow w.heap.size 39 3 v l.length (recFlat l) ∧ Below w.heap.size w w' := by
  obtain ⟨i0, hi, hz0, hz1, hz2⟩ := info_parts Try.infoDRec
  go_enter Try.func20, Try.ntmps20
  go_wp2_with (at_builtin
               refine wpList_copy rfl (.tmp 3) (.tmp 4) 24 rfl 39 i0 (.agg #[.string ⟨#[]⟩, .int .i64 0, .int .i64 0]) 3 32 Try.underlying24 hi hz0 hz1 hz2 rfl (by decide) w.heap.size w.heap.size rfl (Nat.le_refl _) (heap_alloc_new _ _) A l.length c _ rfl (Arr.keep (Keep.alloc w _) h) (by intro i j; unfold recCells; split <;> rfl) (by unfold maxLen; omega) (by omega) ?_
               intro A1 c1 w1 ha hb)
  go_ret
  exact ⟨_, rfl, ha, ((Below.refl _ _).alloc (Nat.le_refl _) _).trans hb⟩
end Go.Proofs.Ytaihiahoedpbiaa
/- The reference's Breaks. Condition: records are right, the trip's numbers within bounds, it begins behind all records. -/
namespace Go.Proofs.Ytaihiahoedpbiaa
open Go.RowKit Fs

theorem flat_join {n m size : Nat} {C D E : Nat → Nat → Value} (h0 : 0 < size) (h1 : ∀ i j, i < n → j < size → E i j = C i j) (h2 : ∀ i j, i < m → j < size → E (n + i) j = D i j) : flat n size C ++ flat m size D = flat (n + m) size E := by
  apply List.ext_getElem?
  intro t
  have l1 : (flat n size C).length = n * size := by simp [flat]
  have l2 : (flat m size D).length = m * size := by simp [flat]
  have l3 : (flat (n + m) size E).length = (n + m) * size := by simp [flat]
  have l4 : (n + m) * size = n * size + m * size := Nat.add_mul _ _ _
  by_cases a : t < n * size
  · rw [List.getElem?_append_left (by rw [l1]; exact a), flat_get t a, flat_get t (by omega), h1 _ _ (Nat.div_lt_of_lt_mul (by rw [Nat.mul_comm]; exact a)) (Nat.mod_lt _ h0)]
  · obtain ⟨s, rfl⟩ : ∃ s, t = n * size + s := ⟨t - n * size, by omega⟩
    rw [List.getElem?_append_right (by rw [l1]; omega), l1, Nat.add_sub_cancel_left]
    by_cases b : s < m * size
    · rw [flat_get s b, flat_get _ (by omega), Nat.mul_comm n size, Nat.mul_add_div h0, Nat.mul_add_mod, h2 _ _ (Nat.div_lt_of_lt_mul (by rw [Nat.mul_comm]; exact b)) (Nat.mod_lt _ h0)]
    · rw [List.getElem?_eq_none (by omega), List.getElem?_eq_none (by omega)]
theorem own_low {w : World} {B B' : Nat} {e : TypeId} {size n : Nat} {v : Value} {xs : List Value} (h : w.ownsRow B e size v n xs) (hB : B' ≤ B) : w.ownsRow B' e size v n xs := by
  rcases h with ⟨hl, ⟨hv, hn⟩ | ⟨g, cap, cur, hv, hb, hr⟩⟩
  · exact ⟨hl, .inl ⟨hv, hn⟩⟩
  · exact ⟨hl, .inr ⟨g, cap, cur, hv, Nat.le_trans hB hb, hr⟩⟩
theorem news_of_arr {w : World} {ad : Addr} {m c size : Nat} {C : Nat → Nat → Value} (hsz : 0 < size) (hA : Arr w (some ad) m c size C) : ∀ j u, (flat m size C)[j]? = some u → w.cell? (ad.add j) = some u := by
  intro j u hu
  have hj : j < m * size := by
    rcases Nat.lt_or_ge j (m * size) with h | h
    · exact h
    · rw [List.getElem?_eq_none (by simpa [flat] using h)] at hu; cases hu
  rw [flat_get _ hj] at hu
  injection hu with hu
  have hm : 0 < m := Nat.pos_of_ne_zero fun h => by rw [h, Nat.zero_mul] at hj; omega
  obtain ⟨b, o', he, hc⟩ := hA.2.2 hm
  injection he with he
  subst he
  have hq := hc (j / size) (j % size) (Nat.div_lt_of_lt_mul (by rw [Nat.mul_comm]; exact hj)) (Nat.mod_lt _ hsz)
  have e1 : o' + j / size * size + j % size = o' + j := by
    have := Nat.div_add_mod j size
    rw [Nat.mul_comm] at this
    omega
  rw [e1, hu] at hq
  unfold Addr.add
  by_cases h0 : j = 0
  · subst h0; simpa using hq
  · rw [if_neg h0]; exact hq
theorem recCells_one (x : WRec) : ∀ u ∈ flat 1 3 (fun _ j => recCells x j), u.oneCell' = true := by
  intro u hu
  unfold flat at hu
  simp only [List.mem_map] at hu
  obtain ⟨t, -, rfl⟩ := hu
  unfold recCells
  split <;> rfl
theorem oneRec (w : World) (s n : Int) : Arr (w.alloc (.cells #[.string ⟨#[120]⟩, .int .i64 s, .int .i64 (s + n)] 39)) (some ⟨w.heap.size, 0, none⟩) 1 1 3 (fun _ j => recCells ⟨xName, s, s + n⟩ j) := by
  refine ⟨Nat.le_refl _, by omega, fun _ => ⟨w.heap.size, 0, rfl, fun i j hi hj => ?_⟩⟩
  obtain rfl : i = 0 := by omega
  obtain rfl | rfl | rfl : j = 0 ∨ j = 1 ∨ j = 2 := by omega
  · exact cellNew _ _ _ 0
  · exact cellNew _ _ _ 1
  · exact cellNew _ _ _ 2
theorem withFlat {l W : List WRec} {s n : Int} (h : W = withTrip l s n) : recFlat l ++ flat 1 3 (fun _ j => recCells ⟨xName, s, s + n⟩ j) = flat (l.length + 1) 3 fun i j => recCells (listW W i) j := by
  subst h
  refine flat_join (by decide) (fun i j hi hj => ?_) (fun i j hi hj => ?_)
  · rw [show listW (withTrip l s n) i = listW l i from listW_left hi]
  · obtain rfl : i = 0 := by omega
    rw [Nat.add_zero, show listW (withTrip l s n) l.length = ⟨xName, s, s + n⟩ from listW_last l _]
/-- A trip that begins behind all records, of small numbers. -/
structure Fs.Behind (l : List WRec) (t : DTrip) : Prop where
  len : l.length < 40
  from0 : 0 ≤ t.start
  from1 : t.start ≤ 8640000000
  next0 : -1 ≤ t.next
  next1 : t.next ≤ 8640000000
  last : 0 < l.length → (listW l (l.length - 1)).fin ≤ t.start

set_option linter.unusedSimpArgs false in
set_option maxHeartbeats 12800000 in
set_option maxRecDepth 100000 in
theorem rBreaks_any (R : DRules) (l : List WRec) (t : DTrip) (len : Int) (A : Option Addr) (c : Nat) (w : World) (h : ArrW w A l c) (hR : Right l) (hT : Behind l t) (hn : 0 ≤ len ∧ len ≤ 200000) :
    Calls Try.prog 88 #[drulesV R, .slice A l.length c, dtripV t, .int .i64 len] w fun e w' => e = .returned (.int .i64 (breaks R l t len)) ∧ Below w.heap.size w w' := by
  have b1 := h.le.1
  have b2 := h.le.2
  have HA := Lib.hid h
  clear h
  have hl40 := hT.len
  have hs0 := hT.from0
  have hs1 := hT.from1
  have hx0 := hT.next0
  have hx1 := hT.next1
  obtain ⟨hn0, hn1⟩ := hn
  obtain ⟨i0, hi, hz0, hz1, hz2⟩ := info_parts Try.infoDRec
  have BR := Lib.hid ((RulesIn.new w R 23).keep (Keep.alloc _ (.cells #[.int .i64 t.start, .int .i64 t.lo, .int .i64 t.hi, .int .i64 t.next] 54)))
  have BT := Lib.hid (show TripIn ((w.alloc (.cells #[.int .i64 R.brk, .int .i64 R.rest, .int .i64 R.stint, .int .i64 R.shift, .int .i64 R.week] 23)).alloc (.cells #[.int .i64 t.start, .int .i64 t.lo, .int .i64 t.hi, .int .i64 t.next] 54)) (w.heap.size + 1) t from ⟨cellNew1 _ _ _ _ 0, cellNew1 _ _ _ _ 1, cellNew1 _ _ _ _ 2, cellNew1 _ _ _ _ 3⟩)
  go_enter Try.func88, Try.ntmps88
  go_upto_region 1 with fail
  generalize hwb : (w.alloc _).alloc _ = wb at *
  have HW : Hid (Below w.heap.size w wb) := by rw [← hwb]; exact Lib.hid (((Below.refl _ _).alloc (Nat.le_refl _) _).alloc (by simp) _)
  clear hwb
  by_cases hp : 0 < len
  · obtain ⟨W, hW'⟩ : ∃ W, W = withTrip l t.start len := ⟨_, rfl⟩
    have hW := Lib.hid hW'
    have hWl : W.length = l.length + 1 := by rw [hW']; simp [withTrip]
    have HFW := Lib.hid (show Fit W by rw [hW']; exact hR.trip hs0 hs1 hp hn1 hT.last (by omega))
    clear hW'
    have KA : Hid (∀ w', Below wb.heap.size wb w' → ArrW w' A l c) := Lib.hid fun w' hw => HA.out.keep (Keep.below (HW.out.trans (hw.mono HW.out.size)))
    obtain ⟨t0, t1, t2, t3⟩ := BT.out
    have hw2 : IntKind.i64.wrap (t.start + len) = t.start + len := by rw [IntKind.wrap_i64]; omega
    have d1 : decide (len > 0) = true := decide_eq_true hp
    have d2 : decide (0 < len) = true := decide_eq_true hp
    go_wp2_with fail
    go_cut [9] from 13 to 23 (fun s wx => ∃ A9 c9, s = .slice A9 W.length c9 ∧ Hid (ArrW wx A9 W c9) ∧ Hid (Below wb.heap.size wb wx))
    case first =>
      have HBd : Hid (Below wb.heap.size wb wb.drew) := Lib.hid (Below.refl _ _).drew
      have MK : Hid (∀ w', Below wb.heap.size wb w' → w'.cell? ⟨w.heap.size + 1, 0, none⟩ = some (.int .i64 t.start) ∧ Hid (Below wb.heap.size wb w')) :=
        Lib.hid fun w' hw => ⟨Keep.below hw _ _ t0, Lib.hid hw⟩
      refine wp_region_held_drew (S := fun w' => w'.cell? ⟨w.heap.size + 1, 0, none⟩ = some (.int .i64 t.start) ∧ Hid (Below wb.heap.size wb w')) (by kernel_rfl) (MK.out _ HBd.out) (fun hHeld => ?_)
      refine wpAnyH_take (i := 0) (v := ?val0x1) rfl (by kernel_rfl) (by kernel_rfl) (by kernel_rfl) (fun _ _ _ h => h) (Or.inl ⟨by rfl, fun w9 hS9 => ?yields0x1⟩) (by assumption) ?later0x1
      case yields0x1 =>
        dsimp only at hS9
        go_simp
        try with_reducible rfl
      try simp only [Act.put, List.getElem_toArray, List.getElem_cons_succ, List.getElem_cons_zero, List.setIfInBounds_toArray, List.set_cons_zero, List.set_cons_succ]
      refine wpAnyH_take (i := 2) (v := ?val2x2) rfl (by kernel_rfl) (by kernel_rfl) (by kernel_rfl) (fun _ _ _ h => h) (Or.inl ⟨by rfl, fun w9 hS9 => ?yields2x2⟩) (by assumption) ?later2x2
      case yields2x2 =>
        dsimp only at hS9
        go_simp
        try with_reducible rfl
      try simp only [Act.put, List.getElem_toArray, List.getElem_cons_succ, List.getElem_cons_zero, List.setIfInBounds_toArray, List.set_cons_zero, List.set_cons_succ]
      refine wpAnyH_take (i := 3) (v := ?val3x3) rfl (by kernel_rfl) (by kernel_rfl) (by kernel_rfl) (fun _ _ _ h => h) (Or.inl ⟨by rfl, fun w9 hS9 => ?yields3x3⟩) (by assumption) ?later3x3
      case yields3x3 =>
        dsimp only at hS9
        go_simp
        try with_reducible rfl
      try simp only [Act.put, List.getElem_toArray, List.getElem_cons_succ, List.getElem_cons_zero, List.setIfInBounds_toArray, List.set_cons_zero, List.set_cons_succ]
      refine wpAnyH_take (i := 4) (v := ?val4x4) rfl (by kernel_rfl) (by kernel_rfl) (by kernel_rfl) (fun _ _ _ h => h) (Or.inl ⟨by rfl, fun w9 hS9 => ?yields4x4⟩) (by assumption) ?later4x4
      case yields4x4 =>
        dsimp only at hS9
        go_simp
        try with_reducible rfl
      try simp only [Act.put, List.getElem_toArray, List.getElem_cons_succ, List.getElem_cons_zero, List.setIfInBounds_toArray, List.set_cons_zero, List.set_cons_succ]
      refine wpAnyH_take (i := 5) (v := ?val5x5) rfl (by kernel_rfl) (by kernel_rfl) (by kernel_rfl) (fun _ _ _ h => h) (Or.inl ⟨by rfl, fun w9 hS9 => ?yields5x5⟩) (by assumption) ?later5x5
      case yields5x5 =>
        dsimp only at hS9
        go_simp
        try with_reducible rfl
      try simp only [Act.put, List.getElem_toArray, List.getElem_cons_succ, List.getElem_cons_zero, List.setIfInBounds_toArray, List.set_cons_zero, List.set_cons_succ]
      refine wpAnyH_take (i := 6) (v := ?val6x6) rfl (by kernel_rfl) (by kernel_rfl) (by kernel_rfl) (fun _ _ _ h => h) (Or.inl ⟨by rfl, fun w9 hS9 => ?yields6x6⟩) (by assumption) ?later6x6
      case yields6x6 =>
        dsimp only at hS9
        go_simp
        try with_reducible rfl
      try simp only [Act.put, List.getElem_toArray, List.getElem_cons_succ, List.getElem_cons_zero, List.setIfInBounds_toArray, List.set_cons_zero, List.set_cons_succ]
      refine wpAnyH_take (i := 7) (v := ?val7x7) rfl (by kernel_rfl) (by kernel_rfl) (by kernel_rfl) (fun _ _ _ h => h) (Or.inl ⟨by rfl, fun w9 hS9 => ?yields7x7⟩) (by assumption) ?later7x7
      case yields7x7 =>
        dsimp only at hS9
        go_simp
        try with_reducible rfl
      try simp only [Act.put, List.getElem_toArray, List.getElem_cons_succ, List.getElem_cons_zero, List.setIfInBounds_toArray, List.set_cons_zero, List.set_cons_succ]
      refine wpAnyH_take (i := 8) (v := ?val8x8) rfl (by kernel_rfl) (by kernel_rfl) (by kernel_rfl) (fun _ _ _ h => h) (Or.inl ⟨by rfl, fun w9 hS9 => ?yields8x8⟩) (by assumption) ?later8x8
      case yields8x8 =>
        dsimp only at hS9
        go_simp
        try with_reducible rfl
      try simp only [Act.put, List.getElem_toArray, List.getElem_cons_succ, List.getElem_cons_zero, List.setIfInBounds_toArray, List.set_cons_zero, List.set_cons_succ]
      generalize hyy : World.drew wb = y0 at *
      clear hyy
      refine wpAnyH_ready (rs := [1, 9]) (by kernel_rfl) (by simp) ?_
      refine AllReadyH.cons rfl (fun K hK => ?_) (AllReadyH.cons rfl (fun K hK => ?_) (AllReadyH.nil))
      · go_simp
        obtain ⟨-, HBX⟩ := hHeld
        go_at_call 20
        refine (rCopyRecords_any l A c _ (KA.out _ HBX.out) (by omega)).mono ?_
        rintro e' y1 ⟨vc, rfl, ho, hb1⟩
        have HO := Lib.hid (own_low ho HBX.out.size)
        go_wp2_with fail
        refine hK.out _ _ (MK.out _ (HBX.out.trans (hb1.mono HBX.out.size))) (fun hHeld => ?_)
        try simp only [Act.put, List.getElem_toArray, List.getElem_cons_succ, List.getElem_cons_zero, List.setIfInBounds_toArray, List.set_cons_zero, List.set_cons_succ]
        clear ho hb1 HBX hK K
        refine wpAnyH_ready (rs := [9]) (by kernel_rfl) (by simp) ?_
        refine AllReadyH.cons rfl (fun K hK => ?_) (AllReadyH.nil)
        · go_simp
          obtain ⟨-, HBX⟩ := hHeld
          have HL := Lib.hid (oneRec y1 t.start len)
          have HO := Lib.hid (below_of_own HO.out ((Below.refl _ _).alloc (Nat.le_refl _) (.cells #[.string ⟨#[120]⟩, .int .i64 t.start, .int .i64 (t.start + len)] 39)))
          refine hK.out _ _ (MK.out _ (HBX.out.alloc HBX.out.size _)) (fun hHeld => ?_)
          try simp only [Act.put, List.getElem_toArray, List.getElem_cons_succ, List.getElem_cons_zero, List.setIfInBounds_toArray, List.set_cons_zero, List.set_cons_succ]
          clear HBX hK K
          generalize hyy : World.alloc y1 _ = y2 at *
          clear hyy
          refine wpAnyH_ready (rs := [10]) (by kernel_rfl) (by simp) ?_
          refine AllReadyH.cons rfl (fun K hK => ?_) AllReadyH.nil
          obtain ⟨-, HBX⟩ := hHeld
          refine step_append_lies _ rfl (.tmp 14) (.tmp 22) 24 rfl wb.heap.size 39 i0 _ 3 32 Try.underlying24 hi hz0 hz1 hz2 rfl (by decide) _ l.length _ rfl HO.out _ 1 1 (flat 1 3 fun _ j => recCells ⟨xName, t.start, t.start + len⟩ j) rfl (by simp [flat]) (news_of_arr (by decide) HL.out) (recCells_one _) (by decide) (by unfold maxLen; omega) (by omega) HBX.out.size _ rfl ?_
          rintro g9 c9 y9 ho9 hg9 - -
          have hb9 := (Below.refl _ _).grown hg9 HBX.out.size (fun k hk => (HO.out.lt k hk).1)
          rw [withFlat hW.out] at ho9
          have H9 := Lib.hid (own_arrN ho9)
          refine hK.out _ _ (MK.out _ (HBX.out.trans hb9)) (fun hHeld => ?_)
          try simp only [Act.put, List.getElem_toArray, List.getElem_cons_succ, List.getElem_cons_zero, List.setIfInBounds_toArray, List.set_cons_zero, List.set_cons_succ]
          clear ho9 hb9 hg9 HBX hK K
          refine wpAnyH_take (i := 11) (v := ?val11x9) rfl (by kernel_rfl) (by kernel_rfl) (by kernel_rfl) (fun _ _ _ h => h) (Or.inl ⟨by rfl, fun w9 hS9 => ?yields11x9⟩) (by assumption) ?later11x9
          case yields11x9 =>
            dsimp only at hS9
            go_simp
            try with_reducible rfl
          try simp only [Act.put, List.getElem_toArray, List.getElem_cons_succ, List.getElem_cons_zero, List.setIfInBounds_toArray, List.set_cons_zero, List.set_cons_succ]
          refine wpAnyH_done (by kernel_rfl) ?_ _
          obtain ⟨-, hbb⟩ := hHeld
          go_wp2_with fail
          go_meet
          exact ⟨_, c9, by rw [hWl], Lib.hid (show Arr _ _ W.length c9 3 _ by rw [hWl]; exact H9.out), hbb⟩
      · go_simp
        obtain ⟨-, HBX⟩ := hHeld
        have HL := Lib.hid (oneRec y0 t.start len)
        refine hK.out _ _ (MK.out _ (HBX.out.alloc HBX.out.size _)) (fun hHeld => ?_)
        try simp only [Act.put, List.getElem_toArray, List.getElem_cons_succ, List.getElem_cons_zero, List.setIfInBounds_toArray, List.set_cons_zero, List.set_cons_succ]
        clear HBX hK K
        generalize hyy : World.alloc y0 _ = y3 at *
        clear hyy
        refine wpAnyH_ready (rs := [1]) (by kernel_rfl) (by simp) ?_
        refine AllReadyH.cons rfl (fun K hK => ?_) (AllReadyH.nil)
        · go_simp
          obtain ⟨-, HBX⟩ := hHeld
          go_at_call 20
          refine (rCopyRecords_any l A c _ (KA.out _ HBX.out) (by omega)).mono ?_
          rintro e' y4 ⟨vc, rfl, ho, hb1⟩
          have HO := Lib.hid (own_low ho HBX.out.size)
          have HL := Lib.hid (Arr.keep (Keep.below hb1) HL.out)
          go_wp2_with fail
          refine hK.out _ _ (MK.out _ (HBX.out.trans (hb1.mono HBX.out.size))) (fun hHeld => ?_)
          try simp only [Act.put, List.getElem_toArray, List.getElem_cons_succ, List.getElem_cons_zero, List.setIfInBounds_toArray, List.set_cons_zero, List.set_cons_succ]
          clear ho hb1 HBX hK K
          refine wpAnyH_ready (rs := [10]) (by kernel_rfl) (by simp) ?_
          refine AllReadyH.cons rfl (fun K hK => ?_) AllReadyH.nil
          obtain ⟨-, HBX⟩ := hHeld
          refine step_append_lies _ rfl (.tmp 14) (.tmp 22) 24 rfl wb.heap.size 39 i0 _ 3 32 Try.underlying24 hi hz0 hz1 hz2 rfl (by decide) _ l.length _ rfl HO.out _ 1 1 (flat 1 3 fun _ j => recCells ⟨xName, t.start, t.start + len⟩ j) rfl (by simp [flat]) (news_of_arr (by decide) HL.out) (recCells_one _) (by decide) (by unfold maxLen; omega) (by omega) HBX.out.size _ rfl ?_
          rintro g9 c9 y9 ho9 hg9 - -
          have hb9 := (Below.refl _ _).grown hg9 HBX.out.size (fun k hk => (HO.out.lt k hk).1)
          rw [withFlat hW.out] at ho9
          have H9 := Lib.hid (own_arrN ho9)
          refine hK.out _ _ (MK.out _ (HBX.out.trans hb9)) (fun hHeld => ?_)
          try simp only [Act.put, List.getElem_toArray, List.getElem_cons_succ, List.getElem_cons_zero, List.setIfInBounds_toArray, List.set_cons_zero, List.set_cons_succ]
          clear ho9 hb9 hg9 HBX hK K
          refine wpAnyH_take (i := 11) (v := ?val11x10) rfl (by kernel_rfl) (by kernel_rfl) (by kernel_rfl) (fun _ _ _ h => h) (Or.inl ⟨by rfl, fun w9 hS9 => ?yields11x10⟩) (by assumption) ?later11x10
          case yields11x10 =>
            dsimp only at hS9
            go_simp
            try with_reducible rfl
          try simp only [Act.put, List.getElem_toArray, List.getElem_cons_succ, List.getElem_cons_zero, List.setIfInBounds_toArray, List.set_cons_zero, List.set_cons_succ]
          refine wpAnyH_done (by kernel_rfl) ?_ _
          obtain ⟨-, hbb⟩ := hHeld
          go_wp2_with fail
          go_meet
          exact ⟨_, c9, by rw [hWl], Lib.hid (show Arr _ _ W.length c9 3 _ by rw [hWl]; exact H9.out), hbb⟩
    case rest =>
      obtain ⟨A9, c9, rfl, H9, HB⟩ := hcut
      have hw1 : IntKind.i64.wrap ((W.length : Int) - 1) = (l.length : Int) := by rw [IntKind.wrap_i64]; omega
      have hlW : l.length < W.length := by omega
      have hW41 : W.length ≤ 41 := by omega
      clear hWl hw2
      replace BR := Lib.hid (BR.out.keep (Keep.below HB.out))
      replace BT := Lib.hid (BT.out.keep (Keep.below HB.out))
      replace HW := Lib.hid (HW.out.trans (HB.out.mono HW.out.size))
      clear HB t0 t1 t2 t3
      obtain ⟨a0, a1, a2, a3, a4⟩ := BR.out
      go_wp2_with fail
      refine (rBrokenAt_any R W A9 c9 l.length _ H9.out HFW.out hlW).mono ?_
      rintro e' w1 ⟨rfl, hb1⟩
      replace BR := Lib.hid (BR.out.keep (Keep.below hb1))
      replace BT := Lib.hid (BT.out.keep (Keep.below hb1))
      replace HW := Lib.hid (HW.out.trans (hb1.mono HW.out.size))
      clear hb1 a0 a1 a2 a3 a4
      by_cases hk : brokenAt R W l.length = 0
      · have HK := Lib.hid (show ¬ (0 < len ∧ brokenAt R (withTrip l t.start len) l.length ≠ 0) from fun hh => hh.2 (by rw [← hW.out]; exact hk))
        rw [hk]
        clear hk
        have H6 : Hid (breaks R l t len = if t.next ≠ -1 ∧ t.next - (t.start + len) < R.rest then 4 else 0) := Lib.hid (if_neg HK.out)
        obtain ⟨a0, a1, a2, a3, a4⟩ := BR.out
        obtain ⟨t0, t1, t2, t3⟩ := BT.out
        by_cases hx : t.next = -1
        · have G := Lib.hid (H6.out.trans (if_neg (fun hh => hh.1 hx)))
          have e3 : (t.next == -1) = true := by simpa using hx
          have e4 : (t.next != -1) = false := by simpa using hx
          go_wp2_with fail
          go_ret
          exact ⟨ret_int G.out.symm, HW.out⟩
        · have e3 : (t.next == -1) = false := by simpa using hx
          have e4 : (t.next != -1) = true := by simpa using hx
          by_cases hr : t.next - (t.start + len) < R.rest
          · have G := Lib.hid (H6.out.trans (if_pos ⟨hx, hr⟩))
            have e5 : decide (t.next - (t.start + len) < R.rest) = true := decide_eq_true hr
            clear hx
            go_wp2_with fail
            go_ret
            exact ⟨ret_int G.out.symm, HW.out⟩
          · have G := Lib.hid (H6.out.trans (if_neg (fun hh => hr hh.2)))
            have e5 : decide (t.next - (t.start + len) < R.rest) = false := decide_eq_false hr
            clear hx
            go_wp2_with fail
            go_ret
            exact ⟨ret_int G.out.symm, HW.out⟩
      · have G := Lib.hid (show breaks R l t len = brokenAt R W l.length by rw [hW.out] at hk ⊢; exact if_pos ⟨hp, hk⟩)
        have e2 : (brokenAt R W l.length == 0) = false := by simpa using hk
        have e3 : (brokenAt R W l.length != 0) = true := by simpa using hk
        clear hk
        go_wp2_with fail
        go_ret
        exact ⟨ret_int G.out.symm, HW.out⟩
  · have d1 : decide (len > 0) = false := decide_eq_false hp
    have d2 : decide (0 < len) = false := decide_eq_false hp
    have H6 : Hid (breaks R l t len = if t.next ≠ -1 ∧ t.next - (t.start + len) < R.rest then 4 else 0) := Lib.hid (if_neg (fun hh => hp hh.1))
    obtain ⟨a0, a1, a2, a3, a4⟩ := BR.out
    obtain ⟨t0, t1, t2, t3⟩ := BT.out
    by_cases hx : t.next = -1
    · have G := Lib.hid (H6.out.trans (if_neg (fun hh => hh.1 hx)))
      have e3 : (t.next == -1) = true := by simpa using hx
      have e4 : (t.next != -1) = false := by simpa using hx
      go_wp2_with fail
      go_ret
      exact ⟨ret_int G.out.symm, HW.out⟩
    · have e3 : (t.next == -1) = false := by simpa using hx
      have e4 : (t.next != -1) = true := by simpa using hx
      by_cases hr : t.next - (t.start + len) < R.rest
      · have G := Lib.hid (H6.out.trans (if_pos ⟨hx, hr⟩))
        have e5 : decide (t.next - (t.start + len) < R.rest) = true := decide_eq_true hr
        clear hx
        go_wp2_with fail
        go_ret
        exact ⟨ret_int G.out.symm, HW.out⟩
      · have G := Lib.hid (H6.out.trans (if_neg (fun hh => hr hh.2)))
        have e5 : decide (t.next - (t.start + len) < R.rest) = false := decide_eq_false hr
        clear hx
        go_wp2_with fail
        go_ret
        exact ⟨ret_int G.out.symm, HW.out⟩

end Go.Proofs.Ytaihiahoedpbiaa

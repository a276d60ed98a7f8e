/- Lists joined: slices.Grow and slices.Concat of numbers. Condition: at most ten lists of a hundred thousand numbers each. -/
import Derived.Shelf.Spec.SlicesGrow
import Derived.Test.YtjmaankkbdpikaaT43
import Derived.Test.YtjmaankkbdpikaaT9
import Derived.Test.YtjmaankkbdpikaaD1
import Derived.Deep.AppendLies
namespace Go.Proofs.Ytjmaankkbdpikaa
open Go.RowKit Fs Go.Shelf

/-! ### appended from an array -/
theorem appendNoneA {P : Program} {w : World} (t ty e : TypeId) (i : TypeInfo) (ht : P.underlying t = some (.slice e)) (hi : P.info? e = some i) (c : Nat) :
    (Builtin.append_ #[t, t] ty #[.slice none 0 0, .slice none 0 c]).run P w = .ok (.slice none 0 0) w := by
  simp [Builtin.append_, run_underlying ht, sizeOf, typeInfo, hi, Builtin.lenOf, Builtin.firstCells]
theorem appendNoneB {P : Program} {w : World} (t ty e : TypeId) (i : TypeInfo) (ht : P.underlying t = some (.slice e)) (hi : P.info? e = some i) (g n cap c : Nat) (h : n ≤ cap) :
    (Builtin.append_ #[t, t] ty #[.slice (some ⟨g, 0, none⟩) n cap, .slice none 0 c]).run P w = .ok (.slice (some ⟨g, 0, none⟩) n cap) w := by
  simp [Builtin.append_, run_underlying ht, sizeOf, typeInfo, hi, Builtin.lenOf, Builtin.firstCells, storeCells, h]
theorem wpList_join {P : Program} {w : World} {ops : Array Oper} {rest : List Oper} {o : Oper} {a : Act} {Q : Exit → Act → World → Prop} (hgd : o.guard = none) (s x : Operand) (t : TypeId)
    (ho : o.op = .call { callee := .builtin .append, args := #[s, x], argTypes := #[t, t] })
    (e : TypeId) (i : TypeInfo) (z : Value) (size bytes : Nat) (ht : P.underlying t = some (.slice e)) (hi : P.info? e = some i) (hz : i.zero = some z)
    (hsize : i.size = size) (hby : i.bytes = bytes) (hzs : z.cells.size = size) (hsz : 0 < size)
    (base : Nat) (v : Value) (n : Nat) (xs : List Value) (hs : a.eval s = v) (hown : w.ownsRow base e size v n xs) (hbase : base ≤ w.heap.size)
    (A : Option Addr) (m c : Nat) (C : Nat → Nat → Value) (hx : a.eval x = .slice A m c) (hA : Arr w A m c size C) (h1 : ∀ i j, (C i j).oneCell' = true)
    (h63 : n + m ≤ maxLen) (hbytes : (n + m) * bytes ≤ 140737488355328)
    (h : ∀ v' w', w'.ownsRow base e size v' (n + m) (xs ++ flat m size C) → Below base w w' → wpList P ops Q rest (a.put o.dst v') w') : wpList P ops Q (o :: rest) a w := by
  cases A with
  | none =>
    have hm : m = 0 := by
      rcases Nat.eq_zero_or_pos m with h | h
      · exact h
      · obtain ⟨_, _, he, -⟩ := hA.2.2 h
        cases he
    subst hm
    have hr : (Builtin.append_ #[t, t] o.type #[v, .slice none 0 c]).run P w = .ok v w := by
      rcases hown.2 with ⟨hv, -⟩ | ⟨g, cap, cur, hv, -, -, hc, -⟩
      · rw [hv]; exact appendNoneA t o.type e i ht hi c
      · rw [hv]; exact appendNoneB t o.type e i ht hi g n cap c hc
    refine wpList_plain hgd fun K hK => ?_
    unfold Oper.wp execOp
    simp only [ho, resolve, invoke, builtin, Sem.run_bind, Sem.run_pure, Result.andThen_ok, List.map_toArray, List.map_cons, List.map_nil, hs, hx, hr]
    exact hK _ _ (h _ w (by simpa [flat] using hown) (Below.refl _ _))
  | some ad =>
    refine wpList_append_own_at w hgd s x t ho base e i z size bytes ht hi hz hsize hby hzs hsz _ n xs hs hown ad m c (flat m size C) hx (by simp [flat]) ?_ ?_ h63 hbytes hbase ?_
    · intro j u hu
      have hj : j < m * size := by
        rcases Nat.lt_or_ge j (m * size) with h | h
        · exact h
        · rw [List.getElem?_eq_none (by simpa [flat] using h)] at hu; cases hu
      rw [flat_get _ hj] at hu
      injection hu with hu
      have hm : 0 < m := Nat.pos_of_ne_zero fun h => by rw [h, Nat.zero_mul] at hj; omega
      obtain ⟨b, o', he, hc⟩ := hA.2.2 hm
      injection he with he
      subst he
      have hq := hc (j / size) (j % size) (Nat.div_lt_of_lt_mul (by rw [Nat.mul_comm]; exact hj)) (Nat.mod_lt _ hsz)
      have e1 : o' + j / size * size + j % size = o' + j := by
        have := Nat.div_add_mod j size
        rw [Nat.mul_comm] at this
        omega
      rw [e1, hu] at hq
      unfold Addr.add
      by_cases h0 : j = 0
      · subst h0; simpa using hq
      · rw [if_neg h0]; exact hq
    · intro u hu
      unfold flat at hu
      simp only [List.mem_map] at hu
      obtain ⟨t, -, rfl⟩ := hu
      exact h1 _ _
    · intro v' w' h2 h3 _ _
      exact h v' w' h2 ((Below.refl _ _).grown h3 hbase (fun k hk => (hown.lt k hk).1))
theorem flat_ints (l : List Int) : flat l.length 1 (fun i _ => .int .i64 (listI l i)) = intVals l := by
  refine List.ext_getElem? fun k => ?_
  by_cases hk : k < l.length
  · rw [flat_get _ (by omega), Nat.div_one]
    have := intVals_get hk []
    rw [List.append_nil] at this
    rw [this]
  · rw [List.getElem?_eq_none (by simp [flat]; omega), List.getElem?_eq_none (by simp [intVals]; omega)]

/-! ### lists of lists -/
def Fs.listL (ls : List (List Int)) (i : Nat) : List Int := ls.getD i []
def Fs.flatTo (ls : List (List Int)) : Nat → List Int
  | 0 => []
  | k + 1 => flatTo ls k ++ listL ls k
/-- The row A reads as lists that lie at a. -/
def ArrL (w : World) (A : Option Addr) (ls : List (List Int)) (c : Nat) (a : DA) : Prop :=
  Arr w A ls.length c 1 (fun i _ => .slice (a.p i) (listL ls i).length (a.pc i)) ∧ ∀ i, i < ls.length → ArrI w (a.p i) (listL ls i) (a.pc i)
theorem ArrL.keep {w w' : World} (k : Keep w w') {A : Option Addr} {ls : List (List Int)} {c : Nat} {a : DA} (h : ArrL w A ls c a) : ArrL w' A ls c a := ⟨Arr.keep k h.1, fun i hi => (h.2 i hi).keep k⟩
theorem ArrL.at_ {w : World} {A : Option Addr} {ls : List (List Int)} {c : Nat} {a : DA} (h : ArrL w A ls c a) {k : Nat} (hk : k < ls.length) : ∃ b o, A = some ⟨b, o, none⟩ ∧ w.cell? ⟨b, o + k, none⟩ = some (.slice (a.p k) (listL ls k).length (a.pc k)) := by
  obtain ⟨b, o, e, hc⟩ := h.1.at_ hk
  have := hc 0 (by omega)
  exact ⟨b, o, e, by simpa using this⟩
theorem Fs.flatTo_len {ls : List (List Int)} {B : Nat} (h : ∀ i, i < ls.length → (listL ls i).length ≤ B) : ∀ k, k ≤ ls.length → (flatTo ls k).length ≤ B * k
  | 0, _ => Nat.zero_le _
  | k + 1, hk => by
    have h1 := flatTo_len h k (by omega)
    have h2 := h k (by omega)
    rw [flatTo, List.length_append, Nat.mul_succ]
    omega

end Go.Proofs.Ytjmaankkbdpikaa
/- The reference's Broken; copies of records. Condition: records are in order, of small numbers. -/
namespace Go.Proofs.Ytjmaankkbdpikaa
open Go.RowKit Fs

theorem Try.infoDRec : (Try.prog.info? 91).map (fun i => (i.zero, i.size, i.bytes)) = some (some (.agg #[.string ⟨#[]⟩, .int .i64 0, .int .i64 0]), 3, 32) := by kernel_rfl
def recFlat (l : List WRec) : List Value := flat l.length 3 fun i j => recCells (listW l i) j
end Go.Proofs.Ytjmaankkbdpikaa
/- The reference's Breaks. Condition: records are right, the trip's numbers within bounds, it begins behind all records. -/
namespace Go.Proofs.Ytjmaankkbdpikaa
open Go.RowKit Fs

theorem flat_join {n m size : Nat} {C D E : Nat → Nat → Value} (h0 : 0 < size) (h1 : ∀ i j, i < n → j < size → E i j = C i j) (h2 : ∀ i j, i < m → j < size → E (n + i) j = D i j) : flat n size C ++ flat m size D = flat (n + m) size E := by
  apply List.ext_getElem?
  intro t
  have l1 : (flat n size C).length = n * size := by simp [flat]
  have l2 : (flat m size D).length = m * size := by simp [flat]
  have l3 : (flat (n + m) size E).length = (n + m) * size := by simp [flat]
  have l4 : (n + m) * size = n * size + m * size := Nat.add_mul _ _ _
  by_cases a : t < n * size
  · rw [List.getElem?_append_left (by rw [l1]; exact a), flat_get t a, flat_get t (by omega), h1 _ _ (Nat.div_lt_of_lt_mul (by rw [Nat.mul_comm]; exact a)) (Nat.mod_lt _ h0)]
  · obtain ⟨s, rfl⟩ : ∃ s, t = n * size + s := ⟨t - n * size, by omega⟩
    rw [List.getElem?_append_right (by rw [l1]; omega), l1, Nat.add_sub_cancel_left]
    by_cases b : s < m * size
    · rw [flat_get s b, flat_get _ (by omega), Nat.mul_comm n size, Nat.mul_add_div h0, Nat.mul_add_mod, h2 _ _ (Nat.div_lt_of_lt_mul (by rw [Nat.mul_comm]; exact b)) (Nat.mod_lt _ h0)]
    · rw [List.getElem?_eq_none (by omega), List.getElem?_eq_none (by omega)]
theorem own_low {w : World} {B B' : Nat} {e : TypeId} {size n : Nat} {v : Value} {xs : List Value} (h : w.ownsRow B e size v n xs) (hB : B' ≤ B) : w.ownsRow B' e size v n xs := by
  rcases h with ⟨hl, ⟨hv, hn⟩ | ⟨g, cap, cur, hv, hb, hr⟩⟩
  · exact ⟨hl, .inl ⟨hv, hn⟩⟩
  · exact ⟨hl, .inr ⟨g, cap, cur, hv, Nat.le_trans hB hb, hr⟩⟩
theorem news_of_arr {w : World} {ad : Addr} {m c size : Nat} {C : Nat → Nat → Value} (hsz : 0 < size) (hA : Arr w (some ad) m c size C) : ∀ j u, (flat m size C)[j]? = some u → w.cell? (ad.add j) = some u := by
  intro j u hu
  have hj : j < m * size := by
    rcases Nat.lt_or_ge j (m * size) with h | h
    · exact h
    · rw [List.getElem?_eq_none (by simpa [flat] using h)] at hu; cases hu
  rw [flat_get _ hj] at hu
  injection hu with hu
  have hm : 0 < m := Nat.pos_of_ne_zero fun h => by rw [h, Nat.zero_mul] at hj; omega
  obtain ⟨b, o', he, hc⟩ := hA.2.2 hm
  injection he with he
  subst he
  have hq := hc (j / size) (j % size) (Nat.div_lt_of_lt_mul (by rw [Nat.mul_comm]; exact hj)) (Nat.mod_lt _ hsz)
  have e1 : o' + j / size * size + j % size = o' + j := by
    have := Nat.div_add_mod j size
    rw [Nat.mul_comm] at this
    omega
  rw [e1, hu] at hq
  unfold Addr.add
  by_cases h0 : j = 0
  · subst h0; simpa using hq
  · rw [if_neg h0]; exact hq
theorem recCells_one (x : WRec) : ∀ u ∈ flat 1 3 (fun _ j => recCells x j), u.oneCell' = true := by
  intro u hu
  unfold flat at hu
  simp only [List.mem_map] at hu
  obtain ⟨t, -, rfl⟩ := hu
  unfold recCells
  split <;> rfl
theorem oneRec (w : World) (s n : Int) : Arr (w.alloc (.cells #[.string ⟨#[120]⟩, .int .i64 s, .int .i64 (s + n)] 91)) (some ⟨w.heap.size, 0, none⟩) 1 1 3 (fun _ j => recCells ⟨xName, s, s + n⟩ j) := by
  refine ⟨Nat.le_refl _, by omega, fun _ => ⟨w.heap.size, 0, rfl, fun i j hi hj => ?_⟩⟩
  obtain rfl : i = 0 := by omega
  obtain rfl | rfl | rfl : j = 0 ∨ j = 1 ∨ j = 2 := by omega
  · exact cellNew _ _ _ 0
  · exact cellNew _ _ _ 1
  · exact cellNew _ _ _ 2
theorem withFlat {l W : List WRec} {s n : Int} (h : W = withTrip l s n) : recFlat l ++ flat 1 3 (fun _ j => recCells ⟨xName, s, s + n⟩ j) = flat (l.length + 1) 3 fun i j => recCells (listW W i) j := by
  subst h
  refine flat_join (by decide) (fun i j hi hj => ?_) (fun i j hi hj => ?_)
  · rw [show listW (withTrip l s n) i = listW l i from listW_left hi]
  · obtain rfl : i = 0 := by omega
    rw [Nat.add_zero, show listW (withTrip l s n) l.length = ⟨xName, s, s + n⟩ from listW_last l _]
/-- A trip that begins behind all records, of small numbers. -/
structure Fs.Behind (l : List WRec) (t : DTrip) : Prop where
  len : l.length < 40
  from0 : 0 ≤ t.start
  from1 : t.start ≤ 8640000000
  next0 : -1 ≤ t.next
  next1 : t.next ≤ 8640000000
  last : 0 < l.length → (listW l (l.length - 1)).fin ≤ t.start

end Go.Proofs.Ytjmaankkbdpikaa

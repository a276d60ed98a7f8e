/- Lists joined: slices.Grow and slices.Concat of numbers. Condition: at most ten lists of a hundred thousand numbers each. -/
import Derived.Shelf.Spec.SlicesGrow
import Derived.Test.YtndhpdjcpagghaaGreatDoorT43
import Derived.Test.YtndhpdjcpagghaaGreatDoorT10
namespace Go.Proofs.YtndhpdjcpagghaaGreatDoor
open Go.RowKit Fs Go.Shelf

/-! ### appended from an array -/
theorem appendNoneA {P : Program} {w : World} (t ty e : TypeId) (i : TypeInfo) (ht : P.underlying t = some (.slice e)) (hi : P.info? e = some i) (c : Nat) :
    (Builtin.append_ #[t, t] ty #[.slice none 0 0, .slice none 0 c]).run P w = .ok (.slice none 0 0) w := by
  simp [Builtin.append_, run_underlying ht, sizeOf, typeInfo, hi, Builtin.lenOf, Builtin.firstCells]
theorem appendNoneB {P : Program} {w : World} (t ty e : TypeId) (i : TypeInfo) (ht : P.underlying t = some (.slice e)) (hi : P.info? e = some i) (g n cap c : Nat) (h : n ≤ cap) :
    (Builtin.append_ #[t, t] ty #[.slice (some ⟨g, 0, none⟩) n cap, .slice none 0 c]).run P w = .ok (.slice (some ⟨g, 0, none⟩) n cap) w := by
  simp [Builtin.append_, run_underlying ht, sizeOf, typeInfo, hi, Builtin.lenOf, Builtin.firstCells, storeCells, h]
theorem wpList_join {P : Program} {w : World} {ops : Array Oper} {rest : List Oper} {o : Oper} {a : Act} {Q : Exit → Act → World → Prop} (hgd : o.guard = none) (s x : Operand) (t : TypeId)
    (ho : o.op = .call { callee := .builtin .append, args := #[s, x], argTypes := #[t, t] })
    (e : TypeId) (i : TypeInfo) (z : Value) (size bytes : Nat) (ht : P.underlying t = some (.slice e)) (hi : P.info? e = some i) (hz : i.zero = some z)
    (hsize : i.size = size) (hby : i.bytes = bytes) (hzs : z.cells.size = size) (hsz : 0 < size)
    (base : Nat) (v : Value) (n : Nat) (xs : List Value) (hs : a.eval s = v) (hown : w.ownsRow base e size v n xs) (hbase : base ≤ w.heap.size)
    (A : Option Addr) (m c : Nat) (C : Nat → Nat → Value) (hx : a.eval x = .slice A m c) (hA : Arr w A m c size C) (h1 : ∀ i j, (C i j).oneCell' = true)
    (h63 : n + m ≤ maxLen) (hbytes : (n + m) * bytes ≤ 140737488355328)
    (h : ∀ v' w', w'.ownsRow base e size v' (n + m) (xs ++ flat m size C) → Below base w w' → wpList P ops Q rest (a.put o.dst v') w') : wpList P ops Q (o :: rest) a w := by
  cases A with
  | none =>
    have hm : m = 0 := by
      rcases Nat.eq_zero_or_pos m with h | h
      · exact h
      · obtain ⟨_, _, he, -⟩ := hA.2.2 h
        cases he
    subst hm
    have hr : (Builtin.append_ #[t, t] o.type #[v, .slice none 0 c]).run P w = .ok v w := by
      rcases hown.2 with ⟨hv, -⟩ | ⟨g, cap, cur, hv, -, -, hc, -⟩
      · rw [hv]; exact appendNoneA t o.type e i ht hi c
      · rw [hv]; exact appendNoneB t o.type e i ht hi g n cap c hc
    refine wpList_plain hgd fun K hK => ?_
    unfold Oper.wp execOp
    simp only [ho, resolve, invoke, builtin, Sem.run_bind, Sem.run_pure, Result.andThen_ok, List.map_toArray, List.map_cons, List.map_nil, hs, hx, hr]
    exact hK _ _ (h _ w (by simpa [flat] using hown) (Below.refl _ _))
  | some ad =>
    refine wpList_append_own_at w hgd s x t ho base e i z size bytes ht hi hz hsize hby hzs hsz _ n xs hs hown ad m c (flat m size C) hx (by simp [flat]) ?_ ?_ h63 hbytes hbase ?_
    · intro j u hu
      have hj : j < m * size := by
        rcases Nat.lt_or_ge j (m * size) with h | h
        · exact h
        · rw [List.getElem?_eq_none (by simpa [flat] using h)] at hu; cases hu
      rw [flat_get _ hj] at hu
      injection hu with hu
      have hm : 0 < m := Nat.pos_of_ne_zero fun h => by rw [h, Nat.zero_mul] at hj; omega
      obtain ⟨b, o', he, hc⟩ := hA.2.2 hm
      injection he with he
      subst he
      have hq := hc (j / size) (j % size) (Nat.div_lt_of_lt_mul (by rw [Nat.mul_comm]; exact hj)) (Nat.mod_lt _ hsz)
      have e1 : o' + j / size * size + j % size = o' + j := by
        have := Nat.div_add_mod j size
        rw [Nat.mul_comm] at this
        omega
      rw [e1, hu] at hq
      unfold Addr.add
      by_cases h0 : j = 0
      · subst h0; simpa using hq
      · rw [if_neg h0]; exact hq
    · intro u hu
      unfold flat at hu
      simp only [List.mem_map] at hu
      obtain ⟨t, -, rfl⟩ := hu
      exact h1 _ _
    · intro v' w' h2 h3 _ _
      exact h v' w' h2 ((Below.refl _ _).grown h3 hbase (fun k hk => (hown.lt k hk).1))
theorem flat_ints (l : List Int) : flat l.length 1 (fun i _ => .int .i64 (listI l i)) = intVals l := by
  refine List.ext_getElem? fun k => ?_
  by_cases hk : k < l.length
  · rw [flat_get _ (by omega), Nat.div_one]
    have := intVals_get hk []
    rw [List.append_nil] at this
    rw [this]
  · rw [List.getElem?_eq_none (by simp [flat]; omega), List.getElem?_eq_none (by simp [intVals]; omega)]

/-! ### lists of lists -/
def Fs.listL (ls : List (List Int)) (i : Nat) : List Int := ls.getD i []
def Fs.flatTo (ls : List (List Int)) : Nat → List Int
  | 0 => []
  | k + 1 => flatTo ls k ++ listL ls k
/-- The row A reads as lists that lie at a. -/
def ArrL (w : World) (A : Option Addr) (ls : List (List Int)) (c : Nat) (a : DA) : Prop :=
  Arr w A ls.length c 1 (fun i _ => .slice (a.p i) (listL ls i).length (a.pc i)) ∧ ∀ i, i < ls.length → ArrI w (a.p i) (listL ls i) (a.pc i)
theorem ArrL.keep {w w' : World} (k : Keep w w') {A : Option Addr} {ls : List (List Int)} {c : Nat} {a : DA} (h : ArrL w A ls c a) : ArrL w' A ls c a := ⟨Arr.keep k h.1, fun i hi => (h.2 i hi).keep k⟩
theorem ArrL.at_ {w : World} {A : Option Addr} {ls : List (List Int)} {c : Nat} {a : DA} (h : ArrL w A ls c a) {k : Nat} (hk : k < ls.length) : ∃ b o, A = some ⟨b, o, none⟩ ∧ w.cell? ⟨b, o + k, none⟩ = some (.slice (a.p k) (listL ls k).length (a.pc k)) := by
  obtain ⟨b, o, e, hc⟩ := h.1.at_ hk
  have := hc 0 (by omega)
  exact ⟨b, o, e, by simpa using this⟩
theorem Fs.flatTo_len {ls : List (List Int)} {B : Nat} (h : ∀ i, i < ls.length → (listL ls i).length ≤ B) : ∀ k, k ≤ ls.length → (flatTo ls k).length ≤ B * k
  | 0, _ => Nat.zero_le _
  | k + 1, hk => by
    have h1 := flatTo_len h k (by omega)
    have h2 := h k (by omega)
    rw [flatTo, List.length_append, Nat.mul_succ]
    omega

end Go.Proofs.YtndhpdjcpagghaaGreatDoor
/- Lists of labels: what is wrong with them, and whether they prove. Conditions: the net can be read, or is right; at most ten lists. -/
namespace Go.Proofs.YtndhpdjcpagghaaGreatDoor
open Go.RowKit Fs

def Fs.LabFit (N : Net) (ls : List (List Int)) : Prop := ∀ i, i < ls.length → (listL ls i).length = N.places.length
def Fs.LabIn (l : List Int) : Prop := ∀ j, j < l.length → within (listI l j) (-1) 1000000000000000 = true
instance (N : Net) (ls : List (List Int)) : Decidable (LabFit N ls) := inferInstanceAs (Decidable (∀ i, i < ls.length → _))
instance (l : List Int) : Decidable (LabIn l) := inferInstanceAs (Decidable (∀ i, i < l.length → _))
def Fs.labErr (N : Net) (ls : List (List Int)) : Int := if LabFit N ls then (if LabIn (flatTo ls ls.length) then 0 else 2) else 10

/-- Labels prove that no way leads to less. -/
def Fs.Proof (N : Net) (nx : Nat → Int → Int) (l : List Int) (k : Nat) : Prop :=
  ∀ i, i < k → listI l (listD N.roads i).src.toNat = -1 ∨ (listI l (listD N.roads i).dst.toNat ≠ -1 ∧ listI l (listD N.roads i).dst.toNat ≤ nx i (listI l (listD N.roads i).src.toNat))
instance (N : Net) (nx : Nat → Int → Int) (l : List Int) (k : Nat) : Decidable (Proof N nx l k) := inferInstanceAs (Decidable (∀ i, i < k → _))

end Go.Proofs.YtndhpdjcpagghaaGreatDoor

/- A row appended onto an empty row of the call's own reads as the row did. Condition: its bytes are below 2^47. -/
import Derived.Test.YtndhpdjcpagghaaGreatDoorOwn
import Derived.Maps.AppendAt
import Derived.Deep.AppendLies
import Derived.OwnWalk
namespace Go.Proofs.YtndhpdjcpagghaaGreatDoor
open Go.RowKit Fs

/-- The cells of m elements of 'size' cells, one behind the other. -/
def flat (m size : Nat) (C : Nat → Nat → Value) : List Value := (List.range (m * size)).map fun t => C (t / size) (t % size)
theorem flat_get {m size : Nat} {C : Nat → Nat → Value} (t : Nat) (h : t < m * size) : (flat m size C)[t]? = some (C (t / size) (t % size)) := by
  unfold flat
  rw [List.getElem?_map, List.getElem?_range h]
  rfl
theorem place {i j m size : Nat} (hi : i < m) (hj : j < size) : i * size + j < m * size ∧ (i * size + j) / size = i ∧ (i * size + j) % size = j := by
  have hs : 0 < size := by omega
  have h1 : (i + 1) * size ≤ m * size := Nat.mul_le_mul_right _ hi
  rw [Nat.add_mul, Nat.one_mul] at h1
  refine ⟨by omega, ?_, ?_⟩
  · rw [Nat.mul_comm, Nat.mul_add_div hs, Nat.div_eq_of_lt hj, Nat.add_zero]
  · rw [Nat.mul_comm, Nat.mul_add_mod, Nat.mod_eq_of_lt hj]
theorem own_row {w : World} {base m size : Nat} {e : TypeId} {v : Value} {C : Nat → Nat → Value} (h : w.ownsRow base e size v m (flat m size C)) : ∃ A c, v = .slice A m c ∧ Arr w A m c size C := by
  rcases h.2 with ⟨hv, hn⟩ | ⟨g, cap, cur, hv, hb, hh, h1, h2, h3, h4⟩
  · subst hn
    exact ⟨none, 0, hv, Nat.le_refl _, by omega, fun hh => absurd hh (Nat.lt_irrefl 0)⟩
  · subst hv
    refine ⟨_, cap, rfl, h1, h2, fun _ => ⟨g, 0, rfl, fun i j hi hj => ?_⟩⟩
    obtain ⟨p1, p2, p3⟩ := place hi hj
    rw [Nat.zero_add, h.cellAt _ p1, flat_get _ p1, p2, p3]
/-- The address, if there is one, lies in block B or beyond. -/
def Above (B : Nat) (A : Option Addr) : Prop := ∀ ad, A = some ad → B ≤ ad.block
theorem own_above {w : World} {base m size c : Nat} {e : TypeId} {A : Option Addr} {xs : List Value} (h : w.ownsRow base e size (.slice A m c) m xs) : Above base A := by
  rcases h.2 with ⟨hv, -⟩ | ⟨g, cap, cur, hv, hb, -⟩
  · injection hv with hv; subst hv; intro ad h; cases h
  · injection hv with hv; subst hv; intro ad h; injection h with h; subst h; exact hb
theorem own_arrN {w : World} {base m size c : Nat} {e : TypeId} {A : Option Addr} {C : Nat → Nat → Value} (h : w.ownsRow base e size (.slice A m c) m (flat m size C)) : Arr w A m c size C := by
  obtain ⟨A', c', he, ha⟩ := own_row h
  injection he with h1 h2 h3
  subst h1; subst h3
  exact ha
theorem appendNone {P : Program} {w : World} (t ty e : TypeId) (i : TypeInfo) (ht : P.underlying t = some (.slice e)) (hi : P.info? e = some i) (g c : Nat) :
    (Builtin.append_ #[t, t] ty #[.slice (some ⟨g, 0, none⟩) 0 0, .slice none 0 c]).run P w = .ok (.slice (some ⟨g, 0, none⟩) 0 0) w := by
  simp [Builtin.append_, run_underlying ht, sizeOf, typeInfo, hi, Builtin.lenOf, Builtin.firstCells, storeCells]
theorem wpList_copy {P : Program} {w : World} {ops : Array Oper} {rest : List Oper} {o : Oper} {a : Act} {Q : Exit → Act → World → Prop} (hgd : o.guard = none) (s x : Operand) (t : TypeId)
    (ho : o.op = .call { callee := .builtin .append, args := #[s, x], argTypes := #[t, t] })
    (e : TypeId) (i : TypeInfo) (z : Value) (size bytes : Nat) (ht : P.underlying t = some (.slice e)) (hi : P.info? e = some i) (hz : i.zero = some z)
    (hsize : i.size = size) (hby : i.bytes = bytes) (hzs : z.cells.size = size) (hsz : 0 < size)
    (base g : Nat) (hs : a.eval s = .slice (some ⟨g, 0, none⟩) 0 0) (hbg : base ≤ g) (hg : w.heap[g]? = some (.cells #[] e (0, 0)))
    (A : Option Addr) (m c : Nat) (C : Nat → Nat → Value) (hx : a.eval x = .slice A m c) (hA : Arr w A m c size C) (h1 : ∀ i j, (C i j).oneCell' = true)
    (h63 : m ≤ maxLen) (hbytes : m * bytes ≤ 140737488355328)
    (h : ∀ A' c' w', w'.ownsRow base e size (.slice A' m c') m (flat m size C) → Below base w w' → wpList P ops Q rest (a.put o.dst (.slice A' m c')) w') : wpList P ops Q (o :: rest) a w := by
  have hlt : g < w.heap.size := by
    rcases Nat.lt_or_ge g w.heap.size with h | h
    · exact h
    · rw [Array.getElem?_eq_none h] at hg; cases hg
  have hown : w.ownsRow base e size (.slice (some ⟨g, 0, none⟩) 0 0) 0 [] := ⟨by simp, .inr ⟨g, 0, #[], rfl, hbg, hg, Nat.le_refl _, Nat.zero_le _, by simp, by simp⟩⟩
  cases A with
  | none =>
    have hm : m = 0 := by
      rcases Nat.eq_zero_or_pos m with h | h
      · exact h
      · obtain ⟨_, _, he, -⟩ := hA.2.2 h
        cases he
    subst hm
    refine wpList_plain hgd fun K hK => ?_
    unfold Oper.wp execOp
    simp only [ho, resolve, invoke, builtin, Sem.run_bind, Sem.run_pure, Result.andThen_ok, List.map_toArray, List.map_cons, List.map_nil, hs, hx, appendNone t o.type e i ht hi g c]
    exact hK _ _ (h _ 0 w (by simpa [flat] using hown) (Below.refl _ _))
  | some ad =>
    refine wpList_append_own_at w hgd s x t ho base e i z size bytes ht hi hz hsize hby hzs hsz _ 0 [] hs hown ad m c (flat m size C) hx (by simp [flat]) ?_ ?_ (by simpa using h63) (by simpa using hbytes) (by omega) ?_
    · intro j u hu
      have hj : j < m * size := by
        rcases Nat.lt_or_ge j (m * size) with h | h
        · exact h
        · rw [List.getElem?_eq_none (by simpa [flat] using h)] at hu; cases hu
      rw [flat_get _ hj] at hu
      injection hu with hu
      have hm : 0 < m := Nat.pos_of_ne_zero fun h => by rw [h, Nat.zero_mul] at hj; omega
      obtain ⟨b, o', he, hc⟩ := hA.2.2 hm
      injection he with he
      subst he
      have hq := hc (j / size) (j % size) (Nat.div_lt_of_lt_mul (by rw [Nat.mul_comm]; exact hj)) (Nat.mod_lt _ hsz)
      have e1 : o' + j / size * size + j % size = o' + j := by
        have := Nat.div_add_mod j size
        rw [Nat.mul_comm] at this
        omega
      rw [e1, hu] at hq
      unfold Addr.add
      by_cases h0 : j = 0
      · subst h0; simpa using hq
      · rw [if_neg h0]; exact hq
    · intro u hu
      unfold flat at hu
      simp only [List.mem_map] at hu
      obtain ⟨t, -, rfl⟩ := hu
      exact h1 _ _
    · intro v' w' h2 h3 _ _
      have h2' : w'.ownsRow base e size v' m (flat m size C) := by simpa using h2
      obtain ⟨A', c', rfl, -⟩ := own_row h2'
      exact h A' c' w' h2' ((Below.refl _ _).grown h3 (by omega) (fun k hk => by
        have : g = k := by simpa [Value.ownBlock] using hk
        omega))
end Go.Proofs.YtndhpdjcpagghaaGreatDoor

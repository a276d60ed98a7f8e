/- The drivers of a car. No condition. -/
import Derived.Test.YtjmaankkbdpikaaX4
import Derived.Test.YtjmaankkbdpikaaD24
namespace Go.Proofs.Ytjmaankkbdpikaa
open Go.RowKit Fs

theorem xown_strs {w : World} {B : Nat} {e : TypeId} {v : Value} {l : List ByteArray} (h : w.ownsRow B e 1 v l.length (strVals l)) : ∃ A c, v = .slice A l.length c ∧ ArrS w A l c := by
  have e1 : strVals l = flat l.length 1 fun i _ => .string (listS l i) := by
    apply List.ext_getElem?
    intro t
    by_cases h0 : t < l.length
    · rw [flat_get t (by omega), Nat.div_one]
      show (l.map Value.string)[t]? = _
      rw [List.getElem?_map, List.getElem?_eq_getElem h0]
      unfold listS
      simp [List.getD_eq_getElem?_getD, List.getElem?_eq_getElem h0]
    · rw [List.getElem?_eq_none (by unfold strVals; rw [List.length_map]; omega), List.getElem?_eq_none (by simp [flat]; omega)]
  rw [e1] at h
  exact own_row h
open Classical in
noncomputable def Fs.newWho (y x : WRec) : Bool := decide (x.who ≠ y.who)
noncomputable def Fs.sameWho (l : List WRec) (k : Nat) : Bool := decide (0 < k) && !newWho (listW l (k - 1)) (listW l k)
theorem Fs.sameWho_new (l : List WRec) (k : Nat) : sameWho l k = false ↔ newDriver l k := by
  unfold sameWho newDriver newWho
  rcases Nat.eq_zero_or_pos k with h | h
  · subst h; simp
  · simp [h]; omega
theorem Fs.handed_groups (l : List WRec) : ∀ n, (groupsBy (sameWho l) n).map (fun p => (listW l p.1.toNat).who) = handedTo l n
  | 0 => rfl
  | n + 1 => by
    have ih := handed_groups l n
    rw [groupsBy, handedTo]
    cases h : sameWho l n with
    | true =>
      rw [if_pos rfl, if_neg (fun hh => by rw [(sameWho_new l n).2 hh] at h; cases h), ← ih]
      have hp : groupsBy (sameWho l) n ≠ [] := by
        cases n with
        | zero => exact absurd h (by unfold sameWho; simp)
        | succ n => exact groupsBy_pos _ _
      rcases List.eq_nil_or_concat (groupsBy (sameWho l) n) with e | ⟨M, p, e⟩
      · exact absurd e hp
      · rw [e, List.concat_eq_append, List.dropLast_concat, List.getLastD_concat]
        simp
    | false =>
      rw [if_neg (by decide), if_pos ((sameWho_new l n).1 h), ← ih]
      simp
/-- Where a group begins. -/
theorem Fs.groups_first {g : Nat → Bool} (h0 : g 0 = false) : ∀ n i, i < (groupsBy g n).length → 0 ≤ (listJ (groupsBy g n) i).1 ∧ (listJ (groupsBy g n) i).1 < (n : Int)
  | 0, i, h => absurd h (Nat.not_lt_zero _)
  | n + 1, i, h => by
    rw [groupsBy] at h ⊢
    have one : ∀ (L : List (Int × Int)) (x : Int × Int) i, i < (L ++ [x]).length → (i < L.length ∧ listJ (L ++ [x]) i = listJ L i) ∨ listJ (L ++ [x]) i = x := by
      intro L x i hi
      unfold listJ
      by_cases e : i < L.length
      · exact Or.inl ⟨e, by rw [List.getD_eq_getElem?_getD, List.getD_eq_getElem?_getD, List.getElem?_append_left e]⟩
      · obtain rfl : i = L.length := by simp at hi; omega
        exact Or.inr (by rw [List.getD_eq_getElem?_getD, List.getElem?_append_right (Nat.le_refl _)]; simp)
    cases hg : g n with
    | true =>
      rw [hg, if_pos rfl] at h
      rw [if_pos rfl]
      have hp : groupsBy g n ≠ [] := by
        cases n with
        | zero => rw [h0] at hg; cases hg
        | succ n => exact groupsBy_pos _ _
      rcases List.eq_nil_or_concat (groupsBy g n) with e | ⟨M, p, e⟩
      · exact absurd e hp
      · rw [List.concat_eq_append] at e
        have ih := groups_first h0 n
        rw [e] at ih h ⊢
        rw [List.dropLast_concat, List.getLastD_concat] at h ⊢
        rcases one M _ i h with ⟨h1, h2⟩ | h2
        · rw [h2]
          have := ih i (by simp; omega)
          have h4 : listJ (M ++ [p]) i = listJ M i := by unfold listJ; rw [List.getD_eq_getElem?_getD, List.getD_eq_getElem?_getD, List.getElem?_append_left h1]
          rw [h4] at this
          omega
        · rw [h2]
          have := ih M.length (by simp)
          have h4 : listJ (M ++ [p]) M.length = p := by unfold listJ; rw [List.getD_eq_getElem?_getD, List.getElem?_append_right (Nat.le_refl _)]; simp
          rw [h4] at this
          show 0 ≤ p.1 ∧ p.1 < _
          omega
    | false =>
      rw [hg, if_neg (by decide)] at h
      rw [if_neg (by decide)]
      rcases one _ _ i h with ⟨h1, h2⟩ | h2
      · rw [h2]; have := groups_first h0 n i h1; omega
      · rw [h2]; show (0 : Int) ≤ (n : Int) ∧ (n : Int) < _; omega
end Go.Proofs.Ytjmaankkbdpikaa

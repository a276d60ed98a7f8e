/- Proofs: the reference's BestFor. Conditions: the things are right. -/
import Derived.Test.YtfjdnbnalihjiaaDoorG17
import Derived.BigRegion
import Derived.Deep.CutBlock
namespace Go.Proofs.YtfjdnbnalihjiaaDoor
open Go.RowKit Fs

theorem ThgAt.drew {w : World} {b o : Nat} {x : Thg} {p : Option Addr} {pc : Nat} (m : ThgAt w b o x p pc) : ThgAt w.drew b o x p pc := ⟨m.c0, m.c1, m.c2, m.c3⟩
theorem Fs.candTo_in {l : List Thg} {x : Thg} : ∀ n, ∀ j, j < (candTo l x n).length → 0 ≤ listI (candTo l x n) j ∧ listI (candTo l x n) j < n
  | 0, j, hj => absurd hj (Nat.not_lt_zero _)
  | n + 1, j, hj => by
    unfold candTo at hj ⊢
    by_cases h : canBe (lThg l n) x = true
    · rw [if_pos h] at hj ⊢
      rw [List.length_append, List.length_singleton] at hj
      by_cases e : j < (candTo l x n).length
      · have := candTo_in n j e
        rw [show listI (candTo l x n ++ [(n : Int)]) j = listI (candTo l x n) j by unfold listI; rw [List.getD_eq_getElem?_getD, List.getD_eq_getElem?_getD, List.getElem?_append_left e]]
        omega
      · obtain rfl : j = (candTo l x n).length := by omega
        rw [show listI (candTo l x n ++ [(n : Int)]) (candTo l x n).length = n by unfold listI; rw [List.getD_eq_getElem?_getD, List.getElem?_append_right (Nat.le_refl _), Nat.sub_self]; rfl]
        omega
    · rw [if_neg h] at hj ⊢
      have := candTo_in n j hj
      omega
theorem Fs.cands_in {l : List Thg} {x : Thg} {j : Nat} (hj : j < (cands l x).length) : ∃ i : Nat, i < l.length ∧ listI (cands l x) j = i := by
  have := candTo_in (l := l) (x := x) l.length j hj
  exact ⟨(listI (cands l x) j).toNat, by unfold cands; omega, by unfold cands; omega⟩
theorem Fs.bst_in {l : List Thg} {x : Thg} : ∀ {k : Nat}, k < (cands l x).length → ∃ i : Nat, i < l.length ∧ bstTo l x (cands l x) k = i
  | 0, h => cands_in h
  | k + 1, h => by
    rw [bstTo]
    split
    · exact cands_in h
    · exact bst_in (by omega)
end Go.Proofs.YtfjdnbnalihjiaaDoor

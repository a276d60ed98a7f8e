/- A row that the call itself has made, of numbers, reads as a list. No condition. -/
import Derived.Test.YtndhpdjcpagghaaGreatDoorMem
namespace Go.Proofs.YtndhpdjcpagghaaGreatDoor
open Go.RowKit Fs

def intVals (l : List Int) : List Value := l.map (Value.int .i64)
theorem own_arr {w : World} {base : Nat} {e : TypeId} {v : Value} {l : List Int} (h : w.ownsRow base e 1 v l.length (intVals l)) :
    ∃ A c, v = .slice A l.length c ∧ ArrI w A l c := by
  rcases h.2 with ⟨hv, hn⟩ | ⟨g, cap, cur, hv, hb, hh, h1, h2, h3, h4⟩
  · have : l = [] := List.eq_nil_of_length_eq_zero hn
    subst this
    exact ⟨none, 0, hv, Nat.le_refl _, by omega, fun hh => absurd hh (by simp)⟩
  · refine ⟨_, cap, hv, h1, h2, fun _ => ⟨g, 0, rfl, fun i j hi hj => ?_⟩⟩
    have hj0 : j = 0 := by omega
    subst hj0
    have hc := h.cells (g := g) (by rw [hv]; rfl) i (.int .i64 (listI l i)) (by
      unfold intVals listI
      rw [List.getElem?_map, List.getElem?_eq_getElem hi]
      simp [List.getD_eq_getElem?_getD, List.getElem?_eq_getElem hi])
    have e1 : (⟨g, 0 + i * 1 + 0, none⟩ : Addr) = Addr.add ⟨g, 0, none⟩ i := by
      unfold Addr.add
      by_cases h0 : i = 0
      · subst h0; rfl
      · rw [if_neg h0]; simp
    rw [e1]
    exact hc
theorem intVals_snoc (l : List Int) (x : Int) : intVals (l ++ [x]) = intVals l ++ [.int .i64 x] := by simp [intVals]
theorem news1 (w : World) (A : Obj) (x : Value) (t : TypeId) : ∀ j u, [x][j]? = some u → ((w.alloc A).alloc (.cells #[x] t)).cell? (Addr.add ⟨w.heap.size + 1, 0, none⟩ j) = some u := by
  intro j u hu
  match j with
  | 0 =>
    rw [show w.heap.size + 1 = (w.alloc A).heap.size by simp]
    have : x = u := by simpa using hu
    subst this
    exact cell_of_row _ _ 0 #[x] t (0, 0) (heap_alloc_new (w.alloc A) _)
  | j + 1 => simp at hu
theorem news0 (w : World) (x : Value) (t : TypeId) : ∀ j u, [x][j]? = some u → (w.alloc (.cells #[x] t)).cell? (Addr.add ⟨w.heap.size, 0, none⟩ j) = some u := by
  intro j u hu
  match j with
  | 0 =>
    have : x = u := by simpa using hu
    subst this
    exact cell_of_row _ _ 0 #[x] t (0, 0) (heap_alloc_new w _)
  | j + 1 => simp at hu
theorem oneInt (n : Int) : ∀ u ∈ [Value.int .i64 n], u.oneCell' = true := by
  intro u hu
  have : u = .int .i64 n := by simpa using hu
  subst this
  rfl
end Go.Proofs.YtndhpdjcpagghaaGreatDoor

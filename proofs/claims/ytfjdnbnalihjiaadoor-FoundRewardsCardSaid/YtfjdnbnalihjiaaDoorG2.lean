/- Lists of items and of claims: the reference's ItemsErr, ClaimsErr, BothErr. No condition. -/
import Derived.Test.YtfjdnbnalihjiaaDoorGM
namespace Go.Proofs.YtfjdnbnalihjiaaDoor
open Go.RowKit Fs

def nmVals (l : List ByteArray) : List Value := l.map Value.string
theorem nmVals_snoc (l : List ByteArray) (x : ByteArray) : nmVals (l ++ [x]) = nmVals l ++ [.string x] := by simp [nmVals]
theorem oneStrG (n : ByteArray) : ∀ u ∈ [Value.string n], u.oneCell' = true := by
  intro u hu
  have : u = .string n := by simpa using hu
  subst this
  rfl
theorem gown_strs {w : World} {B : Nat} {e : TypeId} {v : Value} {l : List ByteArray} (h : w.ownsRow B e 1 v l.length (nmVals l)) : ∃ A c, v = .slice A l.length c ∧ ArrS w A l c := by
  have e1 : nmVals l = flat l.length 1 fun i _ => .string (listS l i) := by
    apply List.ext_getElem?
    intro t
    by_cases h0 : t < l.length
    · rw [flat_get t (by omega), Nat.div_one]
      show (l.map Value.string)[t]? = _
      rw [List.getElem?_map, List.getElem?_eq_getElem h0]
      unfold listS
      simp [List.getD_eq_getElem?_getD, List.getElem?_eq_getElem h0]
    · rw [List.getElem?_eq_none (by unfold nmVals; rw [List.length_map]; omega), List.getElem?_eq_none (by simp [flat]; omega)]
  rw [e1] at h
  exact own_row h
theorem Tryd.infoTextG : (Tryd.prog.info? 9).map (fun i => (i.zero, i.size, i.bytes)) = some (some (.string ⟨#[]⟩), 1, 16) := by kernel_rfl
/-- The names of the first k things. -/
def Fs.nmTo (l : List Thg) : Nat → List ByteArray
  | 0 => []
  | k + 1 => nmTo l k ++ [(lThg l k).name]
theorem Fs.nm_len (l : List Thg) (k : Nat) : (nmTo l k).length = k := by
  induction k with
  | zero => rfl
  | succ k ih => rw [nmTo, List.length_append, ih]; rfl
theorem Fs.nm_at (l : List Thg) (k j : Nat) (h : j < k) : listS (nmTo l k) j = (lThg l j).name := by
  induction k with
  | zero => omega
  | succ k ih =>
    rw [nmTo]
    unfold listS
    rw [List.getD_eq_getElem?_getD]
    by_cases e : j = k
    · subst e
      rw [List.getElem?_append_right (by rw [nm_len]; exact Nat.le_refl _), nm_len, Nat.sub_self]
      rfl
    · rw [List.getElem?_append_left (by rw [nm_len]; omega), ← List.getD_eq_getElem?_getD]
      exact ih (by omega)
theorem gown_nm {w : World} {B : Nat} {e : TypeId} {v : Value} {l : List Thg} {k : Nat} (h : w.ownsRow B e 1 v k (nmVals (nmTo l k))) : ∃ A c, v = .slice A k c ∧ ArrS w A (nmTo l k) c := by
  have h2 : w.ownsRow B e 1 v (nmTo l k).length (nmVals (nmTo l k)) := by rw [nm_len]; exact h
  obtain ⟨A, c, e, m⟩ := gown_strs h2
  rw [nm_len] at e
  exact ⟨A, c, e, m⟩
theorem Fs.nm_has (l : List Thg) (x : ByteArray) (k : Nat) : hasText (listS (nmTo l k)) k x = hasText (fun j => (lThg l j).name) k x := by
  unfold hasText
  rw [Bool.eq_iff_iff, List.any_eq_true, List.any_eq_true]
  constructor
  · rintro ⟨j, hj, h⟩
    rw [List.mem_range] at hj
    rw [nm_at l k j hj] at h
    exact ⟨j, List.mem_range.2 hj, h⟩
  · rintro ⟨j, hj, h⟩
    rw [List.mem_range] at hj
    exact ⟨j, List.mem_range.2 hj, by rw [nm_at l k j hj]; exact h⟩
theorem Fs.thgs_hit {l : List Thg} {k : Nat} {x : Int} (h : ¬ 12 < l.length) (hk : k < l.length) (h1 : ∀ j, j < k → thgAt l j = 0) (h2 : thgAt l k = x) (h3 : x ≠ 0) : thgsErr l = x := by
  unfold thgsErr
  rw [if_neg h, (fst_hit hk h1 (by rw [h2]; exact h3)).1, h2]
end Go.Proofs.YtfjdnbnalihjiaaDoor
/- How marks agrees: the reference's Agreement, CanBe. Condition: there are at most a thousand marks. -/
namespace Go.Proofs.YtfjdnbnalihjiaaDoor
open Go.RowKit Fs

structure PairAt (w : World) (g : Nat) (u v : Int) : Prop where
  c0 : w.cell? ⟨g, 0, none⟩ = some (.int .i64 u)
  c1 : w.cell? ⟨g, 1, none⟩ = some (.int .i64 v)
  f0 : w.frozen? ⟨g, 0, none⟩ = false
  f1 : w.frozen? ⟨g, 1, none⟩ = false
theorem PairAt.lt {w : World} {g : Nat} {u v : Int} (m : PairAt w g u v) : g < w.heap.size := World.block_lt_of_cell? w _ m.c0
theorem PairAt.below {B : Nat} {w w' : World} {g : Nat} {u v : Int} (m : PairAt w g u v) (h : Below B w w') (hg : g < B) : PairAt w' g u v :=
  ⟨(h.cell (p := ⟨g, 0, none⟩) hg).trans m.c0, (h.cell (p := ⟨g, 1, none⟩) hg).trans m.c1, (h.frozen (p := ⟨g, 0, none⟩) hg).trans m.f0, (h.frozen (p := ⟨g, 1, none⟩) hg).trans m.f1⟩
theorem PairAt.keep {w w' : World} {g : Nat} {u v : Int} (m : PairAt w g u v) (h : Below w.heap.size w w') : PairAt w' g u v := m.below h m.lt
theorem PairAt.new (w : World) (u v : Int) (t : TypeId) : PairAt (w.alloc (.cells #[.int .i64 u, .int .i64 v] t)) w.heap.size u v := ⟨cellNew _ _ _ 0, cellNew _ _ _ 1, frozenNew _ _ _ 0, frozenNew _ _ _ 1⟩
theorem PairAt.new1 (w : World) (A : Obj) (u v : Int) (t : TypeId) : PairAt ((w.alloc A).alloc (.cells #[.int .i64 u, .int .i64 v] t)) (w.heap.size + 1) u v := ⟨cellNew1 _ _ _ _ 0, cellNew1 _ _ _ _ 1, frozenNew1 _ _ _ _ 0, frozenNew1 _ _ _ _ 1⟩
theorem PairAt.put0 {w : World} {g : Nat} {u v : Int} (m : PairAt w g u v) (x : Int) : PairAt (w.setCell ⟨g, 0, none⟩ (.int .i64 x)) g x v :=
  ⟨World.cell?_setCell_same _ _ _ m.c0, (World.cell?_setCell_other _ _ _ _ (by simp)).trans m.c1, (World.frozen?_setCell _ _ _ _).trans m.f0, (World.frozen?_setCell _ _ _ _).trans m.f1⟩
theorem PairAt.put1 {w : World} {g : Nat} {u v : Int} (m : PairAt w g u v) (x : Int) : PairAt (w.setCell ⟨g, 1, none⟩ (.int .i64 x)) g u x :=
  ⟨(World.cell?_setCell_other _ _ _ _ (by simp)).trans m.c0, World.cell?_setCell_same _ _ _ m.c1, (World.frozen?_setCell _ _ _ _).trans m.f0, (World.frozen?_setCell _ _ _ _).trans m.f1⟩
theorem Fs.agreeIn_bd (x : Mrk) (b : List Mrk) (k : Nat) : 0 ≤ agreeIn x b k ∧ agreeIn x b k ≤ k := by
  unfold agreeIn
  induction k with
  | zero => exact ⟨Int.le_refl _, Int.le_refl _⟩
  | succ k ih => rw [sumTo]; split <;> omega
theorem Fs.differIn_bd (x : Mrk) (b : List Mrk) (k : Nat) : 0 ≤ differIn x b k ∧ differIn x b k ≤ k := by
  unfold differIn
  induction k with
  | zero => exact ⟨Int.le_refl _, Int.le_refl _⟩
  | succ k ih => rw [sumTo]; split <;> omega
theorem Fs.agreeTo_bd (a b : List Mrk) (hb : b.length ≤ 1000) (k : Nat) : 0 ≤ agreeTo a b k ∧ agreeTo a b k ≤ k * 1000 := by
  unfold agreeTo
  induction k with
  | zero => exact ⟨Int.le_refl _, Int.le_refl _⟩
  | succ k ih => rw [sumTo]; have := agreeIn_bd (lMrk a k) b b.length; omega
theorem Fs.differTo_bd (a b : List Mrk) (hb : b.length ≤ 1000) (k : Nat) : 0 ≤ differTo a b k ∧ differTo a b k ≤ k * 1000 := by
  unfold differTo
  induction k with
  | zero => exact ⟨Int.le_refl _, Int.le_refl _⟩
  | succ k ih => rw [sumTo]; have := differIn_bd (lMrk a k) b b.length; omega

end Go.Proofs.YtfjdnbnalihjiaaDoor

/- Pairs and covers: the reference's CopyPairs, CopyCover, the law's great. Conditions: no list has more than a million elements. -/
import Derived.Test.YtfjdnbnalihjiaaDoorK8
import Derived.Deep.RegionHeld3
import Derived.Test.YtfjdnbnalihjiaaDoorRP
namespace Go.Proofs.YtfjdnbnalihjiaaDoor
open Go.RowKit Fs

theorem Tryd.infoPair : (Tryd.prog.info? 26).map (fun i => (i.zero, i.size, i.bytes)) = some (some (.agg #[.int .i64 0, .int .i64 0]), 2, 16) := by kernel_rfl
theorem ArrI.farI {B : Nat} {w : World} {A : Option Addr} {l : List Int} {c : Nat} (h : ArrI w A l c) (ha : Above B A) {p : Addr} (hp : p.block < B) (v : Value) : ArrI (w.setCell p v) A l c := by
  refine ⟨h.1, h.2.1, fun hn => ?_⟩
  obtain ⟨b, o, h1, h4⟩ := h.2.2 hn
  have : B ≤ b := ha _ h1
  refine ⟨b, o, h1, fun i j hi hj => (World.cell?_setCell_far _ _ _ _ ?_).trans (h4 i j hi hj)⟩
  show p.block ≠ b
  omega
/-- Two cells of a block. -/
structure BoxTwo (w : World) (g : Nat) (u v : Value) : Prop where
  c0 : w.cell? ⟨g, 0, none⟩ = some u
  c1 : w.cell? ⟨g, 1, none⟩ = some v
theorem BoxTwo.keep {w w' : World} (k : Keep w w') {g : Nat} {u v : Value} (m : BoxTwo w g u v) : BoxTwo w' g u v := ⟨k _ _ m.c0, k _ _ m.c1⟩
/-- A bool that tells P where it is false. -/
def IfN (P : Prop) (e : Ending) : Prop := ∃ b, e = .returned (.bool b) ∧ (b = false → P)
end Go.Proofs.YtfjdnbnalihjiaaDoor
/- Plain facts: marks agree and differ either way. Two cells that may be written. No condition. -/
namespace Go.Proofs.YtfjdnbnalihjiaaDoor
open Go.RowKit Fs

/-- Two cells, which may be written. -/
structure TwoAt (w : World) (g : Nat) (u v : Value) : Prop where
  c0 : w.cell? ⟨g, 0, none⟩ = some u
  c1 : w.cell? ⟨g, 1, none⟩ = some v
  f0 : w.frozen? ⟨g, 0, none⟩ = false
  f1 : w.frozen? ⟨g, 1, none⟩ = false
theorem TwoAt.lt {w : World} {g : Nat} {u v : Value} (m : TwoAt w g u v) : g < w.heap.size := World.block_lt_of_cell? w _ m.c0
theorem TwoAt.below {B : Nat} {w w' : World} {g : Nat} {u v : Value} (m : TwoAt w g u v) (h : Below B w w') (hg : g < B) : TwoAt w' g u v :=
  ⟨(h.cell (p := ⟨g, 0, none⟩) hg).trans m.c0, (h.cell (p := ⟨g, 1, none⟩) hg).trans m.c1, (h.frozen (p := ⟨g, 0, none⟩) hg).trans m.f0, (h.frozen (p := ⟨g, 1, none⟩) hg).trans m.f1⟩
theorem TwoAt.keep {w w' : World} {g : Nat} {u v : Value} (m : TwoAt w g u v) (h : Below w.heap.size w w') : TwoAt w' g u v := m.below h m.lt
theorem TwoAt.keepD {w w' : World} {g : Nat} {u v : Value} (m : TwoAt w g u v) (h : Below w.drew.heap.size w.drew w') : TwoAt w' g u v := TwoAt.keep (w := w.drew) ⟨m.c0, m.c1, m.f0, m.f1⟩ h
theorem TwoAt.set {w : World} {g : Nat} {u v : Value} (m : TwoAt w g u v) (u' v' : Value) : TwoAt ((w.setCell ⟨g, 0, none⟩ u').setCell ⟨g, 1, none⟩ v') g u' v' :=
  ⟨(World.cell?_setCell_other _ _ _ _ (by simp)).trans (World.cell?_setCell_same _ _ _ m.c0), World.cell?_setCell_same _ _ _ ((World.cell?_setCell_other _ _ _ _ (by simp)).trans m.c1), (World.frozen?_setCell _ _ _ _).trans ((World.frozen?_setCell _ _ _ _).trans m.f0), (World.frozen?_setCell _ _ _ _).trans ((World.frozen?_setCell _ _ _ _).trans m.f1)⟩
theorem TwoAt.new (w : World) (u v : Value) (t : TypeId) : TwoAt (w.alloc (.cells #[u, v] t)) w.heap.size u v := ⟨cellNew _ _ _ 0, cellNew _ _ _ 1, frozenNew _ _ _ 0, frozenNew _ _ _ 1⟩
theorem TwoAt.alloc {w : World} {g : Nat} {u v : Value} (m : TwoAt w g u v) (o : Obj) : TwoAt (w.alloc o) g u v := m.keep ((Below.refl _ _).alloc (Nat.le_refl _) o)
theorem gsize_drew (w : World) : w.drew.heap.size = w.heap.size := rfl
theorem gbelow_realloc {B : Nat} {a w : World} {o : Obj} (h : Below B a (w.alloc o)) (hB : B ≤ w.heap.size) (o' : Obj) : Below B a (w.alloc o') :=
  ⟨h.os, h.tape, h.output, by simpa using h.size, fun k hk => by
    have := h.block k hk
    rw [Below.heap_alloc _ _ _ (by omega)] at this ⊢
    exact this⟩

theorem Fs.sum_zero (n : Nat) : sumTo (fun _ => 0) n = 0 := by
  induction n with
  | zero => rfl
  | succ n ih => rw [sumTo, ih]; rfl
theorem Fs.sum_add (f g : Nat → Int) (n : Nat) : sumTo (fun i => f i + g i) n = sumTo f n + sumTo g n := by
  induction n with
  | zero => rfl
  | succ n ih => rw [sumTo, sumTo, sumTo, ih]; omega
theorem Fs.sum_swap (g : Nat → Nat → Int) (m n : Nat) : sumTo (fun i => sumTo (g i) n) m = sumTo (fun j => sumTo (fun i => g i j) m) n := by
  induction m with
  | zero => exact (sum_zero n).symm
  | succ m ih =>
    rw [sumTo, ih]
    exact (sum_add (fun j => sumTo (fun i => g i j) m) (g m) n).symm
theorem Fs.agrees_comm (a b : List Mrk) : agrees a b = agrees b a := by
  unfold agrees agreeTo agreeIn
  rw [sum_swap]
  congr; funext j; congr; funext i
  by_cases h : (lMrk a i).key = (lMrk b j).key ∧ (lMrk a i).val = (lMrk b j).val
  · rw [if_pos h, if_pos ⟨h.1.symm, h.2.symm⟩]
  · rw [if_neg h, if_neg (fun hh => h ⟨hh.1.symm, hh.2.symm⟩)]
theorem Fs.differs_comm (a b : List Mrk) : differs a b = differs b a := by
  unfold differs differTo differIn
  rw [sum_swap]
  congr; funext j; congr; funext i
  by_cases h : (lMrk a i).key = (lMrk b j).key ∧ (lMrk a i).val ≠ (lMrk b j).val
  · rw [if_pos h, if_pos ⟨h.1.symm, fun e => h.2 e.symm⟩]
  · rw [if_neg h, if_neg (fun hh => h ⟨hh.1.symm, fun e => hh.2 e.symm⟩)]
theorem Fs.agErr_comm {a b : List Mrk} : agErr a b = 0 ↔ agErr b a = 0 := by
  unfold agErr
  by_cases h : marksErr a = 0
  · by_cases h2 : marksErr b = 0
    · simp [h, h2]
    · simp [h, h2]
  · by_cases h2 : marksErr b = 0
    · simp [h, h2]
    · simp [h, h2]
theorem Fs.agOut_comm {a b : List Mrk} : agOut a b = agOut b a := by
  unfold agOut
  by_cases h : agErr a b = 0
  · rw [if_pos h, if_pos (agErr_comm.1 h), agrees_comm, differs_comm]
  · rw [if_neg h, if_neg (fun hh => h (agErr_comm.2 hh))]
theorem geqTwo (a b c d : Int) (w : World) : (Op.equalIn 10000 26 (.agg #[.int .i64 a, .int .i64 b]) (.agg #[.int .i64 c, .int .i64 d])).run Tryd.prog w = .ok (a == c && b == d) w := by
  obtain ⟨i0, hi, hz0, hz1, hz2⟩ := info_parts Tryd.infoIntG
  have hc : Tryd.prog.cellsOf 3 = 1 := by kernel_rfl
  rw [show (10000 : Nat) = 9999 + 1 from rfl, run_equalIn_array _ 9999 _ _ Tryd.underlying26 hi, hc]
  show (Op.eqItems 9999 3 1 _ _ [0, 1]).run _ _ = _
  have h0 : ∀ w : World, (part 3 #[.int .i64 a, .int .i64 b] 0).run Tryd.prog w = .ok (.int .i64 a) w := fun _ => by kernel_rfl
  have h1 : ∀ w : World, (part 3 #[.int .i64 a, .int .i64 b] 1).run Tryd.prog w = .ok (.int .i64 b) w := fun _ => by kernel_rfl
  have h2 : ∀ w : World, (part 3 #[.int .i64 c, .int .i64 d] 0).run Tryd.prog w = .ok (.int .i64 c) w := fun _ => by kernel_rfl
  have h3 : ∀ w : World, (part 3 #[.int .i64 c, .int .i64 d] 1).run Tryd.prog w = .ok (.int .i64 d) w := fun _ => by kernel_rfl
  have e1 : ∀ (x y : Int) (w : World), (Op.equalIn 9999 3 (.int .i64 x) (.int .i64 y)).run Tryd.prog w = .ok (x == y) w := fun x y w => run_equalIn_int (P := Tryd.prog) w 9998 3 .i64 .i64 x y Tryd.underlying3
  simp only [Op.eqItems, Sem.run_bind, Nat.zero_mul, Nat.one_mul, h0, h2, e1, Result.andThen_ok]
  cases a == c with
  | false => simp
  | true =>
    simp only [Bool.not_true, Bool.false_eq_true, if_false, Sem.run_bind, h1, h3, e1, Result.andThen_ok, Bool.true_and]
    cases b == d <;> simp
end Go.Proofs.YtfjdnbnalihjiaaDoor

/- A loop over a function whose rounds are handed slices that the function has laid: one law. No condition. -/
import Derived.RangeFuncNested
import Derived.RangeFuncBound
import Derived.RangeFuncCalls
import Derived.RangeFuncLeaves
import Derived.Shelf.Abstract
import Derived.Shelf.RegionOpen
import Derived.WalkKit
import Derived.OwnWalkIn
import Derived.TacticsInMore
import Derived.LoopNIn
import Derived.LoopIn
import Derived.Test.YtbehabaoeicgeaaC4
namespace Go.Proofs.Ytbehabaoeicgeaa
open Go.RowKit Fs

theorem keep_putObj {W : World} {l : Nat} {o : Obj} (o' : Obj) (h : W.heap[l]? = some o) (ho : o.isCells = false) : Keep W (W.putObj l o') :=
  fun _ _ hc => cell_kept hc (grownBy_putObj' W l o') (fun _ e => by cases e; exact ⟨o, h, ho⟩)
/-- What new blocks alone leave as it is. -/
def Stays {α : Type} (J : List α → World → Prop) : Prop := ∀ s A C, J s A → Below A.heap.size A C → J s C
theorem grown_of_below {A C : World} (h : Below A.heap.size A C) : A.grownBy C none := ⟨h.os, h.tape, h.output, h.size, fun k hk _ => h.block k hk⟩
/-- A function that hands on values x, of each of which M x is true in the world in which it is handed on. -/
def Yields {α : Type} (F : Fence) (n : Nat) (P : Program) (g : Nat) (lb : Array Value) (encs : α → Array Value) (M : α → World → Prop) (S Sp : List α → Prop) (w : World) : Prop :=
  ∀ (l : Nat) (J Jx : List α → World → Prop) (W : World), Keep w W → Stays J →
    (∀ pre x W1, J pre W1 → M x W1 → YieldAt F (n - 1) P l (encs x) W1 fun e W' => (e = .returned (.bool true) ∧ J (pre ++ [x]) W' ∧ Keep W1 W') ∨ (e = .returned (.bool false) ∧ Jx (pre ++ [x]) W')) →
    J [] W → CallsIn F n P g (#[.func (.yield l) #[] #[]] ++ lb) W fun e W' => (∃ v, e = .returned v) ∧ ((∃ xs, S xs ∧ J xs W') ∨ (∃ pre, Sp pre ∧ Jx pre W'))
/-- A round goes on, or it returns. -/
def endsRound {α : Type} (B : Nat) (I Ix : List α → World → Prop) (xs : List α) (W : World) : Exit → Act → World → Prop
  | .normal, _, W' => KeepsFrom B W W' ∧ Keep W W' ∧ I xs W'
  | .ret, _, W' => KeepsFrom B W W' ∧ Ix xs W'
  | _, _, _ => False

theorem rangeOver {F : Fence} {n : Nat} {P : Program} {α : Type} {g : Operand} {ps : Array Tmp} {assign body : Code} {Q : Exit → Act → World → Prop} {a : Act} {w : World}
    (hro : F.round = none) (h1 : 1 ≤ n) {gf : Nat} {lb : Array Value} (hg : a.eval g = .func (.func gf) #[] lb) (hFg : F.fn gf) (eg : ∀ args w, (callFunc gf args).run P w = .ok (.enter gf args) w)
    {encs : α → Array Value} {M : α → World → Prop} {S Sp : List α → Prop} {w0 : World} (hseq : Yields F (n - 1) P gf lb encs M S Sp w0) (hk0 : Keep w0 w) (hps : ∀ x, (encs x).size = ps.size)
    (I Ix : List α → World → Prop) (hI : OwnFrom w.heap.size I) (hIx : OwnFrom w.heap.size Ix) (h0 : I [] w) (Ax : α → Act → World → Prop) (hAx : ∀ x a', OwnFrom w.heap.size (fun (_ : Unit) W => Ax x a' W))
    (hassign : ∀ (l : Nat) (pre : List α) (x : α) (W : World) (K : Act → World → Prop), I pre W → M x W → (∀ a' W', KeepsFrom w.heap.size W W' → Keep W W' → I pre W' → Ax x a' W' → K a' W') →
      assign.wpIn (F.inRound l) (n - 1 - 1) P (Exit.then K (fun _ _ _ => False)) { tmps := (ps.zip (encs x)).foldl (fun t (p, v) => t.setIfInBounds p v) a.tmps, defers := [] } W)
    (hbody : ∀ (l : Nat) (pre : List α) (x : α) (a' : Act) (W : World), I pre W → Ax x a' W → body.wpIn (F.inRound l) (n - 1 - 1) P (endsRound w.heap.size I Ix (pre ++ [x]) W) a' W)
    (hdone : ∀ (D : Nat) (xs : List α) (W : World), w.heap.size ≤ D → S xs → I xs W → W.heap[D]? = some (.deferred (some [])) → Q .normal { a with defers := { target := .collected D, args := #[] } :: a.defers } W)
    (hstop : ∀ (D : Nat) (pre : List α) (W : World), w.heap.size ≤ D → Sp pre → Ix pre W → W.heap[D]? = some (.deferred (some [])) → Code.ret.wpIn F n P Q { a with defers := { target := .collected D, args := #[] } :: a.defers } W) :
    (Code.rangeFunc g ps assign body).wpIn F n P Q a w := by
  apply wpIn_rangeFunc
  intro fn hfn
  rw [hro]
  generalize hB : w.heap.size = B at *
  -- the loop's record
  let recOf : LoopState → Option Code → Loop := fun st pe => { state := st, pending := pe, fn := fn, tmps := a.tmps, params := ps, assign := assign, body := body, defers := B }
  have size1 : (w.alloc (.deferred (some []))).heap.size = B + 1 := by rw [World.size_alloc, hB]
  have row1 : ((w.alloc (.deferred (some []))).alloc (.loop (recOf .ready none))).heap[B + 1]? = some (.loop (recOf .ready none)) := by
    rw [← size1]; exact World.alloc_heap_new _ _
  have row0 : ((w.alloc (.deferred (some []))).alloc (.loop (recOf .ready none))).heap[B]? = some (.deferred (some [])) := by
    rw [Below.heap_alloc _ _ _ (by omega), ← hB]; exact World.alloc_heap_new _ _
  have start : I [] ((w.alloc (.deferred (some []))).alloc (.loop (recOf .ready none))) := hI.alloc _ (hI.alloc _ h0)
  have keep1 : Keep w0 ((w.alloc (.deferred (some []))).alloc (.loop (recOf .ready none))) := fun p u hc => (Keep.alloc _ _) p u ((Keep.alloc _ _) p u (hk0 p u hc))
  have enter := run_enterLoop_outer (P := P) (w := w) fn a.tmps ps assign body
  rw [hB] at enter
  generalize (w.alloc (.deferred (some []))).alloc (.loop (recOf .ready none)) = W1 at *
  refine ⟨B + 1, [{ target := .collected B, args := #[] }], W1, { target := .fn (.func gf) lb, args := #[.func (.yield (B + 1)) #[] #[]] }, W1, gf, #[.func (.yield (B + 1)) #[] #[]] ++ lb, W1, enter, ?_, ?_, ?_, fun _ => h1, ?_⟩
  · simp only [resolve, hg]
    simp [go_sem]
  · intro f' hf'
    simp [Target.leads] at hf'
    subst hf'
    exact hFg
  · simp [invoke, go_sem, eg]
  have stay : Stays (fun pre W => I pre W ∧ W.heap[B + 1]? = some (.loop (recOf .ready none)) ∧ W.heap[B]? = some (.deferred (some []))) := by
    rintro s A C ⟨i1, i2, i3⟩ hb
    refine ⟨hI s A C none i1 (grown_of_below hb) (fun r e => by cases e), ?_, ?_⟩
    · rw [hb.block _ (Array.getElem?_eq_some_iff.1 i2).1]; exact i2
    · rw [hb.block _ (Array.getElem?_eq_some_iff.1 i3).1]; exact i3
  refine (hseq (B + 1) _ (fun pre W => Ix pre W ∧ W.heap[B + 1]? = some (.loop (recOf .done (some .ret))) ∧ W.heap[B]? = some (.deferred (some []))) W1 keep1 stay ?_ ⟨start, row1, row0⟩).mono ?_
  · -- a round
    rintro pre x W ⟨i1, i2, i3⟩ hM
    refine ⟨fn, _, assign, body, run_yield (P := P) (args := encs x) i2 (hps x), roundIn_of_wpIn hfn (hassign _ pre x W _ i1 hM ?_)⟩
    intro a' W2 f1 f2 f3 f4
    have l2 := f1.same _ _ (Nat.le_succ B) i2 rfl
    have d2 := f1.same _ _ (Nat.le_refl B) i3 rfl
    have lt2 := (Array.getElem?_eq_some_iff.1 l2).1
    refine ⟨_, run_beginRound l2 rfl, ?_⟩
    have k3 := keep_putObj (.loop { recOf .ready none with state := .busy }) l2 rfl
    have l3 : (W2.putObj (B + 1) (.loop { recOf .ready none with state := .busy })).heap[B + 1]? = some (.loop { recOf .ready none with state := .busy }) := World.putObj_heap_same lt2
    have d3 : (W2.putObj (B + 1) (.loop { recOf .ready none with state := .busy })).heap[B]? = some (.deferred (some [])) := (World.putObj_heap_other (by omega)).trans d2
    have i4 := hI.putObj (.loop { recOf .ready none with state := .busy }) f3 (Nat.le_succ B) l2 rfl
    have x4 := (hAx x a').putObj (s := ()) (.loop { recOf .ready none with state := .busy }) f4 (Nat.le_succ B) l2 rfl
    generalize W2.putObj (B + 1) (.loop { recOf .ready none with state := .busy }) = W3 at *
    refine wpIn_mono (hbody _ pre x a' W3 i4 x4) ?_
    rintro e a3 W4 hp
    cases e with
    | normal =>
      obtain ⟨q1, q2, q3⟩ := hp
      have l5 := q1.same _ _ (Nat.le_succ B) l3 rfl
      have d5 := q1.same _ _ (Nat.le_refl B) d3 rfl
      refine ⟨_, _, run_endRound (P := P) none l5, .inl ⟨rfl, ⟨hI.putObj _ q3 (Nat.le_succ B) l5 rfl, World.putObj_heap_same (Array.getElem?_eq_some_iff.1 l5).1, (World.putObj_heap_other (by omega)).trans d5⟩, ?_⟩⟩
      exact fun p u hc => keep_putObj _ l5 rfl p u (q2 p u (k3 p u (f2 p u hc)))
    | ret =>
      obtain ⟨q1, q3⟩ := hp
      have l5 := q1.same _ _ (Nat.le_succ B) l3 rfl
      have d5 := q1.same _ _ (Nat.le_refl B) d3 rfl
      exact ⟨_, _, run_endRound (P := P) (some .ret) l5, .inr ⟨rfl, hIx.putObj _ q3 (Nat.le_succ B) l5 rfl, World.putObj_heap_same (Array.getElem?_eq_some_iff.1 l5).1, (World.putObj_heap_other (by omega)).trans d5⟩⟩
    | exit id => exact hp.elim
    | goto t => exact hp.elim
    | panic ch => exact hp.elim
    | outgrown => exact hp.elim
  · -- behind the function
    rintro e W2 ⟨⟨v, rfl⟩, (⟨xs, hS, i1, i2, i3⟩ | ⟨pre, hS, i1, i2, i3⟩)⟩
    · exact ⟨none, _, run_endLoop (P := P) i2 (by simp [recOf]), hdone B xs _ (Nat.le_refl _) hS (hI.putObj _ i1 (Nat.le_succ B) i2 rfl) ((World.putObj_heap_other (by omega)).trans i3)⟩
    · exact ⟨some .ret, _, run_endLoop (P := P) i2 (by simp [recOf]), hstop B pre _ (Nat.le_refl _) hS (hIx.putObj _ i1 (Nat.le_succ B) i2 rfl) ((World.putObj_heap_other (by omega)).trans i3)⟩
end Go.Proofs.Ytbehabaoeicgeaa

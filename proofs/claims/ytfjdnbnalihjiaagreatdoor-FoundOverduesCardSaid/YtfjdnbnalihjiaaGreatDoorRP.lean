/- A region that draws its order, the last operation of which waits for all the others: those in whatever order, then this one. No condition. -/
import Derived.Test.YtfjdnbnalihjiaaGreatDoorT2
import Derived.StillTail
import Derived.Deep.RegionHeld3
namespace Go.Proofs.YtfjdnbnalihjiaaGreatDoor
open Go.RowKit Fs

section
variable {P : Program} {md : Region.Mode} {Q : Exit → Act → World → Prop}

/-- What is asked behind all operations but the last one. -/
def Peeled (P : Program) (ops : Array Oper) (Q : Exit → Act → World → Prop) (last : Oper) : Exit → Act → World → Prop
  | .normal, a, w => wpList P ops Q [last] a w
  | e, a, w => Q e a w
theorem Peeled.other {ops : Array Oper} {last : Oper} {e : Exit} {a : Act} {w : World} (he : e ≠ .normal) (h : Peeled P ops Q last e a w) : Q e a w := by
  cases e <;> first | exact absurd rfl he | exact h

/-- All operations wait for earlier ones alone, and look at earlier guards alone. -/
def downB (ops : Array Oper) : Bool :=
  (List.range ops.size).all fun i => match ops[i]? with
    | some o => (o.after.all fun e => decide (e.on < i)) && (match o.guard with | some (g, _) => decide (g < i) | none => true)
    | none => true
theorem downB_spec {ops : Array Oper} (h : downB ops = true) {i : Nat} {o : Oper} (ho : ops[i]? = some o) :
    (∀ e ∈ o.after, e.on < i) ∧ ∀ g b, o.guard = some (g, b) → g < i := by
  have hi : i < ops.size := (Array.getElem?_eq_some_iff.1 ho).1
  have h1 := List.all_eq_true.1 h i (List.mem_range.2 hi)
  rw [ho] at h1
  simp only [Bool.and_eq_true] at h1
  refine ⟨fun e he => ?_, fun g b hg => ?_⟩
  · have := Array.all_eq_true'.1 h1.1 e he
    simpa using this
  · have h2 := h1.2
    rw [hg] at h2
    simpa using h2

/-- If no operation may come up, all have. -/
theorem ready_none {ops : Array Oper} (hd : downB ops = true) {listed : Array Bool} (hs : listed.size = ops.size) (h : Region.ready md ops listed = []) :
    ∀ k i, i < k → i < ops.size → listed.getD i false = true := by
  intro k
  induction k with
  | zero => intro i hi; omega
  | succ k ih =>
    intro i hik hi
    by_cases hlt : i < k
    · exact ih i hlt hi
    · have hik' : i = k := by omega
      subst hik'
      cases hl : listed.getD i false with
      | true => rfl
      | false =>
        obtain ⟨o, ho⟩ : ∃ o, ops[i]? = some o := ⟨ops[i], Array.getElem?_eq_some_iff.2 ⟨hi, rfl⟩⟩
        have : i ∈ Region.ready md ops listed := mem_ready.2 ⟨getD_in (by omega) hl, o, ho, fun e he _ => ih e.on ((downB_spec hd ho).1 e he) (Nat.lt_trans ((downB_spec hd ho).1 e he) hi)⟩
        rw [h] at this
        cases this

structure Beside (n : Nat) (L l : Array Bool) : Prop where
  big : L.size = n + 1
  small : l.size = n
  same : ∀ i, i < n → L.getD i false = l.getD i false
  top : L.getD n false = false
theorem Beside.set {n i : Nat} {L l : Array Bool} (h : Beside n L l) (hi : i < n) : Beside n (L.setIfInBounds i true) (l.setIfInBounds i true) := by
  refine ⟨by simp [h.big], by simp [h.small], fun j hj => ?_, ?_⟩
  · by_cases hij : i = j
    · subst hij
      have hb := h.big
      have hs := h.small
      rw [show (L.setIfInBounds i true).getD i false = true by simp [show i < L.size by omega], show (l.setIfInBounds i true).getD i false = true by simp [show i < l.size by omega]]
    · rw [getD_set_ne false hij, getD_set_ne false hij]; exact h.same j hj
  · rw [getD_set_ne false (by omega)]; exact h.top

variable {l : List Oper} {last : Oper}
theorem peel_at {i : Nat} (hi : i < l.length) : (l ++ [last]).toArray[i]? = l.toArray[i]? := by
  simp [List.getElem?_append_left hi]
theorem peel_yielded {a : Act} {g : Nat} (hg : g < l.length) : yielded (l ++ [last]).toArray a.tmps g = yielded l.toArray a.tmps g := by
  unfold yielded
  rw [peel_at hg]
theorem peel_wanted (hd : downB l.toArray = true) {o : Oper} {i : Nat} (ho : l.toArray[i]? = some o) (a : Act) :
    Region.wanted o (yielded (l ++ [last]).toArray a.tmps) = Region.wanted o (yielded l.toArray a.tmps) := by
  have hi : i < l.length := by have := (Array.getElem?_eq_some_iff.1 ho).1; simpa using this
  have h2 := (downB_spec hd ho).2
  unfold Region.wanted
  cases hg : o.guard with
  | none => rfl
  | some p =>
    obtain ⟨g, b⟩ := p
    have := h2 g b hg
    dsimp only
    rw [peel_yielded (by omega)]

theorem peel_ready (hd : downB l.toArray = true) {L k : Array Bool} (h : Beside l.length L k) {i : Nat} (hi : i < l.length) :
    i ∈ Region.ready md (l ++ [last]).toArray L ↔ i ∈ Region.ready md l.toArray k := by
  have hb := h.big
  have hs := h.small
  have hu : ∀ z, L.getD i true = z ↔ k.getD i true = z := fun z => by
    have e := h.same i hi
    have e1 : L.getD i true = L.getD i false := by simp [show i < L.size by omega]
    have e2 : k.getD i true = k.getD i false := by simp [show i < k.size by omega]
    rw [e1, e2, e]
  rw [mem_ready, mem_ready, peel_at hi, hu]
  constructor
  · rintro ⟨h0, o, ho, hall⟩
    exact ⟨h0, o, ho, fun e he hbe => by rw [← h.same e.on (Nat.lt_trans ((downB_spec hd ho).1 e he) hi)]; exact hall e he hbe⟩
  · rintro ⟨h0, o, ho, hall⟩
    exact ⟨h0, o, ho, fun e he hbe => by rw [h.same e.on (Nat.lt_trans ((downB_spec hd ho).1 e he) hi)]; exact hall e he hbe⟩

/-- The last operation waits for all others, if each waits for none but earlier ones and each is waited for. -/
def peelB (md : Region.Mode) (l : List Oper) (last : Oper) : Bool :=
  (downB l.toArray && downB (l ++ [last]).toArray) && Region.sinkB md (l ++ [last]).toArray l.length

theorem peel_waits (hB : peelB md l last = true) {L k : Array Bool} (h : Beside l.length L k) (hc : ∀ j oj, (l ++ [last]).toArray[j]? = some oj → L.getD j false = true → ∀ e ∈ oj.after, Region.binds md e = true → L.getD e.on false = true)
    {i : Nat} (hi : i < l.length) (hu : L.getD i false = false) : l.length ∉ Region.ready md (l ++ [last]).toArray L := by
  unfold peelB at hB
  rw [Bool.and_eq_true] at hB
  refine tail_waits (n := l.length) hB.2 ?_ (by simp) ⟨by simp [h.big], hc, fun t ht ht' => ?_⟩ _ i rfl hi (getD_in (by rw [h.big]; omega) hu) l.length (Nat.le_refl _)
  · refine List.all_eq_true.2 fun t ht => ?_
    have ht := List.mem_range.1 ht
    simp only [List.size_toArray, List.length_append, List.length_cons, List.length_nil] at ht
    have : decide (t ≤ l.length) = true := decide_eq_true (by omega)
    rw [this]; rfl
  · simp only [List.size_toArray, List.length_append, List.length_cons, List.length_nil] at ht'
    have : t = l.length := by omega
    subst this
    exact getD_in (by rw [h.big]; omega) h.top

def Shut2 (md : Region.Mode) (ops : Array Oper) (L : Array Bool) : Prop := ∀ j oj, ops[j]? = some oj → L.getD j false = true → ∀ e ∈ oj.after, Region.binds md e = true → L.getD e.on false = true
theorem Shut2.set {ops : Array Oper} {L : Array Bool} (h : Shut2 md ops L) {i : Nat} (hi : i ∈ Region.ready md ops L) : Shut2 md ops (L.setIfInBounds i true) := by
  obtain ⟨_, oi, hoi, hall⟩ := mem_ready.1 hi
  intro j oj hj hl e he hb
  by_cases hij : i = j
  · subst hij
    have : oj = oi := Option.some.inj (hj.symm.trans hoi)
    subst this
    exact getD_set_true (hall e he hb)
  · rw [getD_set_ne false hij] at hl
    exact getD_set_true (h j oj hj hl e he hb)

theorem wpOp_exits {ops : Array Oper} {Q Q' : Exit → Act → World → Prop} {i : Nat} {K : Act → World → Prop} {a : Act} {w : World} (hQ : ∀ e a w, e ≠ .normal → Q e a w → Q' e a w) (h : wpOp P ops Q i K a w) : wpOp P ops Q' i K a w := by
  unfold wpOp at *
  split
  · rename_i ho; simp only [ho] at h; exact h
  · rename_i o ho
    simp only [ho] at h
    split
    · rename_i hw
      simp only [hw, if_true] at h
      rcases h with h | ⟨h, a', w', h'⟩
      · refine Or.inl ?_
        unfold Oper.wp at *
        generalize (execOp a.eval o).run P w = r at *
        cases r with
        | ok n w' =>
          cases n <;> simp only [Oper.upon] at h ⊢ <;>
            first
              | exact h
              | exact Calls.mono h (fun e w'' he => by
                  cases e with
                  | returned v => exact he
                  | panicked c => exact hQ _ _ _ (by intro h; cases h) he
                  | outgrown => obtain ⟨a', w', h'⟩ := he; exact ⟨a', w', hQ _ _ _ (by intro h; cases h) h'⟩)
        | halt x w' => cases x <;> simp only [Oper.upon] at h ⊢ <;> first | exact h | exact hQ _ _ _ (by intro h; cases h) h
      · exact Or.inr ⟨h, a', w', hQ _ _ _ (by intro h; cases h) h'⟩
    · rename_i hw; simp only [hw] at h; exact h

theorem wpOp_small (hd : downB l.toArray = true) {Q : Exit → Act → World → Prop} {i : Nat} (hi : i < l.length) {K : Act → World → Prop} {a : Act} {w : World} (h : wpOp P l.toArray Q i K a w) : wpOp P (l ++ [last]).toArray Q i K a w := by
  obtain ⟨o, ho⟩ : ∃ o, l.toArray[i]? = some o := ⟨l.toArray[i], Array.getElem?_eq_some_iff.2 ⟨by simpa using hi, rfl⟩⟩
  unfold wpOp at *
  rw [peel_at hi]
  simp only [ho] at h ⊢
  rw [peel_wanted hd ho]
  exact h

theorem wpAny_peel (hB : peelB md l last = true) : ∀ (f : Nat) (L k : Array Bool) (a : Act) (w : World), Beside l.length L k → Shut2 md (l ++ [last]).toArray L →
    wpAny P md l.toArray (Peeled P (l ++ [last]).toArray Q last) f k a w → wpAny P md (l ++ [last]).toArray Q (f + 1) L a w := by
  have hd : downB l.toArray = true := by unfold peelB at hB; rw [Bool.and_eq_true, Bool.and_eq_true] at hB; exact hB.1.1
  have hd2 : downB (l ++ [last]).toArray = true := by unfold peelB at hB; rw [Bool.and_eq_true, Bool.and_eq_true] at hB; exact hB.1.2
  have hlast : (l ++ [last]).toArray[l.length]? = some last := by simp
  -- all heads have come up: the last one
  have fin : ∀ (f : Nat) (L k : Array Bool) (a : Act) (w : World), Beside l.length L k → Region.ready md l.toArray k = [] → wpList P (l ++ [last]).toArray Q [last] a w →
      ∀ i ∈ Region.ready md (l ++ [last]).toArray L, wpOp P (l ++ [last]).toArray Q i (wpAny P md (l ++ [last]).toArray Q f (L.setIfInBounds i true)) a w := by
    intro f L k a w h h0 hq i hi
    have hall := ready_none hd (by simp [h.small]) h0
    have hin : i = l.length := by
      obtain ⟨hu, o, ho, _⟩ := mem_ready.1 hi
      have hlt := (Array.getElem?_eq_some_iff.1 ho).1
      simp only [List.size_toArray, List.length_append, List.length_cons, List.length_nil] at hlt
      rcases Nat.lt_or_ge i l.length with hj | hj
      · have h1 := hall (i + 1) i (by omega) (by simpa using hj)
        rw [← h.same i hj] at h1
        have h2 := getD_both hu
        rw [h1] at h2
        cases h2
      · omega
    subst hin
    have hdone : Region.ready md (l ++ [last]).toArray (L.setIfInBounds l.length true) = [] := by
      refine List.eq_nil_iff_forall_not_mem.2 fun j hj => ?_
      obtain ⟨hu, o, ho, _⟩ := mem_ready.1 hj
      have hlt := (Array.getElem?_eq_some_iff.1 ho).1
      simp only [List.size_toArray, List.length_append, List.length_cons, List.length_nil] at hlt
      have h2 := getD_both hu
      by_cases hjn : l.length = j
      · subst hjn
        have hb := h.big
        rw [show (L.setIfInBounds l.length true).getD l.length false = true by simp [show l.length < L.size by omega]] at h2
        cases h2
      · rw [getD_set_ne false hjn, h.same j (by omega), hall (j + 1) j (by omega) (by simp; omega)] at h2
        cases h2
    have hK : ∀ a w, Q .normal a w → wpAny P md (l ++ [last]).toArray Q f (L.setIfInBounds l.length true) a w := by
      intro a w hq
      cases f with
      | zero => exact ⟨hdone, hq⟩
      | succ f => exact ⟨fun _ => hq, fun j hj => by rw [hdone] at hj; cases hj⟩
    unfold wpOp
    simp only [hlast]
    unfold wpList at hq
    split
    · rename_i hw
      rw [if_pos hw] at hq
      exact hq.imp (Oper.wp_mono fun a w h => hK a w (by simpa [wpList] using h)) id
    · rename_i hw
      rw [if_neg hw] at hq
      exact hK _ _ (by simpa [wpList] using hq)
  have some_ready : ∀ (L k : Array Bool), Beside l.length L k → Region.ready md (l ++ [last]).toArray L ≠ [] := by
    intro L k h h0
    have hb := h.big
    have hready0 : Region.ready md l.toArray k = [] := List.eq_nil_iff_forall_not_mem.2 fun j hj => by
      have hjl : j < l.length := by
        obtain ⟨_, o, ho, _⟩ := mem_ready.1 hj
        have := (Array.getElem?_eq_some_iff.1 ho).1
        simpa using this
      have := (peel_ready (last := last) hd h hjl).2 hj
      rw [h0] at this
      cases this
    have hall := ready_none hd (by simp [h.small]) hready0
    have : l.length ∈ Region.ready md (l ++ [last]).toArray L := by
      refine mem_ready.2 ⟨getD_in (by omega) h.top, last, hlast, fun e he hbe => ?_⟩
      have hon := (downB_spec hd2 hlast).1 e he
      rw [h.same _ hon]; exact hall (e.on + 1) e.on (by omega) (by simpa using hon)
    rw [h0] at this
    cases this
  intro f
  induction f with
  | zero =>
    intro L k a w h hc hh
    exact ⟨fun h0 => absurd h0 (some_ready L k h), fin 0 L k a w h hh.1 hh.2⟩
  | succ f ih =>
    intro L k a w h hc hh
    refine ⟨fun h0 => absurd h0 (some_ready L k h), fun i hi => ?_⟩
    by_cases hin : i < l.length
    · have h1 := hh.2 i ((peel_ready hd h hin).1 hi)
      refine wpOp_small hd hin (wpOp_exits (fun e a w he hq => Peeled.other he hq) (wpOp_mono (fun a' w' h' => ih _ _ a' w' (h.set hin) (hc.set hi) h') h1))
    · have hlen : i = l.length := by
        obtain ⟨hu, o, ho, _⟩ := mem_ready.1 hi
        have hlt := (Array.getElem?_eq_some_iff.1 ho).1
        simp only [List.size_toArray, List.length_append, List.length_cons, List.length_nil] at hlt
        omega
      subst hlen
      have h0 : Region.ready md l.toArray k = [] := by
        refine List.eq_nil_iff_forall_not_mem.2 fun j hj => ?_
        have hjl : j < l.length := by
          obtain ⟨_, o, ho, _⟩ := mem_ready.1 hj
          have := (Array.getElem?_eq_some_iff.1 ho).1
          simpa using this
        have hu : L.getD j false = false := by rw [h.same j hjl]; exact getD_both (mem_ready.1 hj).1
        exact peel_waits hB h hc hjl hu hi
      exact fin (f + 1) L k a w h h0 (hh.1 h0) l.length hi

/-- A region whose last operation waits for all others. -/
theorem wp_region_peel {id : Nat} {a : Act} {w : World} (hm : P.follows .mixedOrders = true) (hB : peelB .any l last = true)
    (h : wpAny P .any l.toArray (Peeled P (l ++ [last]).toArray Q last) l.toArray.size (Array.replicate l.toArray.size false) a w.drew) : (Code.region id (l ++ [last]).toArray true).wp P Q a w := by
  refine wp_region_any hm ?_
  have := wpAny_peel (md := .any) (Q := Q) hB l.toArray.size (Array.replicate (l ++ [last]).toArray.size false) (Array.replicate l.toArray.size false) a w.drew
    ⟨by simp, by simp, fun i hi => by rw [getD_replicate_false, getD_replicate_false], getD_replicate_false _ _⟩ (fun j oj _ hl => by rw [getD_replicate_false] at hl; cases hl) h
  have e : (l ++ [last]).toArray.size = l.toArray.size + 1 := by simp
  rw [e] at this ⊢
  exact this
variable {C : World → Prop}
/-- .. those others quiet in a class of worlds: one walk of the order of the text. -/
theorem quietPeel {id : Nat} {a : Act} {w : World} (hm : P.follows .mixedOrders = true) (hB : peelB .any l last = true) (hB2 : Region.lexB .any l.toArray = true) (hC : C w.drew)
    (h : wpQuiet P l.toArray C (fun a' => ∀ w', C w' → wpList P (l ++ [last]).toArray Q [last] a' w') l a) : (Code.region id (l ++ [last]).toArray true).wp P Q a w := by
  refine wp_region_peel hm hB ?_
  simp only [Region.lexB, Bool.and_eq_true] at hB2
  refine wpAny_of_quiet (C := C) (Q := fun a' => ∀ w', C w' → wpList P (l ++ [last]).toArray Q [last] a' w') (fun _ w' hw' h => h w' hw') _ _ _ _ hC ?_
  have := wpAnyQ_lex (C := C) (md := .any) hB2.1 l 0 (Array.replicate l.toArray.size false) a (by simp) (by simpa using hB2.2) h
  simpa using this
/-- .. those others in whatever order, S held. -/
theorem heldPeel {S : World → Prop} {id : Nat} {a : Act} {w : World} (hm : P.follows .mixedOrders = true) (hB : peelB .any l last = true) (hS : S w.drew)
    (h : S w.drew → wpAnyH P .any l.toArray (Peeled P (l ++ [last]).toArray Q last) S l.toArray.size (Array.replicate l.toArray.size false) a w.drew) : (Code.region id (l ++ [last]).toArray true).wp P Q a w :=
  wp_region_peel hm hB (wpAny_of_held _ _ _ _ (h hS))
end
end Go.Proofs.YtfjdnbnalihjiaaGreatDoor

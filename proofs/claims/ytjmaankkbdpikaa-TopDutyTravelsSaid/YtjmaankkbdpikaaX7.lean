/- The first broken rule of records. Condition: records are right. -/
import Derived.Test.YtjmaankkbdpikaaX6
import Derived.Test.YtjmaankkbdpikaaT16
import Derived.Test.YtjmaankkbdpikaaT2
import Derived.StillTail
import Derived.Deep.RegionHeld3
import Derived.Test.YtjmaankkbdpikaaT47
import Derived.Deep.AppendLies
import Derived.Lib.SliceRun
namespace Go.Proofs.Ytjmaankkbdpikaa
open Go.RowKit Fs

theorem Right.upTo {l : List WRec} (h : Right l) {n : Nat} (hn : n ≤ l.length) : Fit (l.take n) := h.fit.take hn
def Fs.firstOut (R : DRules) (l : List WRec) : Int × Nat × Int := if brokenRule R l = 0 then (0, 0, 12) else (brokenRule R l, brokenRec R l, 0)
theorem Fs.first_hit {R : DRules} {l : List WRec} {k : Nat} (hk : k < l.length) (h1 : ∀ j, j < k → brokenAt R l j = 0) (h2 : brokenAt R l k ≠ 0) : firstOut R l = (brokenAt R l k, k, 0) := by
  obtain ⟨e1, e2⟩ := fst_hit hk h1 h2
  have e1 : brokenRule R l = brokenAt R l k := e1
  have e2 : brokenRec R l = k := e2
  unfold firstOut
  rw [e1, e2, if_neg h2]
theorem Fs.first_none {R : DRules} {l : List WRec} (h1 : ∀ j, j < l.length → brokenAt R l j = 0) : firstOut R l = (0, 0, 12) := by
  have e1 : brokenRule R l = 0 := fst_none h1
  unfold firstOut
  rw [if_pos e1]
theorem xBrokenUpTo_any (R : DRules) (l : List WRec) (A : Option Addr) (c k : Nat) (w : World) (h : ArrW w A l c) (hR : Right l) (hk : k < l.length) :
    Calls Try.prog 48 #[bookV R A (k + 1) c] w fun e w' => e = .returned (.int .i64 (brokenAt R l k)) ∧ Below w.heap.size w w' := by
  have e := xBrokenLast_any R (l.take (k + 1)) A c k w (h.upTo (by omega)) (hR.fit.take (by omega)) (xtake_len (by omega))
  rw [xtake_len (by omega), brokenAt_upTo] at e
  exact e
set_option linter.unusedSimpArgs false in
set_option maxHeartbeats 12800000 in
set_option maxRecDepth 100000 in
theorem xFirst_any (R : DRules) (l : List WRec) (A : Option Addr) (c : Nat) (w : World) (h : ArrW w A l c) (hR : Right l) :
    Calls Try.prog 46 #[bookV R A l.length c] w fun e w' => e = .returned (.tuple #[.agg #[.int .i64 (firstOut R l).1, .int .i64 (firstOut R l).2.1], .int .i64 (firstOut R l).2.2]) ∧ Below w.heap.size w w' := by
  have b1 := h.le.1
  have b2 := h.le.2
  have HA := Lib.hid h
  have HR := Lib.hid hR
  have hlen := hR.len
  clear h hR
  have BB := Lib.hid ((BookIn.new w R A l.length c 74).keep (Keep.alloc _ (.cells #[.int .i64 0, .int .i64 0] 104)))
  have BT := Lib.hid (TreeAt.new (w.alloc (.cells #[.int .i64 R.brk, .int .i64 R.rest, .int .i64 R.stint, .int .i64 R.shift, .int .i64 R.week, .slice A l.length c] 74)) (.int .i64 0) (.int .i64 0) 104)
  have hsz : (w.alloc (.cells #[.int .i64 R.brk, .int .i64 R.rest, .int .i64 R.stint, .int .i64 R.shift, .int .i64 R.week, .slice A l.length c] 74)).heap.size = w.heap.size + 1 := by simp
  rw [hsz] at BT
  clear hsz
  go_enter Try.func46, Try.ntmps46
  go_upto_region 1 with fail
  generalize hwb : (w.alloc _).alloc _ = wb at *
  have HW : Hid (Below w.heap.size w wb) := by rw [← hwb]; exact Lib.hid (((Below.refl _ _).alloc (Nat.le_refl _) _).alloc (by simp) _)
  clear hwb
  obtain ⟨k0, k1, k2, k3, k4, k5⟩ := BB.out
  go_wp2_with fail
  go_loopw [9] (fun i wr => ∃ k : Nat, k ≤ l.length ∧ i = .int .i64 k ∧ Hid (∀ j, j < k → brokenAt R l j = 0) ∧ Hid (Below wb.heap.size wb wr)) (fun i _ => l.length - (intOf i).toNat)
  case atStart => exact ⟨0, Nat.zero_le _, rfl, Lib.hid fun j hj => absurd hj (Nat.not_lt_zero _), Lib.hid (Below.refl _ _)⟩
  case round =>
    obtain ⟨k, hk, rfl, Hn, HB⟩ := hrel
    by_cases hlt : k < l.length
    · have hkn : (k : Int) < (l.length : Int) := by omega
      clear k0 k1 k2 k3 k4 k5
      replace BB := Lib.hid (BB.out.keep (Keep.below HB.out))
      replace BT := Lib.hid (BT.out.keep HB.out)
      replace HW := Lib.hid (HW.out.trans (HB.out.mono HW.out.size))
      obtain ⟨b, o, hA, -⟩ := HA.out.at_ hlt
      have HAA := Lib.hid (show ∃ b o, A = some ⟨b, o, none⟩ from ⟨b, o, hA⟩)
      clear hA
      obtain ⟨k0, k1, k2, k3, k4, k5⟩ := BB.out
      go_wp2_with fail
      refine (xUpTo_any R A l.length c k _ hlt b1 (by omega) (fun _ => HAA.out) b2).mono ?_
      rintro e' w1 ⟨rfl, hb1⟩
      have HB1 := Lib.hid (HB.out.trans (hb1.mono HB.out.size))
      replace BT := Lib.hid (BT.out.keep hb1)
      replace HW := Lib.hid (HW.out.trans (hb1.mono HW.out.size))
      clear hb1 k0 k1 k2 k3 k4 k5
      go_wp2_with fail
      refine (xBrokenUpTo_any R l A c k _ (HA.out.keep (Keep.below HW.out)) HR.out hlt).mono ?_
      rintro e' w2 ⟨rfl, hb1⟩
      replace HB1 := Lib.hid (HB1.out.trans (hb1.mono HB1.out.size))
      replace BT := Lib.hid (BT.out.keep hb1)
      replace HW := Lib.hid (HW.out.trans (hb1.mono HW.out.size))
      clear hb1
      by_cases he : brokenAt R l k = 0
      · have G : Hid (∀ j, j < k + 1 → brokenAt R l j = 0) := Lib.hid fun j hj => by
          by_cases e : j = k
          · subst e; exact he
          · exact Hn.out j (by omega)
        rw [he]
        clear he
        go_wp2_with fail
        go_roundw
        case rel => exact ⟨k + 1, by omega, by go_num, G, HB1⟩
        case measure => simp [intOf]; omega
      · have F := Lib.hid (first_hit hlt Hn.out he)
        have e1 : (brokenAt R l k == 0) = false := by simpa using he
        have e2 : (brokenAt R l k != 0) = true := by simpa using he
        clear he
        obtain ⟨t0, t1, f0, f1⟩ := BT.out
        go_wp2_with fail
        obtain ⟨s0, s1, -, -⟩ := BT.out.set (.int .i64 (brokenAt R l k)) (.int .i64 k)
        refine bodyPost_ret (v := .tuple #[.agg #[.int .i64 (brokenAt R l k), .int .i64 k], .int .i64 0]) (by simp [results, Try.results46, go_sem, s0, s1]) rfl ⟨by rw [F.out], ?_⟩
        exact (HW.out.setCell (p := ⟨w.heap.size + 1, 0, none⟩) (by simp) _).setCell (p := ⟨w.heap.size + 1, 1, none⟩) (by simp) _
    · have F := Lib.hid (first_none (R := R) (l := l) (fun j hj => Hn.out j (by omega)))
      replace BT := Lib.hid (BT.out.keep HB.out)
      replace HW := Lib.hid (HW.out.trans (HB.out.mono HW.out.size))
      obtain ⟨t0, t1, f0, f1⟩ := BT.out
      go_wp2_with fail
      obtain ⟨s0, s1, -, -⟩ := BT.out.set (.int .i64 0) (.int .i64 0)
      refine bodyPost_ret (v := .tuple #[.agg #[.int .i64 0, .int .i64 0], .int .i64 12]) (by simp [results, Try.results46, go_sem, s0, s1]) rfl ⟨by rw [F.out]; rfl, ?_⟩
      exact (HW.out.setCell (p := ⟨w.heap.size + 1, 0, none⟩) (by simp) _).setCell (p := ⟨w.heap.size + 1, 1, none⟩) (by simp) _
end Go.Proofs.Ytjmaankkbdpikaa
/- A region that draws its order, the last operation of which waits for all the others: those in whatever order, then this one. No condition. -/
namespace Go.Proofs.Ytjmaankkbdpikaa
open Go.RowKit Fs

section
variable {P : Program} {md : Region.Mode} {Q : Exit → Act → World → Prop}

/-- What is asked behind all operations but the last one. -/
def Peeled (P : Program) (ops : Array Oper) (Q : Exit → Act → World → Prop) (last : Oper) : Exit → Act → World → Prop
  | .normal, a, w => wpList P ops Q [last] a w
  | e, a, w => Q e a w
theorem Peeled.other {ops : Array Oper} {last : Oper} {e : Exit} {a : Act} {w : World} (he : e ≠ .normal) (h : Peeled P ops Q last e a w) : Q e a w := by
  cases e <;> first | exact absurd rfl he | exact h

/-- All operations wait for earlier ones alone, and look at earlier guards alone. -/
def downB (ops : Array Oper) : Bool :=
  (List.range ops.size).all fun i => match ops[i]? with
    | some o => (o.after.all fun e => decide (e.on < i)) && (match o.guard with | some (g, _) => decide (g < i) | none => true)
    | none => true
theorem downB_spec {ops : Array Oper} (h : downB ops = true) {i : Nat} {o : Oper} (ho : ops[i]? = some o) :
    (∀ e ∈ o.after, e.on < i) ∧ ∀ g b, o.guard = some (g, b) → g < i := by
  have hi : i < ops.size := (Array.getElem?_eq_some_iff.1 ho).1
  have h1 := List.all_eq_true.1 h i (List.mem_range.2 hi)
  rw [ho] at h1
  simp only [Bool.and_eq_true] at h1
  refine ⟨fun e he => ?_, fun g b hg => ?_⟩
  · have := Array.all_eq_true'.1 h1.1 e he
    simpa using this
  · have h2 := h1.2
    rw [hg] at h2
    simpa using h2

/-- If no operation may come up, all have. -/
theorem ready_none {ops : Array Oper} (hd : downB ops = true) {listed : Array Bool} (hs : listed.size = ops.size) (h : Region.ready md ops listed = []) :
    ∀ k i, i < k → i < ops.size → listed.getD i false = true := by
  intro k
  induction k with
  | zero => intro i hi; omega
  | succ k ih =>
    intro i hik hi
    by_cases hlt : i < k
    · exact ih i hlt hi
    · have hik' : i = k := by omega
      subst hik'
      cases hl : listed.getD i false with
      | true => rfl
      | false =>
        obtain ⟨o, ho⟩ : ∃ o, ops[i]? = some o := ⟨ops[i], Array.getElem?_eq_some_iff.2 ⟨hi, rfl⟩⟩
        have : i ∈ Region.ready md ops listed := mem_ready.2 ⟨getD_in (by omega) hl, o, ho, fun e he _ => ih e.on ((downB_spec hd ho).1 e he) (Nat.lt_trans ((downB_spec hd ho).1 e he) hi)⟩
        rw [h] at this
        cases this

structure Beside (n : Nat) (L l : Array Bool) : Prop where
  big : L.size = n + 1
  small : l.size = n
  same : ∀ i, i < n → L.getD i false = l.getD i false
  top : L.getD n false = false
theorem Beside.set {n i : Nat} {L l : Array Bool} (h : Beside n L l) (hi : i < n) : Beside n (L.setIfInBounds i true) (l.setIfInBounds i true) := by
  refine ⟨by simp [h.big], by simp [h.small], fun j hj => ?_, ?_⟩
  · by_cases hij : i = j
    · subst hij
      have hb := h.big
      have hs := h.small
      rw [show (L.setIfInBounds i true).getD i false = true by simp [show i < L.size by omega], show (l.setIfInBounds i true).getD i false = true by simp [show i < l.size by omega]]
    · rw [getD_set_ne false hij, getD_set_ne false hij]; exact h.same j hj
  · rw [getD_set_ne false (by omega)]; exact h.top

variable {l : List Oper} {last : Oper}
theorem peel_at {i : Nat} (hi : i < l.length) : (l ++ [last]).toArray[i]? = l.toArray[i]? := by
  simp [List.getElem?_append_left hi]
theorem peel_yielded {a : Act} {g : Nat} (hg : g < l.length) : yielded (l ++ [last]).toArray a.tmps g = yielded l.toArray a.tmps g := by
  unfold yielded
  rw [peel_at hg]
theorem peel_wanted (hd : downB l.toArray = true) {o : Oper} {i : Nat} (ho : l.toArray[i]? = some o) (a : Act) :
    Region.wanted o (yielded (l ++ [last]).toArray a.tmps) = Region.wanted o (yielded l.toArray a.tmps) := by
  have hi : i < l.length := by have := (Array.getElem?_eq_some_iff.1 ho).1; simpa using this
  have h2 := (downB_spec hd ho).2
  unfold Region.wanted
  cases hg : o.guard with
  | none => rfl
  | some p =>
    obtain ⟨g, b⟩ := p
    have := h2 g b hg
    dsimp only
    rw [peel_yielded (by omega)]

theorem peel_ready (hd : downB l.toArray = true) {L k : Array Bool} (h : Beside l.length L k) {i : Nat} (hi : i < l.length) :
    i ∈ Region.ready md (l ++ [last]).toArray L ↔ i ∈ Region.ready md l.toArray k := by
  have hb := h.big
  have hs := h.small
  have hu : ∀ z, L.getD i true = z ↔ k.getD i true = z := fun z => by
    have e := h.same i hi
    have e1 : L.getD i true = L.getD i false := by simp [show i < L.size by omega]
    have e2 : k.getD i true = k.getD i false := by simp [show i < k.size by omega]
    rw [e1, e2, e]
  rw [mem_ready, mem_ready, peel_at hi, hu]
  constructor
  · rintro ⟨h0, o, ho, hall⟩
    exact ⟨h0, o, ho, fun e he hbe => by rw [← h.same e.on (Nat.lt_trans ((downB_spec hd ho).1 e he) hi)]; exact hall e he hbe⟩
  · rintro ⟨h0, o, ho, hall⟩
    exact ⟨h0, o, ho, fun e he hbe => by rw [h.same e.on (Nat.lt_trans ((downB_spec hd ho).1 e he) hi)]; exact hall e he hbe⟩

/-- The last operation waits for all others, if each waits for none but earlier ones and each is waited for. -/
def peelB (md : Region.Mode) (l : List Oper) (last : Oper) : Bool :=
  (downB l.toArray && downB (l ++ [last]).toArray) && Region.sinkB md (l ++ [last]).toArray l.length

theorem peel_waits (hB : peelB md l last = true) {L k : Array Bool} (h : Beside l.length L k) (hc : ∀ j oj, (l ++ [last]).toArray[j]? = some oj → L.getD j false = true → ∀ e ∈ oj.after, Region.binds md e = true → L.getD e.on false = true)
    {i : Nat} (hi : i < l.length) (hu : L.getD i false = false) : l.length ∉ Region.ready md (l ++ [last]).toArray L := by
  unfold peelB at hB
  rw [Bool.and_eq_true] at hB
  refine tail_waits (n := l.length) hB.2 ?_ (by simp) ⟨by simp [h.big], hc, fun t ht ht' => ?_⟩ _ i rfl hi (getD_in (by rw [h.big]; omega) hu) l.length (Nat.le_refl _)
  · refine List.all_eq_true.2 fun t ht => ?_
    have ht := List.mem_range.1 ht
    simp only [List.size_toArray, List.length_append, List.length_cons, List.length_nil] at ht
    have : decide (t ≤ l.length) = true := decide_eq_true (by omega)
    rw [this]; rfl
  · simp only [List.size_toArray, List.length_append, List.length_cons, List.length_nil] at ht'
    have : t = l.length := by omega
    subst this
    exact getD_in (by rw [h.big]; omega) h.top

def Shut2 (md : Region.Mode) (ops : Array Oper) (L : Array Bool) : Prop := ∀ j oj, ops[j]? = some oj → L.getD j false = true → ∀ e ∈ oj.after, Region.binds md e = true → L.getD e.on false = true
theorem Shut2.set {ops : Array Oper} {L : Array Bool} (h : Shut2 md ops L) {i : Nat} (hi : i ∈ Region.ready md ops L) : Shut2 md ops (L.setIfInBounds i true) := by
  obtain ⟨_, oi, hoi, hall⟩ := mem_ready.1 hi
  intro j oj hj hl e he hb
  by_cases hij : i = j
  · subst hij
    have : oj = oi := Option.some.inj (hj.symm.trans hoi)
    subst this
    exact getD_set_true (hall e he hb)
  · rw [getD_set_ne false hij] at hl
    exact getD_set_true (h j oj hj hl e he hb)

theorem wpOp_exits {ops : Array Oper} {Q Q' : Exit → Act → World → Prop} {i : Nat} {K : Act → World → Prop} {a : Act} {w : World} (hQ : ∀ e a w, e ≠ .normal → Q e a w → Q' e a w) (h : wpOp P ops Q i K a w) : wpOp P ops Q' i K a w := by
  unfold wpOp at *
  split
  · rename_i ho; simp only [ho] at h; exact h
  · rename_i o ho
    simp only [ho] at h
    split
    · rename_i hw
      simp only [hw, if_true] at h
      rcases h with h | ⟨h, a', w', h'⟩
      · refine Or.inl ?_
        unfold Oper.wp at *
        generalize (execOp a.eval o).run P w = r at *
        cases r with
        | ok n w' =>
          cases n <;> simp only [Oper.upon] at h ⊢ <;>
            first
              | exact h
              | exact Calls.mono h (fun e w'' he => by
                  cases e with
                  | returned v => exact he
                  | panicked c => exact hQ _ _ _ (by intro h; cases h) he
                  | outgrown => obtain ⟨a', w', h'⟩ := he; exact ⟨a', w', hQ _ _ _ (by intro h; cases h) h'⟩)
        | halt x w' => cases x <;> simp only [Oper.upon] at h ⊢ <;> first | exact h | exact hQ _ _ _ (by intro h; cases h) h
      · exact Or.inr ⟨h, a', w', hQ _ _ _ (by intro h; cases h) h'⟩
    · rename_i hw; simp only [hw] at h; exact h

theorem wpOp_small (hd : downB l.toArray = true) {Q : Exit → Act → World → Prop} {i : Nat} (hi : i < l.length) {K : Act → World → Prop} {a : Act} {w : World} (h : wpOp P l.toArray Q i K a w) : wpOp P (l ++ [last]).toArray Q i K a w := by
  obtain ⟨o, ho⟩ : ∃ o, l.toArray[i]? = some o := ⟨l.toArray[i], Array.getElem?_eq_some_iff.2 ⟨by simpa using hi, rfl⟩⟩
  unfold wpOp at *
  rw [peel_at hi]
  simp only [ho] at h ⊢
  rw [peel_wanted hd ho]
  exact h

theorem wpAny_peel (hB : peelB md l last = true) : ∀ (f : Nat) (L k : Array Bool) (a : Act) (w : World), Beside l.length L k → Shut2 md (l ++ [last]).toArray L →
    wpAny P md l.toArray (Peeled P (l ++ [last]).toArray Q last) f k a w → wpAny P md (l ++ [last]).toArray Q (f + 1) L a w := by
  have hd : downB l.toArray = true := by unfold peelB at hB; rw [Bool.and_eq_true, Bool.and_eq_true] at hB; exact hB.1.1
  have hd2 : downB (l ++ [last]).toArray = true := by unfold peelB at hB; rw [Bool.and_eq_true, Bool.and_eq_true] at hB; exact hB.1.2
  have hlast : (l ++ [last]).toArray[l.length]? = some last := by simp
  -- all heads have come up: the last one
  have fin : ∀ (f : Nat) (L k : Array Bool) (a : Act) (w : World), Beside l.length L k → Region.ready md l.toArray k = [] → wpList P (l ++ [last]).toArray Q [last] a w →
      ∀ i ∈ Region.ready md (l ++ [last]).toArray L, wpOp P (l ++ [last]).toArray Q i (wpAny P md (l ++ [last]).toArray Q f (L.setIfInBounds i true)) a w := by
    intro f L k a w h h0 hq i hi
    have hall := ready_none hd (by simp [h.small]) h0
    have hin : i = l.length := by
      obtain ⟨hu, o, ho, _⟩ := mem_ready.1 hi
      have hlt := (Array.getElem?_eq_some_iff.1 ho).1
      simp only [List.size_toArray, List.length_append, List.length_cons, List.length_nil] at hlt
      rcases Nat.lt_or_ge i l.length with hj | hj
      · have h1 := hall (i + 1) i (by omega) (by simpa using hj)
        rw [← h.same i hj] at h1
        have h2 := getD_both hu
        rw [h1] at h2
        cases h2
      · omega
    subst hin
    have hdone : Region.ready md (l ++ [last]).toArray (L.setIfInBounds l.length true) = [] := by
      refine List.eq_nil_iff_forall_not_mem.2 fun j hj => ?_
      obtain ⟨hu, o, ho, _⟩ := mem_ready.1 hj
      have hlt := (Array.getElem?_eq_some_iff.1 ho).1
      simp only [List.size_toArray, List.length_append, List.length_cons, List.length_nil] at hlt
      have h2 := getD_both hu
      by_cases hjn : l.length = j
      · subst hjn
        have hb := h.big
        rw [show (L.setIfInBounds l.length true).getD l.length false = true by simp [show l.length < L.size by omega]] at h2
        cases h2
      · rw [getD_set_ne false hjn, h.same j (by omega), hall (j + 1) j (by omega) (by simp; omega)] at h2
        cases h2
    have hK : ∀ a w, Q .normal a w → wpAny P md (l ++ [last]).toArray Q f (L.setIfInBounds l.length true) a w := by
      intro a w hq
      cases f with
      | zero => exact ⟨hdone, hq⟩
      | succ f => exact ⟨fun _ => hq, fun j hj => by rw [hdone] at hj; cases hj⟩
    unfold wpOp
    simp only [hlast]
    unfold wpList at hq
    split
    · rename_i hw
      rw [if_pos hw] at hq
      exact hq.imp (Oper.wp_mono fun a w h => hK a w (by simpa [wpList] using h)) id
    · rename_i hw
      rw [if_neg hw] at hq
      exact hK _ _ (by simpa [wpList] using hq)
  have some_ready : ∀ (L k : Array Bool), Beside l.length L k → Region.ready md (l ++ [last]).toArray L ≠ [] := by
    intro L k h h0
    have hb := h.big
    have hready0 : Region.ready md l.toArray k = [] := List.eq_nil_iff_forall_not_mem.2 fun j hj => by
      have hjl : j < l.length := by
        obtain ⟨_, o, ho, _⟩ := mem_ready.1 hj
        have := (Array.getElem?_eq_some_iff.1 ho).1
        simpa using this
      have := (peel_ready (last := last) hd h hjl).2 hj
      rw [h0] at this
      cases this
    have hall := ready_none hd (by simp [h.small]) hready0
    have : l.length ∈ Region.ready md (l ++ [last]).toArray L := by
      refine mem_ready.2 ⟨getD_in (by omega) h.top, last, hlast, fun e he hbe => ?_⟩
      have hon := (downB_spec hd2 hlast).1 e he
      rw [h.same _ hon]; exact hall (e.on + 1) e.on (by omega) (by simpa using hon)
    rw [h0] at this
    cases this
  intro f
  induction f with
  | zero =>
    intro L k a w h hc hh
    exact ⟨fun h0 => absurd h0 (some_ready L k h), fin 0 L k a w h hh.1 hh.2⟩
  | succ f ih =>
    intro L k a w h hc hh
    refine ⟨fun h0 => absurd h0 (some_ready L k h), fun i hi => ?_⟩
    by_cases hin : i < l.length
    · have h1 := hh.2 i ((peel_ready hd h hin).1 hi)
      refine wpOp_small hd hin (wpOp_exits (fun e a w he hq => Peeled.other he hq) (wpOp_mono (fun a' w' h' => ih _ _ a' w' (h.set hin) (hc.set hi) h') h1))
    · have hlen : i = l.length := by
        obtain ⟨hu, o, ho, _⟩ := mem_ready.1 hi
        have hlt := (Array.getElem?_eq_some_iff.1 ho).1
        simp only [List.size_toArray, List.length_append, List.length_cons, List.length_nil] at hlt
        omega
      subst hlen
      have h0 : Region.ready md l.toArray k = [] := by
        refine List.eq_nil_iff_forall_not_mem.2 fun j hj => ?_
        have hjl : j < l.length := by
          obtain ⟨_, o, ho, _⟩ := mem_ready.1 hj
          have := (Array.getElem?_eq_some_iff.1 ho).1
          simpa using this
        have hu : L.getD j false = false := by rw [h.same j hjl]; exact getD_both (mem_ready.1 hj).1
        exact peel_waits hB h hc hjl hu hi
      exact fin (f + 1) L k a w h h0 (hh.1 h0) l.length hi

/-- A region whose last operation waits for all others. -/
theorem wp_region_peel {id : Nat} {a : Act} {w : World} (hm : P.follows .mixedOrders = true) (hB : peelB .any l last = true)
    (h : wpAny P .any l.toArray (Peeled P (l ++ [last]).toArray Q last) l.toArray.size (Array.replicate l.toArray.size false) a w.drew) : (Code.region id (l ++ [last]).toArray true).wp P Q a w := by
  refine wp_region_any hm ?_
  have := wpAny_peel (md := .any) (Q := Q) hB l.toArray.size (Array.replicate (l ++ [last]).toArray.size false) (Array.replicate l.toArray.size false) a w.drew
    ⟨by simp, by simp, fun i hi => by rw [getD_replicate_false, getD_replicate_false], getD_replicate_false _ _⟩ (fun j oj _ hl => by rw [getD_replicate_false] at hl; cases hl) h
  have e : (l ++ [last]).toArray.size = l.toArray.size + 1 := by simp
  rw [e] at this ⊢
  exact this
variable {C : World → Prop}
/-- .. those others quiet in a class of worlds: one walk of the order of the text. -/
theorem quietPeel {id : Nat} {a : Act} {w : World} (hm : P.follows .mixedOrders = true) (hB : peelB .any l last = true) (hB2 : Region.lexB .any l.toArray = true) (hC : C w.drew)
    (h : wpQuiet P l.toArray C (fun a' => ∀ w', C w' → wpList P (l ++ [last]).toArray Q [last] a' w') l a) : (Code.region id (l ++ [last]).toArray true).wp P Q a w := by
  refine wp_region_peel hm hB ?_
  simp only [Region.lexB, Bool.and_eq_true] at hB2
  refine wpAny_of_quiet (C := C) (Q := fun a' => ∀ w', C w' → wpList P (l ++ [last]).toArray Q [last] a' w') (fun _ w' hw' h => h w' hw') _ _ _ _ hC ?_
  have := wpAnyQ_lex (C := C) (md := .any) hB2.1 l 0 (Array.replicate l.toArray.size false) a (by simp) (by simpa using hB2.2) h
  simpa using this
/-- .. those others in whatever order, S held. -/
theorem heldPeel {S : World → Prop} {id : Nat} {a : Act} {w : World} (hm : P.follows .mixedOrders = true) (hB : peelB .any l last = true) (hS : S w.drew)
    (h : S w.drew → wpAnyH P .any l.toArray (Peeled P (l ++ [last]).toArray Q last) S l.toArray.size (Array.replicate l.toArray.size false) a w.drew) : (Code.region id (l ++ [last]).toArray true).wp P Q a w :=
  wp_region_peel hm hB (wpAny_of_held _ _ _ _ (h hS))
end
end Go.Proofs.Ytjmaankkbdpikaa
/- A book with a record more, in memory of its own. Condition: records can be read, there are not many. -/
namespace Go.Proofs.Ytjmaankkbdpikaa
open Go.RowKit Fs

set_option maxHeartbeats 800000 in
set_option maxRecDepth 100000 in
theorem xClone_any (l : List WRec) (A : Option Addr) (c : Nat) (w : World) (h : ArrW w A l c) (hn : l.length ≤ 1000000) :
    Calls Try.prog 68 #[.slice A l.length c] w fun e w' => (∃ v, e = .returned v ∧ w'.ownsRow w.heap.size 91 3 v l.length (recFlat l)) ∧ Below w.heap.size w w' := by
  obtain ⟨i0, hi, hz0, hz1, hz2⟩ := info_parts Try.infoDRec
  have q22 : ∀ (w : World) (a : Option Addr) (n c n' c' : Nat), (binOp .eql 54 (.slice a n c) (.slice none n' c')).run Try.prog w = .ok (.bool a.isNone) w := fun w a n c n' c' => Lib.run_eql_slice_nil w _ _ a n c n' c' Try.underlying54
  cases A with
  | none =>
    have hl : l.length = 0 := by
      rcases Nat.eq_zero_or_pos l.length with h0 | h0
      · exact h0
      · obtain ⟨_, _, e, -⟩ := h.2.2 h0
        cases e
    have hL : l = [] := List.eq_nil_of_length_eq_zero hl
    subst hL
    clear h hl hn
    go_enter Try.func68, Try.ntmps68
    go_wp2_with fail
    go_ret
    exact ⟨⟨_, rfl, World.ownsRow_nil _ _ _ _⟩, Below.refl _ _⟩
  | some ad =>
    go_enter Try.func68, Try.ntmps68
    go_wp2_with (at_builtin
                 refine wpList_copy rfl (.tmp 5) (.tmp 6) 54 rfl 91 i0 _ 3 32 Try.underlying54 hi hz0 hz1 hz2 rfl (by decide) w.heap.size w.heap.size rfl (Nat.le_refl _) (heap_alloc_new _ _) (some ad) l.length c _ rfl (Arr.keep (Keep.alloc w _) h) (by intro i j; unfold recCells; split <;> rfl) (by unfold maxLen; omega) (by omega) ?_
                 intro A1 c1 w1 ha hb)
    go_ret
    exact ⟨⟨_, rfl, ha⟩, ((Below.refl _ _).alloc (Nat.le_refl _) _).trans hb⟩
theorem ArrW.far {w : World} {b o c : Nat} {l : List WRec} (h : ArrW w (some ⟨b, o, none⟩) l c) {p : Addr} (hp : p.block ≠ b) (v : Value) : ArrW (w.setCell p v) (some ⟨b, o, none⟩) l c := by
  refine ⟨h.1, h.2.1, fun hh => ?_⟩
  obtain ⟨b', o', e, hc⟩ := h.2.2 hh
  obtain ⟨rfl, rfl⟩ : b = b' ∧ o = o' := by simpa using e
  exact ⟨b, o, rfl, fun i j hi hj => (World.cell?_setCell_other _ _ _ _ (fun e' => hp (by rw [e']))).trans (hc i j hi hj)⟩
theorem xOneRec (w : World) (x : WRec) : Arr (w.alloc (.cells #[.string x.who, .int .i64 x.beg, .int .i64 x.fin] 91)) (some ⟨w.heap.size, 0, none⟩) 1 1 3 (fun _ j => recCells x j) := by
  refine ⟨Nat.le_refl _, by omega, fun _ => ⟨w.heap.size, 0, rfl, fun i j hi hj => ?_⟩⟩
  obtain rfl : i = 0 := by omega
  obtain rfl | rfl | rfl : j = 0 ∨ j = 1 ∨ j = 2 := by omega
  · exact cellNew _ _ _ 0
  · exact cellNew _ _ _ 1
  · exact cellNew _ _ _ 2
theorem xMoreFlat {l W : List WRec} {x : WRec} (h : W = l ++ [x]) : recFlat l ++ flat 1 3 (fun _ j => recCells x j) = flat (l.length + 1) 3 fun i j => recCells (listW W i) j := by
  subst h
  refine flat_join (by decide) (fun i j hi hj => ?_) (fun i j hi hj => ?_)
  · rw [listW_left hi]
  · obtain rfl : i = 0 := by omega
    rw [Nat.add_zero, listW_last]
set_option linter.unusedSimpArgs false in
set_option maxHeartbeats 12800000 in
set_option maxRecDepth 100000 in
theorem xWith_any (R : DRules) (l : List WRec) (x : WRec) (A : Option Addr) (c : Nat) (w : World) (h : ArrW w A l c) (hl : l.length ≤ 1000) :
    Calls Try.prog 47 #[bookV R A l.length c, recV x] w fun e w' => (∃ A' c', e = .returned (bookV R A' (l ++ [x]).length c') ∧ ArrW w' A' (l ++ [x]) c') ∧ Below w.heap.size w w' := by
  have b1 := h.le.1
  have b2 := h.le.2
  have HA := Lib.hid h
  clear h
  obtain ⟨V, hV⟩ : ∃ V, V = l ++ [x] := ⟨_, rfl⟩
  have hVl : V.length = l.length + 1 := by rw [hV]; simp
  have HV := Lib.hid hV
  rw [← hV]
  clear hV
  obtain ⟨i0, hi, hz0, hz1, hz2⟩ := info_parts Try.infoDRec
  have B1 := Lib.hid (Six.new w (.int .i64 R.brk) (.int .i64 R.rest) (.int .i64 R.stint) (.int .i64 R.shift) (.int .i64 R.week) (.slice A l.length c) 74)
  have B2 := Lib.hid (B1.out.keep ((Below.refl _ _).alloc (Nat.le_refl _) (.cells #[.string x.who, .int .i64 x.beg, .int .i64 x.fin] 91)))
  have BB := Lib.hid (B2.out.keep ((Below.refl _ _).alloc (Nat.le_refl _) (.cells #[.int .i64 0, .int .i64 0, .int .i64 0, .int .i64 0, .int .i64 0, .slice none 0 0] 74)))
  have X1 := Lib.hid (show RecAt (w.alloc (.cells #[.int .i64 R.brk, .int .i64 R.rest, .int .i64 R.stint, .int .i64 R.shift, .int .i64 R.week, .slice A l.length c] 74) |>.alloc (.cells #[.string x.who, .int .i64 x.beg, .int .i64 x.fin] 91)) (w.heap.size + 1) 0 x from ⟨cellNew1 _ _ _ _ 0, cellNew1 _ _ _ _ 1, cellNew1 _ _ _ _ 2⟩)
  have XR := Lib.hid (X1.out.keep (Keep.alloc _ (.cells #[.int .i64 0, .int .i64 0, .int .i64 0, .int .i64 0, .int .i64 0, .slice none 0 0] 74)))
  have BT := Lib.hid (Six.new (w.alloc (.cells #[.int .i64 R.brk, .int .i64 R.rest, .int .i64 R.stint, .int .i64 R.shift, .int .i64 R.week, .slice A l.length c] 74) |>.alloc (.cells #[.string x.who, .int .i64 x.beg, .int .i64 x.fin] 91)) (.int .i64 0) (.int .i64 0) (.int .i64 0) (.int .i64 0) (.int .i64 0) (.slice none 0 0) 74)
  have hsz : ((w.alloc (.cells #[.int .i64 R.brk, .int .i64 R.rest, .int .i64 R.stint, .int .i64 R.shift, .int .i64 R.week, .slice A l.length c] 74)).alloc (.cells #[.string x.who, .int .i64 x.beg, .int .i64 x.fin] 91)).heap.size = w.heap.size + 1 + 1 := by simp
  rw [hsz] at BT
  clear B1 B2 X1 hsz
  go_enter Try.func47, Try.ntmps47
  go_upto_region 1 with fail
  generalize hwb : ((w.alloc _).alloc _).alloc _ = wb at *
  have HW : Hid (Below w.heap.size w wb) := by rw [← hwb]; exact Lib.hid ((((Below.refl _ _).alloc (Nat.le_refl _) _).alloc (by simp) _).alloc (by simp; omega) _)
  have HSZ : Hid (w.heap.size + 1 + 1 < wb.heap.size) := by rw [← hwb]; exact Lib.hid (by simp)
  clear hwb
  obtain ⟨x0, x1, x2⟩ := XR.out
  have k5 := BB.out.c5
  have KA : Hid (∀ w', Below wb.heap.size wb w' → ArrW w' A l c) := Lib.hid fun w' hw => HA.out.keep (Keep.below (HW.out.trans (hw.mono HW.out.size)))
  have HBd : Hid (Below wb.heap.size wb wb.drew) := Lib.hid (Below.refl _ _).drew
  have MK : Hid (∀ w', Below wb.heap.size wb w' → w'.cell? ⟨w.heap.size, 5, none⟩ = some (.slice A l.length c) ∧ w'.cell? ⟨w.heap.size + 1, 0, none⟩ = some (.string x.who) ∧ w'.cell? ⟨w.heap.size + 1, 1, none⟩ = some (.int .i64 x.beg) ∧ w'.cell? ⟨w.heap.size + 1, 2, none⟩ = some (.int .i64 x.fin) ∧ Hid (Below wb.heap.size wb w')) :=
    Lib.hid fun w' hw => ⟨Keep.below hw _ _ k5, Keep.below hw _ _ x0, Keep.below hw _ _ x1, Keep.below hw _ _ x2, Lib.hid hw⟩
  refine heldPeel (S := fun w' => w'.cell? ⟨w.heap.size, 5, none⟩ = some (.slice A l.length c) ∧ w'.cell? ⟨w.heap.size + 1, 0, none⟩ = some (.string x.who) ∧ w'.cell? ⟨w.heap.size + 1, 1, none⟩ = some (.int .i64 x.beg) ∧ w'.cell? ⟨w.heap.size + 1, 2, none⟩ = some (.int .i64 x.fin) ∧ Hid (Below wb.heap.size wb w')) (l := [_, _, _, _, _, _, _]) (by kernel_rfl) (by kernel_rfl) (MK.out _ HBd.out) (fun hHeld => ?_)
  refine wpAnyH_take (i := 0) (v := ?val0x19) rfl (by kernel_rfl) (by kernel_rfl) (by kernel_rfl) (fun _ _ _ h => h) (Or.inl ⟨by rfl, fun w9 hS9 => ?yields0x19⟩) (by assumption) ?later0x19
  case yields0x19 =>
    dsimp only at hS9
    go_simp
    try with_reducible rfl
  try simp only [Act.put, List.getElem_toArray, List.getElem_cons_succ, List.getElem_cons_zero, List.setIfInBounds_toArray, List.set_cons_zero, List.set_cons_succ]
  refine wpAnyH_take (i := 1) (v := ?val1x20) rfl (by kernel_rfl) (by kernel_rfl) (by kernel_rfl) (fun _ _ _ h => h) (Or.inl ⟨by rfl, fun w9 hS9 => ?yields1x20⟩) (by assumption) ?later1x20
  case yields1x20 =>
    dsimp only at hS9
    go_simp
    try with_reducible rfl
  try simp only [Act.put, List.getElem_toArray, List.getElem_cons_succ, List.getElem_cons_zero, List.setIfInBounds_toArray, List.set_cons_zero, List.set_cons_succ]
  refine wpAnyH_take (i := 3) (v := ?val3x21) rfl (by kernel_rfl) (by kernel_rfl) (by kernel_rfl) (fun _ _ _ h => h) (Or.inl ⟨by rfl, fun w9 hS9 => ?yields3x21⟩) (by assumption) ?later3x21
  case yields3x21 =>
    dsimp only at hS9
    go_simp
    try with_reducible rfl
  try simp only [Act.put, List.getElem_toArray, List.getElem_cons_succ, List.getElem_cons_zero, List.setIfInBounds_toArray, List.set_cons_zero, List.set_cons_succ]
  generalize hyy : World.drew wb = y0 at *
  clear hyy
  refine wpAnyH_ready (rs := [2, 4]) (by kernel_rfl) (by simp) ?_
  refine AllReadyH.cons rfl (fun K hK => ?_) (AllReadyH.cons rfl (fun K hK => ?_) (AllReadyH.nil))
  · go_simp
    obtain ⟨-, -, -, -, HBX⟩ := hHeld
    go_at_call 68
    refine (xClone_any l A c _ (KA.out _ HBX.out) (by omega)).mono ?_
    rintro e' y1 ⟨⟨vc, rfl, ho⟩, hb1⟩
    have HO := Lib.hid (own_low ho HBX.out.size)
    go_wp2_with fail
    refine hK.out _ _ (MK.out _ (HBX.out.trans (hb1.mono HBX.out.size))) (fun hHeld => ?_)
    try simp only [Act.put, List.getElem_toArray, List.getElem_cons_succ, List.getElem_cons_zero, List.setIfInBounds_toArray, List.set_cons_zero, List.set_cons_succ]
    clear ho hb1 HBX hK K
    refine wpAnyH_ready (rs := [4]) (by kernel_rfl) (by simp) ?_
    refine AllReadyH.cons rfl (fun K hK => ?_) (AllReadyH.nil)
    · go_simp
      obtain ⟨-, -, -, -, HBX⟩ := hHeld
      have HL := Lib.hid (xOneRec y1 x)
      have HO := Lib.hid (below_of_own HO.out ((Below.refl _ _).alloc (Nat.le_refl _) (.cells #[.string x.who, .int .i64 x.beg, .int .i64 x.fin] 91)))
      refine hK.out _ _ (MK.out _ (HBX.out.alloc HBX.out.size _)) (fun hHeld => ?_)
      try simp only [Act.put, List.getElem_toArray, List.getElem_cons_succ, List.getElem_cons_zero, List.setIfInBounds_toArray, List.set_cons_zero, List.set_cons_succ]
      clear HBX hK K
      generalize hyy : World.alloc y1 _ = y2 at *
      clear hyy
      refine wpAnyH_ready (rs := [5]) (by kernel_rfl) (by simp) ?_
      refine AllReadyH.cons rfl (fun K hK => ?_) AllReadyH.nil
      obtain ⟨-, -, -, -, HBX⟩ := hHeld
      refine step_append_lies _ rfl (.tmp 7) (.tmp 9) 54 rfl wb.heap.size 91 i0 _ 3 32 Try.underlying54 hi hz0 hz1 hz2 rfl (by decide) _ l.length _ rfl HO.out _ 1 1 (flat 1 3 fun _ j => recCells x j) rfl (by simp [flat]) (news_of_arr (by decide) HL.out) (recCells_one _) (by decide) (by unfold maxLen; omega) (by omega) HBX.out.size _ rfl ?_
      rintro g9 c9 y9 ho9 hg9 - -
      have hb9 := (Below.refl _ _).grown hg9 HBX.out.size (fun k hk => (HO.out.lt k hk).1)
      rw [xMoreFlat HV.out] at ho9
      have HG9 := Lib.hid (show wb.heap.size ≤ g9 from by
        rcases ho9.2 with ⟨hv, -⟩ | ⟨g, cap, cur, hv, hb, -⟩
        · cases hv
        · injection hv with hv _ _; injection hv with hv; injection hv with hv _ _; rw [hv]; exact hb)
      have H9 := Lib.hid (show ArrW y9 _ V c9 from (by have := own_arrN ho9; rw [← hVl] at this; exact this))
      refine hK.out _ _ (MK.out _ (HBX.out.trans hb9)) (fun hHeld => ?_)
      try simp only [Act.put, List.getElem_toArray, List.getElem_cons_succ, List.getElem_cons_zero, List.setIfInBounds_toArray, List.set_cons_zero, List.set_cons_succ]
      clear ho9 hb9 hg9 HBX hK K
      refine wpAnyH_take (i := 6) (v := ?val6x22) rfl (by kernel_rfl) (by kernel_rfl) (by kernel_rfl) (fun _ _ _ h => h) (Or.inl ⟨by rfl, fun w9 hS9 => ?yields6x22⟩) (by assumption) ?later6x22
      case yields6x22 =>
        dsimp only at hS9
        go_simp
        try with_reducible rfl
      try simp only [Act.put, List.getElem_toArray, List.getElem_cons_succ, List.getElem_cons_zero, List.setIfInBounds_toArray, List.set_cons_zero, List.set_cons_succ]
      refine wpAnyH_done (by kernel_rfl) ?_ _
      unfold Peeled
      dsimp only
      obtain ⟨-, -, -, -, HB⟩ := hHeld
      replace BB := Lib.hid (BB.out.keep HB.out)
      replace BT := Lib.hid (BT.out.keep HB.out)
      replace HW := Lib.hid (HW.out.trans (HB.out.mono HW.out.size))
      clear HB MK HBd HO HL KA k5 x0 x1 x2 XR
      obtain ⟨k0, k1, k2, k3, k4, k5, g0, g1, g2, g3, g4, g5⟩ := BB.out
      go_upto_region 2 with fail
      have HS1 := Lib.hid (show w.heap.size + 1 + 1 < wb.heap.size from HSZ.out)
      have H10 := Lib.hid (H9.out.far (p := ⟨w.heap.size, 5, none⟩) (by have := HS1.out; have := HG9.out; dsimp only; omega) (.slice (some ⟨g9, 0, none⟩) (l.length + 1) c9))
      have S3 := Lib.hid (BB.out.put5 (.slice (some ⟨g9, 0, none⟩) (l.length + 1) c9))
      have ST := Lib.hid (BT.out.other (p := ⟨w.heap.size, 5, none⟩) (by simp; omega) (.slice (some ⟨g9, 0, none⟩) (l.length + 1) c9))
      have HW2 := Lib.hid (HW.out.setCell (p := ⟨w.heap.size, 5, none⟩) (Nat.le_refl _) (.slice (some ⟨g9, 0, none⟩) (l.length + 1) c9))
      clear k0 k1 k2 k3 k4 k5 g0 g1 g2 g3 g4 g5 BB BT HW H9
      generalize hwc : World.setCell _ _ _ = wc at *
      clear hwc
      obtain ⟨k0, k1, k2, k3, k4, k5, -, -, -, -, -, -⟩ := S3.out
      obtain ⟨t0, t1, t2, t3, t4, t5, f0, f1, f2, f3, f4, f5⟩ := ST.out
      go_wp2_with fail
      obtain ⟨s0, s1, s2, s3, s4, s5, -, -, -, -, -, -⟩ := ST.out.set (.int .i64 R.brk) (.int .i64 R.rest) (.int .i64 R.stint) (.int .i64 R.shift) (.int .i64 R.week) (.slice (some ⟨g9, 0, none⟩) (l.length + 1) c9)
      refine bodyPost_ret (v := bookV R (some ⟨g9, 0, none⟩) (l.length + 1) c9) (by simp [results, Try.results47, go_sem, s0, s1, s2, s3, s4, s5]) rfl ⟨⟨some ⟨g9, 0, none⟩, c9, by rw [hVl], ?_⟩, ?_⟩
      · have hne : w.heap.size + 1 + 1 ≠ g9 := by have := HS1.out; have := HG9.out; omega
        exact (((((H10.out.far hne _).far hne _).far hne _).far hne _).far hne _).far hne _
      · exact below_six HW2.out (by omega) _ _ _ _ _ _
  · go_simp
    obtain ⟨-, -, -, -, HBX⟩ := hHeld
    have HL := Lib.hid (xOneRec y0 x)
    refine hK.out _ _ (MK.out _ (HBX.out.alloc HBX.out.size _)) (fun hHeld => ?_)
    try simp only [Act.put, List.getElem_toArray, List.getElem_cons_succ, List.getElem_cons_zero, List.setIfInBounds_toArray, List.set_cons_zero, List.set_cons_succ]
    clear HBX hK K
    generalize hyy : World.alloc y0 _ = y3 at *
    clear hyy
    refine wpAnyH_ready (rs := [2]) (by kernel_rfl) (by simp) ?_
    refine AllReadyH.cons rfl (fun K hK => ?_) (AllReadyH.nil)
    · go_simp
      obtain ⟨-, -, -, -, HBX⟩ := hHeld
      go_at_call 68
      refine (xClone_any l A c _ (KA.out _ HBX.out) (by omega)).mono ?_
      rintro e' y4 ⟨⟨vc, rfl, ho⟩, hb1⟩
      have HO := Lib.hid (own_low ho HBX.out.size)
      have HL := Lib.hid (Arr.keep (Keep.below hb1) HL.out)
      go_wp2_with fail
      refine hK.out _ _ (MK.out _ (HBX.out.trans (hb1.mono HBX.out.size))) (fun hHeld => ?_)
      try simp only [Act.put, List.getElem_toArray, List.getElem_cons_succ, List.getElem_cons_zero, List.setIfInBounds_toArray, List.set_cons_zero, List.set_cons_succ]
      clear ho hb1 HBX hK K
      refine wpAnyH_ready (rs := [5]) (by kernel_rfl) (by simp) ?_
      refine AllReadyH.cons rfl (fun K hK => ?_) AllReadyH.nil
      obtain ⟨-, -, -, -, HBX⟩ := hHeld
      refine step_append_lies _ rfl (.tmp 7) (.tmp 9) 54 rfl wb.heap.size 91 i0 _ 3 32 Try.underlying54 hi hz0 hz1 hz2 rfl (by decide) _ l.length _ rfl HO.out _ 1 1 (flat 1 3 fun _ j => recCells x j) rfl (by simp [flat]) (news_of_arr (by decide) HL.out) (recCells_one _) (by decide) (by unfold maxLen; omega) (by omega) HBX.out.size _ rfl ?_
      rintro g9 c9 y9 ho9 hg9 - -
      have hb9 := (Below.refl _ _).grown hg9 HBX.out.size (fun k hk => (HO.out.lt k hk).1)
      rw [xMoreFlat HV.out] at ho9
      have HG9 := Lib.hid (show wb.heap.size ≤ g9 from by
        rcases ho9.2 with ⟨hv, -⟩ | ⟨g, cap, cur, hv, hb, -⟩
        · cases hv
        · injection hv with hv _ _; injection hv with hv; injection hv with hv _ _; rw [hv]; exact hb)
      have H9 := Lib.hid (show ArrW y9 _ V c9 from (by have := own_arrN ho9; rw [← hVl] at this; exact this))
      refine hK.out _ _ (MK.out _ (HBX.out.trans hb9)) (fun hHeld => ?_)
      try simp only [Act.put, List.getElem_toArray, List.getElem_cons_succ, List.getElem_cons_zero, List.setIfInBounds_toArray, List.set_cons_zero, List.set_cons_succ]
      clear ho9 hb9 hg9 HBX hK K
      refine wpAnyH_take (i := 6) (v := ?val6x23) rfl (by kernel_rfl) (by kernel_rfl) (by kernel_rfl) (fun _ _ _ h => h) (Or.inl ⟨by rfl, fun w9 hS9 => ?yields6x23⟩) (by assumption) ?later6x23
      case yields6x23 =>
        dsimp only at hS9
        go_simp
        try with_reducible rfl
      try simp only [Act.put, List.getElem_toArray, List.getElem_cons_succ, List.getElem_cons_zero, List.setIfInBounds_toArray, List.set_cons_zero, List.set_cons_succ]
      refine wpAnyH_done (by kernel_rfl) ?_ _
      unfold Peeled
      dsimp only
      obtain ⟨-, -, -, -, HB⟩ := hHeld
      replace BB := Lib.hid (BB.out.keep HB.out)
      replace BT := Lib.hid (BT.out.keep HB.out)
      replace HW := Lib.hid (HW.out.trans (HB.out.mono HW.out.size))
      clear HB MK HBd HO HL KA k5 x0 x1 x2 XR
      obtain ⟨k0, k1, k2, k3, k4, k5, g0, g1, g2, g3, g4, g5⟩ := BB.out
      go_upto_region 2 with fail
      have HS1 := Lib.hid (show w.heap.size + 1 + 1 < wb.heap.size from HSZ.out)
      have H10 := Lib.hid (H9.out.far (p := ⟨w.heap.size, 5, none⟩) (by have := HS1.out; have := HG9.out; dsimp only; omega) (.slice (some ⟨g9, 0, none⟩) (l.length + 1) c9))
      have S3 := Lib.hid (BB.out.put5 (.slice (some ⟨g9, 0, none⟩) (l.length + 1) c9))
      have ST := Lib.hid (BT.out.other (p := ⟨w.heap.size, 5, none⟩) (by simp; omega) (.slice (some ⟨g9, 0, none⟩) (l.length + 1) c9))
      have HW2 := Lib.hid (HW.out.setCell (p := ⟨w.heap.size, 5, none⟩) (Nat.le_refl _) (.slice (some ⟨g9, 0, none⟩) (l.length + 1) c9))
      clear k0 k1 k2 k3 k4 k5 g0 g1 g2 g3 g4 g5 BB BT HW H9
      generalize hwc : World.setCell _ _ _ = wc at *
      clear hwc
      obtain ⟨k0, k1, k2, k3, k4, k5, -, -, -, -, -, -⟩ := S3.out
      obtain ⟨t0, t1, t2, t3, t4, t5, f0, f1, f2, f3, f4, f5⟩ := ST.out
      go_wp2_with fail
      obtain ⟨s0, s1, s2, s3, s4, s5, -, -, -, -, -, -⟩ := ST.out.set (.int .i64 R.brk) (.int .i64 R.rest) (.int .i64 R.stint) (.int .i64 R.shift) (.int .i64 R.week) (.slice (some ⟨g9, 0, none⟩) (l.length + 1) c9)
      refine bodyPost_ret (v := bookV R (some ⟨g9, 0, none⟩) (l.length + 1) c9) (by simp [results, Try.results47, go_sem, s0, s1, s2, s3, s4, s5]) rfl ⟨⟨some ⟨g9, 0, none⟩, c9, by rw [hVl], ?_⟩, ?_⟩
      · have hne : w.heap.size + 1 + 1 ≠ g9 := by have := HS1.out; have := HG9.out; omega
        exact (((((H10.out.far hne _).far hne _).far hne _).far hne _).far hne _).far hne _
      · exact below_six HW2.out (by omega) _ _ _ _ _ _
end Go.Proofs.Ytjmaankkbdpikaa

/- slices.Repeat of one number: a row of the call's own. Condition: at most a thousand times, at least once. -/
import Derived.Test.YtaihiahoedpbiaaN1
import Derived.Laws.CopyOwn
import Derived.Laws.OwnMore
import Derived.Test.YtaihiahoedpbiaaFs
import Derived.Test.YtaihiahoedpbiaaT9
namespace Go.Proofs.Ytaihiahoedpbiaa
open Go.RowKit Fs

/-- Block g is a row of cells of its own. -/
def RowV (w : World) (g : Nat) (t : TypeId) (l : List Value) : Prop := w.heap[g]? = some (.cells l.toArray t (0, 0))
theorem RowV.lt {w : World} {g : Nat} {t : TypeId} {l : List Value} (h : RowV w g t l) : g < w.heap.size := by
  rcases Nat.lt_or_ge g w.heap.size with h1 | h1
  · exact h1
  · unfold RowV at h; rw [Array.getElem?_eq_none h1] at h; cases h
theorem RowV.cell {w : World} {g : Nat} {t : TypeId} {l : List Value} (h : RowV w g t l) (i : Nat) : w.cell? ⟨g, i, none⟩ = l[i]? := by
  rw [cell_of_row w g i l.toArray t (0, 0) h]; simp
theorem RowV.frozen {w : World} {g : Nat} {t : TypeId} {l : List Value} (h : RowV w g t l) (i : Nat) : w.frozen? ⟨g, i, none⟩ = false := by
  unfold RowV at h
  unfold World.frozen?
  dsimp only
  rw [h]
  simp
theorem RowV.below {B : Nat} {w w' : World} {g : Nat} {t : TypeId} {l : List Value} (h : RowV w g t l) (hb : Below B w w') (hg : g < B) : RowV w' g t l := (hb.block g hg).trans h
theorem RowV.of_own {w : World} {base g n : Nat} {e : TypeId} {l : List Value} (h : w.ownsRow base e 1 (.slice (some ⟨g, 0, none⟩) n n) n l) : RowV w g e l ∧ base ≤ g := by
  rcases h.2 with ⟨hv, -⟩ | ⟨g', cap, cur, hv, hb, hh, h1, h2, h3, h4⟩
  · cases hv
  · injection hv with ha hn hc
    injection ha with ha
    injection ha with ha
    subst ha; subst hc
    refine ⟨?_, hb⟩
    unfold RowV
    rw [hh, ← h4, List.take_of_length_le (by rw [Array.length_toList, h3]; exact Nat.le_refl _)]
theorem splice_more (x z : Value) (m k r : Nat) : splice (List.replicate m x ++ List.replicate (k + r) z) m (List.replicate k x) = List.replicate (m + k) x ++ List.replicate r z := by
  unfold splice
  rw [List.take_left' (by simp), List.drop_append]
  simp only [List.length_replicate, List.drop_replicate]
  rw [show m - (m + k) = 0 by omega, show k + r - (m + k - m) = r by omega, List.replicate_zero, List.nil_append, ← List.append_assoc, List.replicate_append_replicate]

theorem oneCell {w : World} {b o : Nat} {x : Value} (h : w.cell? ⟨b, o, none⟩ = some x) : ∀ j v, [x][j]? = some v → w.cell? ((⟨b, o, none⟩ : Addr).add j) = some v := by
  intro j v hv
  match j with
  | 0 =>
    have : x = v := by simpa using hv
    subst this
    exact h
  | j + 1 => simp at hv
theorem oneCellAt {w : World} {b o : Nat} {x : Value} (h : w.cell? ⟨b, o, none⟩ = some x) : ∀ j v, [x][j]? = some v → w.cell? ⟨b, o + j, none⟩ = some v := by
  intro j v hv
  match j with
  | 0 =>
    have : x = v := by simpa using hv
    subst this
    exact h
  | j + 1 => simp at hv
theorem repCells {w : World} {g m k : Nat} {t : TypeId} {x : Value} {l : List Value} (h : RowV w g t (List.replicate m x ++ l)) (hk : k ≤ m) : ∀ j v, (List.replicate k x)[j]? = some v → w.cell? ((⟨g, 0, none⟩ : Addr).add j) = some v := by
  intro j v hv
  have hj : j < k := by
    rcases Nat.lt_or_ge j k with h | h
    · exact h
    · rw [List.getElem?_eq_none (by simpa using h)] at hv; cases hv
  rw [List.getElem?_replicate, if_pos hj] at hv
  injection hv with hv
  subst hv
  have e : (⟨g, 0, none⟩ : Addr).add j = ⟨g, j, none⟩ := by
    unfold Addr.add
    by_cases h0 : j = 0
    · subst h0; rfl
    · rw [if_neg h0]; simp
  rw [e, h.cell, List.getElem?_append_left (by simp; omega), List.getElem?_replicate, if_pos (by omega)]
theorem copy_more {P : Program} {dT ty elem t : TypeId} (hu : P.underlying dT = some (.slice elem)) (hs : (P.info? elem).map (·.size) = some 1) {w w0 : World} {g m n k B c : Nat} {x z : Value} (h : RowV w g t (List.replicate m x ++ List.replicate (n - m) z))
    (hk : Nat.min m (n - m) = k) (hm : m ≤ n) (hx : x.oneCell' = true) (hb : Below B w0 w) (hB : B ≤ g) :
    ∃ wz, (Builtin.copy_ #[dT, dT] ty #[.slice (some ⟨g, m, none⟩) (n - m) c, .slice (some ⟨g, 0, none⟩) m n]).run P w = .ok (goInt k) wz ∧ RowV wz g t (List.replicate (m + k) x ++ List.replicate (n - (m + k)) z) ∧ Below B w0 wz := by
  have hk' : min m (n - m) = k := hk
  have hrun := run_copy_row (P := P) w dT dT ty elem g m (n - m) c ⟨g, 0, none⟩ m n (List.replicate m x ++ List.replicate (n - m) z).toArray t (List.replicate k x) hu hs h (by rw [List.length_replicate, hk]) (repCells h (by omega)) (by simp; omega) (fun v hv => by rw [List.mem_replicate] at hv; rw [hv.2]; exact hx)
  rw [List.length_replicate] at hrun
  refine ⟨_, hrun, ?_, below_setRow hb hB _⟩
  have e := splice_more x z m k (n - (m + k))
  rw [show k + (n - (m + k)) = n - m by omega] at e
  have := setRow_heap w g (List.replicate m x ++ List.replicate (n - m) z).toArray ((List.replicate m x ++ List.replicate (n - m) z).toArray.toList.take m ++ List.replicate k x ++ (List.replicate m x ++ List.replicate (n - m) z).toArray.toList.drop (m + k)).toArray t (0, 0) h
  unfold RowV
  rw [this, ← e]
  unfold splice
  rw [List.length_replicate, List.append_assoc]
end Go.Proofs.Ytaihiahoedpbiaa
/- Texts: cut at a byte, joined, and looked for in a list: what the library's functions and the reference's return. Conditions: texts are shorter than 2^32 bytes; what is joined is below 2^47 bytes. -/
namespace Go.Proofs.Ytaihiahoedpbiaa
open Go.RowKit Fs
open Go.Shelf in
set_option maxHeartbeats 1000000 in
/-- The library's cutting at one byte: nothing is asked of its own variables. -/
theorem Any.split_one {P : Program} {ρ : Ren} (L : Go.Proofs.Lays.n146 P ρ) (hi9 : (P.info? (ρ.t 9)).map (fun i => (i.zero, i.size, i.bytes)) = some (some (.string ByteArray.empty), 1, 16)) (s : ByteArray) (b : UInt8) (w : World) (hs : s.size < 4294967281) :
    Calls P (ρ.f 146) #[.string s, .string ⟨#[b]⟩] w fun e w' =>
      e = .returned (.slice (some ⟨w.heap.size, 0, none⟩) (Lib.countB s ⟨#[b]⟩ + 1) (Lib.countB s ⟨#[b]⟩ + 1)) ∧ w' = w.alloc (.cells ((Lib.splitB ⟨#[b]⟩ 0 (Lib.countB s ⟨#[b]⟩) s).map Value.string).toArray (ρ.t 9)) := by
  have h1 : 1 ≤ (⟨#[b]⟩ : ByteArray).size := Nat.le_refl 1
  have hle := Lib.countB_le ⟨#[b]⟩ h1 s.size s (Nat.le_refl _)
  have hlen := Lib.splitB_all ⟨#[b]⟩ h1 0 _ s rfl
  have c := Go.Proofs.Any.strings_genSplit_core { L with } hi9 s ⟨#[b]⟩ 0 (-1) (Lib.countB s ⟨#[b]⟩ + 1) w hs h1 (Nat.zero_le _)
    (fun x c hx => (Go.Proofs.Any.strings_Index_one { L with } x b _).mono fun e w' ⟨he, hw⟩ => ⟨by rw [he]; show _ = Ending.returned (Value.int .i64 (Lib.index x.data.toList [b])); rw [Lib.index_one], hw⟩)
    ((Go.Proofs.Any.strings_Count_one { L with } s b w).mono fun e w' ⟨he, hw⟩ => ⟨by
      rw [he]
      show _ = Ending.returned (Value.int .i64 ((Lib.count s.data.toList [b] : Nat) : Int))
      rw [Lib.count_one]
      rfl, hw⟩) (by decide) (by decide) (by rw [if_pos (by decide)]; omega)
  rw [Nat.add_sub_cancel, hlen] at c
  have e2 : Lib.cellsOf (Lib.splitB ⟨#[b]⟩ 0 (Lib.countB s ⟨#[b]⟩) s) (Lib.countB s ⟨#[b]⟩ + 1) = ((Lib.splitB ⟨#[b]⟩ 0 (Lib.countB s ⟨#[b]⟩) s).map Value.string).toArray := by rw [← hlen]; exact Lib.cellsOf_full _
  rw [e2] at c
  have t3 := L.t3; have t9 := L.t9; have t31 := L.t31
  have a3 := L.a3; have a9 := L.a9; have a31 := L.a31
  have z3 := L.z3; have v3 := L.v3; have z9 := L.z9; have v9 := L.v9; have z31 := L.z31; have v31 := L.v31
  have e221 : ∀ args w, (callFunc (ρ.f 221) args).run P w = .ok (.enter (ρ.f 221) args) w := enters_of L.f221 (by kernel_rfl) rfl
  go_enter L.f146, Body.n146_ntmps ρ
  go_wp2_with (go_at_fn (ρ.f 221); refine c.mono ?_; rintro e w' ⟨rfl, hw⟩; rw [hw])
  go_ret
  exact ⟨rfl, rfl⟩
def strVals (l : List ByteArray) : List Value := l.map Value.string
theorem listS_get {l : List ByteArray} {i : Nat} (h : i < l.length) : l[i]? = some (listS l i) := by
  unfold listS
  rw [List.getD_eq_getElem?_getD, List.getElem?_eq_getElem h]
  rfl
theorem strVals_get {l : List ByteArray} {i : Nat} (h : i < l.length) : (strVals l)[i]? = some (.string (listS l i)) := by
  unfold strVals
  rw [List.getElem?_map, listS_get h]
  rfl
theorem RowV.arrS {w : World} {g c : Nat} {t : TypeId} {l : List ByteArray} (h : RowV w g t (strVals l)) (h1 : l.length ≤ c) (h2 : c ≤ maxLen) : ArrS w (some ⟨g, 0, none⟩) l c := by
  refine ⟨h1, h2, fun _ => ⟨g, 0, rfl, fun i j hi hj => ?_⟩⟩
  have hj0 : j = 0 := by omega
  subst hj0
  rw [show 0 + i * 1 + 0 = i by omega, h.cell]
  exact strVals_get hi
theorem RowV.mk (w : World) (l : List Value) (t : TypeId) : RowV (w.alloc (.cells l.toArray t)) w.heap.size t l := heap_alloc_new w _
theorem intVals_at {l : List Int} {i : Nat} (h : i < l.length) : (intVals l)[i]? = some (.int .i64 (listI l i)) := by
  unfold intVals listI
  rw [List.getElem?_map, List.getD_eq_getElem?_getD, List.getElem?_eq_getElem h]
  rfl
theorem RowV.arrI {w : World} {g c : Nat} {t : TypeId} {l : List Int} (h : RowV w g t (intVals l)) (h1 : l.length ≤ c) (h2 : c ≤ maxLen) : ArrI w (some ⟨g, 0, none⟩) l c := by
  refine ⟨h1, h2, fun _ => ⟨g, 0, rfl, fun i j hi hj => ?_⟩⟩
  have hj0 : j = 0 := by omega
  subst hj0
  rw [show 0 + i * 1 + 0 = i by omega, h.cell]
  exact intVals_at hi
theorem own_arrS {w : World} {base : Nat} {e : TypeId} {v : Value} {l : List ByteArray} (h : w.ownsRow base e 1 v l.length (strVals l)) :
    ∃ A c, v = .slice A l.length c ∧ ArrS w A l c := by
  rcases h.2 with ⟨hv, hn⟩ | ⟨g, cap, cur, hv, hb, hh, h1, h2, h3, h4⟩
  · have : l = [] := List.eq_nil_of_length_eq_zero hn
    subst this
    exact ⟨none, 0, hv, Nat.le_refl _, by omega, fun hh => absurd hh (by simp)⟩
  · refine ⟨_, cap, hv, h1, h2, fun _ => ⟨g, 0, rfl, fun i j hi hj => ?_⟩⟩
    have hj0 : j = 0 := by omega
    subst hj0
    have hc := h.cells (g := g) (by rw [hv]; rfl) i (.string (listS l i)) (strVals_get hi)
    have e1 : (⟨g, 0 + i * 1 + 0, none⟩ : Addr) = Addr.add ⟨g, 0, none⟩ i := by
      unfold Addr.add
      by_cases h0 : i = 0
      · subst h0; rfl
      · rw [if_neg h0]; simp
    rw [e1]
    exact hc
theorem strVals_snoc (l : List ByteArray) (x : ByteArray) : strVals (l ++ [x]) = strVals l ++ [.string x] := by simp [strVals]
theorem oneStr (x : ByteArray) : ∀ u ∈ [Value.string x], u.oneCell' = true := by
  intro u hu
  have : u = .string x := by simpa using hu
  subst this
  rfl
theorem Fs.listS_mem {l : List ByteArray} {i : Nat} (h : i < l.length) : listS l i ∈ l := List.mem_of_getElem? (listS_get h)
theorem Fs.mem_listS {l : List ByteArray} {x : ByteArray} (h : x ∈ l) : ∃ k, k < l.length ∧ listS l k = x := by
  obtain ⟨k, hk, e⟩ := List.getElem_of_mem h
  refine ⟨k, hk, ?_⟩
  have := listS_get hk
  rw [List.getElem?_eq_getElem hk] at this
  injection this with this
  rw [← this, e]
def Fs.mkB (l : List UInt8) : ByteArray := ⟨l.toArray⟩
theorem Fs.take_more {S : List UInt8} {f k : Nat} (hf : f ≤ k) (hk : k < S.length) : (S.drop f).take (k + 1 - f) = (S.drop f).take (k - f) ++ [S[k]] := by
  rw [show k + 1 - f = (k - f) + 1 by omega, List.take_add_one, List.getElem?_drop, show f + (k - f) = k by omega, List.getElem?_eq_getElem hk]
  rfl
theorem Fs.cut_part {b : UInt8} {S : List UInt8} {f k : Nat} (hf : f ≤ k) (hk : k < S.length) (hb : S[k] = b) (hn : b ∉ (S.drop f).take (k - f)) :
    cut b (S.drop f) = (S.drop f).take (k - f) :: cut b (S.drop (k + 1)) := by
  have e : S.drop f = (S.drop f).take (k - f) ++ b :: S.drop (k + 1) := by
    conv => lhs; rw [← List.take_append_drop (k - f) (S.drop f)]
    rw [List.drop_drop, show f + (k - f) = k by omega, List.drop_eq_getElem_cons hk, hb]
  conv => lhs; rw [e]
  exact cut_hit _ hn
end Go.Proofs.Ytaihiahoedpbiaa
/- What it means that a value in memory reads as records of work, rules or a trip; numbers within bounds, for the reference of chapter 7. No condition. -/
namespace Go.Proofs.Ytaihiahoedpbiaa
open Go.RowKit Fs

def recCells (x : WRec) : Nat → Value
  | 0 => .string x.who
  | 1 => .int .i64 x.beg
  | _ => .int .i64 x.fin
abbrev recV (x : WRec) : Value := .agg #[.string x.who, .int .i64 x.beg, .int .i64 x.fin]
def ArrW (w : World) (A : Option Addr) (l : List WRec) (c : Nat) : Prop := Arr w A l.length c 3 fun i j => recCells (listW l i) j
theorem ArrW.keep {w w' : World} (k : Keep w w') {A : Option Addr} {l : List WRec} {c : Nat} (h : ArrW w A l c) : ArrW w' A l c := Arr.keep k h
theorem ArrW.le {w : World} {A : Option Addr} {l : List WRec} {c : Nat} (h : ArrW w A l c) : l.length ≤ c ∧ c ≤ 9223372036854775807 := ⟨h.1, h.2.1⟩
/-- The three cells of a record. -/
structure RecAt (w : World) (b o : Nat) (x : WRec) : Prop where
  c0 : w.cell? ⟨b, o, none⟩ = some (.string x.who)
  c1 : w.cell? ⟨b, o + 1, none⟩ = some (.int .i64 x.beg)
  c2 : w.cell? ⟨b, o + 2, none⟩ = some (.int .i64 x.fin)
theorem RecAt.keep {w w' : World} (k : Keep w w') {b o : Nat} {x : WRec} (m : RecAt w b o x) : RecAt w' b o x := ⟨k _ _ m.c0, k _ _ m.c1, k _ _ m.c2⟩
theorem ArrW.at_ {w : World} {A : Option Addr} {l : List WRec} {c : Nat} (h : ArrW w A l c) {k : Nat} (hk : k < l.length) : ∃ b o, A = some ⟨b, o, none⟩ ∧ RecAt w b (o + k * 3) (listW l k) := by
  obtain ⟨b, o, e, hc⟩ := Arr.at_ h hk
  exact ⟨b, o, e, hc 0 (by omega), hc 1 (by omega), hc 2 (by omega)⟩
/-- Two records of one row. -/
theorem ArrW.two {w : World} {A : Option Addr} {l : List WRec} {c : Nat} (h : ArrW w A l c) {i k : Nat} (hi : i < l.length) (hk : k < l.length) : ∃ b o, A = some ⟨b, o, none⟩ ∧ RecAt w b (o + i * 3) (listW l i) ∧ RecAt w b (o + k * 3) (listW l k) := by
  obtain ⟨b, o, e, hc⟩ := h.at_ hi
  obtain ⟨b', o', e', hc'⟩ := h.at_ hk
  obtain ⟨rfl, rfl⟩ : b = b' ∧ o = o' := by rw [e] at e'; simpa using e'
  exact ⟨b, o, e, hc, hc'⟩
abbrev drulesV (R : DRules) : Value := .agg #[.int .i64 R.brk, .int .i64 R.rest, .int .i64 R.stint, .int .i64 R.shift, .int .i64 R.week]
abbrev dtripV (t : DTrip) : Value := .agg #[.int .i64 t.start, .int .i64 t.lo, .int .i64 t.hi, .int .i64 t.next]
/-- Rules in the block g. -/
structure RulesIn (w : World) (g : Nat) (R : DRules) : Prop where
  c0 : w.cell? ⟨g, 0, none⟩ = some (.int .i64 R.brk)
  c1 : w.cell? ⟨g, 1, none⟩ = some (.int .i64 R.rest)
  c2 : w.cell? ⟨g, 2, none⟩ = some (.int .i64 R.stint)
  c3 : w.cell? ⟨g, 3, none⟩ = some (.int .i64 R.shift)
  c4 : w.cell? ⟨g, 4, none⟩ = some (.int .i64 R.week)
theorem RulesIn.keep {w w' : World} (k : Keep w w') {g : Nat} {R : DRules} (m : RulesIn w g R) : RulesIn w' g R := ⟨k _ _ m.c0, k _ _ m.c1, k _ _ m.c2, k _ _ m.c3, k _ _ m.c4⟩
theorem RulesIn.new (w : World) (R : DRules) (t : TypeId) : RulesIn (w.alloc (.cells #[.int .i64 R.brk, .int .i64 R.rest, .int .i64 R.stint, .int .i64 R.shift, .int .i64 R.week] t)) w.heap.size R :=
  ⟨cellNew _ _ _ 0, cellNew _ _ _ 1, cellNew _ _ _ 2, cellNew _ _ _ 3, cellNew _ _ _ 4⟩
/-- A trip in the block g. -/
structure TripIn (w : World) (g : Nat) (t : DTrip) : Prop where
  c0 : w.cell? ⟨g, 0, none⟩ = some (.int .i64 t.start)
  c1 : w.cell? ⟨g, 1, none⟩ = some (.int .i64 t.lo)
  c2 : w.cell? ⟨g, 2, none⟩ = some (.int .i64 t.hi)
  c3 : w.cell? ⟨g, 3, none⟩ = some (.int .i64 t.next)
theorem TripIn.keep {w w' : World} (k : Keep w w') {g : Nat} {t : DTrip} (m : TripIn w g t) : TripIn w' g t := ⟨k _ _ m.c0, k _ _ m.c1, k _ _ m.c2, k _ _ m.c3⟩
theorem TripIn.new (w : World) (x : DTrip) (t : TypeId) : TripIn (w.alloc (.cells #[.int .i64 x.start, .int .i64 x.lo, .int .i64 x.hi, .int .i64 x.next] t)) w.heap.size x :=
  ⟨cellNew _ _ _ 0, cellNew _ _ _ 1, cellNew _ _ _ 2, cellNew _ _ _ 3⟩

set_option maxHeartbeats 400000 in
theorem rIsTime_any (n : Int) (w : World) : Calls Try.prog 27 #[.int .i64 n] w fun e w' => e = .returned (.bool (isClock n)) ∧ w = w' := by
  go_enter Try.func27, Try.ntmps27
  go_wp2_with (go_at_call 34; refine (bwithin_any _ _ _ _).mono ?_; rintro e w' ⟨rfl, rfl⟩)
  go_ret
  exact ⟨rfl, rfl⟩
set_option maxHeartbeats 400000 in
theorem rSpanErr_any (a b : Int) (w : World) : Calls Try.prog 125 #[.int .i64 a, .int .i64 b] w fun e w' => e = .returned (.int .i64 (spanErr a b)) ∧ w = w' := by
  cases h1 : isClock a with
  | false =>
    have F := Lib.hid (show spanErr a b = 2 by unfold spanErr; rw [h1]; rfl)
    go_enter Try.func125, Try.ntmps125
    go_wp2_with fail
    refine (rIsTime_any _ _).mono ?_
    rintro e w' ⟨rfl, rfl⟩
    rw [h1]
    go_wp2_with fail
    go_ret
    exact ⟨ret_int F.out.symm, rfl⟩
  | true =>
    cases h2 : isClock b with
    | false =>
      have F := Lib.hid (show spanErr a b = 2 by unfold spanErr; rw [h1, h2]; rfl)
      go_enter Try.func125, Try.ntmps125
      go_wp2_with fail
      refine (rIsTime_any _ _).mono ?_
      rintro e w' ⟨rfl, rfl⟩
      rw [h1]
      go_wp2_with fail
      refine (rIsTime_any _ _).mono ?_
      rintro e w' ⟨rfl, rfl⟩
      rw [h2]
      go_wp2_with fail
      go_ret
      exact ⟨ret_int F.out.symm, rfl⟩
    | true =>
      have F := Lib.hid (show spanErr a b = if b ≤ a then 9 else 0 by unfold spanErr; rw [h1, h2]; rfl)
      go_enter Try.func125, Try.ntmps125
      go_wp2_with fail
      refine (rIsTime_any _ _).mono ?_
      rintro e w' ⟨rfl, rfl⟩
      rw [h1]
      go_wp2_with fail
      refine (rIsTime_any _ _).mono ?_
      rintro e w' ⟨rfl, rfl⟩
      rw [h2]
      by_cases hle : b ≤ a
      · have G := Lib.hid (F.out.trans (if_pos hle))
        go_wp2_with fail
        go_ret
        exact ⟨ret_int G.out.symm, rfl⟩
      · have G := Lib.hid (F.out.trans (if_neg hle))
        go_wp2_with fail
        go_ret
        exact ⟨ret_int G.out.symm, rfl⟩
set_option maxHeartbeats 400000 in
theorem rRecErr_any (x : WRec) (w : World) : Calls Try.prog 151 #[recV x] w fun e w' => e = .returned (.int .i64 (recErr x)) ∧ Below w.heap.size w w' := by
  have b0 := cellNew w #[.string x.who, .int .i64 x.beg, .int .i64 x.fin] 39 0
  have b1 := cellNew w #[.string x.who, .int .i64 x.beg, .int .i64 x.fin] 39 1
  have b2 := cellNew w #[.string x.who, .int .i64 x.beg, .int .i64 x.fin] 39 2
  cases hn : isName x.who with
  | false =>
    have F := Lib.hid (show recErr x = 4 by unfold recErr; rw [hn]; rfl)
    go_enter Try.func151, Try.ntmps151
    go_wp2_with fail
    refine (bIsName_any _ _).mono ?_
    rintro e w' ⟨rfl, rfl⟩
    rw [hn]
    go_wp2_with fail
    go_ret
    exact ⟨ret_int F.out.symm, (Below.refl _ _).alloc (Nat.le_refl _) _⟩
  | true =>
    have F := Lib.hid (show recErr x = spanErr x.beg x.fin by unfold recErr; rw [hn]; rfl)
    go_enter Try.func151, Try.ntmps151
    go_wp2_with fail
    refine (bIsName_any _ _).mono ?_
    rintro e w' ⟨rfl, rfl⟩
    rw [hn]
    go_wp2_with fail
    refine (rSpanErr_any _ _ _).mono ?_
    rintro e w' ⟨rfl, rfl⟩
    go_wp2_with fail
    go_ret
    exact ⟨ret_int F.out.symm, (Below.refl _ _).alloc (Nat.le_refl _) _⟩
end Go.Proofs.Ytaihiahoedpbiaa

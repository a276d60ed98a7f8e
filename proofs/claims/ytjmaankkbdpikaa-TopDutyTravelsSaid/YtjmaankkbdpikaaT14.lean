/- slices.Repeat of one number: a row of the call's own. Condition: at most a thousand times, at least once. -/
import Derived.Test.YtjmaankkbdpikaaN1
import Derived.Laws.CopyOwn
import Derived.Laws.OwnMore
import Derived.Test.YtjmaankkbdpikaaFs
import Derived.Test.YtjmaankkbdpikaaT9
namespace Go.Proofs.Ytjmaankkbdpikaa
open Go.RowKit Fs

/-- Block g is a row of cells of its own. -/
def RowV (w : World) (g : Nat) (t : TypeId) (l : List Value) : Prop := w.heap[g]? = some (.cells l.toArray t (0, 0))
theorem RowV.lt {w : World} {g : Nat} {t : TypeId} {l : List Value} (h : RowV w g t l) : g < w.heap.size := by
  rcases Nat.lt_or_ge g w.heap.size with h1 | h1
  · exact h1
  · unfold RowV at h; rw [Array.getElem?_eq_none h1] at h; cases h
theorem RowV.cell {w : World} {g : Nat} {t : TypeId} {l : List Value} (h : RowV w g t l) (i : Nat) : w.cell? ⟨g, i, none⟩ = l[i]? := by
  rw [cell_of_row w g i l.toArray t (0, 0) h]; simp
theorem RowV.frozen {w : World} {g : Nat} {t : TypeId} {l : List Value} (h : RowV w g t l) (i : Nat) : w.frozen? ⟨g, i, none⟩ = false := by
  unfold RowV at h
  unfold World.frozen?
  dsimp only
  rw [h]
  simp
theorem RowV.below {B : Nat} {w w' : World} {g : Nat} {t : TypeId} {l : List Value} (h : RowV w g t l) (hb : Below B w w') (hg : g < B) : RowV w' g t l := (hb.block g hg).trans h
theorem RowV.of_own {w : World} {base g n : Nat} {e : TypeId} {l : List Value} (h : w.ownsRow base e 1 (.slice (some ⟨g, 0, none⟩) n n) n l) : RowV w g e l ∧ base ≤ g := by
  rcases h.2 with ⟨hv, -⟩ | ⟨g', cap, cur, hv, hb, hh, h1, h2, h3, h4⟩
  · cases hv
  · injection hv with ha hn hc
    injection ha with ha
    injection ha with ha
    subst ha; subst hc
    refine ⟨?_, hb⟩
    unfold RowV
    rw [hh, ← h4, List.take_of_length_le (by rw [Array.length_toList, h3]; exact Nat.le_refl _)]
theorem splice_more (x z : Value) (m k r : Nat) : splice (List.replicate m x ++ List.replicate (k + r) z) m (List.replicate k x) = List.replicate (m + k) x ++ List.replicate r z := by
  unfold splice
  rw [List.take_left' (by simp), List.drop_append]
  simp only [List.length_replicate, List.drop_replicate]
  rw [show m - (m + k) = 0 by omega, show k + r - (m + k - m) = r by omega, List.replicate_zero, List.nil_append, ← List.append_assoc, List.replicate_append_replicate]

theorem oneCell {w : World} {b o : Nat} {x : Value} (h : w.cell? ⟨b, o, none⟩ = some x) : ∀ j v, [x][j]? = some v → w.cell? ((⟨b, o, none⟩ : Addr).add j) = some v := by
  intro j v hv
  match j with
  | 0 =>
    have : x = v := by simpa using hv
    subst this
    exact h
  | j + 1 => simp at hv
theorem oneCellAt {w : World} {b o : Nat} {x : Value} (h : w.cell? ⟨b, o, none⟩ = some x) : ∀ j v, [x][j]? = some v → w.cell? ⟨b, o + j, none⟩ = some v := by
  intro j v hv
  match j with
  | 0 =>
    have : x = v := by simpa using hv
    subst this
    exact h
  | j + 1 => simp at hv
theorem repCells {w : World} {g m k : Nat} {t : TypeId} {x : Value} {l : List Value} (h : RowV w g t (List.replicate m x ++ l)) (hk : k ≤ m) : ∀ j v, (List.replicate k x)[j]? = some v → w.cell? ((⟨g, 0, none⟩ : Addr).add j) = some v := by
  intro j v hv
  have hj : j < k := by
    rcases Nat.lt_or_ge j k with h | h
    · exact h
    · rw [List.getElem?_eq_none (by simpa using h)] at hv; cases hv
  rw [List.getElem?_replicate, if_pos hj] at hv
  injection hv with hv
  subst hv
  have e : (⟨g, 0, none⟩ : Addr).add j = ⟨g, j, none⟩ := by
    unfold Addr.add
    by_cases h0 : j = 0
    · subst h0; rfl
    · rw [if_neg h0]; simp
  rw [e, h.cell, List.getElem?_append_left (by simp; omega), List.getElem?_replicate, if_pos (by omega)]
theorem copy_more {P : Program} {dT ty elem t : TypeId} (hu : P.underlying dT = some (.slice elem)) (hs : (P.info? elem).map (·.size) = some 1) {w w0 : World} {g m n k B c : Nat} {x z : Value} (h : RowV w g t (List.replicate m x ++ List.replicate (n - m) z))
    (hk : Nat.min m (n - m) = k) (hm : m ≤ n) (hx : x.oneCell' = true) (hb : Below B w0 w) (hB : B ≤ g) :
    ∃ wz, (Builtin.copy_ #[dT, dT] ty #[.slice (some ⟨g, m, none⟩) (n - m) c, .slice (some ⟨g, 0, none⟩) m n]).run P w = .ok (goInt k) wz ∧ RowV wz g t (List.replicate (m + k) x ++ List.replicate (n - (m + k)) z) ∧ Below B w0 wz := by
  have hk' : min m (n - m) = k := hk
  have hrun := run_copy_row (P := P) w dT dT ty elem g m (n - m) c ⟨g, 0, none⟩ m n (List.replicate m x ++ List.replicate (n - m) z).toArray t (List.replicate k x) hu hs h (by rw [List.length_replicate, hk]) (repCells h (by omega)) (by simp; omega) (fun v hv => by rw [List.mem_replicate] at hv; rw [hv.2]; exact hx)
  rw [List.length_replicate] at hrun
  refine ⟨_, hrun, ?_, below_setRow hb hB _⟩
  have e := splice_more x z m k (n - (m + k))
  rw [show k + (n - (m + k)) = n - m by omega] at e
  have := setRow_heap w g (List.replicate m x ++ List.replicate (n - m) z).toArray ((List.replicate m x ++ List.replicate (n - m) z).toArray.toList.take m ++ List.replicate k x ++ (List.replicate m x ++ List.replicate (n - m) z).toArray.toList.drop (m + k)).toArray t (0, 0) h
  unfold RowV
  rw [this, ← e]
  unfold splice
  rw [List.length_replicate, List.append_assoc]
set_option maxHeartbeats 1600000 in
set_option maxRecDepth 100000 in
theorem repeat_any (x : Int) (n : Nat) (b o c : Nat) (w : World) (hx : w.cell? ⟨b, o, none⟩ = some (.int .i64 x)) (h1 : 1 ≤ n) (h2 : n ≤ 1000) :
    Calls Try.prog 52 #[.slice (some ⟨b, o, none⟩) 1 c, .int .i64 n] w fun e w' => ∃ g, e = .returned (.slice (some ⟨g, 0, none⟩) n n) ∧ w.heap.size ≤ g ∧ RowV w' g 3 (List.replicate n (.int .i64 x)) ∧ Below w.heap.size w w' := by
  obtain ⟨i0, hi, hz0, hz1, hz2⟩ := info_parts Try.infoInt
  have hb := World.block_lt_of_cell? w _ hx
  have HM1 := Lib.hid (show ((1 * n / 18446744073709551616 : Nat) : Int) = 0 by omega)
  have HM2 := Lib.hid (show ((1 * n % 18446744073709551616 : Nat) : Int) = (n : Int) by omega)
  go_enter Try.func52, Try.ntmps52
  go_wp2_with (first
    | (go_at_call 75; refine (mul_any 1 n (by omega) (by omega) _).mono ?_; rintro e w' ⟨rfl, hw⟩; obtain rfl : w = w' := hw.symm; rw [HM1.out, HM2.out])
    | (at_make; refine wpList_make_full _ rfl (.tmp 29) (.tmp 29) 48 rfl _ 3 i0 (.int .i64 0) 1 Try.underlying48 hi hz0 hz1 .i64 .i64 n n n rfl rfl rfl rfl (by rw [hz2]; omega) (by unfold maxLen; omega) (Nat.le_refl _) ?_))
  intro w1 hown hg1
  have HB1 : Hid (Below w.heap.size w w1) := Lib.hid ⟨hg1.os, hg1.tape, hg1.output, hg1.size, fun k hk => hg1.block k hk (by simp)⟩
  have HR1 : Hid (RowV w1 w.heap.size 3 (List.replicate n (.int .i64 0))) := Lib.hid (by
    have := (RowV.of_own hown).1
    rw [toList_madeCells_one] at this
    exact this)
  have hx1 : w1.cell? ⟨b, o, none⟩ = some (.int .i64 x) := Keep.below HB1.out _ _ hx
  have HMN := Lib.hid (show Nat.min 1 n = 1 by show min 1 n = 1; omega)
  clear hown hg1 HM1 HM2
  go_upto_region 7 with fail
  go_wp2_with (first
    | (refine wpList_copy_splice (o := ⟨some 33, _, _, _, _, _⟩) rfl (.tmp 31) (.tmp 32) 48 48 rfl 3 Try.underlying48 (by rw [hi]; simp [hz1]) (some ⟨w.heap.size, 0, none⟩) (some ⟨b, o, none⟩) n n 1 c rfl rfl w.heap.size 0 (List.replicate n (.int .i64 0)) 3 HR1.out [.int .i64 x] HMN.out.symm ?k1 (by simp; omega) ?k2 w.heap.size w HB1.out (Nat.le_refl _) ?k3))
  case k1 => exact oneCellAt hx1
  case k2 => exact oneInt x
  case k3 =>
    intro w2 hr2 hb2
    have HR2 : Hid (RowV w2 w.heap.size 3 (List.replicate 1 (.int .i64 x) ++ List.replicate (n - 1) (.int .i64 0))) := Lib.hid (by
      have e := splice_more (.int .i64 x) (.int .i64 0) 0 1 (n - 1)
      rw [List.replicate_zero, List.nil_append, show 1 + (n - 1) = n by omega, Nat.zero_add] at e
      have h := hr2.out
      rw [show ([.int .i64 x] : List Value) = List.replicate 1 (.int .i64 x) by rfl, e] at h
      exact h)
    have HB2 := Lib.hid hb2
    clear hr2 hb2 hx1 HR1 HB1
    go_wp2_with fail
    go_loopw [8] (fun u wr => ∃ m : Nat, 1 ≤ m ∧ m ≤ n ∧ u = .int .i64 m ∧ Hid (RowV wr w.heap.size 3 (List.replicate m (.int .i64 x) ++ List.replicate (n - m) (.int .i64 0))) ∧ Hid (Below w.heap.size w wr)) (fun u _ => n - (intOf u).toNat)
    case atStart => exact ⟨1, Nat.le_refl _, h1, rfl, HR2, HB2⟩
    case round =>
      obtain ⟨m, hm1, hm, rfl, HR, HB⟩ := hrel
      by_cases hlt : m < n
      · obtain ⟨k, hk⟩ : ∃ k, Nat.min m (n - m) = k := ⟨_, rfl⟩
        have hk1 : 1 ≤ k ∧ k ≤ m ∧ k ≤ n - m := by
          have : min m (n - m) = k := hk
          omega
        obtain ⟨wz, hrun, hrow, hbel⟩ := copy_more (ty := 3) (c := n - m) Try.underlying48 (by rw [hi]; simp [hz1]) (w := wr.drew) (show RowV wr.drew _ _ _ from HR.out) hk hm (by rfl) HB.out.drew (Nat.le_refl w.heap.size)
        have HR3 := Lib.hid hrow
        have HB3 := Lib.hid hbel
        clear hrow hbel
        go_wp2_with fail
        go_region
        go_wp2_with fail
        go_roundw
        case rel => exact ⟨m + k, by omega, by omega, by go_num, HR3, HB3⟩
        case measure => simp [intOf]; omega
      · have e : m = n := by omega
        subst e
        have HF := HR.out
        rw [Nat.sub_self, List.replicate_zero, List.append_nil] at HF
        have HF2 := Lib.hid HF
        clear HF
        go_wp2_with fail
        go_ret
        exact ⟨w.heap.size, rfl, Nat.le_refl _, HF2.out, HB.out⟩
end Go.Proofs.Ytjmaankkbdpikaa
/- Texts: cut at a byte, joined, and looked for in a list: what the library's functions and the reference's return. Conditions: texts are shorter than 2^32 bytes; what is joined is below 2^47 bytes. -/
namespace Go.Proofs.Ytjmaankkbdpikaa
open Go.RowKit Fs
open Go.Shelf in
set_option maxHeartbeats 1000000 in
/-- The library's cutting at one byte: nothing is asked of its own variables. -/
theorem Any.split_one {P : Program} {ρ : Ren} (L : Go.Proofs.Lays.n146 P ρ) (hi9 : (P.info? (ρ.t 9)).map (fun i => (i.zero, i.size, i.bytes)) = some (some (.string ByteArray.empty), 1, 16)) (s : ByteArray) (b : UInt8) (w : World) (hs : s.size < 4294967281) :
    Calls P (ρ.f 146) #[.string s, .string ⟨#[b]⟩] w fun e w' =>
      e = .returned (.slice (some ⟨w.heap.size, 0, none⟩) (Lib.countB s ⟨#[b]⟩ + 1) (Lib.countB s ⟨#[b]⟩ + 1)) ∧ w' = w.alloc (.cells ((Lib.splitB ⟨#[b]⟩ 0 (Lib.countB s ⟨#[b]⟩) s).map Value.string).toArray (ρ.t 9)) := by
  have h1 : 1 ≤ (⟨#[b]⟩ : ByteArray).size := Nat.le_refl 1
  have hle := Lib.countB_le ⟨#[b]⟩ h1 s.size s (Nat.le_refl _)
  have hlen := Lib.splitB_all ⟨#[b]⟩ h1 0 _ s rfl
  have c := Go.Proofs.Any.strings_genSplit_core { L with } hi9 s ⟨#[b]⟩ 0 (-1) (Lib.countB s ⟨#[b]⟩ + 1) w hs h1 (Nat.zero_le _)
    (fun x c hx => (Go.Proofs.Any.strings_Index_one { L with } x b _).mono fun e w' ⟨he, hw⟩ => ⟨by rw [he]; show _ = Ending.returned (Value.int .i64 (Lib.index x.data.toList [b])); rw [Lib.index_one], hw⟩)
    ((Go.Proofs.Any.strings_Count_one { L with } s b w).mono fun e w' ⟨he, hw⟩ => ⟨by
      rw [he]
      show _ = Ending.returned (Value.int .i64 ((Lib.count s.data.toList [b] : Nat) : Int))
      rw [Lib.count_one]
      rfl, hw⟩) (by decide) (by decide) (by rw [if_pos (by decide)]; omega)
  rw [Nat.add_sub_cancel, hlen] at c
  have e2 : Lib.cellsOf (Lib.splitB ⟨#[b]⟩ 0 (Lib.countB s ⟨#[b]⟩) s) (Lib.countB s ⟨#[b]⟩ + 1) = ((Lib.splitB ⟨#[b]⟩ 0 (Lib.countB s ⟨#[b]⟩) s).map Value.string).toArray := by rw [← hlen]; exact Lib.cellsOf_full _
  rw [e2] at c
  have t3 := L.t3; have t9 := L.t9; have t31 := L.t31
  have a3 := L.a3; have a9 := L.a9; have a31 := L.a31
  have z3 := L.z3; have v3 := L.v3; have z9 := L.z9; have v9 := L.v9; have z31 := L.z31; have v31 := L.v31
  have e221 : ∀ args w, (callFunc (ρ.f 221) args).run P w = .ok (.enter (ρ.f 221) args) w := enters_of L.f221 (by kernel_rfl) rfl
  go_enter L.f146, Body.n146_ntmps ρ
  go_wp2_with (go_at_fn (ρ.f 221); refine c.mono ?_; rintro e w' ⟨rfl, hw⟩; rw [hw])
  go_ret
  exact ⟨rfl, rfl⟩
def strVals (l : List ByteArray) : List Value := l.map Value.string
theorem listS_get {l : List ByteArray} {i : Nat} (h : i < l.length) : l[i]? = some (listS l i) := by
  unfold listS
  rw [List.getD_eq_getElem?_getD, List.getElem?_eq_getElem h]
  rfl
theorem strVals_get {l : List ByteArray} {i : Nat} (h : i < l.length) : (strVals l)[i]? = some (.string (listS l i)) := by
  unfold strVals
  rw [List.getElem?_map, listS_get h]
  rfl
theorem RowV.arrS {w : World} {g c : Nat} {t : TypeId} {l : List ByteArray} (h : RowV w g t (strVals l)) (h1 : l.length ≤ c) (h2 : c ≤ maxLen) : ArrS w (some ⟨g, 0, none⟩) l c := by
  refine ⟨h1, h2, fun _ => ⟨g, 0, rfl, fun i j hi hj => ?_⟩⟩
  have hj0 : j = 0 := by omega
  subst hj0
  rw [show 0 + i * 1 + 0 = i by omega, h.cell]
  exact strVals_get hi
theorem RowV.mk (w : World) (l : List Value) (t : TypeId) : RowV (w.alloc (.cells l.toArray t)) w.heap.size t l := heap_alloc_new w _
theorem intVals_at {l : List Int} {i : Nat} (h : i < l.length) : (intVals l)[i]? = some (.int .i64 (listI l i)) := by
  unfold intVals listI
  rw [List.getElem?_map, List.getD_eq_getElem?_getD, List.getElem?_eq_getElem h]
  rfl
theorem RowV.arrI {w : World} {g c : Nat} {t : TypeId} {l : List Int} (h : RowV w g t (intVals l)) (h1 : l.length ≤ c) (h2 : c ≤ maxLen) : ArrI w (some ⟨g, 0, none⟩) l c := by
  refine ⟨h1, h2, fun _ => ⟨g, 0, rfl, fun i j hi hj => ?_⟩⟩
  have hj0 : j = 0 := by omega
  subst hj0
  rw [show 0 + i * 1 + 0 = i by omega, h.cell]
  exact intVals_at hi
theorem own_arrS {w : World} {base : Nat} {e : TypeId} {v : Value} {l : List ByteArray} (h : w.ownsRow base e 1 v l.length (strVals l)) :
    ∃ A c, v = .slice A l.length c ∧ ArrS w A l c := by
  rcases h.2 with ⟨hv, hn⟩ | ⟨g, cap, cur, hv, hb, hh, h1, h2, h3, h4⟩
  · have : l = [] := List.eq_nil_of_length_eq_zero hn
    subst this
    exact ⟨none, 0, hv, Nat.le_refl _, by omega, fun hh => absurd hh (by simp)⟩
  · refine ⟨_, cap, hv, h1, h2, fun _ => ⟨g, 0, rfl, fun i j hi hj => ?_⟩⟩
    have hj0 : j = 0 := by omega
    subst hj0
    have hc := h.cells (g := g) (by rw [hv]; rfl) i (.string (listS l i)) (strVals_get hi)
    have e1 : (⟨g, 0 + i * 1 + 0, none⟩ : Addr) = Addr.add ⟨g, 0, none⟩ i := by
      unfold Addr.add
      by_cases h0 : i = 0
      · subst h0; rfl
      · rw [if_neg h0]; simp
    rw [e1]
    exact hc
theorem strVals_snoc (l : List ByteArray) (x : ByteArray) : strVals (l ++ [x]) = strVals l ++ [.string x] := by simp [strVals]
theorem oneStr (x : ByteArray) : ∀ u ∈ [Value.string x], u.oneCell' = true := by
  intro u hu
  have : u = .string x := by simpa using hu
  subst this
  rfl
theorem Fs.listS_mem {l : List ByteArray} {i : Nat} (h : i < l.length) : listS l i ∈ l := List.mem_of_getElem? (listS_get h)
theorem Fs.mem_listS {l : List ByteArray} {x : ByteArray} (h : x ∈ l) : ∃ k, k < l.length ∧ listS l k = x := by
  obtain ⟨k, hk, e⟩ := List.getElem_of_mem h
  refine ⟨k, hk, ?_⟩
  have := listS_get hk
  rw [List.getElem?_eq_getElem hk] at this
  injection this with this
  rw [← this, e]
def Fs.mkB (l : List UInt8) : ByteArray := ⟨l.toArray⟩
theorem Fs.take_more {S : List UInt8} {f k : Nat} (hf : f ≤ k) (hk : k < S.length) : (S.drop f).take (k + 1 - f) = (S.drop f).take (k - f) ++ [S[k]] := by
  rw [show k + 1 - f = (k - f) + 1 by omega, List.take_add_one, List.getElem?_drop, show f + (k - f) = k by omega, List.getElem?_eq_getElem hk]
  rfl
theorem Fs.cut_part {b : UInt8} {S : List UInt8} {f k : Nat} (hf : f ≤ k) (hk : k < S.length) (hb : S[k] = b) (hn : b ∉ (S.drop f).take (k - f)) :
    cut b (S.drop f) = (S.drop f).take (k - f) :: cut b (S.drop (k + 1)) := by
  have e : S.drop f = (S.drop f).take (k - f) ++ b :: S.drop (k + 1) := by
    conv => lhs; rw [← List.take_append_drop (k - f) (S.drop f)]
    rw [List.drop_drop, show f + (k - f) = k by omega, List.drop_eq_getElem_cons hk, hb]
  conv => lhs; rw [e]
  exact cut_hit _ hn
end Go.Proofs.Ytjmaankkbdpikaa
/- What it means that a value in memory reads as records of work, rules or a trip; numbers within bounds, for the reference of chapter 7. No condition. -/
namespace Go.Proofs.Ytjmaankkbdpikaa
open Go.RowKit Fs

def recCells (x : WRec) : Nat → Value
  | 0 => .string x.who
  | 1 => .int .i64 x.beg
  | _ => .int .i64 x.fin
abbrev recV (x : WRec) : Value := .agg #[.string x.who, .int .i64 x.beg, .int .i64 x.fin]
def ArrW (w : World) (A : Option Addr) (l : List WRec) (c : Nat) : Prop := Arr w A l.length c 3 fun i j => recCells (listW l i) j
theorem ArrW.keep {w w' : World} (k : Keep w w') {A : Option Addr} {l : List WRec} {c : Nat} (h : ArrW w A l c) : ArrW w' A l c := Arr.keep k h
theorem ArrW.le {w : World} {A : Option Addr} {l : List WRec} {c : Nat} (h : ArrW w A l c) : l.length ≤ c ∧ c ≤ 9223372036854775807 := ⟨h.1, h.2.1⟩
/-- The three cells of a record. -/
structure RecAt (w : World) (b o : Nat) (x : WRec) : Prop where
  c0 : w.cell? ⟨b, o, none⟩ = some (.string x.who)
  c1 : w.cell? ⟨b, o + 1, none⟩ = some (.int .i64 x.beg)
  c2 : w.cell? ⟨b, o + 2, none⟩ = some (.int .i64 x.fin)
theorem RecAt.keep {w w' : World} (k : Keep w w') {b o : Nat} {x : WRec} (m : RecAt w b o x) : RecAt w' b o x := ⟨k _ _ m.c0, k _ _ m.c1, k _ _ m.c2⟩
theorem ArrW.at_ {w : World} {A : Option Addr} {l : List WRec} {c : Nat} (h : ArrW w A l c) {k : Nat} (hk : k < l.length) : ∃ b o, A = some ⟨b, o, none⟩ ∧ RecAt w b (o + k * 3) (listW l k) := by
  obtain ⟨b, o, e, hc⟩ := Arr.at_ h hk
  exact ⟨b, o, e, hc 0 (by omega), hc 1 (by omega), hc 2 (by omega)⟩
/-- Two records of one row. -/
theorem ArrW.two {w : World} {A : Option Addr} {l : List WRec} {c : Nat} (h : ArrW w A l c) {i k : Nat} (hi : i < l.length) (hk : k < l.length) : ∃ b o, A = some ⟨b, o, none⟩ ∧ RecAt w b (o + i * 3) (listW l i) ∧ RecAt w b (o + k * 3) (listW l k) := by
  obtain ⟨b, o, e, hc⟩ := h.at_ hi
  obtain ⟨b', o', e', hc'⟩ := h.at_ hk
  obtain ⟨rfl, rfl⟩ : b = b' ∧ o = o' := by rw [e] at e'; simpa using e'
  exact ⟨b, o, e, hc, hc'⟩
abbrev drulesV (R : DRules) : Value := .agg #[.int .i64 R.brk, .int .i64 R.rest, .int .i64 R.stint, .int .i64 R.shift, .int .i64 R.week]
abbrev dtripV (t : DTrip) : Value := .agg #[.int .i64 t.start, .int .i64 t.lo, .int .i64 t.hi, .int .i64 t.next]
/-- Rules in the block g. -/
structure RulesIn (w : World) (g : Nat) (R : DRules) : Prop where
  c0 : w.cell? ⟨g, 0, none⟩ = some (.int .i64 R.brk)
  c1 : w.cell? ⟨g, 1, none⟩ = some (.int .i64 R.rest)
  c2 : w.cell? ⟨g, 2, none⟩ = some (.int .i64 R.stint)
  c3 : w.cell? ⟨g, 3, none⟩ = some (.int .i64 R.shift)
  c4 : w.cell? ⟨g, 4, none⟩ = some (.int .i64 R.week)
theorem RulesIn.keep {w w' : World} (k : Keep w w') {g : Nat} {R : DRules} (m : RulesIn w g R) : RulesIn w' g R := ⟨k _ _ m.c0, k _ _ m.c1, k _ _ m.c2, k _ _ m.c3, k _ _ m.c4⟩
theorem RulesIn.new (w : World) (R : DRules) (t : TypeId) : RulesIn (w.alloc (.cells #[.int .i64 R.brk, .int .i64 R.rest, .int .i64 R.stint, .int .i64 R.shift, .int .i64 R.week] t)) w.heap.size R :=
  ⟨cellNew _ _ _ 0, cellNew _ _ _ 1, cellNew _ _ _ 2, cellNew _ _ _ 3, cellNew _ _ _ 4⟩
/-- A trip in the block g. -/
structure TripIn (w : World) (g : Nat) (t : DTrip) : Prop where
  c0 : w.cell? ⟨g, 0, none⟩ = some (.int .i64 t.start)
  c1 : w.cell? ⟨g, 1, none⟩ = some (.int .i64 t.lo)
  c2 : w.cell? ⟨g, 2, none⟩ = some (.int .i64 t.hi)
  c3 : w.cell? ⟨g, 3, none⟩ = some (.int .i64 t.next)
theorem TripIn.keep {w w' : World} (k : Keep w w') {g : Nat} {t : DTrip} (m : TripIn w g t) : TripIn w' g t := ⟨k _ _ m.c0, k _ _ m.c1, k _ _ m.c2, k _ _ m.c3⟩
theorem TripIn.new (w : World) (x : DTrip) (t : TypeId) : TripIn (w.alloc (.cells #[.int .i64 x.start, .int .i64 x.lo, .int .i64 x.hi, .int .i64 x.next] t)) w.heap.size x :=
  ⟨cellNew _ _ _ 0, cellNew _ _ _ 1, cellNew _ _ _ 2, cellNew _ _ _ 3⟩

end Go.Proofs.Ytjmaankkbdpikaa

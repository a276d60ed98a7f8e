/- The library's product of two words and its reversal of numbers, tied to this program's numbers (laid by the library's own command). -/
import Derived.Shelf.Bits.Mul64
import Derived.Shelf.Slices.Reverse
import Derived.Ground.Names2Prog
import Derived.Test.YtndhpdjcpagghaaGreatDoorT12
import Derived.Laws.CopyOwn
import Derived.Laws.OwnMore
namespace Go.Proofs.YtndhpdjcpagghaaGreatDoor
open Go.Shelf
def mulLays_ren : Go.Shelf.Ren := ⟨fun | 212 => 111 | 263 => 128 | 264 => 129 | n => n, fun | 46 => 154 | 51 => 177 | 146 => 178 | 53 => 170 | 148 => 180 | n => n, fun | n => n⟩
theorem mulLays : Go.Proofs.Lays.n212 Tryz.prog mulLays_ren := {
  mixed := by kernel_rfl
  f212 := Tryz.func111.trans (congrArg some (by kernel_rfl))
  f263 := Tryz.func128.trans (congrArg some (by kernel_rfl))
  f264 := Tryz.func129.trans (congrArg some (by kernel_rfl))
  t46 := Tryz.underlying154
  a46 := Tryz.isAgg154
  z46 := Tryz.sizeOf154
  v46 := Tryz.zeroValue154
  t51 := Tryz.underlying177
  a51 := Tryz.isAgg177
  z51 := Tryz.sizeOf177
  v51 := Tryz.zeroValue177
  t53 := Tryz.underlying170
  a53 := Tryz.isAgg170
  z53 := Tryz.sizeOf170
  v53 := Tryz.zeroValue170
  t146 := Tryz.underlying178
  a146 := Tryz.isAgg178
  z146 := Tryz.sizeOf178
  v146 := Tryz.zeroValue178
  t148 := Tryz.underlying180
  a148 := Tryz.isAgg180
  z148 := Tryz.sizeOf180
  v148 := Tryz.zeroValue180 }
open Go.RowKit Go.Lib in
theorem mul_any (x y : Nat) (hx : x < 18446744073709551616) (hy : y < 18446744073709551616) (w : World) :
    Calls Tryz.prog 111 #[.int .u64 x, .int .u64 y] w fun e w' => e = .returned (.tuple #[.int .u64 ((x * y / 18446744073709551616 : Nat) : Int), .int .u64 ((x * y % 18446744073709551616 : Nat) : Int)]) ∧ w' = w := Any.bits_Mul mulLays x y hx hy w
def revLays_ren : Go.Shelf.Ren := ⟨fun | 112 => 94 | n => n, fun | 28 => 26 | 3 => 3 | 4 => 4 | 0 => 0 | n => n, fun | n => n⟩
theorem revLays : Go.Proofs.Lays.n112 Tryz.prog revLays_ren := {
  mixed := by kernel_rfl
  f112 := Tryz.func94.trans (congrArg some (by kernel_rfl))
  t0 := Tryz.underlying0
  a0 := Tryz.isAgg0
  z0 := Tryz.sizeOf0
  v0 := Tryz.zeroValue0
  t3 := Tryz.underlying3
  a3 := Tryz.isAgg3
  z3 := Tryz.sizeOf3
  v3 := Tryz.zeroValue3
  t4 := Tryz.underlying4
  a4 := Tryz.isAgg4
  z4 := Tryz.sizeOf4
  v4 := Tryz.zeroValue4
  t28 := Tryz.underlying26
  a28 := Tryz.isAgg26
  z28 := Tryz.sizeOf26
  v28 := Tryz.zeroValue26 }
open Go.RowKit Go.Lib Go.Sort in
theorem reverse_empty (a : Option Addr) (cap : Nat) (w : World) :
    Calls Tryz.prog 94 #[.slice a 0 cap] w fun e w' => e = .returned (.tuple #[]) ∧ w' = w := Any.slices_Reverse_int_empty revLays a cap w
open Go.RowKit Go.Lib Go.Sort in
theorem reverse_any (blk off cap : Nat) (zs : List Int) (w : World) (hH : Holds (Value.int .i64) w blk off zs.toArray) (hsz : zs.length ≤ 9223372036854775807) :
    Calls Tryz.prog 94 #[.slice (some ⟨blk, off, none⟩) zs.length cap] w fun e w' => e = .returned (.tuple #[]) ∧ ∃ n, w' = putRow (Value.int .i64) (Sort.ahead w n) blk off zs.reverse.toArray := Any.slices_Reverse_int revLays blk off cap zs w hH hsz
end Go.Proofs.YtndhpdjcpagghaaGreatDoor
/- slices.Repeat of one number: a row of the call's own. Condition: at most a thousand times, at least once. -/
namespace Go.Proofs.YtndhpdjcpagghaaGreatDoor
open Go.RowKit Fs

/-- Block g is a row of cells of its own. -/
def RowV (w : World) (g : Nat) (t : TypeId) (l : List Value) : Prop := w.heap[g]? = some (.cells l.toArray t (0, 0))
theorem RowV.lt {w : World} {g : Nat} {t : TypeId} {l : List Value} (h : RowV w g t l) : g < w.heap.size := by
  rcases Nat.lt_or_ge g w.heap.size with h1 | h1
  · exact h1
  · unfold RowV at h; rw [Array.getElem?_eq_none h1] at h; cases h
theorem RowV.cell {w : World} {g : Nat} {t : TypeId} {l : List Value} (h : RowV w g t l) (i : Nat) : w.cell? ⟨g, i, none⟩ = l[i]? := by
  rw [cell_of_row w g i l.toArray t (0, 0) h]; simp
theorem RowV.frozen {w : World} {g : Nat} {t : TypeId} {l : List Value} (h : RowV w g t l) (i : Nat) : w.frozen? ⟨g, i, none⟩ = false := by
  unfold RowV at h
  unfold World.frozen?
  dsimp only
  rw [h]
  simp
theorem RowV.below {B : Nat} {w w' : World} {g : Nat} {t : TypeId} {l : List Value} (h : RowV w g t l) (hb : Below B w w') (hg : g < B) : RowV w' g t l := (hb.block g hg).trans h
theorem RowV.of_own {w : World} {base g n : Nat} {e : TypeId} {l : List Value} (h : w.ownsRow base e 1 (.slice (some ⟨g, 0, none⟩) n n) n l) : RowV w g e l ∧ base ≤ g := by
  rcases h.2 with ⟨hv, -⟩ | ⟨g', cap, cur, hv, hb, hh, h1, h2, h3, h4⟩
  · cases hv
  · injection hv with ha hn hc
    injection ha with ha
    injection ha with ha
    subst ha; subst hc
    refine ⟨?_, hb⟩
    unfold RowV
    rw [hh, ← h4, List.take_of_length_le (by rw [Array.length_toList, h3]; exact Nat.le_refl _)]
theorem splice_more (x z : Value) (m k r : Nat) : splice (List.replicate m x ++ List.replicate (k + r) z) m (List.replicate k x) = List.replicate (m + k) x ++ List.replicate r z := by
  unfold splice
  rw [List.take_left' (by simp), List.drop_append]
  simp only [List.length_replicate, List.drop_replicate]
  rw [show m - (m + k) = 0 by omega, show k + r - (m + k - m) = r by omega, List.replicate_zero, List.nil_append, ← List.append_assoc, List.replicate_append_replicate]

theorem oneCell {w : World} {b o : Nat} {x : Value} (h : w.cell? ⟨b, o, none⟩ = some x) : ∀ j v, [x][j]? = some v → w.cell? ((⟨b, o, none⟩ : Addr).add j) = some v := by
  intro j v hv
  match j with
  | 0 =>
    have : x = v := by simpa using hv
    subst this
    exact h
  | j + 1 => simp at hv
theorem oneCellAt {w : World} {b o : Nat} {x : Value} (h : w.cell? ⟨b, o, none⟩ = some x) : ∀ j v, [x][j]? = some v → w.cell? ⟨b, o + j, none⟩ = some v := by
  intro j v hv
  match j with
  | 0 =>
    have : x = v := by simpa using hv
    subst this
    exact h
  | j + 1 => simp at hv
theorem repCells {w : World} {g m k : Nat} {t : TypeId} {x : Value} {l : List Value} (h : RowV w g t (List.replicate m x ++ l)) (hk : k ≤ m) : ∀ j v, (List.replicate k x)[j]? = some v → w.cell? ((⟨g, 0, none⟩ : Addr).add j) = some v := by
  intro j v hv
  have hj : j < k := by
    rcases Nat.lt_or_ge j k with h | h
    · exact h
    · rw [List.getElem?_eq_none (by simpa using h)] at hv; cases hv
  rw [List.getElem?_replicate, if_pos hj] at hv
  injection hv with hv
  subst hv
  have e : (⟨g, 0, none⟩ : Addr).add j = ⟨g, j, none⟩ := by
    unfold Addr.add
    by_cases h0 : j = 0
    · subst h0; rfl
    · rw [if_neg h0]; simp
  rw [e, h.cell, List.getElem?_append_left (by simp; omega), List.getElem?_replicate, if_pos (by omega)]
theorem copy_more {P : Program} {dT ty elem t : TypeId} (hu : P.underlying dT = some (.slice elem)) (hs : (P.info? elem).map (·.size) = some 1) {w w0 : World} {g m n k B c : Nat} {x z : Value} (h : RowV w g t (List.replicate m x ++ List.replicate (n - m) z))
    (hk : Nat.min m (n - m) = k) (hm : m ≤ n) (hx : x.oneCell' = true) (hb : Below B w0 w) (hB : B ≤ g) :
    ∃ wz, (Builtin.copy_ #[dT, dT] ty #[.slice (some ⟨g, m, none⟩) (n - m) c, .slice (some ⟨g, 0, none⟩) m n]).run P w = .ok (goInt k) wz ∧ RowV wz g t (List.replicate (m + k) x ++ List.replicate (n - (m + k)) z) ∧ Below B w0 wz := by
  have hk' : min m (n - m) = k := hk
  have hrun := run_copy_row (P := P) w dT dT ty elem g m (n - m) c ⟨g, 0, none⟩ m n (List.replicate m x ++ List.replicate (n - m) z).toArray t (List.replicate k x) hu hs h (by rw [List.length_replicate, hk]) (repCells h (by omega)) (by simp; omega) (fun v hv => by rw [List.mem_replicate] at hv; rw [hv.2]; exact hx)
  rw [List.length_replicate] at hrun
  refine ⟨_, hrun, ?_, below_setRow hb hB _⟩
  have e := splice_more x z m k (n - (m + k))
  rw [show k + (n - (m + k)) = n - m by omega] at e
  have := setRow_heap w g (List.replicate m x ++ List.replicate (n - m) z).toArray ((List.replicate m x ++ List.replicate (n - m) z).toArray.toList.take m ++ List.replicate k x ++ (List.replicate m x ++ List.replicate (n - m) z).toArray.toList.drop (m + k)).toArray t (0, 0) h
  unfold RowV
  rw [this, ← e]
  unfold splice
  rw [List.length_replicate, List.append_assoc]
set_option maxHeartbeats 1600000 in
set_option maxRecDepth 100000 in
theorem repeat_any (x : Int) (n : Nat) (b o c : Nat) (w : World) (hx : w.cell? ⟨b, o, none⟩ = some (.int .i64 x)) (h1 : 1 ≤ n) (h2 : n ≤ 1000) :
    Calls Tryz.prog 91 #[.slice (some ⟨b, o, none⟩) 1 c, .int .i64 n] w fun e w' => ∃ g, e = .returned (.slice (some ⟨g, 0, none⟩) n n) ∧ w.heap.size ≤ g ∧ RowV w' g 3 (List.replicate n (.int .i64 x)) ∧ Below w.heap.size w w' := by
  obtain ⟨i0, hi, hz0, hz1, hz2⟩ := info_parts Tryz.infoInt
  have hb := World.block_lt_of_cell? w _ hx
  have HM1 := Lib.hid (show ((1 * n / 18446744073709551616 : Nat) : Int) = 0 by omega)
  have HM2 := Lib.hid (show ((1 * n % 18446744073709551616 : Nat) : Int) = (n : Int) by omega)
  go_enter Tryz.func91, Tryz.ntmps91
  go_wp2_with (first
    | (go_at_call 111; refine (mul_any 1 n (by omega) (by omega) _).mono ?_; rintro e w' ⟨rfl, hw⟩; obtain rfl : w = w' := hw.symm; rw [HM1.out, HM2.out])
    | (at_make; refine wpList_make_full _ rfl (.tmp 29) (.tmp 29) 26 rfl _ 3 i0 (.int .i64 0) 1 Tryz.underlying26 hi hz0 hz1 .i64 .i64 n n n rfl rfl rfl rfl (by rw [hz2]; omega) (by unfold maxLen; omega) (Nat.le_refl _) ?_))
  intro w1 hown hg1
  have HB1 : Hid (Below w.heap.size w w1) := Lib.hid ⟨hg1.os, hg1.tape, hg1.output, hg1.size, fun k hk => hg1.block k hk (by simp)⟩
  have HR1 : Hid (RowV w1 w.heap.size 3 (List.replicate n (.int .i64 0))) := Lib.hid (by
    have := (RowV.of_own hown).1
    rw [toList_madeCells_one] at this
    exact this)
  have hx1 : w1.cell? ⟨b, o, none⟩ = some (.int .i64 x) := Keep.below HB1.out _ _ hx
  have HMN := Lib.hid (show Nat.min 1 n = 1 by show min 1 n = 1; omega)
  clear hown hg1 HM1 HM2
  go_upto_region 7 with fail
  go_wp2_with (first
    | (refine wpList_copy_splice (o := ⟨some 33, _, _, _, _, _⟩) rfl (.tmp 31) (.tmp 32) 26 26 rfl 3 Tryz.underlying26 (by rw [hi]; simp [hz1]) (some ⟨w.heap.size, 0, none⟩) (some ⟨b, o, none⟩) n n 1 c rfl rfl w.heap.size 0 (List.replicate n (.int .i64 0)) 3 HR1.out [.int .i64 x] HMN.out.symm ?k1 (by simp; omega) ?k2 w.heap.size w HB1.out (Nat.le_refl _) ?k3))
  case k1 => exact oneCellAt hx1
  case k2 => exact oneInt x
  case k3 =>
    intro w2 hr2 hb2
    have HR2 : Hid (RowV w2 w.heap.size 3 (List.replicate 1 (.int .i64 x) ++ List.replicate (n - 1) (.int .i64 0))) := Lib.hid (by
      have e := splice_more (.int .i64 x) (.int .i64 0) 0 1 (n - 1)
      rw [List.replicate_zero, List.nil_append, show 1 + (n - 1) = n by omega, Nat.zero_add] at e
      have h := hr2.out
      rw [show ([.int .i64 x] : List Value) = List.replicate 1 (.int .i64 x) by rfl, e] at h
      exact h)
    have HB2 := Lib.hid hb2
    clear hr2 hb2 hx1 HR1 HB1
    go_wp2_with fail
    go_loopw [8] (fun u wr => ∃ m : Nat, 1 ≤ m ∧ m ≤ n ∧ u = .int .i64 m ∧ Hid (RowV wr w.heap.size 3 (List.replicate m (.int .i64 x) ++ List.replicate (n - m) (.int .i64 0))) ∧ Hid (Below w.heap.size w wr)) (fun u _ => n - (intOf u).toNat)
    case atStart => exact ⟨1, Nat.le_refl _, h1, rfl, HR2, HB2⟩
    case round =>
      obtain ⟨m, hm1, hm, rfl, HR, HB⟩ := hrel
      by_cases hlt : m < n
      · obtain ⟨k, hk⟩ : ∃ k, Nat.min m (n - m) = k := ⟨_, rfl⟩
        have hk1 : 1 ≤ k ∧ k ≤ m ∧ k ≤ n - m := by
          have : min m (n - m) = k := hk
          omega
        obtain ⟨wz, hrun, hrow, hbel⟩ := copy_more (ty := 3) (c := n - m) Tryz.underlying26 (by rw [hi]; simp [hz1]) (w := wr.drew) (show RowV wr.drew _ _ _ from HR.out) hk hm (by rfl) HB.out.drew (Nat.le_refl w.heap.size)
        have HR3 := Lib.hid hrow
        have HB3 := Lib.hid hbel
        clear hrow hbel
        go_wp2_with fail
        go_region
        go_wp2_with fail
        go_roundw
        case rel => exact ⟨m + k, by omega, by omega, by go_num, HR3, HB3⟩
        case measure => simp [intOf]; omega
      · have e : m = n := by omega
        subst e
        have HF := HR.out
        rw [Nat.sub_self, List.replicate_zero, List.append_nil] at HF
        have HF2 := Lib.hid HF
        clear HF
        go_wp2_with fail
        go_ret
        exact ⟨w.heap.size, rfl, Nat.le_refl _, HF2.out, HB.out⟩
end Go.Proofs.YtndhpdjcpagghaaGreatDoor

/- The steps along roads as function values, the first of several errors, the errors of places. Conditions: the net is right, labels are small. -/
import Derived.Test.YtfjdnbnalihjiaaGreatDoorT11
import Derived.Test.YtfjdnbnalihjiaaGreatDoorN1
import Derived.Shelf.Bits.Mul64
import Derived.Shelf.Slices.Reverse
import Derived.Ground.Names2Prog
import Derived.Laws.CopyOwn
import Derived.Laws.OwnMore
namespace Go.Proofs.YtfjdnbnalihjiaaGreatDoor
open Go.RowKit Fs

/-! ### what a right net has -/
theorem Fs.net_sound {N : Net} (h : netErr N = 0) : N.places.length ≠ 0 ∧ N.places.length ≤ 20 ∧ N.roads.length ≤ 60 ∧ ∀ i, i < N.roads.length → (errRoad N i).2 = 0 := by
  unfold netErr checkNet at h
  by_cases h0 : N.places.length = 0
  · rw [if_pos h0] at h; cases h
  · rw [if_neg h0] at h
    by_cases h1 : 20 < N.places.length
    · rw [if_pos h1] at h; cases h
    · rw [if_neg h1] at h
      by_cases h2 : fst (errName (listS N.places)) N.places.length ≠ 0
      · rw [if_pos h2] at h; exact absurd h h2
      · rw [if_neg h2] at h
        by_cases h3 : 60 < N.roads.length
        · rw [if_pos h3] at h; cases h
        · rw [if_neg h3] at h
          by_cases h4 : fst (fun i => (errRoad N i).2) N.roads.length ≠ 0
          · rw [if_pos h4] at h; exact absurd h h4
          · exact ⟨h0, by omega, by omega, fst_zero (Decidable.not_not.1 h4)⟩
structure Fs.RoadOk (N : Net) (r : Rd) : Prop where
  src : 0 ≤ r.src ∧ r.src < N.places.length
  dst : 0 ≤ r.dst ∧ r.dst < N.places.length
  metres : 0 ≤ r.metres ∧ r.metres ≤ 100000
  pts : PtsOk r.pts
theorem Fs.road_sound {N : Net} {i : Nat} (h : (errRoad N i).2 = 0) : RoadOk N (listD N.roads i) := by
  unfold errRoad at h
  by_cases h0 : errName (fun j => (listD N.roads j).name) i ≠ 0
  · rw [if_pos h0] at h; exact absurd h h0
  · rw [if_neg h0] at h
    by_cases h1 : errForm N (listD N.roads i) ≠ 0
    · rw [if_pos h1] at h; exact absurd h h1
    · rw [if_neg h1] at h
      have h1 := Decidable.not_not.1 h1
      unfold errForm at h1
      cases hp : (isPlace N (listD N.roads i).src && isPlace N (listD N.roads i).dst) with
      | false => rw [hp] at h1; cases h1
      | true =>
        rw [hp, if_neg (by decide)] at h1
        rw [Bool.and_eq_true] at hp
        by_cases e1 : (listD N.roads i).src = (listD N.roads i).dst
        · rw [if_pos e1] at h1; cases h1
        · rw [if_neg e1] at h1
          cases hm : within (listD N.roads i).metres 0 100000 with
          | false => rw [hm] at h1; cases h1
          | true =>
            rw [hm, if_neg (by decide)] at h1
            by_cases e2 : (listD N.roads i).pts.length = 0
            · rw [if_pos e2] at h1; cases h1
            · rw [if_neg e2] at h1
              by_cases e3 : 8 < (listD N.roads i).pts.length
              · rw [if_pos e3] at h1; cases h1
              · have a := Fs.within_iff.1 (show within _ _ _ = true from hp.1)
                have b := Fs.within_iff.1 (show within _ _ _ = true from hp.2)
                refine ⟨by omega, by omega, Fs.within_iff.1 hm, e2, by omega, ?_⟩
                unfold errPoints at h
                by_cases e4 : fst (errPoint (listD N.roads i).pts) (listD N.roads i).pts.length ≠ 0
                · rw [if_pos e4] at h; exact absurd h e4
                · exact fst_zero (Decidable.not_not.1 e4)
theorem Fs.net_roads_ok {N : Net} (h : netErr N = 0) : ∀ i, i < N.roads.length → RoadOk N (listD N.roads i) := fun i hi => road_sound ((net_sound h).2.2.2 i hi)
theorem Fs.net_joined {N : Net} (h : netErr N = 0) : Joined N := fun i hi => ⟨(net_roads_ok h i hi).src, (net_roads_ok h i hi).dst⟩
/-- Steps that add from 0 to 100000. -/
def Fs.Small (N : Net) (nx : Nat → Int → Int) : Prop := ∀ i x, i < N.roads.length → 0 ≤ x → x ≤ nx i x ∧ nx i x ≤ x + 100000
theorem Fs.further_small {N : Net} (h : netErr N = 0) : Small N (further N) := fun i x hi hx => by
  have := (net_roads_ok h i hi).metres
  unfold further
  omega
theorem Fs.soonest_small {N : Net} (h : netErr N = 0) : Small N (soonest N) := fun i x hi hx => by
  have := (takesAt_is (net_roads_ok h i hi).pts x).1
  unfold soonest
  omega
theorem Fs.latest_small {N : Net} (h : netErr N = 0) : Small N (latest N) := fun i x hi hx => by
  have := (takesAt_is (net_roads_ok h i hi).pts x).2
  unfold latest
  omega
theorem Fs.further_good {N : Net} (h : netErr N = 0) : Good N (further N) :=
  ⟨fun i x hi hx => (further_small h i x hi hx).1, fun i x y hi hx hy => by unfold further; omega⟩

/-! ### the steps -/
/-- The function K with the variable g steps along the net's roads as nx says, as long as what is below w's end is as it was. -/
def Steps (N : Net) (nx : Nat → Int → Int) (K g : Nat) (w : World) : Prop :=
  ∀ w', Below w.heap.size w w' → ∀ (i : Nat) (x : Int), i < N.roads.length → 0 ≤ x → x ≤ 1000000000000000000 → Calls Tryz.prog K #[.int .i64 i, .int .i64 x, .pointer (some ⟨g, 0, none⟩)] w' fun e w'' => e = .returned (.int .i64 (nx i x)) ∧ Below w'.heap.size w' w''
theorem Steps.below {N : Net} {nx : Nat → Int → Int} {K g : Nat} {w w' : World} (h : Steps N nx K g w) (hb : Below w.heap.size w w') : Steps N nx K g w' :=
  fun w'' hb2 i x hi hx hx2 => h w'' (hb.trans (hb2.mono hb.size)) i x hi hx hx2
/-- A function value that steps. -/
def StepV (N : Net) (nx : Nat → Int → Int) (v : Value) (w : World) : Prop := ∃ K g, v = .func (.func K) #[] #[.pointer (some ⟨g, 0, none⟩)] ∧ (∀ (args : Array Value) (w : World), (callFunc K args).run Tryz.prog w = .ok (.enter K args) w) ∧ Steps N nx K g w
theorem StepV.below {N : Net} {nx : Nat → Int → Int} {v : Value} {w w' : World} (h : StepV N nx v w) (hb : Below w.heap.size w w') : StepV N nx v w' := by
  obtain ⟨K, g, hv, hc, hs⟩ := h
  exact ⟨K, g, hv, hc, hs.below hb⟩
/-! ### errors -/
set_option maxHeartbeats 400000 in
theorem firstError_any (l : List Int) (A : Option Addr) (c : Nat) (w : World) (h : ArrI w A l c) :
    Calls Tryz.prog 82 #[.slice A l.length c] w fun e w' => e = .returned (.int .i64 (fst (listI l) l.length)) ∧ w = w' := by
  have b1 := h.le.1
  have b2 := h.le.2
  go_enter Tryz.func82, Tryz.ntmps82
  go_wp2
  go_loop [7] (fun i => ∃ k : Nat, k ≤ l.length ∧ i = .int .i64 k ∧ Hid (∀ j, j < k → listI l j = 0)) (fun i => l.length - (intOf i).toNat)
  case atStart => exact ⟨0, Nat.zero_le _, rfl, fun j hj => absurd hj (Nat.not_lt_zero _)⟩
  case round =>
    obtain ⟨k, hk, rfl, Hn⟩ := hrel
    by_cases hlt : k < l.length
    · obtain ⟨b, o, rfl, hc⟩ := h.at_ hlt
      by_cases h0 : listI l k = 0
      · have F : Hid (∀ j, j < k + 1 → listI l j = 0) := fun j hj => by
          by_cases e : j = k
          · subst e; exact h0
          · exact Hn.out j (by omega)
        have d0 : (listI l k == 0) = true := by simpa using h0
        clear h0
        go_wp2
        go_round
        case rel => exact ⟨k + 1, by omega, by go_num, F⟩
        case measure => simp [intOf]; omega
      · have F := Lib.hid (fst_hit hlt Hn.out h0).1
        have d0 : (listI l k == 0) = false := by simpa using h0
        clear h0
        go_wp2
        go_ret
        exact ⟨ret_int F.out.symm, rfl⟩
    · have F := Lib.hid (show fst (listI l) l.length = 0 from fst_none fun j hj => Hn.out j (by omega))
      go_wp2
      go_ret
      exact ⟨ret_int F.out.symm, rfl⟩
def Fs.placesErr (N : Net) (l : List Int) : Int := fst (fun i => if isPlace N (listI l i) then 0 else 6) l.length
end Go.Proofs.YtfjdnbnalihjiaaGreatDoor
/- The library's product of two words and its reversal of numbers, tied to this program's numbers (laid by the library's own command). -/
namespace Go.Proofs.YtfjdnbnalihjiaaGreatDoor
open Go.Shelf
def mulLays_ren : Go.Shelf.Ren := ⟨fun | 212 => 139 | 263 => 161 | 264 => 162 | n => n, fun | 46 => 183 | 51 => 208 | 146 => 209 | 53 => 211 | 148 => 212 | n => n, fun | n => n⟩
theorem mulLays : Go.Proofs.Lays.n212 Tryz.prog mulLays_ren := {
  mixed := by kernel_rfl
  f212 := Tryz.func139.trans (congrArg some (by kernel_rfl))
  f263 := Tryz.func161.trans (congrArg some (by kernel_rfl))
  f264 := Tryz.func162.trans (congrArg some (by kernel_rfl))
  t46 := Tryz.underlying183
  a46 := Tryz.isAgg183
  z46 := Tryz.sizeOf183
  v46 := Tryz.zeroValue183
  t51 := Tryz.underlying208
  a51 := Tryz.isAgg208
  z51 := Tryz.sizeOf208
  v51 := Tryz.zeroValue208
  t53 := Tryz.underlying211
  a53 := Tryz.isAgg211
  z53 := Tryz.sizeOf211
  v53 := Tryz.zeroValue211
  t146 := Tryz.underlying209
  a146 := Tryz.isAgg209
  z146 := Tryz.sizeOf209
  v146 := Tryz.zeroValue209
  t148 := Tryz.underlying212
  a148 := Tryz.isAgg212
  z148 := Tryz.sizeOf212
  v148 := Tryz.zeroValue212 }
open Go.RowKit Go.Lib in
theorem mul_any (x y : Nat) (hx : x < 18446744073709551616) (hy : y < 18446744073709551616) (w : World) :
    Calls Tryz.prog 139 #[.int .u64 x, .int .u64 y] w fun e w' => e = .returned (.tuple #[.int .u64 ((x * y / 18446744073709551616 : Nat) : Int), .int .u64 ((x * y % 18446744073709551616 : Nat) : Int)]) ∧ w' = w := Any.bits_Mul mulLays x y hx hy w
end Go.Proofs.YtfjdnbnalihjiaaGreatDoor
/- slices.Repeat of one number: a row of the call's own. Condition: at most a thousand times, at least once. -/
namespace Go.Proofs.YtfjdnbnalihjiaaGreatDoor
open Go.RowKit Fs

/-- Block g is a row of cells of its own. -/
def RowV (w : World) (g : Nat) (t : TypeId) (l : List Value) : Prop := w.heap[g]? = some (.cells l.toArray t (0, 0))
theorem RowV.lt {w : World} {g : Nat} {t : TypeId} {l : List Value} (h : RowV w g t l) : g < w.heap.size := by
  rcases Nat.lt_or_ge g w.heap.size with h1 | h1
  · exact h1
  · unfold RowV at h; rw [Array.getElem?_eq_none h1] at h; cases h
theorem RowV.cell {w : World} {g : Nat} {t : TypeId} {l : List Value} (h : RowV w g t l) (i : Nat) : w.cell? ⟨g, i, none⟩ = l[i]? := by
  rw [cell_of_row w g i l.toArray t (0, 0) h]; simp
theorem RowV.frozen {w : World} {g : Nat} {t : TypeId} {l : List Value} (h : RowV w g t l) (i : Nat) : w.frozen? ⟨g, i, none⟩ = false := by
  unfold RowV at h
  unfold World.frozen?
  dsimp only
  rw [h]
  simp
theorem RowV.below {B : Nat} {w w' : World} {g : Nat} {t : TypeId} {l : List Value} (h : RowV w g t l) (hb : Below B w w') (hg : g < B) : RowV w' g t l := (hb.block g hg).trans h
theorem RowV.of_own {w : World} {base g n : Nat} {e : TypeId} {l : List Value} (h : w.ownsRow base e 1 (.slice (some ⟨g, 0, none⟩) n n) n l) : RowV w g e l ∧ base ≤ g := by
  rcases h.2 with ⟨hv, -⟩ | ⟨g', cap, cur, hv, hb, hh, h1, h2, h3, h4⟩
  · cases hv
  · injection hv with ha hn hc
    injection ha with ha
    injection ha with ha
    subst ha; subst hc
    refine ⟨?_, hb⟩
    unfold RowV
    rw [hh, ← h4, List.take_of_length_le (by rw [Array.length_toList, h3]; exact Nat.le_refl _)]
theorem splice_more (x z : Value) (m k r : Nat) : splice (List.replicate m x ++ List.replicate (k + r) z) m (List.replicate k x) = List.replicate (m + k) x ++ List.replicate r z := by
  unfold splice
  rw [List.take_left' (by simp), List.drop_append]
  simp only [List.length_replicate, List.drop_replicate]
  rw [show m - (m + k) = 0 by omega, show k + r - (m + k - m) = r by omega, List.replicate_zero, List.nil_append, ← List.append_assoc, List.replicate_append_replicate]

theorem oneCell {w : World} {b o : Nat} {x : Value} (h : w.cell? ⟨b, o, none⟩ = some x) : ∀ j v, [x][j]? = some v → w.cell? ((⟨b, o, none⟩ : Addr).add j) = some v := by
  intro j v hv
  match j with
  | 0 =>
    have : x = v := by simpa using hv
    subst this
    exact h
  | j + 1 => simp at hv
theorem oneCellAt {w : World} {b o : Nat} {x : Value} (h : w.cell? ⟨b, o, none⟩ = some x) : ∀ j v, [x][j]? = some v → w.cell? ⟨b, o + j, none⟩ = some v := by
  intro j v hv
  match j with
  | 0 =>
    have : x = v := by simpa using hv
    subst this
    exact h
  | j + 1 => simp at hv
theorem repCells {w : World} {g m k : Nat} {t : TypeId} {x : Value} {l : List Value} (h : RowV w g t (List.replicate m x ++ l)) (hk : k ≤ m) : ∀ j v, (List.replicate k x)[j]? = some v → w.cell? ((⟨g, 0, none⟩ : Addr).add j) = some v := by
  intro j v hv
  have hj : j < k := by
    rcases Nat.lt_or_ge j k with h | h
    · exact h
    · rw [List.getElem?_eq_none (by simpa using h)] at hv; cases hv
  rw [List.getElem?_replicate, if_pos hj] at hv
  injection hv with hv
  subst hv
  have e : (⟨g, 0, none⟩ : Addr).add j = ⟨g, j, none⟩ := by
    unfold Addr.add
    by_cases h0 : j = 0
    · subst h0; rfl
    · rw [if_neg h0]; simp
  rw [e, h.cell, List.getElem?_append_left (by simp; omega), List.getElem?_replicate, if_pos (by omega)]
theorem copy_more {P : Program} {dT ty elem t : TypeId} (hu : P.underlying dT = some (.slice elem)) (hs : (P.info? elem).map (·.size) = some 1) {w w0 : World} {g m n k B c : Nat} {x z : Value} (h : RowV w g t (List.replicate m x ++ List.replicate (n - m) z))
    (hk : Nat.min m (n - m) = k) (hm : m ≤ n) (hx : x.oneCell' = true) (hb : Below B w0 w) (hB : B ≤ g) :
    ∃ wz, (Builtin.copy_ #[dT, dT] ty #[.slice (some ⟨g, m, none⟩) (n - m) c, .slice (some ⟨g, 0, none⟩) m n]).run P w = .ok (goInt k) wz ∧ RowV wz g t (List.replicate (m + k) x ++ List.replicate (n - (m + k)) z) ∧ Below B w0 wz := by
  have hk' : min m (n - m) = k := hk
  have hrun := run_copy_row (P := P) w dT dT ty elem g m (n - m) c ⟨g, 0, none⟩ m n (List.replicate m x ++ List.replicate (n - m) z).toArray t (List.replicate k x) hu hs h (by rw [List.length_replicate, hk]) (repCells h (by omega)) (by simp; omega) (fun v hv => by rw [List.mem_replicate] at hv; rw [hv.2]; exact hx)
  rw [List.length_replicate] at hrun
  refine ⟨_, hrun, ?_, below_setRow hb hB _⟩
  have e := splice_more x z m k (n - (m + k))
  rw [show k + (n - (m + k)) = n - m by omega] at e
  have := setRow_heap w g (List.replicate m x ++ List.replicate (n - m) z).toArray ((List.replicate m x ++ List.replicate (n - m) z).toArray.toList.take m ++ List.replicate k x ++ (List.replicate m x ++ List.replicate (n - m) z).toArray.toList.drop (m + k)).toArray t (0, 0) h
  unfold RowV
  rw [this, ← e]
  unfold splice
  rw [List.length_replicate, List.append_assoc]
set_option maxHeartbeats 1600000 in
set_option maxRecDepth 100000 in
theorem repeat_any (x : Int) (n : Nat) (b o c : Nat) (w : World) (hx : w.cell? ⟨b, o, none⟩ = some (.int .i64 x)) (h1 : 1 ≤ n) (h2 : n ≤ 1000) :
    Calls Tryz.prog 102 #[.slice (some ⟨b, o, none⟩) 1 c, .int .i64 n] w fun e w' => ∃ g, e = .returned (.slice (some ⟨g, 0, none⟩) n n) ∧ w.heap.size ≤ g ∧ RowV w' g 3 (List.replicate n (.int .i64 x)) ∧ Below w.heap.size w w' := by
  obtain ⟨i0, hi, hz0, hz1, hz2⟩ := info_parts Tryz.infoInt
  have hb := World.block_lt_of_cell? w _ hx
  have HM1 := Lib.hid (show ((1 * n / 18446744073709551616 : Nat) : Int) = 0 by omega)
  have HM2 := Lib.hid (show ((1 * n % 18446744073709551616 : Nat) : Int) = (n : Int) by omega)
  go_enter Tryz.func102, Tryz.ntmps102
  go_wp2_with (first
    | (go_at_call 139; refine (mul_any 1 n (by omega) (by omega) _).mono ?_; rintro e w' ⟨rfl, hw⟩; obtain rfl : w = w' := hw.symm; rw [HM1.out, HM2.out])
    | (at_make; refine wpList_make_full _ rfl (.tmp 29) (.tmp 29) 51 rfl _ 3 i0 (.int .i64 0) 1 Tryz.underlying51 hi hz0 hz1 .i64 .i64 n n n rfl rfl rfl rfl (by rw [hz2]; omega) (by unfold maxLen; omega) (Nat.le_refl _) ?_))
  intro w1 hown hg1
  have HB1 : Hid (Below w.heap.size w w1) := Lib.hid ⟨hg1.os, hg1.tape, hg1.output, hg1.size, fun k hk => hg1.block k hk (by simp)⟩
  have HR1 : Hid (RowV w1 w.heap.size 3 (List.replicate n (.int .i64 0))) := Lib.hid (by
    have := (RowV.of_own hown).1
    rw [toList_madeCells_one] at this
    exact this)
  have hx1 : w1.cell? ⟨b, o, none⟩ = some (.int .i64 x) := Keep.below HB1.out _ _ hx
  have HMN := Lib.hid (show Nat.min 1 n = 1 by show min 1 n = 1; omega)
  clear hown hg1 HM1 HM2
  go_upto_region 7 with fail
  go_wp2_with (first
    | (refine wpList_copy_splice (o := ⟨some 33, _, _, _, _, _⟩) rfl (.tmp 31) (.tmp 32) 51 51 rfl 3 Tryz.underlying51 (by rw [hi]; simp [hz1]) (some ⟨w.heap.size, 0, none⟩) (some ⟨b, o, none⟩) n n 1 c rfl rfl w.heap.size 0 (List.replicate n (.int .i64 0)) 3 HR1.out [.int .i64 x] HMN.out.symm ?k1 (by simp; omega) ?k2 w.heap.size w HB1.out (Nat.le_refl _) ?k3))
  case k1 => exact oneCellAt hx1
  case k2 => exact oneInt x
  case k3 =>
    intro w2 hr2 hb2
    have HR2 : Hid (RowV w2 w.heap.size 3 (List.replicate 1 (.int .i64 x) ++ List.replicate (n - 1) (.int .i64 0))) := Lib.hid (by
      have e := splice_more (.int .i64 x) (.int .i64 0) 0 1 (n - 1)
      rw [List.replicate_zero, List.nil_append, show 1 + (n - 1) = n by omega, Nat.zero_add] at e
      have h := hr2.out
      rw [show ([.int .i64 x] : List Value) = List.replicate 1 (.int .i64 x) by rfl, e] at h
      exact h)
    have HB2 := Lib.hid hb2
    clear hr2 hb2 hx1 HR1 HB1
    go_wp2_with fail
    go_loopw [8] (fun u wr => ∃ m : Nat, 1 ≤ m ∧ m ≤ n ∧ u = .int .i64 m ∧ Hid (RowV wr w.heap.size 3 (List.replicate m (.int .i64 x) ++ List.replicate (n - m) (.int .i64 0))) ∧ Hid (Below w.heap.size w wr)) (fun u _ => n - (intOf u).toNat)
    case atStart => exact ⟨1, Nat.le_refl _, h1, rfl, HR2, HB2⟩
    case round =>
      obtain ⟨m, hm1, hm, rfl, HR, HB⟩ := hrel
      by_cases hlt : m < n
      · obtain ⟨k, hk⟩ : ∃ k, Nat.min m (n - m) = k := ⟨_, rfl⟩
        have hk1 : 1 ≤ k ∧ k ≤ m ∧ k ≤ n - m := by
          have : min m (n - m) = k := hk
          omega
        obtain ⟨wz, hrun, hrow, hbel⟩ := copy_more (ty := 3) (c := n - m) Tryz.underlying51 (by rw [hi]; simp [hz1]) (w := wr.drew) (show RowV wr.drew _ _ _ from HR.out) hk hm (by rfl) HB.out.drew (Nat.le_refl w.heap.size)
        have HR3 := Lib.hid hrow
        have HB3 := Lib.hid hbel
        clear hrow hbel
        go_wp2_with fail
        go_region
        go_wp2_with fail
        go_roundw
        case rel => exact ⟨m + k, by omega, by omega, by go_num, HR3, HB3⟩
        case measure => simp [intOf]; omega
      · have e : m = n := by omega
        subst e
        have HF := HR.out
        rw [Nat.sub_self, List.replicate_zero, List.append_nil] at HF
        have HF2 := Lib.hid HF
        clear HF
        go_wp2_with fail
        go_ret
        exact ⟨w.heap.size, rfl, Nat.le_refl _, HF2.out, HB.out⟩
end Go.Proofs.YtfjdnbnalihjiaaGreatDoor

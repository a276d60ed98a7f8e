/- The library's sort of records by a function, tied to this program's numbers (laid by the library's own command). -/
import Derived.Shelf.Small.Bits
import Derived.Ground.SlsfProg
import Derived.Ground.Names2Prog
import Derived.Shelf.SlSortCmp.WholeK
import Derived.Test.YtolicafhbeiciaaProg
import Derived.Shelf.Spec.SlicesGrow
import Derived.Test.YtolicafhbeiciaaX8
import Derived.Test.YtolicafhbeiciaaT47
import Derived.Test.YtolicafhbeiciaaX15b
import Derived.Test.YtolicafhbeiciaaD25
namespace Go.Proofs.Ytolicafhbeiciaa
open Go.Shelf
def sortRecLays_ren : Go.Shelf.Ren := ⟨fun | 6 => 97 | 15 => 142 | 14 => 141 | 28 => 174 | 29 => 175 | 20 => 166 | 21 => 167 | 22 => 168 | 23 => 169 | 24 => 170 | 25 => 171 | 26 => 172 | 27 => 173 | 46 => 186 | 47 => 187 | 48 => 188 | 49 => 189 | 50 => 190 | 57 => 196 | n => n, fun | 22 => 24 | 24 => 39 | 25 => 145 | 3 => 3 | 39 => 173 | 0 => 0 | 53 => 199 | 55 => 201 | 4 => 4 | 46 => 193 | 45 => 192 | 50 => 157 | 5 => 5 | 9 => 9 | 66 => 209 | 70 => 213 | 76 => 219 | 77 => 58 | n => n, fun | n => n⟩
theorem sortRecLays : Go.Proofs.SlLaysF0.n6 Try.prog sortRecLays_ren := {
  mixed := by kernel_rfl
  f6 := ⟨Try.f97.name, by decide, Try.func97.trans (congrArg some (by kernel_rfl))⟩
  f14 := ⟨Try.f141.name, by decide, Try.func141.trans (congrArg some (by kernel_rfl))⟩
  f15 := Try.func142.trans (congrArg some (by kernel_rfl))
  f20 := ⟨Try.f166.name, by decide, Try.func166.trans (congrArg some (by kernel_rfl))⟩
  f21 := ⟨Try.f167.name, by decide, Try.func167.trans (congrArg some (by kernel_rfl))⟩
  f22 := ⟨Try.f168.name, by decide, Try.func168.trans (congrArg some (by kernel_rfl))⟩
  f23 := ⟨Try.f169.name, by decide, Try.func169.trans (congrArg some (by kernel_rfl))⟩
  f24 := ⟨Try.f170.name, by decide, Try.func170.trans (congrArg some (by kernel_rfl))⟩
  f25 := ⟨Try.f171.name, by decide, Try.func171.trans (congrArg some (by kernel_rfl))⟩
  f26 := ⟨Try.f172.name, by decide, Try.func172.trans (congrArg some (by kernel_rfl))⟩
  f27 := ⟨Try.f173.name, by decide, Try.func173.trans (congrArg some (by kernel_rfl))⟩
  f28 := Try.func174.trans (congrArg some (by kernel_rfl))
  f29 := Try.func175.trans (congrArg some (by kernel_rfl))
  f46 := ⟨Try.f186.name, by decide, Try.func186.trans (congrArg some (by kernel_rfl))⟩
  f47 := Try.func187.trans (congrArg some (by kernel_rfl))
  f48 := Try.func188.trans (congrArg some (by kernel_rfl))
  f49 := ⟨Try.f189.name, by decide, Try.func189.trans (congrArg some (by kernel_rfl))⟩
  f50 := ⟨Try.f190.name, by decide, Try.func190.trans (congrArg some (by kernel_rfl))⟩
  f57 := ⟨Try.f196.name, by decide, Try.func196.trans (congrArg some (by kernel_rfl))⟩
  t0 := Try.underlying0
  a0 := Try.isAgg0
  z0 := Try.sizeOf0
  v0 := Try.zeroValue0
  t3 := Try.underlying3
  a3 := Try.isAgg3
  z3 := Try.sizeOf3
  v3 := Try.zeroValue3
  t4 := Try.underlying4
  a4 := Try.isAgg4
  z4 := Try.sizeOf4
  v4 := Try.zeroValue4
  t5 := Try.underlying5
  a5 := Try.isAgg5
  z5 := Try.sizeOf5
  v5 := Try.zeroValue5
  t9 := Try.underlying9
  a9 := Try.isAgg9
  z9 := Try.sizeOf9
  v9 := Try.zeroValue9
  t22 := Try.underlying24
  a22 := Try.isAgg24
  z22 := Try.sizeOf24
  v22 := Try.zeroValue24
  t25 := Try.underlying145
  a25 := Try.isAgg145
  z25 := Try.sizeOf145
  v25 := Try.zeroValue145
  t39 := Try.underlying173
  a39 := Try.isAgg173
  z39 := Try.sizeOf173
  v39 := Try.zeroValue173
  t45 := Try.underlying192
  a45 := Try.isAgg192
  z45 := Try.sizeOf192
  v45 := Try.zeroValue192
  t46 := Try.underlying193
  a46 := Try.isAgg193
  z46 := Try.sizeOf193
  v46 := Try.zeroValue193
  t50 := Try.underlying157
  a50 := Try.isAgg157
  z50 := Try.sizeOf157
  v50 := Try.zeroValue157
  t53 := Try.underlying199
  a53 := Try.isAgg199
  z53 := Try.sizeOf199
  v53 := Try.zeroValue199
  t55 := Try.underlying201
  a55 := Try.isAgg201
  z55 := Try.sizeOf201
  v55 := Try.zeroValue201
  t66 := Try.underlying209
  a66 := Try.isAgg209
  z66 := Try.sizeOf209
  v66 := Try.zeroValue209
  t70 := Try.underlying213
  a70 := Try.isAgg213
  z70 := Try.sizeOf213
  v70 := Try.zeroValue213
  t76 := Try.underlying219
  a76 := Try.isAgg219
  z76 := Try.sizeOf219
  v76 := Try.zeroValue219
  t77 := Try.underlying58
  a77 := Try.isAgg58
  z77 := Try.sizeOf58
  v77 := Try.zeroValue58 }
open Go.RowKit Go.Lib Go.Sort in
theorem sortRec {α : Type} [Inhabited α] (k : Nat) (aE : ∀ w, (isAgg 39).run Try.prog w = .ok true w) (zE : ∀ w, (Go.sizeOf 39).run Try.prog w = .ok k w) (enc : α → List Value) (hk : ∀ x, (enc x).length = k) (h1 : ∀ x, ∀ v ∈ enc x, v.oneCell' = true) (cf : α → α → Int) (hO : SWO (ltOf cf)) (g : Nat) (cb : Array Value) (blk off cap : Nat) (d : Array α) (w : World) (eg : ∀ args w, (callFunc g args).run Try.prog w = .ok (.enter g args) w) (hcmp : CmpLays Try.prog g cb enc k cf blk off d.size w) (hH : HoldsK enc k w blk off d) (hblk : blk < w.heap.size) (hsz : d.size < 4611686018427387904) :
    Calls Try.prog 97 #[.slice (some ⟨blk, off, none⟩) d.size cap, .func (.func g) #[] cb] w fun e w' =>
      e = .returned (.tuple #[]) ∧ ∃ d' n os, PermIn 0 d.size d d' ∧ SortedIn (ltOf cf) 0 d.size d' ∧ w' = sortWorldK enc k w blk off n d' os := AnyQ.slices_SortFunc sortRecLays k aE zE enc hk h1 cf hO g cb blk off cap d w eg hcmp hH hblk hsz
end Go.Proofs.Ytolicafhbeiciaa
/- Lists of records joined: slices.Grow and slices.Concat of records. Condition: few lists of few records. -/
namespace Go.Proofs.Ytolicafhbeiciaa
open Go.RowKit Fs Go.Shelf

def growLaysR_ren : Go.Shelf.Ren := ⟨fun | 4 => 140 | n => n, fun | 22 => 24 | 25 => 39 | 20 => 20 | 9 => 9 | 4 => 4 | 3 => 3 | 0 => 0 | n => n, fun | n => n⟩
theorem growLaysR : Go.Proofs.Lays8.n4 Try.prog growLaysR_ren := {
  mixed := by kernel_rfl
  f4 := ⟨Try.f140.name, by kernel_rfl, Try.func140.trans (congrArg some (by kernel_rfl))⟩
  t0 := Try.underlying0
  a0 := Try.isAgg0
  z0 := Try.sizeOf0
  v0 := Try.zeroValue0
  t3 := Try.underlying3
  a3 := Try.isAgg3
  z3 := Try.sizeOf3
  v3 := Try.zeroValue3
  t4 := Try.underlying4
  a4 := Try.isAgg4
  z4 := Try.sizeOf4
  v4 := Try.zeroValue4
  t9 := Try.underlying9
  a9 := Try.isAgg9
  z9 := Try.sizeOf9
  v9 := Try.zeroValue9
  t20 := Try.underlying20
  a20 := Try.isAgg20
  z20 := Try.sizeOf20
  v20 := Try.zeroValue20
  t22 := Try.underlying24
  a22 := Try.isAgg24
  z22 := Try.sizeOf24
  v22 := Try.zeroValue24 }
theorem xGrow_any (n : Nat) (w : World) (hn : n ≤ 1000000000) :
    Calls Try.prog 140 #[.slice none 0 0, .int .i64 n] w fun e w' => ∃ v, e = .returned v ∧ w'.ownsRow w.heap.size 39 3 v 0 (recFlat []) ∧ Below w.heap.size w w' := by
  obtain ⟨i0, hi, hz0, hz1, hz2⟩ := info_parts Try.infoDRec
  by_cases h0 : n = 0
  · subst h0
    refine (Any8.slices_Grow_room growLaysR none 0 0 0 w (Nat.le_refl _) (by decide) (by decide) (Nat.le_refl _)).mono ?_
    rintro e w' ⟨rfl, rfl⟩
    exact ⟨_, rfl, World.ownsRow_nil _ _ _ _, Below.refl _ _⟩
  · refine (Any8.slices_Grow_grow growLaysR i0 (.agg #[.string ⟨#[]⟩, .int .i64 0, .int .i64 0]) hi hz0 (by rw [hz1]; decide) none 0 0 n [] w (Nat.le_refl _) (by omega) (by rw [hz2]; omega) (by omega) (by simp) (fun _ => rfl) (fun a ha => by cases ha)).mono ?_
    rintro e w' ⟨rfl, rfl⟩
    refine ⟨_, rfl, ⟨rfl, .inr ⟨w.heap.size, grownCap w (0 + n) 0 39, (([] : List Value).toArray ++ Builtin.zeroCells (Value.agg #[.string ⟨#[]⟩, .int .i64 0, .int .i64 0]).cells (0 + n - 0) ++ Builtin.zeroCells (Value.agg #[.string ⟨#[]⟩, .int .i64 0, .int .i64 0]).cells (grownCap w (0 + n) 0 39 - (0 + n))), rfl, Nat.le_refl _, ?_, Nat.zero_le _, grownCap_le_maxLen w (0 + n) 0 _ (by unfold maxLen; omega), ?_, by simp [recFlat, flat]⟩⟩, ((Below.refl _ _).drew).alloc (Nat.le_refl _) _⟩
    · exact heap_alloc_new w.drew _
    · have := grownCap_ge w (0 + n) 0 39
      rw [Nat.zero_add] at this
      simp [Builtin.zeroCells, Value.cells]
      omega
def Fs.listLW (ls : List (List WRec)) (i : Nat) : List WRec := ls.getD i []
def Fs.catTo (ls : List (List WRec)) : Nat → List WRec
  | 0 => []
  | k + 1 => catTo ls k ++ listLW ls k
theorem recFlat_join (l m : List WRec) : recFlat (l ++ m) = recFlat l ++ flat m.length 3 fun i j => recCells (listW m i) j := by
  unfold recFlat
  rw [List.length_append]
  symm
  refine flat_join (by decide) (fun i j hi hj => ?_) (fun i j hi hj => ?_)
  · rw [listW_left hi]
  · unfold listW
    rw [List.getD_eq_getElem?_getD, List.getD_eq_getElem?_getD, List.getElem?_append_right (by omega), Nat.add_sub_cancel_left]
def ArrLW (w : World) (A : Option Addr) (ls : List (List WRec)) (c : Nat) (p : Nat → Option Addr) (pc : Nat → Nat) : Prop :=
  Arr w A ls.length c 1 (fun i _ => .slice (p i) (listLW ls i).length (pc i)) ∧ ∀ i, i < ls.length → ArrW w (p i) (listLW ls i) (pc i)
theorem ArrLW.keep {w w' : World} (k : Keep w w') {A : Option Addr} {ls : List (List WRec)} {c : Nat} {p : Nat → Option Addr} {pc : Nat → Nat} (h : ArrLW w A ls c p pc) : ArrLW w' A ls c p pc := ⟨Arr.keep k h.1, fun i hi => (h.2 i hi).keep k⟩
theorem ArrLW.at_ {w : World} {A : Option Addr} {ls : List (List WRec)} {c : Nat} {p : Nat → Option Addr} {pc : Nat → Nat} (h : ArrLW w A ls c p pc) {k : Nat} (hk : k < ls.length) : ∃ b o, A = some ⟨b, o, none⟩ ∧ w.cell? ⟨b, o + k, none⟩ = some (.slice (p k) (listLW ls k).length (pc k)) := by
  obtain ⟨b, o, e, hc⟩ := Arr.at_ h.1 hk
  refine ⟨b, o, e, ?_⟩
  have := hc 0 (by decide)
  rw [Nat.mul_one] at this
  exact this
theorem Fs.catTo_len {ls : List (List WRec)} {B : Nat} (h : ∀ i, i < ls.length → (listLW ls i).length ≤ B) : ∀ k, k ≤ ls.length → (catTo ls k).length ≤ B * k
  | 0, _ => by simp [catTo]
  | k + 1, hk => by
    have ih := catTo_len h k (by omega)
    have := h k (by omega)
    rw [catTo, List.length_append, Nat.mul_succ]
    omega
set_option maxHeartbeats 3200000 in
set_option maxRecDepth 100000 in
theorem xConcat_any (ls : List (List WRec)) (A : Option Addr) (c : Nat) (p : Nat → Option Addr) (pc : Nat → Nat) (w : World) (h : ArrLW w A ls c p pc) (hn : ls.length ≤ 10) (hl : ∀ i, i < ls.length → (listLW ls i).length ≤ 1000) :
    Calls Try.prog 96 #[.slice A ls.length c] w fun e w' => (∃ v, e = .returned v ∧ w'.ownsRow w.heap.size 39 3 v (catTo ls ls.length).length (recFlat (catTo ls ls.length))) ∧ Below w.heap.size w w' := by
  obtain ⟨i0, hi, hz0, hz1, hz2⟩ := info_parts Try.infoDRec
  have HH := Lib.hid h
  have b1 := h.1.1
  have b2 := h.1.2.1
  have HL := Lib.hid hl
  have HF := Lib.hid (catTo_len hl)
  clear h hl
  go_enter Try.func96, Try.ntmps96
  go_wp2_with fail
  go_loop [3, 11] (fun u i => ∃ k : Nat, k ≤ ls.length ∧ i = .int .i64 k ∧ u = .int .i64 ((catTo ls k).length : Nat)) (fun _ i => ls.length - (intOf i).toNat)
  case atStart => exact ⟨0, Nat.zero_le _, rfl, rfl⟩
  case round =>
    obtain ⟨k, hk, rfl, rfl⟩ := hrel
    by_cases hlt : k < ls.length
    · obtain ⟨b, o, hAe, hc⟩ := HH.out.at_ hlt
      subst hAe
      have f1 := HF.out k hk
      have f2 := HL.out k hlt
      have F := Lib.hid (show ((catTo ls (k + 1)).length : Int) = ((catTo ls k).length : Int) + ((listLW ls k).length : Int) by rw [catTo, List.length_append]; omega)
      have hkn : (k : Int) < (ls.length : Int) := by omega
      have dd : decide (((catTo ls k).length : Int) + ((listLW ls k).length : Int) < 0) = false := decide_eq_false (by omega)
      go_wp2_with fail
      go_round
      case rel => exact ⟨k + 1, by omega, by go_num, by rw [F.out]⟩
      case measure => simp [intOf]; omega
    · obtain rfl : k = ls.length := by omega
      have f1 := HF.out ls.length (Nat.le_refl _)
      clear hlt hk
      go_wp2_with fail
      refine (xGrow_any (catTo ls ls.length).length _ (by omega)).mono ?_
      rintro e' w1 ⟨v1, rfl, ho, hb1⟩
      have HO := Lib.hid ho
      have HB := Lib.hid hb1
      clear ho hb1
      go_wp2_with fail
      go_loopw [6, 27] (fun u i wr => ∃ k : Nat, k ≤ ls.length ∧ i = .int .i64 k ∧ Hid (wr.ownsRow w.heap.size 39 3 u (catTo ls k).length (recFlat (catTo ls k))) ∧ Hid (Below w.heap.size w wr)) (fun _ i _ => ls.length - (intOf i).toNat)
      case atStart => exact ⟨0, Nat.zero_le _, rfl, HO, HB⟩
      case round =>
        obtain ⟨k, hk, rfl, HOk, HBk⟩ := hrel
        by_cases hlt : k < ls.length
        · obtain ⟨b, o, hAe, hc⟩ := (HH.out.keep (Keep.below HBk.out)).at_ hlt
          have HA := Lib.hid ((HH.out.keep (Keep.below HBk.out)).2 k hlt)
          subst hAe
          have f1 := HF.out k hk
          have f2 := HL.out k hlt
          have hkn : (k : Int) < (ls.length : Int) := by omega
          have hws : w.heap.size ≤ wr.heap.size := HBk.out.size
          go_wp2_with (at_builtin; refine wpList_join rfl (.tmp 31) (.tmp 32) 24 rfl 39 i0 (.agg #[.string ⟨#[]⟩, .int .i64 0, .int .i64 0]) 3 32 Try.underlying24 hi hz0 hz1 hz2 rfl (by decide) w.heap.size _ _ _ rfl HOk.out hws (p k) (listLW ls k).length (pc k) _ rfl HA.out (by intro i j; unfold recCells; split <;> rfl) ?c1 ?c2 ?_)
          case c1 => unfold maxLen; omega
          case c2 => omega
          intro v2 w2 hown2 hb2
          have HO2 : Hid (w2.ownsRow w.heap.size 39 3 v2 (catTo ls (k + 1)).length (recFlat (catTo ls (k + 1)))) := by
            rw [catTo, List.length_append, recFlat_join]
            exact Lib.hid hown2
          have HB2 := Lib.hid (HBk.out.trans hb2)
          clear hown2 hb2
          go_wp2_with fail
          go_roundw
          case rel => exact ⟨k + 1, by omega, by go_num, HO2, HB2⟩
          case measure => simp [intOf]; omega
        · obtain rfl : k = ls.length := by omega
          clear hlt hk
          go_wp2_with fail
          go_ret
          exact ⟨⟨_, rfl, HOk.out⟩, HBk.out⟩
end Go.Proofs.Ytolicafhbeiciaa
/- Records sorted by their beginnings. Condition: the row of the records is one's own. -/
namespace Go.Proofs.Ytolicafhbeiciaa
open Go.RowKit Fs

def Fs.cmpI (x y : Int) : Int := if x < y then -1 else if y < x then 1 else 0
set_option maxHeartbeats 400000 in
theorem xCompare_any (x y : Int) (w : World) : Calls Try.prog 99 #[.int .i64 x, .int .i64 y] w fun e w' => e = .returned (.int .i64 (cmpI x y)) ∧ w = w' := by
  have hr : Hid (cmpI x y = if x < y then -1 else if y < x then 1 else 0) := Lib.hid rfl
  go_enter Try.func99, Try.ntmps99
  go_wp2_with fail
  refine (xNaN1_any _ _).mono ?_
  rintro e' wx ⟨rfl, rfl⟩
  go_wp2_with fail
  refine (xNaN1_any _ _).mono ?_
  rintro e' wx ⟨rfl, rfl⟩
  by_cases h1 : x < y
  · have F := Lib.hid (hr.out.trans (if_pos h1))
    have d1 := decide_eq_true h1
    go_wp2_with fail
    go_ret
    exact ⟨ret_int F.out.symm, rfl⟩
  · have d1 := decide_eq_false h1
    by_cases h2 : y < x
    · have F := Lib.hid (hr.out.trans ((if_neg h1).trans (if_pos h2)))
      have d2 := decide_eq_true h2
      go_wp2_with fail
      go_ret
      exact ⟨ret_int F.out.symm, rfl⟩
    · have F := Lib.hid (hr.out.trans ((if_neg h1).trans (if_neg h2)))
      have d2 := decide_eq_false h2
      go_wp2_with fail
      go_ret
      exact ⟨ret_int F.out.symm, rfl⟩
instance : Inhabited WRec := ⟨w0⟩
def encW (x : WRec) : List Value := [.string x.who, .int .i64 x.beg, .int .i64 x.fin]
def Fs.cmpW (x y : WRec) : Int := cmpI x.beg y.beg
set_option maxHeartbeats 400000 in
theorem xByBeg_any (x y : WRec) (W : World) : Calls Try.prog 98 #[recV x, recV y] W fun e w' => e = .returned (.int .i64 (cmpW x y)) ∧ ∃ q os', w' = Go.Sort.grow (W.drewN q) os' := by
  have a0 := (Keep.alloc (W.alloc (.cells #[.string x.who, .int .i64 x.beg, .int .i64 x.fin] 39)) (.cells #[.string y.who, .int .i64 y.beg, .int .i64 y.fin] 39)) _ _ (cellNew W #[.string x.who, .int .i64 x.beg, .int .i64 x.fin] 39 1)
  have a1 := cellNew1 W (.cells #[.string x.who, .int .i64 x.beg, .int .i64 x.fin] 39) #[.string y.who, .int .i64 y.beg, .int .i64 y.fin] 39 1
  go_enter Try.func98, Try.ntmps98
  go_wp2_with fail
  refine (xCompare_any _ _ _).mono ?_
  rintro e' wx ⟨rfl, rfl⟩
  go_wp2_with fail
  go_ret
  exact ⟨rfl, 0, _, by rw [Go.Sort.alloc_eq_grow, Go.Sort.alloc_eq_grow, Go.Sort.grow_grow]; rfl⟩
theorem Fs.cmpW_lt (x y : WRec) : ltOf cmpW x y = decide (x.beg < y.beg) := by
  unfold ltOf cmpW cmpI
  by_cases h1 : x.beg < y.beg
  · simp [h1]
  · by_cases h2 : y.beg < x.beg <;> simp [h1, h2]
theorem cmpW_swo : Go.Sort.SWO (ltOf cmpW) where
  irrefl x := by rw [cmpW_lt]; simp
  trans x y z h1 h2 := by rw [cmpW_lt] at *; simp at *; omega
  ntrans x y z h1 h2 := by rw [cmpW_lt] at *; simp at *; omega

theorem listW_bang (l : List WRec) (i : Nat) : l.toArray[i]! = listW l i := by
  unfold listW
  rw [List.getD_eq_getElem?_getD]
  by_cases h : i < l.length
  · rw [List.getElem?_eq_getElem h, getElem!_pos _ i (by simpa using h)]
    simp
  · rw [List.getElem?_eq_none (by omega), getElem!_neg _ i (by simpa using h)]
    rfl
theorem encW_at (x : WRec) {c : Nat} (hc : c < 3) : (encW x)[c]! = recCells x c := by
  obtain rfl | rfl | rfl : c = 0 ∨ c = 1 ∨ c = 2 := by omega
  all_goals rfl
theorem own_holdsK {w : World} {base : Nat} {e : TypeId} {g n cap : Nat} {l : List WRec} (h : w.ownsRow base e 3 (.slice (some ⟨g, 0, none⟩) n cap) n (recFlat l)) (hn : n = l.length) : Go.Sort.HoldsK encW 3 w g 0 l.toArray := by
  intro t ht
  rw [Go.Sort.size_flatK] at ht
  have ht' : t < l.length * 3 := by simpa using ht
  have hc := h.cellAt t (by omega)
  have hf := h.frozenAt t
  rw [Go.Sort.get_flatK _ _ _ _ ht, Nat.zero_add, listW_bang, encW_at _ (Nat.mod_lt _ (by decide))]
  refine ⟨?_, hf⟩
  rw [hc]
  exact flat_get t ht'
theorem holdsK_arr {w : World} {g cap : Nat} {d : Array WRec} (h : Go.Sort.HoldsK encW 3 w g 0 d) (hc : d.size ≤ cap) (hm : cap ≤ 9223372036854775807) : ArrW w (some ⟨g, 0, none⟩) d.toList cap := by
  refine ⟨by simpa using hc, hm, fun _ => ⟨g, 0, rfl, fun i j hi hj => ?_⟩⟩
  have hi' : i < d.size := by simpa using hi
  have := (h.cell hi' hj).1
  rw [encW_at _ hj] at this
  rw [this]
  show some _ = some (recCells (listW d.toList i) j)
  rw [← listW_bang]
theorem xPutBelowK {w0 w : World} {g : Nat} {d : Array WRec} {B : Nat} (h : Below B w0 w) (n : Nat) (hg : B ≤ g) : Below B w0 (Go.Sort.putRowK encW 3 (Go.Sort.ahead w n) g 0 d) := by
  refine ⟨h.os, h.tape, h.output, by unfold Go.Sort.putRowK Go.Sort.putRow Go.Sort.mapBlock Go.Sort.ahead; simpa using h.size, fun k hk => ?_⟩
  rw [← h.block k hk]
  unfold Go.Sort.putRowK Go.Sort.putRow Go.Sort.mapBlock Go.Sort.ahead
  simp only [Array.getElem?_modify]
  rw [if_neg (by omega)]
theorem xGrowBelowK {w0 w : World} {B : Nat} (h : Below B w0 w) (os : Array Obj) (hB : B ≤ w.heap.size) : Below B w0 (Go.Sort.grow w os) := by
  refine ⟨h.os, h.tape, h.output, by unfold Go.Sort.grow; have := h.size; simp; omega, fun k hk => ?_⟩
  rw [← h.block k hk]
  exact Go.Sort.heap_grow_old w os (by omega)
/-- m holds what l holds, by beginnings. -/
structure Fs.ByBeg (l m : List WRec) : Prop where
  perm : m.Perm l
  up : ∀ i j, i < j → j < m.length → (listW m i).beg ≤ (listW m j).beg
set_option maxHeartbeats 800000 in
theorem xSortW_any (base : Nat) (l : List WRec) (v : Value) (w w0 : World) (h : w.ownsRow base 39 3 v l.length (recFlat l)) (hp : 0 < l.length) (hn : l.length ≤ 1000000) (hB : Below base w0 w) :
    Calls Try.prog 97 #[v, .func (.func 98) #[] #[]] w fun e' w' => e' = .returned (.tuple #[]) ∧ (∃ A c m, v = .slice A l.length c ∧ ByBeg l m ∧ ArrW w' A m c) ∧ Below base w0 w' := by
  obtain ⟨g, cap, rfl, hg1, hc1, hc2⟩ := own_is h hp
  have hH := own_holdsK h rfl
  have hg2 := (h.lt g rfl).2
  have hsz : l.toArray.size = l.length := by simp
  have key := sortRec 3 (fun w => by kernel_rfl) (fun w => by kernel_rfl) encW (fun _ => rfl) (fun x v hv => by simp [encW] at hv; rcases hv with rfl | rfl | rfl <;> rfl) cmpW cmpW_swo 98 #[] g 0 cap l.toArray w (fun args w => by kernel_rfl) (fun m os dk hdk x y => xByBeg_any x y _) hH hg2 (by rw [hsz]; omega)
  rw [hsz] at key
  refine key.mono ?_
  rintro e' w' ⟨rfl, d', n, os, hpm, hso, rfl⟩
  obtain ⟨hs, -, hpp⟩ := hpm
  rw [hsz] at hs
  have e1 : (d'.extract 0 l.length).toList = d'.toList := by rw [← hs]; simp
  have e2 : (l.toArray.extract 0 l.length).toList = l := by simp
  rw [e1, e2] at hpp
  have hlt : g < (Go.Sort.putRowK encW 3 (Go.Sort.ahead w n) g 0 d').heap.size := by
    unfold Go.Sort.putRowK Go.Sort.putRow Go.Sort.mapBlock Go.Sort.ahead
    simpa using hg2
  have hH' : Go.Sort.HoldsK encW 3 (Go.Sort.grow (Go.Sort.putRowK encW 3 (Go.Sort.ahead w n) g 0 d') os) g 0 d' :=
    Go.Sort.holdsK_grow _ _ _ _ _ _ _ hlt (Go.Sort.holdsK_putRowK _ _ _ _ _ _ _ (Go.Sort.holdsK_ahead _ _ _ n _ _ _ hH) (by rw [hs, hsz]))
  refine ⟨rfl, ⟨_, cap, d'.toList, rfl, ⟨hpp, fun i j hij hj => ?_⟩, holdsK_arr hH' (by omega) hc2⟩, xGrowBelowK (xPutBelowK hB n hg1) os ?_⟩
  · have hj' : j < l.length := by rw [← hs]; simpa using hj
    have := hso i j (Nat.zero_le _) hij hj'
    rw [cmpW_lt] at this
    have a1 := listW_bang d'.toList i
    have a2 := listW_bang d'.toList j
    simp only [Array.toArray_toList] at a1 a2
    rw [a1, a2] at this
    simpa using this
  · have := hB.size
    unfold Go.Sort.putRowK Go.Sort.putRow Go.Sort.mapBlock Go.Sort.ahead
    simp
    omega
end Go.Proofs.Ytolicafhbeiciaa
/- Two lists of records joined, plainly: neighbours overlap just if any two do; what is sorted is the merged list. Condition: both lists are right. -/
namespace Go.Proofs.Ytolicafhbeiciaa.Fs

theorem xmergeL_cons (x : WRec) (a : List WRec) (y : WRec) (b : List WRec) : mergeL (x :: a) (y :: b) = if x.beg < y.beg then x :: mergeL a (y :: b) else y :: mergeL (x :: a) b := by rw [mergeL]
theorem mergeL_perm : ∀ (n : Nat) (a b : List WRec), a.length + b.length ≤ n → (mergeL a b).Perm (a ++ b)
  | _, [], b, _ => by rw [mergeL_none]; exact List.Perm.refl _
  | _, x :: a, [], _ => by rw [mergeL_nil]; simp
  | 0, x :: a, y :: b, h => by simp at h
  | n + 1, x :: a, y :: b, h => by
    rw [xmergeL_cons]
    by_cases hc : x.beg < y.beg
    · rw [if_pos hc]
      exact List.Perm.cons x (mergeL_perm n a (y :: b) (by simp at h ⊢; omega))
    · rw [if_neg hc]
      have := mergeL_perm n (x :: a) b (by simp at h ⊢; omega)
      exact (List.Perm.cons y this).trans (List.perm_middle (l₁ := x :: a)).symm
def ahead (x y : WRec) : Prop := x.beg < y.beg
theorem mergeL_up : ∀ (n : Nat) (a b : List WRec), a.length + b.length ≤ n → a.Pairwise ahead → b.Pairwise ahead → (∀ x ∈ a, ∀ y ∈ b, x.beg ≠ y.beg) → (mergeL a b).Pairwise ahead
  | _, [], b, _, _, hb, _ => by rw [mergeL_none]; exact hb
  | _, x :: a, [], _, ha, _, _ => by rw [mergeL_nil]; exact ha
  | 0, x :: a, y :: b, h, _, _, _ => by simp at h
  | n + 1, x :: a, y :: b, h, ha, hb, hd => by
    rw [xmergeL_cons]
    have ha' := List.pairwise_cons.1 ha
    have hb' := List.pairwise_cons.1 hb
    by_cases hc : x.beg < y.beg
    · rw [if_pos hc]
      refine List.pairwise_cons.2 ⟨fun z hz => ?_, mergeL_up n a (y :: b) (by simp at h ⊢; omega) ha'.2 hb (fun p hp q hq => hd p (List.mem_cons_of_mem _ hp) q hq)⟩
      have hz' := (mergeL_perm _ a (y :: b) (Nat.le_refl _)).mem_iff.1 hz
      rcases List.mem_append.1 hz' with h1 | h1
      · exact ha'.1 z h1
      · rcases List.mem_cons.1 h1 with rfl | h2
        · exact hc
        · exact Int.lt_trans hc (hb'.1 z h2)
    · rw [if_neg hc]
      have hne := hd x (List.mem_cons_self ..) y (List.mem_cons_self ..)
      have hyx : y.beg < x.beg := by omega
      refine List.pairwise_cons.2 ⟨fun z hz => ?_, mergeL_up n (x :: a) b (by simp at h ⊢; omega) ha hb'.2 (fun p hp q hq => hd p hp q (List.mem_cons_of_mem _ hq))⟩
      have hz' := (mergeL_perm _ (x :: a) b (Nat.le_refl _)).mem_iff.1 hz
      rcases List.mem_append.1 hz' with h1 | h1
      · rcases List.mem_cons.1 h1 with rfl | h2
        · exact hyx
        · exact Int.lt_trans hyx (ha'.1 z h2)
      · exact hb'.1 z h1
theorem strict_unique : ∀ (l m : List WRec), l.Perm m → l.Pairwise ahead → m.Pairwise ahead → l = m
  | [], m, h, _, _ => h.nil_eq
  | x :: l, [], h, _, _ => absurd h.length_eq (by simp)
  | x :: l, y :: m, h, hl, hm => by
    have hl' := List.pairwise_cons.1 hl
    have hm' := List.pairwise_cons.1 hm
    have e : x = y := by
      rcases List.mem_cons.1 (h.mem_iff.1 (List.mem_cons_self ..)) with e | h1
      · exact e
      · rcases List.mem_cons.1 (h.mem_iff.2 (List.mem_cons_self ..)) with e | h2
        · exact e.symm
        · have a1 : y.beg < x.beg := hm'.1 x h1
          have a2 : x.beg < y.beg := hl'.1 y h2
          omega
    subst e
    rw [strict_unique l m (List.Perm.cons_inv h) hl'.2 hm'.2]
def disj (x y : WRec) : Prop := x.fin ≤ y.beg ∨ y.fin ≤ x.beg
theorem listW_getElem {l : List WRec} {i : Nat} (h : i < l.length) : listW l i = l[i] := by
  unfold listW
  rw [List.getD_eq_getElem?_getD, List.getElem?_eq_getElem h]
  rfl
theorem right_mem {l : List WRec} (h : Right l) {x : WRec} (hx : x ∈ l) : x.beg < x.fin := by
  obtain ⟨i, hi, e⟩ := List.getElem_of_mem hx
  have := (h.one i hi).2.1
  rw [listW_getElem hi, e] at this
  exact this
theorem right_gap {l : List WRec} (h : Right l) : ∀ j, j < l.length → ∀ i, i < j → (listW l i).fin ≤ (listW l j).beg
  | 0, _, i, hi => absurd hi (Nat.not_lt_zero _)
  | j + 1, hj, i, hi => by
    have h1 := h.next (j + 1) (by omega) hj
    rw [Nat.add_sub_cancel] at h1
    by_cases e : i = j
    · subst e; exact h1
    · have := right_gap h j (by omega) i (by omega)
      have h2 := h.one j (by omega)
      omega
theorem right_disj {l : List WRec} (h : Right l) : l.Pairwise disj :=
  List.pairwise_iff_getElem.2 fun i j hi hj hij => by
    have := right_gap h j hj i hij
    rw [listW_getElem hi, listW_getElem hj] at this
    exact Or.inl this
theorem right_ahead {l : List WRec} (h : Right l) : l.Pairwise ahead :=
  List.pairwise_iff_getElem.2 fun i j hi hj hij => by
    have := right_gap h j hj i hij
    have h2 := (h.one i hi).2.1
    rw [listW_getElem hi, listW_getElem hj] at this
    rw [listW_getElem hi] at h2
    show l[i].beg < l[j].beg
    omega
/-- Neighbours i - 1 and i overlap. -/
def badN (m : List WRec) (i : Nat) : Prop := (listW m i).beg < (listW m (i - 1)).fin
theorem chain_gap {m : List WRec} (hf : ∀ x ∈ m, x.beg < x.fin) (hn : ∀ i, 0 < i → i < m.length → ¬ badN m i) : ∀ j, j < m.length → ∀ i, i < j → (listW m i).fin ≤ (listW m j).beg
  | 0, _, i, hi => absurd hi (Nat.not_lt_zero _)
  | j + 1, hj, i, hi => by
    have h1 := hn (j + 1) (by omega) hj
    unfold badN at h1
    rw [Nat.add_sub_cancel] at h1
    by_cases e : i = j
    · subst e; omega
    · have := chain_gap hf hn j (by omega) i (by omega)
      have h2 := hf (listW m j) (by rw [listW_getElem (by omega)]; exact List.getElem_mem _)
      omega
theorem joined_bad {a b m : List WRec} (ha : Right a) (hb : Right b) (h : ByBeg (a ++ b) m) {i : Nat} (h0 : 0 < i) (hi : i < m.length) (hbad : badN m i) :
    ∃ i, i < a.length ∧ ∃ k, k < b.length ∧ overlapB (listW a i) (listW b k) = true := by
  apply Classical.byContradiction
  intro hc
  have hd : (a ++ b).Pairwise disj := List.pairwise_append.2 ⟨right_disj ha, right_disj hb, fun x hx y hy => by
    obtain ⟨p, hp, ep⟩ := List.getElem_of_mem hx
    obtain ⟨q, hq, eq⟩ := List.getElem_of_mem hy
    have h1 : ¬ overlapB (listW a p) (listW b q) = true := fun hh => hc ⟨p, hp, q, hq, hh⟩
    rw [listW_getElem hp, listW_getElem hq, ep, eq] at h1
    unfold overlapB at h1
    simp only [Bool.and_eq_true, decide_eq_true_eq] at h1
    unfold disj
    omega⟩
  have hm : m.Pairwise disj := (h.perm.pairwise_iff (fun {x y} hxy => Or.symm hxy)).2 hd
  have h1 := List.pairwise_iff_getElem.1 hm (i - 1) i (by omega) hi (by omega)
  rw [← listW_getElem, ← listW_getElem] at h1
  have h2 := h.up (i - 1) i (by omega) hi
  have hmem : listW m i ∈ a ++ b := h.perm.mem_iff.1 (by rw [listW_getElem hi]; exact List.getElem_mem _)
  have h3 : (listW m i).beg < (listW m i).fin := by
    rcases List.mem_append.1 hmem with h4 | h4
    · exact right_mem ha h4
    · exact right_mem hb h4
  unfold badN at hbad
  unfold disj at h1
  omega
theorem joined_good {a b m : List WRec} (ha : Right a) (hb : Right b) (h : ByBeg (a ++ b) m) (hn : ∀ i, 0 < i → i < m.length → ¬ badN m i) :
    (¬ ∃ i, i < a.length ∧ ∃ k, k < b.length ∧ overlapB (listW a i) (listW b k) = true) ∧ m = mergeL a b := by
  have hf : ∀ x ∈ m, x.beg < x.fin := fun x hx => by
    rcases List.mem_append.1 (h.perm.mem_iff.1 hx) with h4 | h4
    · exact right_mem ha h4
    · exact right_mem hb h4
  have hg := chain_gap hf hn
  have hm : m.Pairwise disj := List.pairwise_iff_getElem.2 fun i j hi hj hij => by
    have := hg j hj i hij
    rw [listW_getElem hi, listW_getElem hj] at this
    exact Or.inl this
  have hma : m.Pairwise ahead := List.pairwise_iff_getElem.2 fun i j hi hj hij => by
    have := hg j hj i hij
    have h2 := hf (listW m i) (by rw [listW_getElem hi]; exact List.getElem_mem _)
    rw [listW_getElem hi, listW_getElem hj] at this
    rw [listW_getElem hi] at h2
    show m[i].beg < m[j].beg
    omega
  have hd : (a ++ b).Pairwise disj := (h.perm.pairwise_iff (fun {x y} hxy => Or.symm hxy)).1 hm
  have hx := (List.pairwise_append.1 hd).2.2
  refine ⟨?_, ?_⟩
  · rintro ⟨i, hi, k, hk, ho⟩
    have := hx (listW a i) (by rw [listW_getElem hi]; exact List.getElem_mem _) (listW b k) (by rw [listW_getElem hk]; exact List.getElem_mem _)
    unfold overlapB at ho
    simp only [Bool.and_eq_true, decide_eq_true_eq] at ho
    unfold disj at this
    omega
  · refine strict_unique _ _ (h.perm.trans (mergeL_perm _ a b (Nat.le_refl _)).symm) hma (mergeL_up _ a b (Nat.le_refl _) (right_ahead ha) (right_ahead hb) (fun x hxa y hyb e => ?_))
    have h1 := hx x hxa y hyb
    have h2 := right_mem ha hxa
    have h3 := right_mem hb hyb
    unfold disj at h1
    omega
end Go.Proofs.Ytolicafhbeiciaa.Fs

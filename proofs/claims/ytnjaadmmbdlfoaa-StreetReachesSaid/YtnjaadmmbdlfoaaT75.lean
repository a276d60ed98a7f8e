/- Roads joined: slices.Grow and slices.Concat of roads. Condition: at most ten lists of a hundred thousand roads each. -/
import Derived.Shelf.Spec.SlicesGrow
import Derived.Test.YtnjaadmmbdlfoaaT47
import Derived.Test.YtnjaadmmbdlfoaaT10
import Derived.Test.YtnjaadmmbdlfoaaT74
import Derived.Test.YtnjaadmmbdlfoaaRP
import Derived.Test.YtnjaadmmbdlfoaaT29
import Derived.Deep.RegionHeld3
import Derived.Deep.CutRange
import Derived.Lib.SliceRun
namespace Go.Proofs.Ytnjaadmmbdlfoaa
open Go.RowKit Fs Go.Shelf

def growLaysD_ren : Go.Shelf.Ren := ⟨fun | 4 => 79 | n => n, fun | 22 => 23 | 25 => 68 | 20 => 20 | 9 => 9 | 4 => 4 | 3 => 3 | 0 => 0 | n => n, fun | n => n⟩
theorem growLaysD : Go.Proofs.Lays8.n4 Try.prog growLaysD_ren := {
  mixed := by kernel_rfl
  f4 := ⟨Try.f79.name, by kernel_rfl, Try.func79.trans (congrArg some (by kernel_rfl))⟩
  t0 := Try.underlying0
  a0 := Try.isAgg0
  z0 := Try.sizeOf0
  v0 := Try.zeroValue0
  t3 := Try.underlying3
  a3 := Try.isAgg3
  z3 := Try.sizeOf3
  v3 := Try.zeroValue3
  t4 := Try.underlying4
  a4 := Try.isAgg4
  z4 := Try.sizeOf4
  v4 := Try.zeroValue4
  t9 := Try.underlying9
  a9 := Try.isAgg9
  z9 := Try.sizeOf9
  v9 := Try.zeroValue9
  t20 := Try.underlying20
  a20 := Try.isAgg20
  z20 := Try.sizeOf20
  v20 := Try.zeroValue20
  t22 := Try.underlying23
  a22 := Try.isAgg23
  z22 := Try.sizeOf23
  v22 := Try.zeroValue23 }
theorem growD_any (n : Nat) (w : World) (hn : n ≤ 1000000) :
    Calls Try.prog 79 #[.slice none 0 0, .int .i64 n] w fun e w' => ∃ v, e = .returned v ∧ w'.ownsRow w.heap.size 68 5 v 0 [] ∧ Below w.heap.size w w' := by
  obtain ⟨i0, hi, hz0, hz1, hz2⟩ := info_parts Try.infoRd
  by_cases h0 : n = 0
  · subst h0
    refine (Any8.slices_Grow_room growLaysD none 0 0 0 w (Nat.le_refl _) (by decide) (by decide) (Nat.le_refl _)).mono ?_
    rintro e w' ⟨rfl, rfl⟩
    exact ⟨_, rfl, World.ownsRow_nil _ _ _ _, Below.refl _ _⟩
  · refine (Any8.slices_Grow_grow growLaysD i0 _ hi hz0 (by rw [hz1]; decide) none 0 0 n [] w (Nat.le_refl _) (by omega) (by rw [hz2]; omega) (by omega) (by simp) (fun _ => rfl) (fun a ha => by cases ha)).mono ?_
    rintro e w' ⟨rfl, rfl⟩
    refine ⟨_, rfl, ⟨rfl, .inr ⟨w.heap.size, grownCap w (0 + n) 0 68, _, rfl, Nat.le_refl _, heap_alloc_new w.drew _, Nat.zero_le _, grownCap_le_maxLen w (0 + n) 0 _ (by unfold maxLen; omega), ?_, by simp⟩⟩, ((Below.refl _ _).drew).alloc (Nat.le_refl _) _⟩
    have := grownCap_ge w (0 + n) 0 68
    rw [Nat.zero_add] at this
    simp [Builtin.zeroCells, Value.cells, show growLaysD_ren.t 25 = 68 from rfl]
    omega

def Fs.lenSum (L : Nat → Nat) : Nat → Nat
  | 0 => 0
  | k + 1 => lenSum L k + L k
def joinTo (L : Nat → Nat) (C : Nat → Nat → Nat → Value) : Nat → List Value
  | 0 => []
  | k + 1 => joinTo L C k ++ flat (L k) 5 (C k)
theorem Fs.lenSum_le {L : Nat → Nat} {B m : Nat} (h : ∀ i, i < m → L i ≤ B) : ∀ k, k ≤ m → lenSum L k ≤ B * k
  | 0, _ => Nat.zero_le _
  | k + 1, hk => by
    have h1 := lenSum_le h k (by omega)
    have h2 := h k (by omega)
    rw [lenSum, Nat.mul_succ]
    omega
set_option maxHeartbeats 3200000 in
set_option maxRecDepth 100000 in
theorem concatD_any (m : Nat) (L : Nat → Nat) (p : Nat → Option Addr) (cc : Nat → Nat) (C : Nat → Nat → Nat → Value) (A : Option Addr) (c : Nat) (w : World) (hA : Arr w A m c 1 (fun i _ => .slice (p i) (L i) (cc i))) (hC : ∀ i, i < m → Arr w (p i) (L i) (cc i) 5 (C i)) (h1 : ∀ i j k, (C i j k).oneCell' = true) (hm : m ≤ 10) (hl : ∀ i, i < m → L i ≤ 100000) :
    Calls Try.prog 60 #[.slice A m c] w fun e w' => ∃ v, e = .returned v ∧ w'.ownsRow w.heap.size 68 5 v (lenSum L m) (joinTo L C m) ∧ Below w.heap.size w w' := by
  obtain ⟨i0, hi, hz0, hz1, hz2⟩ := info_parts Try.infoRd
  have HH := Lib.hid hA
  have HC := Lib.hid hC
  have H1 := Lib.hid h1
  have b1 := hA.1
  have b2 := hA.2.1
  have HL := Lib.hid hl
  have HF := Lib.hid (lenSum_le hl)
  clear hA hC h1 hl
  go_enter Try.func60, Try.ntmps60
  go_wp2_with fail
  go_loop [3, 11] (fun u i => ∃ k : Nat, k ≤ m ∧ i = .int .i64 k ∧ u = .int .i64 (lenSum L k : Nat)) (fun _ i => m - (intOf i).toNat)
  case atStart => exact ⟨0, Nat.zero_le _, rfl, rfl⟩
  case round =>
    obtain ⟨k, hk, rfl, rfl⟩ := hrel
    by_cases hlt : k < m
    · obtain ⟨b, o, hAe, hc⟩ := HH.out.at_ hlt
      have hc0 := hc 0 (by omega)
      rw [Nat.add_zero, Nat.mul_one] at hc0
      clear hc
      subst hAe
      have f1 := HF.out k hk
      have f2 := HL.out k hlt
      have F := Lib.hid (show ((lenSum L (k + 1) : Nat) : Int) = ((lenSum L k : Nat) : Int) + ((L k : Nat) : Int) by rw [lenSum]; omega)
      have hkn : (k : Int) < (m : Int) := by omega
      have dd : decide (((lenSum L k : Nat) : Int) + ((L k : Nat) : Int) < 0) = false := decide_eq_false (by omega)
      go_wp2_with fail
      go_round
      case rel => exact ⟨k + 1, by omega, by go_num, by rw [F.out]⟩
      case measure => simp [intOf]; omega
    · obtain rfl : k = m := by omega
      have f1 := HF.out k (Nat.le_refl _)
      clear hlt hk
      go_wp2_with fail
      refine (growD_any (lenSum L k) _ (by omega)).mono ?_
      rintro e' w1 ⟨v1, rfl, ho, hb1⟩
      have HO := Lib.hid ho
      have HB := Lib.hid hb1
      clear ho hb1
      obtain ⟨mm, hmm⟩ : ∃ mm, mm = k := ⟨_, rfl⟩
      subst hmm
      go_wp2_with fail
      go_loopw [6, 27] (fun u i wr => ∃ k : Nat, k ≤ mm ∧ i = .int .i64 k ∧ Hid (wr.ownsRow w.heap.size 68 5 u (lenSum L k) (joinTo L C k)) ∧ Hid (Below w.heap.size w wr)) (fun _ i _ => mm - (intOf i).toNat)
      case atStart => exact ⟨0, Nat.zero_le _, rfl, HO, HB⟩
      case round =>
        obtain ⟨k, hk, rfl, HOk, HBk⟩ := hrel
        by_cases hlt : k < mm
        · obtain ⟨b, o, hAe, hc⟩ := (HH.out.keep (Keep.below HBk.out)).at_ hlt
          have hc0 := hc 0 (by omega)
          rw [Nat.add_zero, Nat.mul_one] at hc0
          clear hc
          have HCk := Lib.hid ((HC.out k hlt).keep (Keep.below HBk.out))
          subst hAe
          have f1 := HF.out k hk
          have f2 := HL.out k hlt
          have hkn : (k : Int) < (mm : Int) := by omega
          have hws : w.heap.size ≤ wr.heap.size := HBk.out.size
          go_wp2_with (at_builtin; refine wpList_join rfl (.tmp 31) (.tmp 32) 23 rfl 68 i0 _ 5 64 Try.underlying23 hi hz0 hz1 hz2 rfl (by decide) w.heap.size _ _ _ rfl HOk.out hws (p k) (L k) (cc k) _ rfl HCk.out (H1.out k) ?c1 ?c2 ?_)
          case c1 => unfold maxLen; omega
          case c2 => omega
          intro v2 w2 hown2 hb2
          have HO2 : Hid (w2.ownsRow w.heap.size 68 5 v2 (lenSum L (k + 1)) (joinTo L C (k + 1))) := Lib.hid hown2
          have HB2 := Lib.hid (HBk.out.trans hb2)
          clear hown2 hb2
          go_wp2_with fail
          go_roundw
          case rel => exact ⟨k + 1, by omega, by go_num, HO2, HB2⟩
          case measure => simp [intOf]; omega
        · obtain rfl : k = mm := by omega
          clear hlt hk
          go_wp2_with fail
          go_ret
          exact ⟨_, rfl, HOk.out, HBk.out⟩
end Go.Proofs.Ytnjaadmmbdlfoaa
/- The net without a road, which shares places and points with the net. Conditions: the road is one; there are at most a thousand roads. -/
namespace Go.Proofs.Ytnjaadmmbdlfoaa
open Go.RowKit Fs

def DA.wo (a : DA) (r : Nat) : DA := ⟨fun i => a.p (upOf r i), fun i => a.pc (upOf r i)⟩
theorem flat_join {x y s : Nat} (C0 C1 : Nat → Nat → Value) (hs : 0 < s) : flat x s C0 ++ flat y s C1 = flat (x + y) s (fun i j => if i < x then C0 i j else C1 (i - x) j) := by
  refine List.ext_getElem? fun k => ?_
  have l0 : (flat x s C0).length = x * s := by simp [flat]
  have l1 : (flat y s C1).length = y * s := by simp [flat]
  have e : (x + y) * s = x * s + y * s := Nat.add_mul _ _ _
  rcases Nat.lt_or_ge k (x * s) with h | h
  · rw [List.getElem?_append_left (by omega), flat_get _ h, flat_get _ (by omega), if_pos (Nat.div_lt_of_lt_mul (by rw [Nat.mul_comm]; exact h))]
  · rw [List.getElem?_append_right (by omega), l0]
    rcases Nat.lt_or_ge k ((x + y) * s) with h2 | h2
    · obtain ⟨d, rfl⟩ : ∃ d, k = x * s + d := ⟨k - x * s, by omega⟩
      have q : (x * s + d) / s = x + d / s := by rw [Nat.add_comm, Nat.add_mul_div_right _ _ hs, Nat.add_comm]
      have m : (x * s + d) % s = d % s := by rw [Nat.add_comm, Nat.add_mul_mod_self_right]
      rw [show x * s + d - x * s = d by omega, flat_get _ (by omega), flat_get _ h2, q, m, if_neg (Nat.not_lt.2 (Nat.le_add_right _ _)), Nat.add_sub_cancel_left]
    · rw [List.getElem?_eq_none (by omega), List.getElem?_eq_none (by simp [flat]; omega)]
theorem wo_vals (N : Net) (a : DA) {r : Nat} (hr : r < N.roads.length) :
    joinTo (fun i => if i = 0 then r else N.roads.length - (r + 1)) (fun i j k => if i = 0 then rdCells (listD N.roads j) (a.p j) (a.pc j) k else rdCells (listD N.roads (r + 1 + j)) (a.p (r + 1 + j)) (a.pc (r + 1 + j)) k) 2
      = rowVals (withoutN N r).roads (a.wo r) (withoutN N r).roads.length := by
  show ([] ++ flat r 5 _) ++ flat (N.roads.length - (r + 1)) 5 _ = _
  rw [List.nil_append, flat_join _ _ (by decide), wo_len hr]
  unfold rowVals
  rw [show r + (N.roads.length - (r + 1)) = N.roads.length - 1 by omega]
  unfold flat
  refine List.map_congr_left fun t ht => ?_
  dsimp only
  rw [wo_at]
  unfold DA.wo upOf
  dsimp only
  by_cases h : t / 5 < r
  · simp only [if_pos h, if_pos]
  · simp only [if_neg h]
    rw [show r + 1 + (t / 5 - r) = t / 5 + 1 by omega]
    rfl
theorem rowTwo (w : World) (x y : Value) (ty : TypeId) (L : Nat → Nat) (p : Nat → Option Addr) (cc : Nat → Nat) (hx : x = .slice (p 0) (L 0) (cc 0)) (hy : y = .slice (p 1) (L 1) (cc 1)) :
    Arr (w.alloc (.cells #[x, y] ty)) (some ⟨w.heap.size, 0, none⟩) 2 2 1 (fun i _ => .slice (p i) (L i) (cc i)) := by
  refine ⟨Nat.le_refl _, by decide, fun _ => ⟨w.heap.size, 0, rfl, fun i j hi hj => ?_⟩⟩
  have hj0 : j = 0 := by omega
  subst hj0
  rw [cellNew]
  rcases (by omega : i = 0 ∨ i = 1) with rfl | rfl
  · show some x = _
    rw [hx]
  · show some y = _
    rw [hy]
theorem Arr.head {w : World} {A : Option Addr} {n c size : Nat} {C : Nat → Nat → Value} (h : Arr w A n c size C) {k c' : Nat} (hk : k ≤ n) (hc : k ≤ c') (hc' : c' ≤ 9223372036854775807) : Arr w A k c' size C := by
  refine ⟨hc, hc', fun hh => ?_⟩
  obtain ⟨b, o, e, hh2⟩ := h.2.2 (by omega)
  exact ⟨b, o, e, fun i j hi hj => hh2 i j (by omega) hj⟩
theorem Arr.tail {w : World} {b o n c size : Nat} {C : Nat → Nat → Value} (h : Arr w (some ⟨b, o, none⟩) n c size C) (hn : 0 < n) {k c' : Nat} (hk : k ≤ n) (hc : n - k ≤ c') (hc' : c' ≤ 9223372036854775807) {D : Nat → Nat → Value} (hD : ∀ i j, D i j = C (k + i) j) : Arr w (some ⟨b, o + k * size, none⟩) (n - k) c' size D := by
  refine ⟨hc, hc', fun hh => ?_⟩
  obtain ⟨b', o', e, hh2⟩ := h.2.2 hn
  injection e with e
  injection e with e1 e2
  subst e1; subst e2
  refine ⟨_, _, rfl, fun i j hi hj => ?_⟩
  rw [hD, ← hh2 (k + i) j (by omega) hj, Nat.add_mul]
  congr 2
  omega

theorem own_base {w : World} {B B' : Nat} {e : TypeId} {size n : Nat} {v : Value} {xs : List Value} (h : w.ownsRow B e size v n xs) (hB : B' ≤ B) : w.ownsRow B' e size v n xs := by
  refine ⟨h.1, ?_⟩
  rcases h.2 with h2 | ⟨g, cap, cur, h1, h2, h3⟩
  · exact .inl h2
  · exact .inr ⟨g, cap, cur, h1, Nat.le_trans hB h2, h3⟩
set_option linter.unusedSimpArgs false in
set_option maxHeartbeats 6400000 in
set_option maxRecDepth 100000 in
theorem wo_any (N : Net) (P R : Option Addr) (pc rc : Nat) (ar : DA) (r : Nat) (w : World) (M : NetM w N P R pc rc ar) (hr : r < N.roads.length) (hn : N.roads.length ≤ 1000) :
    Calls Try.prog 37 #[netV N P R pc rc, .int .i64 r] w fun e w' => ∃ R' rc', e = .returned (netV (withoutN N r) P R' pc rc') ∧
      w'.ownsRow w.heap.size 68 5 (.slice R' (withoutN N r).roads.length rc') (withoutN N r).roads.length (rowVals (withoutN N r).roads (ar.wo r) (withoutN N r).roads.length) ∧ Below w.heap.size w w' := by
  have HM := Lib.hid M
  have rb1 := M.roads.le.1
  have rb2 := M.roads.le.2
  have a1 := M.places.le.1
  have a2 := M.places.le.2
  obtain ⟨rb, ro, hRa, -⟩ := M.roads.at_ hr
  subst hRa
  have HLN := Lib.hid (wo_len hr)
  have BN := Lib.hid ((BoxN.new w N P (some ⟨rb, ro, none⟩) pc rc 25).keep (Keep.alloc _ (.cells #[.slice none 0 0, .slice none 0 0] 25)))
  have BF : Hid (∀ i, (((w.alloc (.cells #[.slice P N.places.length pc, .slice (some ⟨rb, ro, none⟩) N.roads.length rc] 25)).alloc (.cells #[.slice none 0 0, .slice none 0 0] 25)).frozen? ⟨w.heap.size, i, none⟩ = false)) := Lib.hid fun i => by
    rw [((Below.refl _ (w.alloc (.cells #[.slice P N.places.length pc, .slice (some ⟨rb, ro, none⟩) N.roads.length rc] 25))).alloc (Nat.le_refl _) (.cells #[.slice none 0 0, .slice none 0 0] 25)).frozen (p := ⟨w.heap.size, i, none⟩) (by simp)]
    exact frozenNew _ _ _ _
  have RV : Hid (∀ i, (i = 0 ∨ i = 1) → ((w.alloc (.cells #[.slice P N.places.length pc, .slice (some ⟨rb, ro, none⟩) N.roads.length rc] 25)).alloc (.cells #[.slice none 0 0, .slice none 0 0] 25)).cell? ⟨w.heap.size + 1, i, none⟩ = some (.slice none 0 0) ∧ ((w.alloc (.cells #[.slice P N.places.length pc, .slice (some ⟨rb, ro, none⟩) N.roads.length rc] 25)).alloc (.cells #[.slice none 0 0, .slice none 0 0] 25)).frozen? ⟨w.heap.size + 1, i, none⟩ = false) := Lib.hid (fun i hi => ⟨(cellNew1 _ _ _ _ i).trans (by rcases hi with rfl | rfl <;> rfl), frozenNew1 _ _ _ _ i⟩)
  clear M
  go_enter Try.func37, Try.ntmps37
  go_upto_region 1 with fail
  generalize hwb : (w.alloc _).alloc _ = wb at *
  have HW : Hid (Below w.heap.size w wb) := by rw [← hwb]; exact Lib.hid (((Below.refl _ _).alloc (Nat.le_refl _) _).alloc (by simp) _)
  have HWS : Hid (wb.heap.size = w.heap.size + 2) := by rw [← hwb]; exact Lib.hid (by simp)
  clear hwb
  obtain ⟨n0, n1⟩ := BN.out
  have e1 : IntKind.i64.wrap ((r : Int) + 1) = (r : Int) + 1 := by rw [IntKind.wrap_i64]; omega
  have e2 : ((r : Int) + 1).toNat = r + 1 := by omega
  have e3 : (0 : Int) ≤ (r : Int) + 1 := by omega
  have e4 : (r : Int) + 1 ≤ (N.roads.length : Int) := by omega
  have e5 : (r : Int) ≤ (rc : Int) := by omega
  have e6 : (r + 1) ≤ N.roads.length := by omega
  have HBd : Hid (Below wb.heap.size wb wb.drew) := Lib.hid (Below.refl _ _).drew
  have MK : Hid (∀ w', Below wb.heap.size wb w' → w'.cell? ⟨w.heap.size, 1, none⟩ = some (.slice (some ⟨rb, ro, none⟩) N.roads.length rc) ∧ Hid (Below wb.heap.size wb w')) :=
    Lib.hid fun w' hw => ⟨Keep.below hw _ _ n1, Lib.hid hw⟩
  have K1 : Hid (∀ w', Below wb.heap.size wb w' → Arr w' (some ⟨rb, ro, none⟩) r rc 5 (fun j k => rdCells (listD N.roads j) (ar.p j) (ar.pc j) k)) := Lib.hid fun w' hw =>
    Arr.head (Arr.keep (Keep.below (HW.out.trans (hw.mono HW.out.size))) HM.out.roads.1) (by omega) (by omega) (by omega)
  have K2 : Hid (∀ w', Below wb.heap.size wb w' → Arr w' (some ⟨rb, ro + (r + 1) * 5, none⟩) (N.roads.length - (r + 1)) (rc - (r + 1)) 5 (fun j k => rdCells (listD N.roads (r + 1 + j)) (ar.p (r + 1 + j)) (ar.pc (r + 1 + j)) k)) := Lib.hid fun w' hw =>
    Arr.tail (Arr.keep (Keep.below (HW.out.trans (hw.mono HW.out.size))) HM.out.roads.1) (by omega) (by omega) (by omega) (by omega) (fun _ _ => rfl)
  have K3 : Hid (rc = r + 1 → ∀ w', Arr w' (some ⟨rb, ro, none⟩) (N.roads.length - (r + 1)) (rc - (r + 1)) 5 (fun j k => rdCells (listD N.roads (r + 1 + j)) (ar.p (r + 1 + j)) (ar.pc (r + 1 + j)) k)) := Lib.hid fun h w' =>
    ⟨by omega, by omega, fun hh => absurd hh (by omega)⟩
  by_cases hcap : rc = r + 1
  · have hcf : (rc = r + 1) = True := eq_true hcap
    have HC := Lib.hid hcap
    clear hcap
    refine heldPeel (S := fun w' => w'.cell? ⟨w.heap.size, 1, none⟩ = some (.slice (some ⟨rb, ro, none⟩) N.roads.length rc) ∧ Hid (Below wb.heap.size wb w')) (l := [_, _, _, _, _, _, _, _, _, _, _, _]) (by kernel_rfl) (by kernel_rfl) (MK.out _ HBd.out) (fun hHeld => ?_)
    refine wpAnyH_take (i := 0) (v := ?val0x1) rfl (by kernel_rfl) (by kernel_rfl) (by kernel_rfl) (fun _ _ _ h => h) (Or.inl ⟨by rfl, fun w9 hS9 => ?yields0x1⟩) (by assumption) ?later0x1
    case yields0x1 =>
      dsimp only at hS9
      go_simp
      try with_reducible rfl
    try simp only [Act.put, List.getElem_toArray, List.getElem_cons_succ, List.getElem_cons_zero, List.setIfInBounds_toArray, List.set_cons_zero, List.set_cons_succ]
    refine wpAnyH_take (i := 1) (v := ?val1x2) rfl (by kernel_rfl) (by kernel_rfl) (by kernel_rfl) (fun _ _ _ h => h) (Or.inl ⟨by rfl, fun w9 hS9 => ?yields1x2⟩) (by assumption) ?later1x2
    case yields1x2 =>
      dsimp only at hS9
      go_simp
      try with_reducible rfl
    try simp only [Act.put, List.getElem_toArray, List.getElem_cons_succ, List.getElem_cons_zero, List.setIfInBounds_toArray, List.set_cons_zero, List.set_cons_succ]
    refine wpAnyH_take (i := 2) (v := ?val2x3) rfl (by kernel_rfl) (by kernel_rfl) (by kernel_rfl) (fun _ _ _ h => h) (Or.inl ⟨by rfl, fun w9 hS9 => ?yields2x3⟩) (by assumption) ?later2x3
    case yields2x3 =>
      dsimp only at hS9
      go_simp
      try with_reducible rfl
    try simp only [Act.put, List.getElem_toArray, List.getElem_cons_succ, List.getElem_cons_zero, List.setIfInBounds_toArray, List.set_cons_zero, List.set_cons_succ]
    refine wpAnyH_take (i := 3) (v := ?val3x4) rfl (by kernel_rfl) (by kernel_rfl) (by kernel_rfl) (fun _ _ _ h => h) (Or.inl ⟨by rfl, fun w9 hS9 => ?yields3x4⟩) (by assumption) ?later3x4
    case yields3x4 =>
      dsimp only at hS9
      go_simp
      try with_reducible rfl
    try simp only [Act.put, List.getElem_toArray, List.getElem_cons_succ, List.getElem_cons_zero, List.setIfInBounds_toArray, List.set_cons_zero, List.set_cons_succ]
    refine wpAnyH_take (i := 4) (v := ?val4x5) rfl (by kernel_rfl) (by kernel_rfl) (by kernel_rfl) (fun _ _ _ h => h) (Or.inl ⟨by rfl, fun w9 hS9 => ?yields4x5⟩) (by assumption) ?later4x5
    case yields4x5 =>
      dsimp only at hS9
      go_simp
      try with_reducible rfl
    try simp only [Act.put, List.getElem_toArray, List.getElem_cons_succ, List.getElem_cons_zero, List.setIfInBounds_toArray, List.set_cons_zero, List.set_cons_succ]
    refine wpAnyH_take (i := 5) (v := ?val5x6) rfl (by kernel_rfl) (by kernel_rfl) (by kernel_rfl) (fun _ _ _ h => h) (Or.inl ⟨by rfl, fun w9 hS9 => ?yields5x6⟩) (by assumption) ?later5x6
    case yields5x6 =>
      dsimp only at hS9
      go_simp
      try with_reducible rfl
    try simp only [Act.put, List.getElem_toArray, List.getElem_cons_succ, List.getElem_cons_zero, List.setIfInBounds_toArray, List.set_cons_zero, List.set_cons_succ]
    refine wpAnyH_take (i := 6) (v := ?val6x7) rfl (by kernel_rfl) (by kernel_rfl) (by kernel_rfl) (fun _ _ _ h => h) (Or.inl ⟨by rfl, fun w9 hS9 => ?yields6x7⟩) (by assumption) ?later6x7
    case yields6x7 =>
      dsimp only at hS9
      go_simp
      try with_reducible rfl
    try simp only [Act.put, List.getElem_toArray, List.getElem_cons_succ, List.getElem_cons_zero, List.setIfInBounds_toArray, List.set_cons_zero, List.set_cons_succ]
    refine wpAnyH_take (i := 7) (v := ?val7x8) rfl (by kernel_rfl) (by kernel_rfl) (by kernel_rfl) (fun _ _ _ h => h) (Or.inl ⟨by rfl, fun w9 hS9 => ?yields7x8⟩) (by assumption) ?later7x8
    case yields7x8 =>
      dsimp only at hS9
      go_simp
      try with_reducible rfl
    try simp only [Act.put, List.getElem_toArray, List.getElem_cons_succ, List.getElem_cons_zero, List.setIfInBounds_toArray, List.set_cons_zero, List.set_cons_succ]
    refine wpAnyH_take (i := 8) (v := ?val8x9) rfl (by kernel_rfl) (by kernel_rfl) (by kernel_rfl) (fun _ _ _ h => h) (Or.inl ⟨by rfl, fun w9 hS9 => ?yields8x9⟩) (by assumption) ?later8x9
    case yields8x9 =>
      dsimp only at hS9
      go_simp
      try with_reducible rfl
    try simp only [Act.put, List.getElem_toArray, List.getElem_cons_succ, List.getElem_cons_zero, List.setIfInBounds_toArray, List.set_cons_zero, List.set_cons_succ]
    refine wpAnyH_ready (rs := [9]) (by kernel_rfl) (by simp) ?_
    refine AllReadyH.cons rfl (fun K hK => ?_) AllReadyH.nil
    go_simp
    refine hK.out _ _ ?_ (fun hHeld => ?_)
    · (try dsimp only)
      (go_split_ands; exact MK.out _ (Below.alloc (Hid.out (by assumption)) (Hid.out (by assumption) : Below wb.heap.size wb _).size _))
    clear hK K
    try simp only [Act.put, List.getElem_toArray, List.getElem_cons_succ, List.getElem_cons_zero, List.setIfInBounds_toArray, List.set_cons_zero, List.set_cons_succ]
    refine wpAnyH_ready (rs := [10]) (by kernel_rfl) (by simp) ?_
    refine AllReadyH.cons rfl (fun K hK => ?_) AllReadyH.nil
    go_simp
    go_split_ands
    refine (concatD_any 2 (fun i => if i = 0 then r else N.roads.length - (r + 1)) (fun i => if i = 0 then some ⟨rb, ro, none⟩ else some ⟨rb, ro, none⟩) (fun i => if i = 0 then rc else rc - (r + 1)) (fun i j k => if i = 0 then rdCells (listD N.roads j) (ar.p j) (ar.pc j) k else rdCells (listD N.roads (r + 1 + j)) (ar.p (r + 1 + j)) (ar.pc (r + 1 + j)) k) _ 2 _ (Arr.keep (Keep.drew _) (rowTwo wb (.slice (some ⟨rb, ro, none⟩) r rc) (.slice (some ⟨rb, ro, none⟩) (N.roads.length - (r + 1)) (rc - (r + 1))) 23 _ _ _ rfl rfl)) ?arrB ?oneB (by decide) ?lenB).mono ?_
    case arrB =>
      intro i hi
      rcases (by omega : i = 0 ∨ i = 1) with rfl | rfl
      · exact K1.out _ (Hid.out (by assumption))
      · exact K3.out HC.out _
    case oneB => intro i j k; split <;> (unfold rdCells; split <;> rfl)
    case lenB => intro i hi; split <;> omega
    rintro e' w1 ⟨v1, rfl, ho, hb1⟩
    have HO := Lib.hid ho
    clear ho
    go_wp2_with fail
    refine hK.out _ _ ?_ (fun hHeld => ?_)
    · (try dsimp only)
      (go_split_ands; exact MK.out _ (Below.trans (Hid.out (by assumption)) (hb1.mono (Hid.out (by assumption) : Below wb.heap.size wb _).size)))
    clear hK K
    try simp only [Act.put, List.getElem_toArray, List.getElem_cons_succ, List.getElem_cons_zero, List.setIfInBounds_toArray, List.set_cons_zero, List.set_cons_succ]
    refine wpAnyH_take (i := 11) (v := ?val11x10) rfl (by kernel_rfl) (by kernel_rfl) (by kernel_rfl) (fun _ _ _ h => h) (Or.inl ⟨by rfl, fun w9 hS9 => ?yields11x10⟩) (by assumption) ?later11x10
    case yields11x10 =>
      dsimp only at hS9
      go_simp
      try with_reducible rfl
    try simp only [Act.put, List.getElem_toArray, List.getElem_cons_succ, List.getElem_cons_zero, List.setIfInBounds_toArray, List.set_cons_zero, List.set_cons_succ]
    refine wpAnyH_done (by kernel_rfl) ?_ _
    unfold Peeled
    dsimp only
    have hbb := hHeld.2.out
    have HO2 : Hid (w1.ownsRow wb.heap.size 68 5 v1 (withoutN N r).roads.length (rowVals (withoutN N r).roads (ar.wo r) (withoutN N r).roads.length)) := by
      have h8 := own_base (B' := wb.heap.size) HO.out (by simp)
      rw [wo_vals N ar hr] at h8
      have e8 : lenSum (fun i => if i = 0 then r else N.roads.length - (r + 1)) 2 = (withoutN N r).roads.length := by
        rw [wo_len hr]
        show 0 + r + (N.roads.length - (r + 1)) = _
        omega
      rw [e8] at h8
      exact Lib.hid h8
    obtain ⟨A8, c8, hv8, -⟩ := own_row (show w1.ownsRow wb.heap.size 68 5 v1 (withoutN N r).roads.length (flat (withoutN N r).roads.length 5 _) from HO2.out)
    subst hv8
    have HX := Lib.hid (HW.out.trans (hbb.mono HW.out.size))
    have b0 := Keep.below hbb _ _ n0
    have b1 := Keep.below hbb _ _ n1
    have bf := (hbb.frozen (p := ⟨w.heap.size, 1, none⟩) (by show w.heap.size < _; rw [HWS.out]; omega)).trans (BF.out 1)
    have z0 := (hbb.cell (p := ⟨w.heap.size + 1, 0, none⟩) (by show w.heap.size + 1 < _; rw [HWS.out]; omega)).trans (RV.out 0 (.inl rfl)).1
    have z1 := (hbb.cell (p := ⟨w.heap.size + 1, 1, none⟩) (by show w.heap.size + 1 < _; rw [HWS.out]; omega)).trans (RV.out 1 (.inr rfl)).1
    have zf0 := (hbb.frozen (p := ⟨w.heap.size + 1, 0, none⟩) (by show w.heap.size + 1 < _; rw [HWS.out]; omega)).trans (RV.out 0 (.inl rfl)).2
    have zf1 := (hbb.frozen (p := ⟨w.heap.size + 1, 1, none⟩) (by show w.heap.size + 1 < _; rw [HWS.out]; omega)).trans (RV.out 1 (.inr rfl)).2
    have HWB := Lib.hid (show w.heap.size + 1 < wb.heap.size by rw [HWS.out]; omega)
    have HO3 := Lib.hid (own_base (B' := w.heap.size) (ownsRow_setCell_below (a := ⟨w.heap.size + 1, 1, none⟩) (ownsRow_setCell_below (a := ⟨w.heap.size + 1, 0, none⟩) (ownsRow_setCell_below (a := ⟨w.heap.size, 1, none⟩) HO2.out (by show w.heap.size < _; have := HWB.out; omega) (.slice A8 (withoutN N r).roads.length c8)) (by have := HWB.out; exact this) (.slice P N.places.length pc)) (by have := HWB.out; exact this) (.slice A8 (withoutN N r).roads.length c8)) (by have := HWB.out; omega))
    clear n0 n1 hbb HO HO2 MK K1 K2 K3 HBd e1 e2 e3 e4 e5 e6 hcf
    clear hHeld
    go_wp2_with fail
    refine bodyPost_ret (v := .agg #[.slice P N.places.length pc, .slice A8 (withoutN N r).roads.length c8]) (by simp [results, Try.results37, go_sem, b0, b1, z0, z1]) rfl ⟨A8, c8, rfl, HO3.out, ?_⟩
    exact ((HX.out.setCell (p := ⟨w.heap.size, 1, none⟩) (Nat.le_refl _) _).setCell (p := ⟨w.heap.size + 1, 0, none⟩) (by simp) _).setCell (p := ⟨w.heap.size + 1, 1, none⟩) (by simp) _
  · have hcf : (rc = r + 1) = False := eq_false hcap
    clear hcap
    refine heldPeel (S := fun w' => w'.cell? ⟨w.heap.size, 1, none⟩ = some (.slice (some ⟨rb, ro, none⟩) N.roads.length rc) ∧ Hid (Below wb.heap.size wb w')) (l := [_, _, _, _, _, _, _, _, _, _, _, _]) (by kernel_rfl) (by kernel_rfl) (MK.out _ HBd.out) (fun hHeld => ?_)
    refine wpAnyH_take (i := 0) (v := ?val0x11) rfl (by kernel_rfl) (by kernel_rfl) (by kernel_rfl) (fun _ _ _ h => h) (Or.inl ⟨by rfl, fun w9 hS9 => ?yields0x11⟩) (by assumption) ?later0x11
    case yields0x11 =>
      dsimp only at hS9
      go_simp
      try with_reducible rfl
    try simp only [Act.put, List.getElem_toArray, List.getElem_cons_succ, List.getElem_cons_zero, List.setIfInBounds_toArray, List.set_cons_zero, List.set_cons_succ]
    refine wpAnyH_take (i := 1) (v := ?val1x12) rfl (by kernel_rfl) (by kernel_rfl) (by kernel_rfl) (fun _ _ _ h => h) (Or.inl ⟨by rfl, fun w9 hS9 => ?yields1x12⟩) (by assumption) ?later1x12
    case yields1x12 =>
      dsimp only at hS9
      go_simp
      try with_reducible rfl
    try simp only [Act.put, List.getElem_toArray, List.getElem_cons_succ, List.getElem_cons_zero, List.setIfInBounds_toArray, List.set_cons_zero, List.set_cons_succ]
    refine wpAnyH_take (i := 2) (v := ?val2x13) rfl (by kernel_rfl) (by kernel_rfl) (by kernel_rfl) (fun _ _ _ h => h) (Or.inl ⟨by rfl, fun w9 hS9 => ?yields2x13⟩) (by assumption) ?later2x13
    case yields2x13 =>
      dsimp only at hS9
      go_simp
      try with_reducible rfl
    try simp only [Act.put, List.getElem_toArray, List.getElem_cons_succ, List.getElem_cons_zero, List.setIfInBounds_toArray, List.set_cons_zero, List.set_cons_succ]
    refine wpAnyH_take (i := 3) (v := ?val3x14) rfl (by kernel_rfl) (by kernel_rfl) (by kernel_rfl) (fun _ _ _ h => h) (Or.inl ⟨by rfl, fun w9 hS9 => ?yields3x14⟩) (by assumption) ?later3x14
    case yields3x14 =>
      dsimp only at hS9
      go_simp
      try with_reducible rfl
    try simp only [Act.put, List.getElem_toArray, List.getElem_cons_succ, List.getElem_cons_zero, List.setIfInBounds_toArray, List.set_cons_zero, List.set_cons_succ]
    refine wpAnyH_take (i := 4) (v := ?val4x15) rfl (by kernel_rfl) (by kernel_rfl) (by kernel_rfl) (fun _ _ _ h => h) (Or.inl ⟨by rfl, fun w9 hS9 => ?yields4x15⟩) (by assumption) ?later4x15
    case yields4x15 =>
      dsimp only at hS9
      go_simp
      try with_reducible rfl
    try simp only [Act.put, List.getElem_toArray, List.getElem_cons_succ, List.getElem_cons_zero, List.setIfInBounds_toArray, List.set_cons_zero, List.set_cons_succ]
    refine wpAnyH_take (i := 5) (v := ?val5x16) rfl (by kernel_rfl) (by kernel_rfl) (by kernel_rfl) (fun _ _ _ h => h) (Or.inl ⟨by rfl, fun w9 hS9 => ?yields5x16⟩) (by assumption) ?later5x16
    case yields5x16 =>
      dsimp only at hS9
      go_simp
      try with_reducible rfl
    try simp only [Act.put, List.getElem_toArray, List.getElem_cons_succ, List.getElem_cons_zero, List.setIfInBounds_toArray, List.set_cons_zero, List.set_cons_succ]
    refine wpAnyH_take (i := 6) (v := ?val6x17) rfl (by kernel_rfl) (by kernel_rfl) (by kernel_rfl) (fun _ _ _ h => h) (Or.inl ⟨by rfl, fun w9 hS9 => ?yields6x17⟩) (by assumption) ?later6x17
    case yields6x17 =>
      dsimp only at hS9
      go_simp
      try with_reducible rfl
    try simp only [Act.put, List.getElem_toArray, List.getElem_cons_succ, List.getElem_cons_zero, List.setIfInBounds_toArray, List.set_cons_zero, List.set_cons_succ]
    refine wpAnyH_take (i := 7) (v := ?val7x18) rfl (by kernel_rfl) (by kernel_rfl) (by kernel_rfl) (fun _ _ _ h => h) (Or.inl ⟨by rfl, fun w9 hS9 => ?yields7x18⟩) (by assumption) ?later7x18
    case yields7x18 =>
      dsimp only at hS9
      go_simp
      try with_reducible rfl
    try simp only [Act.put, List.getElem_toArray, List.getElem_cons_succ, List.getElem_cons_zero, List.setIfInBounds_toArray, List.set_cons_zero, List.set_cons_succ]
    refine wpAnyH_take (i := 8) (v := ?val8x19) rfl (by kernel_rfl) (by kernel_rfl) (by kernel_rfl) (fun _ _ _ h => h) (Or.inl ⟨by rfl, fun w9 hS9 => ?yields8x19⟩) (by assumption) ?later8x19
    case yields8x19 =>
      dsimp only at hS9
      go_simp
      try with_reducible rfl
    try simp only [Act.put, List.getElem_toArray, List.getElem_cons_succ, List.getElem_cons_zero, List.setIfInBounds_toArray, List.set_cons_zero, List.set_cons_succ]
    refine wpAnyH_ready (rs := [9]) (by kernel_rfl) (by simp) ?_
    refine AllReadyH.cons rfl (fun K hK => ?_) AllReadyH.nil
    go_simp
    refine hK.out _ _ ?_ (fun hHeld => ?_)
    · (try dsimp only)
      (go_split_ands; exact MK.out _ (Below.alloc (Hid.out (by assumption)) (Hid.out (by assumption) : Below wb.heap.size wb _).size _))
    clear hK K
    try simp only [Act.put, List.getElem_toArray, List.getElem_cons_succ, List.getElem_cons_zero, List.setIfInBounds_toArray, List.set_cons_zero, List.set_cons_succ]
    refine wpAnyH_ready (rs := [10]) (by kernel_rfl) (by simp) ?_
    refine AllReadyH.cons rfl (fun K hK => ?_) AllReadyH.nil
    go_simp
    go_split_ands
    refine (concatD_any 2 (fun i => if i = 0 then r else N.roads.length - (r + 1)) (fun i => if i = 0 then some ⟨rb, ro, none⟩ else some ⟨rb, ro + (r + 1) * 5, none⟩) (fun i => if i = 0 then rc else rc - (r + 1)) (fun i j k => if i = 0 then rdCells (listD N.roads j) (ar.p j) (ar.pc j) k else rdCells (listD N.roads (r + 1 + j)) (ar.p (r + 1 + j)) (ar.pc (r + 1 + j)) k) _ 2 _ (Arr.keep (Keep.drew _) (rowTwo wb (.slice (some ⟨rb, ro, none⟩) r rc) (.slice (some ⟨rb, ro + (r + 1) * 5, none⟩) (N.roads.length - (r + 1)) (rc - (r + 1))) 23 _ _ _ rfl rfl)) ?arrA ?oneA (by decide) ?lenA).mono ?_
    case arrA =>
      intro i hi
      rcases (by omega : i = 0 ∨ i = 1) with rfl | rfl
      · exact K1.out _ (Hid.out (by assumption))
      · exact K2.out _ (Hid.out (by assumption))
    case oneA => intro i j k; split <;> (unfold rdCells; split <;> rfl)
    case lenA => intro i hi; split <;> omega
    rintro e' w1 ⟨v1, rfl, ho, hb1⟩
    have HO := Lib.hid ho
    clear ho
    go_wp2_with fail
    refine hK.out _ _ ?_ (fun hHeld => ?_)
    · (try dsimp only)
      (go_split_ands; exact MK.out _ (Below.trans (Hid.out (by assumption)) (hb1.mono (Hid.out (by assumption) : Below wb.heap.size wb _).size)))
    clear hK K
    try simp only [Act.put, List.getElem_toArray, List.getElem_cons_succ, List.getElem_cons_zero, List.setIfInBounds_toArray, List.set_cons_zero, List.set_cons_succ]
    refine wpAnyH_take (i := 11) (v := ?val11x20) rfl (by kernel_rfl) (by kernel_rfl) (by kernel_rfl) (fun _ _ _ h => h) (Or.inl ⟨by rfl, fun w9 hS9 => ?yields11x20⟩) (by assumption) ?later11x20
    case yields11x20 =>
      dsimp only at hS9
      go_simp
      try with_reducible rfl
    try simp only [Act.put, List.getElem_toArray, List.getElem_cons_succ, List.getElem_cons_zero, List.setIfInBounds_toArray, List.set_cons_zero, List.set_cons_succ]
    refine wpAnyH_done (by kernel_rfl) ?_ _
    unfold Peeled
    dsimp only
    have hbb := hHeld.2.out
    have HO2 : Hid (w1.ownsRow wb.heap.size 68 5 v1 (withoutN N r).roads.length (rowVals (withoutN N r).roads (ar.wo r) (withoutN N r).roads.length)) := by
      have h8 := own_base (B' := wb.heap.size) HO.out (by simp)
      rw [wo_vals N ar hr] at h8
      have e8 : lenSum (fun i => if i = 0 then r else N.roads.length - (r + 1)) 2 = (withoutN N r).roads.length := by
        rw [wo_len hr]
        show 0 + r + (N.roads.length - (r + 1)) = _
        omega
      rw [e8] at h8
      exact Lib.hid h8
    obtain ⟨A8, c8, hv8, -⟩ := own_row (show w1.ownsRow wb.heap.size 68 5 v1 (withoutN N r).roads.length (flat (withoutN N r).roads.length 5 _) from HO2.out)
    subst hv8
    have HX := Lib.hid (HW.out.trans (hbb.mono HW.out.size))
    have b0 := Keep.below hbb _ _ n0
    have b1 := Keep.below hbb _ _ n1
    have bf := (hbb.frozen (p := ⟨w.heap.size, 1, none⟩) (by show w.heap.size < _; rw [HWS.out]; omega)).trans (BF.out 1)
    have z0 := (hbb.cell (p := ⟨w.heap.size + 1, 0, none⟩) (by show w.heap.size + 1 < _; rw [HWS.out]; omega)).trans (RV.out 0 (.inl rfl)).1
    have z1 := (hbb.cell (p := ⟨w.heap.size + 1, 1, none⟩) (by show w.heap.size + 1 < _; rw [HWS.out]; omega)).trans (RV.out 1 (.inr rfl)).1
    have zf0 := (hbb.frozen (p := ⟨w.heap.size + 1, 0, none⟩) (by show w.heap.size + 1 < _; rw [HWS.out]; omega)).trans (RV.out 0 (.inl rfl)).2
    have zf1 := (hbb.frozen (p := ⟨w.heap.size + 1, 1, none⟩) (by show w.heap.size + 1 < _; rw [HWS.out]; omega)).trans (RV.out 1 (.inr rfl)).2
    have HWB := Lib.hid (show w.heap.size + 1 < wb.heap.size by rw [HWS.out]; omega)
    have HO3 := Lib.hid (own_base (B' := w.heap.size) (ownsRow_setCell_below (a := ⟨w.heap.size + 1, 1, none⟩) (ownsRow_setCell_below (a := ⟨w.heap.size + 1, 0, none⟩) (ownsRow_setCell_below (a := ⟨w.heap.size, 1, none⟩) HO2.out (by show w.heap.size < _; have := HWB.out; omega) (.slice A8 (withoutN N r).roads.length c8)) (by have := HWB.out; exact this) (.slice P N.places.length pc)) (by have := HWB.out; exact this) (.slice A8 (withoutN N r).roads.length c8)) (by have := HWB.out; omega))
    clear n0 n1 hbb HO HO2 MK K1 K2 K3 HBd e1 e2 e3 e4 e5 e6 hcf
    clear hHeld
    go_wp2_with fail
    refine bodyPost_ret (v := .agg #[.slice P N.places.length pc, .slice A8 (withoutN N r).roads.length c8]) (by simp [results, Try.results37, go_sem, b0, b1, z0, z1]) rfl ⟨A8, c8, rfl, HO3.out, ?_⟩
    exact ((HX.out.setCell (p := ⟨w.heap.size, 1, none⟩) (Nat.le_refl _) _).setCell (p := ⟨w.heap.size + 1, 0, none⟩) (by simp) _).setCell (p := ⟨w.heap.size + 1, 1, none⟩) (by simp) _
end Go.Proofs.Ytnjaadmmbdlfoaa
/- Clones of texts and of points; the net without a road, in memory of its own. Condition: the net can be read. -/
namespace Go.Proofs.Ytnjaadmmbdlfoaa
open Go.RowKit Fs

set_option maxHeartbeats 800000 in
set_option maxRecDepth 100000 in
theorem cloneTexts_any (l : List ByteArray) (A : Option Addr) (c : Nat) (w : World) (h : ArrS w A l c) (hn : l.length ≤ 1000000) :
    Calls Try.prog 42 #[.slice A l.length c] w fun e w' => ∃ A' c', e = .returned (.slice A' l.length c') ∧ ArrS w' A' l c' ∧ Above w.heap.size A' ∧ Below w.heap.size w w' := by
  obtain ⟨i0, hi, hz0, hz1, hz2⟩ := info_parts Try.infoText
  have q22 : ∀ (w : World) (a : Option Addr) (n c n' c' : Nat), (binOp .eql 22 (.slice a n c) (.slice none n' c')).run Try.prog w = .ok (.bool a.isNone) w := fun w a n c n' c' => Lib.run_eql_slice_nil w _ _ a n c n' c' Try.underlying22
  cases A with
  | none =>
    have hl : l.length = 0 := by
      rcases Nat.eq_zero_or_pos l.length with h0 | h0
      · exact h0
      · obtain ⟨_, _, e, -⟩ := h.2.2 h0
        cases e
    have HL := Lib.hid hl
    have hnil : ArrS w none l 0 := ⟨by omega, by omega, fun hh => absurd hh (by omega)⟩
    clear h hl hn
    go_enter Try.func42, Try.ntmps42
    go_wp2_with fail
    go_ret
    exact ⟨none, 0, by rw [HL.out]; rfl, hnil, fun _ h => (by cases h), Below.refl _ _⟩
  | some ad =>
    go_enter Try.func42, Try.ntmps42
    go_wp2_with (at_builtin
                 refine wpList_copy rfl (.tmp 5) (.tmp 6) 22 rfl 9 i0 _ 1 16 Try.underlying22 hi hz0 hz1 hz2 rfl (by decide) w.heap.size w.heap.size rfl (Nat.le_refl _) (heap_alloc_new _ _) (some ad) l.length c _ rfl (Arr.keep (Keep.alloc w _) h) (fun _ _ => rfl) (by unfold maxLen; omega) (by omega) ?_
                 intro A1 c1 w1 ha hb)
    go_ret
    exact ⟨A1, c1, rfl, own_arrN ha, own_above ha, ((Below.refl _ _).alloc (Nat.le_refl _) _).trans hb⟩
set_option maxHeartbeats 800000 in
set_option maxRecDepth 100000 in
theorem clonePts_any (l : List Pt) (A : Option Addr) (c : Nat) (w : World) (h : ArrP w A l c) (hn : l.length ≤ 1000000) :
    Calls Try.prog 43 #[.slice A l.length c] w fun e w' => ∃ A' c', e = .returned (.slice A' l.length c') ∧ ArrP w' A' l c' ∧ Above w.heap.size A' ∧ Below w.heap.size w w' := by
  obtain ⟨i0, hi, hz0, hz1, hz2⟩ := info_parts Try.infoPt
  have q22 : ∀ (w : World) (a : Option Addr) (n c n' c' : Nat), (binOp .eql 66 (.slice a n c) (.slice none n' c')).run Try.prog w = .ok (.bool a.isNone) w := fun w a n c n' c' => Lib.run_eql_slice_nil w _ _ a n c n' c' Try.underlying66
  cases A with
  | none =>
    have hl : l.length = 0 := by
      rcases Nat.eq_zero_or_pos l.length with h0 | h0
      · exact h0
      · obtain ⟨_, _, e, -⟩ := h.2.2 h0
        cases e
    have HL := Lib.hid hl
    have hnil : ArrP w none l 0 := ⟨by omega, by omega, fun hh => absurd hh (by omega)⟩
    clear h hl hn
    go_enter Try.func43, Try.ntmps43
    go_wp2_with fail
    go_ret
    exact ⟨none, 0, by rw [HL.out]; rfl, hnil, fun _ h => (by cases h), Below.refl _ _⟩
  | some ad =>
    go_enter Try.func43, Try.ntmps43
    go_wp2_with (at_builtin
                 refine wpList_copy rfl (.tmp 5) (.tmp 6) 66 rfl 81 i0 _ 3 24 Try.underlying66 hi hz0 hz1 hz2 rfl (by decide) w.heap.size w.heap.size rfl (Nat.le_refl _) (heap_alloc_new _ _) (some ad) l.length c _ rfl (Arr.keep (Keep.alloc w _) h) (by intro i j; unfold ptCells; split <;> rfl) (by unfold maxLen; omega) (by omega) ?_
                 intro A1 c1 w1 ha hb)
    go_ret
    exact ⟨A1, c1, rfl, own_arrN ha, own_above ha, ((Below.refl _ _).alloc (Nat.le_refl _) _).trans hb⟩

/-- A row that lies in none of the blocks S. -/
def Aw (S : Nat → Prop) (w : World) (A : Option Addr) (n c size : Nat) (C : Nat → Nat → Value) : Prop :=
  n ≤ c ∧ c ≤ 9223372036854775807 ∧ (0 < n → ∃ b o, A = some ⟨b, o, none⟩ ∧ ¬ S b ∧ ∀ i j, i < n → j < size → w.cell? ⟨b, o + i * size + j, none⟩ = some (C i j))
theorem Aw.arr {S : Nat → Prop} {w : World} {A : Option Addr} {n c size : Nat} {C : Nat → Nat → Value} (h : Aw S w A n c size C) : Arr w A n c size C := by
  refine ⟨h.1, h.2.1, fun hn => ?_⟩
  obtain ⟨b, o, h1, -, h2⟩ := h.2.2 hn
  exact ⟨b, o, h1, h2⟩
theorem Aw.keep {S : Nat → Prop} {w w' : World} (k : Keep w w') {A : Option Addr} {n c size : Nat} {C : Nat → Nat → Value} (h : Aw S w A n c size C) : Aw S w' A n c size C := by
  refine ⟨h.1, h.2.1, fun hn => ?_⟩
  obtain ⟨b, o, h1, h2, h3⟩ := h.2.2 hn
  exact ⟨b, o, h1, h2, fun i j hi hj => k _ _ (h3 i j hi hj)⟩
theorem Aw.set {S : Nat → Prop} {w : World} {A : Option Addr} {n c size : Nat} {C : Nat → Nat → Value} (h : Aw S w A n c size C) {p : Addr} (hp : S p.block) (v : Value) : Aw S (w.setCell p v) A n c size C := by
  refine ⟨h.1, h.2.1, fun hn => ?_⟩
  obtain ⟨b, o, h1, h2, h3⟩ := h.2.2 hn
  refine ⟨b, o, h1, h2, fun i j hi hj => (World.cell?_setCell_far _ _ _ _ ?_).trans (h3 i j hi hj)⟩
  intro e
  have e2 : p.block = b := e
  exact h2 (e2 ▸ hp)
/-- What lay ahead of memory B lies in none of S, if S has none ahead of it. -/
theorem Aw.old {S : Nat → Prop} {w : World} {A : Option Addr} {n c size : Nat} {C : Nat → Nat → Value} (h : Arr w A n c size C) (hs : 0 < size) (hS : ∀ b, b < w.heap.size → ¬ S b) : Aw S w A n c size C := by
  refine ⟨h.1, h.2.1, fun hn => ?_⟩
  obtain ⟨b, o, h1, h3⟩ := h.2.2 hn
  exact ⟨b, o, h1, hS b (World.block_lt_of_cell? w _ (h3 0 0 hn hs)), h3⟩
theorem Aw.new {S : Nat → Prop} {B : Nat} {w : World} {A : Option Addr} {n c size : Nat} {C : Nat → Nat → Value} (h : Arr w A n c size C) (ha : Above B A) (hS : ∀ b, B ≤ b → ¬ S b) : Aw S w A n c size C := by
  refine ⟨h.1, h.2.1, fun hn => ?_⟩
  obtain ⟨b, o, h1, h3⟩ := h.2.2 hn
  exact ⟨b, o, h1, hS b (ha _ h1), h3⟩
abbrev AwP (S : Nat → Prop) (w : World) (A : Option Addr) (l : List Pt) (c : Nat) : Prop := Aw S w A l.length c 3 fun i j => ptCells (listP l i) j
abbrev AwS (S : Nat → Prop) (w : World) (A : Option Addr) (l : List ByteArray) (c : Nat) : Prop := Aw S w A l.length c 1 fun i _ => .string (listS l i)
/-- Roads in a row of their own, the block x, which may be written. -/
structure RowD (w : World) (x : Nat) (l : List Rd) (a : DA) : Prop where
  cells : ∀ i j, i < l.length → j < 5 → w.cell? ⟨x, i * 5 + j, none⟩ = some (rdCells (listD l i) (a.p i) (a.pc i) j)
  free : ∀ k, w.frozen? ⟨x, k, none⟩ = false
theorem RowD.below {B : Nat} {w w' : World} {x : Nat} {l : List Rd} {a : DA} (m : RowD w x l a) (h : Below B w w') (hx : x < B) : RowD w' x l a :=
  ⟨fun i j hi hj => (h.cell (p := ⟨x, i * 5 + j, none⟩) hx).trans (m.cells i j hi hj), fun k => (h.frozen (p := ⟨x, k, none⟩) hx).trans (m.free k)⟩
theorem RowD.far {w : World} {x : Nat} {l : List Rd} {a : DA} (m : RowD w x l a) {p : Addr} (hp : p.block ≠ x) (v : Value) : RowD (w.setCell p v) x l a :=
  ⟨fun i j hi hj => (World.cell?_setCell_far _ _ _ _ hp).trans (m.cells i j hi hj), fun k => (World.frozen?_setCell _ _ _ _).trans (m.free k)⟩
theorem RowD.put {w : World} {x : Nat} {l : List Rd} {a : DA} (m : RowD w x l a) {k : Nat} (hk : k < l.length) (A : Option Addr) (c : Nat) : RowD (w.setCell ⟨x, k * 5 + 4, none⟩ (.slice A (listD l k).pts.length c)) x l (a.put k A c) := by
  refine ⟨fun i j hi hj => ?_, fun k => (World.frozen?_setCell _ _ _ _).trans (m.free k)⟩
  by_cases h : i * 5 + j = k * 5 + 4
  · have hi' : i = k := by omega
    have hj' : j = 4 := by omega
    subst hi'; subst hj'
    rw [World.cell?_setCell_same _ _ _ (m.cells i 4 hi hj)]
    simp [rdCells, DA.put]
  · rw [World.cell?_setCell_other _ _ _ _ (by intro e; injection e with _ e; omega), m.cells i j hi hj]
    by_cases hik : i = k
    · subst hik
      have : j < 4 := by omega
      match j, this with
      | 0, _ => rfl
      | 1, _ => rfl
      | 2, _ => rfl
      | 3, _ => rfl
    · simp only [DA.put, if_neg hik]
theorem RowD.arr {w : World} {x : Nat} {l : List Rd} {a : DA} (m : RowD w x l a) {c : Nat} (hc : l.length ≤ c) (hc2 : c ≤ 9223372036854775807) : Arr w (some ⟨x, 0, none⟩) l.length c 5 (fun i j => rdCells (listD l i) (a.p i) (a.pc i) j) :=
  ⟨hc, hc2, fun _ => ⟨x, 0, rfl, fun i j hi hj => by rw [Nat.zero_add]; exact m.cells i j hi hj⟩⟩
/-- An own row is nil, or has a block. -/
theorem rowD_of {w : World} {base c : Nat} {R : Option Addr} {l : List Rd} {a : DA} {ty : TypeId} (h : w.ownsRow base ty 5 (.slice R l.length c) l.length (rowVals l a l.length)) :
    l.length ≤ c ∧ c ≤ 9223372036854775807 ∧ (0 < l.length → ∃ x, R = some ⟨x, 0, none⟩ ∧ base ≤ x ∧ x < w.heap.size ∧ RowD w x l a) := by
  have hA := own_arrN (show w.ownsRow base ty 5 (.slice R l.length c) l.length (flat l.length 5 _) from h)
  refine ⟨hA.1, hA.2.1, fun hn => ?_⟩
  rcases h.2 with ⟨hv, h0⟩ | ⟨g, cap, cur, hv, hb, hh, h1, h2, h3, h4⟩
  · omega
  · injection hv with hv
    subst hv
    obtain ⟨b, o, e, hc⟩ := hA.2.2 hn
    injection e with e
    injection e with e1 e2
    subst e1; subst e2
    have hlt : g < w.heap.size := World.block_lt_of_cell? w _ (hc 0 0 hn (by decide))
    refine ⟨g, rfl, hb, hlt, ⟨fun i j hi hj => by have := hc i j hi hj; rwa [Nat.zero_add] at this, fun k => ?_⟩⟩
    unfold World.frozen?
    dsimp only
    rw [hh]
    simp

/-- The two cells of a net, the first of which may be written. -/
structure OutB (w : World) (g : Nat) (u v : Value) : Prop where
  c0 : w.cell? ⟨g, 0, none⟩ = some u
  c1 : w.cell? ⟨g, 1, none⟩ = some v
  f0 : w.frozen? ⟨g, 0, none⟩ = false
theorem OutB.lt {w : World} {g : Nat} {u v : Value} (m : OutB w g u v) : g < w.heap.size := World.block_lt_of_cell? w _ m.c0
theorem OutB.below {B : Nat} {w w' : World} {g : Nat} {u v : Value} (m : OutB w g u v) (h : Below B w w') (hg : g < B) : OutB w' g u v :=
  ⟨(h.cell (p := ⟨g, 0, none⟩) hg).trans m.c0, (h.cell (p := ⟨g, 1, none⟩) hg).trans m.c1, (h.frozen (p := ⟨g, 0, none⟩) hg).trans m.f0⟩
theorem OutB.far {w : World} {g : Nat} {u v : Value} (m : OutB w g u v) {p : Addr} (hp : p.block ≠ g) (x : Value) : OutB (w.setCell p x) g u v :=
  ⟨(World.cell?_setCell_far _ _ _ _ hp).trans m.c0, (World.cell?_setCell_far _ _ _ _ hp).trans m.c1, (World.frozen?_setCell _ _ _ _).trans m.f0⟩
theorem OutB.set {w : World} {g : Nat} {u v : Value} (m : OutB w g u v) (x : Value) : OutB (w.setCell ⟨g, 0, none⟩ x) g x v :=
  ⟨World.cell?_setCell_same _ _ _ m.c0, (World.cell?_setCell_other _ _ _ _ (by simp)).trans m.c1, (World.frozen?_setCell _ _ _ _).trans m.f0⟩
theorem OutB.new (w : World) (u v : Value) (t : TypeId) : OutB (w.alloc (.cells #[u, v] t)) w.heap.size u v := ⟨cellNew _ _ _ 0, cellNew _ _ _ 1, frozenNew _ _ _ 0⟩
/-- The two cells of a net without anything, which may be written. -/
structure OutZ (w : World) (g : Nat) : Prop where
  c0 : w.cell? ⟨g, 0, none⟩ = some (.slice none 0 0)
  c1 : w.cell? ⟨g, 1, none⟩ = some (.slice none 0 0)
  f0 : w.frozen? ⟨g, 0, none⟩ = false
  f1 : w.frozen? ⟨g, 1, none⟩ = false
theorem OutZ.lt {w : World} {g : Nat} (m : OutZ w g) : g < w.heap.size := World.block_lt_of_cell? w _ m.c0
theorem OutZ.below {B : Nat} {w w' : World} {g : Nat} (m : OutZ w g) (h : Below B w w') (hg : g < B) : OutZ w' g :=
  ⟨(h.cell (p := ⟨g, 0, none⟩) hg).trans m.c0, (h.cell (p := ⟨g, 1, none⟩) hg).trans m.c1, (h.frozen (p := ⟨g, 0, none⟩) hg).trans m.f0, (h.frozen (p := ⟨g, 1, none⟩) hg).trans m.f1⟩
theorem OutZ.far {w : World} {g : Nat} (m : OutZ w g) {p : Addr} (hp : p.block ≠ g) (x : Value) : OutZ (w.setCell p x) g :=
  ⟨(World.cell?_setCell_far _ _ _ _ hp).trans m.c0, (World.cell?_setCell_far _ _ _ _ hp).trans m.c1, (World.frozen?_setCell _ _ _ _).trans m.f0, (World.frozen?_setCell _ _ _ _).trans m.f1⟩
theorem OutZ.new1 (w : World) (A : Obj) (t : TypeId) : OutZ ((w.alloc A).alloc (.cells #[.slice none 0 0, .slice none 0 0] t)) (w.heap.size + 1) :=
  ⟨cellNew1 _ _ _ _ 0, cellNew1 _ _ _ _ 1, frozenNew1 _ _ _ _ 0, frozenNew1 _ _ _ _ 1⟩
def Fs.woErr (N : Net) (i : Int) : Int := fst (listI [netErr N, noRoad N i]) 2
def Fs.woNet (N : Net) (i : Int) : Net := if woErr N i = 0 then withoutN N i.toNat else ⟨[], []⟩
theorem Fs.woErr_ok {N : Net} {i : Int} (h : woErr N i = 0) : netErr N = 0 ∧ 0 ≤ i ∧ i < N.roads.length := by
  have h1 : noRoad N i = 0 := fst_zero h 1 (by decide)
  refine ⟨fst_zero h 0 (by decide), ?_⟩
  unfold noRoad at h1
  cases hp : isRoad N i with
  | true => have h := Fs.within_iff.1 hp; exact ⟨h.1, by omega⟩
  | false => rw [hp] at h1; exact absurd h1 (by decide)

set_option linter.unusedSimpArgs false in
set_option maxHeartbeats 6400000 in
set_option maxRecDepth 100000 in
theorem without_any (N : Net) (v : Value) (i : Int) (w : World) (hN : RdNet w v N) :
    Calls Try.prog 20 #[v, .int .i64 i] w fun e w' => ∃ v', e = .returned (.tuple #[v', .int .i64 (woErr N i)]) ∧ RdNet w' v' (woNet N i) ∧ Below w.heap.size w w' := by
  have hN0 := Lib.hid hN
  obtain ⟨P, R, pc, rc, ar, rfl, m⟩ := hN
  have M := Lib.hid m
  clear m
  have BN := Lib.hid ((BoxN.new w N P R pc rc 25).keep (Keep.alloc _ (.cells #[.slice none 0 0, .slice none 0 0] 25)))
  have BZ : Hid (OutZ ((w.alloc (.cells #[.slice P N.places.length pc, .slice R N.roads.length rc] 25)).alloc (.cells #[.slice none 0 0, .slice none 0 0] 25)) (w.heap.size + 1)) := Lib.hid (OutZ.new1 w _ _)
  go_enter Try.func20, Try.ntmps20
  go_upto_region 1 with fail
  generalize hwb : (w.alloc _).alloc _ = wb at *
  have HW : Hid (Below w.heap.size w wb) := by rw [← hwb]; exact Lib.hid (((Below.refl _ _).alloc (Nat.le_refl _) _).alloc (by simp) _)
  clear hwb
  obtain ⟨n0, n1⟩ := BN.out
  go_cut [6] from 9 to 15 (fun s wx => s = .int .i64 (woErr N i) ∧ Hid (Below wb.heap.size wb wx))
  case first =>
    have HBd : Hid (Below wb.heap.size wb wb.drew) := Lib.hid (Below.refl _ _).drew
    have MK : Hid (∀ w', Below wb.heap.size wb w' → w'.cell? ⟨w.heap.size, 0, none⟩ = some (.slice P N.places.length pc) ∧ w'.cell? ⟨w.heap.size, 1, none⟩ = some (.slice R N.roads.length rc) ∧ Hid (Below wb.heap.size wb w')) :=
      Lib.hid fun w' hw => ⟨Keep.below hw _ _ n0, Keep.below hw _ _ n1, Lib.hid hw⟩
    have KN : Hid (∀ w', Below wb.heap.size wb w' → RdNet w' (netV N P R pc rc) N) := Lib.hid fun w' hw => (hN0.out.keep (Keep.below (HW.out.trans (hw.mono HW.out.size))))
    go_region_held3 (fun w' => w'.cell? ⟨w.heap.size, 0, none⟩ = some (.slice P N.places.length pc) ∧ w'.cell? ⟨w.heap.size, 1, none⟩ = some (.slice R N.roads.length rc) ∧ Hid (Below wb.heap.size wb w'))
      (first
        | exact MK.out _ HBd.out
        | (go_split_ands; exact ⟨by assumption, by assumption, by assumption⟩)
        | (go_split_ands; exact MK.out _ (Below.trans (Hid.out (by assumption)) (hb1.mono (Hid.out (by assumption) : Below wb.heap.size wb _).size)))
        | (go_split_ands; exact MK.out _ (Below.alloc (Hid.out (by assumption)) (Hid.out (by assumption) : Below wb.heap.size wb _).size _)))
      ((first
        | (go_at_call 32
           go_split_ands
           refine (errNet_any N _ _ (KN.out _ (Hid.out (by assumption)))).mono ?_
           rintro e' w1 ⟨rfl, hb1⟩)
        | (go_at_call 41
           go_split_ands
           refine (noRoad_any N _ i _ (KN.out _ (Hid.out (by assumption)))).mono ?_
           rintro e' w1 ⟨rfl, hb1⟩)
        | (go_at_call 31
           go_split_ands
           refine (firstError_any [netErr N, noRoad N i] _ _ _ (by first | exact arr2New _ _ _ _ | exact ArrI.keep (Keep.drew _) (arr2New _ _ _ _))).mono ?_
           rintro e' w1 ⟨rfl, rfl⟩)))
    all_goals
      rename_i hS
      obtain ⟨-, -, hbb⟩ := hS
      go_wp2_with fail
      go_meet
      first
        | exact ⟨rfl, hbb⟩
  case rest =>
    obtain ⟨rfl, HB⟩ := hcut
    obtain ⟨wp, hwp⟩ : ∃ wp, wp = wc := ⟨_, rfl⟩
    subst hwp
    replace BN := Lib.hid (BN.out.keep (Keep.below HB.out))
    replace BZ := Lib.hid (BZ.out.below HB.out BZ.out.lt)
    replace HW := Lib.hid (HW.out.trans (HB.out.mono HW.out.size))
    clear HB n0 n1
    by_cases he : woErr N i = 0
    · obtain ⟨hE, hi0, hi1⟩ := woErr_ok he
      have HE := Lib.hid hE
      have HF := Lib.hid (show woNet N i = withoutN N i.toNat from if_pos he)
      have h60 := (net_sound hE).2.2.1
      have h20 := (net_sound hE).2.1
      have HE0 := Lib.hid he
      rw [he]
      clear he hE
      obtain ⟨r, hX⟩ : ∃ r : Nat, i = r := ⟨_, (Int.toNat_of_nonneg hi0).symm⟩
      subst hX
      rw [Int.toNat_natCast] at HF
      have hr : r < N.roads.length := by omega
      obtain ⟨n0, n1⟩ := BN.out
      go_wp2_with fail
      refine (wo_any N P R pc rc ar r _ (M.out.keep (Keep.below HW.out)) hr (by omega)).mono ?_
      rintro e' w1 ⟨R1, rc1, rfl, ho, hb1⟩
      have h1s := hb1.size
      have hzl := BZ.out.lt
      replace BZ := Lib.hid (BZ.out.below hb1 BZ.out.lt)
      have HWp := HW
      replace HW := Lib.hid (HW.out.trans (hb1.mono HW.out.size))
      have hlN : (withoutN N r).roads.length ≤ 60 := by rw [wo_len hr]; omega
      generalize hM : withoutN N r = KK at *
      have HKp := Lib.hid (show KK.places = N.places by rw [← hM]; rfl)
      have HKr := Lib.hid (show ∀ j, j < KK.roads.length → listD KK.roads j = listD N.roads (upOf r j) ∧ upOf r j < N.roads.length from fun j hj => by subst hM; exact ⟨wo_at N r j, upOf_lt hr hj⟩)
      have HPL := Lib.hid (show ∀ j, j < N.roads.length → (listD N.roads j).pts.length ≤ 8 from fun j hj => (net_roads_ok HE.out j hj).pts.2.1)
      clear hM
      obtain ⟨x, hx1, hx2, hx3⟩ : ∃ x, w.heap.size < x ∧ x < w1.heap.size ∧ (0 < KK.roads.length → R1 = some ⟨x, 0, none⟩ ∧ w.heap.size + 1 < x ∧ RowD w1 x KK.roads (ar.wo r)) := by
        by_cases hp : 0 < KK.roads.length
        · obtain ⟨x, q1, q2, q3, q4⟩ := (rowD_of ho).2.2 hp
          exact ⟨x, by omega, q3, fun _ => ⟨q1, by omega, q4⟩⟩
        · exact ⟨w.heap.size + 1, by omega, by omega, fun h => absurd h hp⟩
      have hc1 := (rowD_of ho).1
      have hc2 := (rowD_of ho).2.1
      have HX3 := Lib.hid hx3
      have MPl := Lib.hid (show ArrS w1 P KK.places pc by rw [HKp.out]; exact M.out.places.keep (Keep.below HW.out))
      have hpl : KK.places.length ≤ 20 := by rw [HKp.out]; exact h20
      have hbx : Below w.heap.size w w1 := HW.out
      obtain ⟨g, hg⟩ : ∃ g, g = w1.heap.size := ⟨_, rfl⟩
      have HS := Lib.hid (show ∀ b, b < w.heap.size → ¬ (b = w.heap.size + 1 ∨ b = g ∨ b = x) from fun b hb h => by rcases h with h | h | h <;> omega)
      have HS2 := Lib.hid (show ∀ b, g + 1 ≤ b → ¬ (b = w.heap.size + 1 ∨ b = g ∨ b = x) from fun b hb h => by rcases h with h | h | h <;> omega)
      have AQ := Lib.hid (show ∀ i, i < KK.roads.length → AwP (fun b => b = w.heap.size + 1 ∨ b = g ∨ b = x) w1 ((ar.wo r).p i) (listD KK.roads i).pts ((ar.wo r).pc i) from fun i hi => by
        rw [(HKr.out i hi).1]
        exact Aw.keep (Keep.below HW.out) (Aw.old (M.out.roads.2 _ (HKr.out i hi).2) (by decide) HS.out))
      have HPT := Lib.hid (show ∀ i, i < KK.roads.length → (listD KK.roads i).pts.length ≤ 8 from fun i hi => by rw [(HKr.out i hi).1]; exact HPL.out _ (HKr.out i hi).2)
      have OB := Lib.hid (OutB.new w1 (.slice P KK.places.length pc) (.slice R1 KK.roads.length rc1) 25)
      have HG : Hid (Below w1.heap.size w1 (w1.alloc (.cells #[.slice P KK.places.length pc, .slice R1 KK.roads.length rc1] 25))) := Lib.hid ((Below.refl _ _).alloc (Nat.le_refl _) _)
      clear hb1 ho hx3 n0 n1 hbx
      go_upto_region 5 with fail
      rw [← hg] at OB ⊢
      generalize hwo : w1.alloc _ = wo at *
      have hos : g + 1 ≤ wo.heap.size := by rw [hg, ← hwo]; simp
      have hg1 : g ≤ w1.heap.size := by omega
      have hg2 : w1.heap.size ≤ g := by omega
      clear hwo hg
      replace BZ := Lib.hid (BZ.out.below HG.out (by omega))
      replace MPl := Lib.hid (MPl.out.keep (Keep.below HG.out))
      replace AQ := Lib.hid fun i hi => (AQ.out i hi).keep (Keep.below HG.out)
      replace HX3 := Lib.hid (show 0 < KK.roads.length → R1 = some ⟨x, 0, none⟩ ∧ w.heap.size + 1 < x ∧ RowD wo x KK.roads (ar.wo r) from fun h => ⟨(HX3.out h).1, (HX3.out h).2.1, (HX3.out h).2.2.below HG.out hx2⟩)
      replace HW := Lib.hid (HW.out.trans (HG.out.mono HW.out.size))
      clear HG
      obtain ⟨o0, o1, of0⟩ := OB.out
      go_wp2_with fail
      refine (cloneTexts_any KK.places P pc _ MPl.out (by omega)).mono ?_
      rintro e' w2 ⟨A2, c2, rfl, ha2, hab2, hb2⟩
      have h2s := hb2.size
      have AP := Lib.hid ((Aw.new ha2 hab2 (fun b hb => HS2.out b (by omega))).set (p := ⟨g, 0, none⟩) (.inr (.inl rfl)) (.slice A2 KK.places.length c2))
      have OB2 := Lib.hid (OB.out.below hb2 (by omega))
      have OB3 := Lib.hid (OB2.out.set (.slice A2 KK.places.length c2))
      replace BZ := Lib.hid ((BZ.out.below hb2 (by omega)).far (p := ⟨g, 0, none⟩) (by show g ≠ _; omega) (.slice A2 KK.places.length c2))
      replace AQ := Lib.hid fun i hi => ((AQ.out i hi).keep (Keep.below hb2)).set (p := ⟨g, 0, none⟩) (.inr (.inl rfl)) (.slice A2 KK.places.length c2)
      replace HX3 := Lib.hid (show 0 < KK.roads.length → R1 = some ⟨x, 0, none⟩ ∧ w.heap.size + 1 < x ∧ RowD (w2.setCell ⟨g, 0, none⟩ (.slice A2 KK.places.length c2)) x KK.roads (ar.wo r) from fun h => ⟨(HX3.out h).1, (HX3.out h).2.1, ((HX3.out h).2.2.below hb2 (by omega)).far (p := ⟨g, 0, none⟩) (by show g ≠ x; omega) _⟩)
      replace HW := Lib.hid ((HW.out.trans (hb2.mono HW.out.size)).setCell (p := ⟨g, 0, none⟩) (by show w.heap.size ≤ g; omega) (.slice A2 KK.places.length c2))
      clear ha2 hab2 hb2 o0 o1 of0 OB MPl
      obtain ⟨o0, o1, of0⟩ := OB2.out
      go_upto_region 6 with fail
      generalize w2.setCell _ _ = w3 at *
      clear o0 o1 of0 OB2 h2s
      obtain ⟨o0, o1, of0⟩ := OB3.out
      go_wp2_with fail
      clear o0 o1 of0
      go_loopw [30] (fun u wr => ∃ (k : Nat) (b : DA), k ≤ KK.roads.length ∧ u = .int .i64 k ∧ Hid (0 < KK.roads.length → R1 = some ⟨x, 0, none⟩ ∧ w.heap.size + 1 < x ∧ RowD wr x KK.roads b) ∧ Hid (∀ i, i < KK.roads.length → AwP (fun b => b = w.heap.size + 1 ∨ b = g ∨ b = x) wr (b.p i) (listD KK.roads i).pts (b.pc i)) ∧
        Hid (AwS (fun b => b = w.heap.size + 1 ∨ b = g ∨ b = x) wr A2 KK.places c2) ∧ Hid (OutB wr g (.slice A2 KK.places.length c2) (.slice R1 KK.roads.length rc1)) ∧ Hid (OutZ wr (w.heap.size + 1)) ∧ Hid (Below w.heap.size w wr)) (fun u _ => KK.roads.length - (intOf u).toNat)
      case atStart => exact ⟨0, _, Nat.zero_le _, rfl, HX3, AQ, AP, OB3, BZ, HW⟩
      case round =>
        obtain ⟨k, b, hk, rfl, HRk, HQk, HPk, HOk, HZk, HWk⟩ := hrel
        obtain ⟨o0, o1, of0⟩ := HOk.out
        have hol := HOk.out.lt
        by_cases hlt : k < KK.roads.length
        · obtain ⟨hR1, hxx, hrow⟩ := HRk.out (by omega)
          have HROW := Lib.hid hrow
          have hR2 := Lib.hid hR1
          rw [hR1] at o1
          have q4 := hrow.cells k 4 hlt (by decide)
          have q4 : wr.cell? ⟨x, k * 5 + 4, none⟩ = some (.slice (b.p k) (listD KK.roads k).pts.length (b.pc k)) := q4
          have hkn : (k : Int) < (KK.roads.length : Int) := by omega
          have hp8 := HPT.out k hlt
          have KP := Lib.hid (HQk.out k hlt)
          have kp1 := KP.out.1
          have kp2 := KP.out.2.1
          have HBd : Hid (Below wr.heap.size wr wr.drew) := Lib.hid (Below.refl _ _).drew
          have MK : Hid (∀ w', Below wr.heap.size wr w' → w'.cell? ⟨g, 1, none⟩ = some (.slice (some ⟨x, 0, none⟩) KK.roads.length rc1) ∧ w'.cell? ⟨x, k * 5 + 4, none⟩ = some (.slice (b.p k) (listD KK.roads k).pts.length (b.pc k)) ∧ Hid (Below wr.heap.size wr w')) :=
            Lib.hid fun w' hw => ⟨Keep.below hw _ _ o1, Keep.below hw _ _ q4, Lib.hid hw⟩
          clear hrow hR1
          obtain ⟨wq, hwq⟩ : ∃ wq : World, wq = wr := ⟨_, rfl⟩
          subst hwq
          go_wp2_with fail
          refine heldPeel (S := fun w' => w'.cell? ⟨g, 1, none⟩ = some (.slice (some ⟨x, 0, none⟩) KK.roads.length rc1) ∧ w'.cell? ⟨x, k * 5 + 4, none⟩ = some (.slice (b.p k) (listD KK.roads k).pts.length (b.pc k)) ∧ Hid (Below wq.heap.size wq w')) (l := [_, _, _, _, _, _, _, _, _, _, _, _]) (by kernel_rfl) (by kernel_rfl) (MK.out _ HBd.out) (fun hHeld => ?_)
          refine wpAnyH_take (i := 0) (v := ?val0x1) rfl (by kernel_rfl) (by kernel_rfl) (by kernel_rfl) (fun _ _ _ h => h) (Or.inl ⟨by rfl, fun w9 hS9 => ?yields0x1⟩) (by assumption) ?later0x1
          case yields0x1 =>
            dsimp only at hS9
            go_simp
            try with_reducible rfl
          try simp only [Act.put, List.getElem_toArray, List.getElem_cons_succ, List.getElem_cons_zero, List.setIfInBounds_toArray, List.set_cons_zero, List.set_cons_succ]
          refine wpAnyH_take (i := 1) (v := ?val1x2) rfl (by kernel_rfl) (by kernel_rfl) (by kernel_rfl) (fun _ _ _ h => h) (Or.inl ⟨by rfl, fun w9 hS9 => ?yields1x2⟩) (by assumption) ?later1x2
          case yields1x2 =>
            dsimp only at hS9
            go_simp
            try with_reducible rfl
          try simp only [Act.put, List.getElem_toArray, List.getElem_cons_succ, List.getElem_cons_zero, List.setIfInBounds_toArray, List.set_cons_zero, List.set_cons_succ]
          refine wpAnyH_take (i := 2) (v := ?val2x3) rfl (by kernel_rfl) (by kernel_rfl) (by kernel_rfl) (fun _ _ _ h => h) (Or.inl ⟨by rfl, fun w9 hS9 => ?yields2x3⟩) (by assumption) ?later2x3
          case yields2x3 =>
            dsimp only at hS9
            go_simp
            try with_reducible rfl
          try simp only [Act.put, List.getElem_toArray, List.getElem_cons_succ, List.getElem_cons_zero, List.setIfInBounds_toArray, List.set_cons_zero, List.set_cons_succ]
          refine wpAnyH_take (i := 3) (v := ?val3x4) rfl (by kernel_rfl) (by kernel_rfl) (by kernel_rfl) (fun _ _ _ h => h) (Or.inl ⟨by rfl, fun w9 hS9 => ?yields3x4⟩) (by assumption) ?later3x4
          case yields3x4 =>
            dsimp only at hS9
            go_simp
            try with_reducible rfl
          try simp only [Act.put, List.getElem_toArray, List.getElem_cons_succ, List.getElem_cons_zero, List.setIfInBounds_toArray, List.set_cons_zero, List.set_cons_succ]
          refine wpAnyH_take (i := 4) (v := ?val4x5) rfl (by kernel_rfl) (by kernel_rfl) (by kernel_rfl) (fun _ _ _ h => h) (Or.inl ⟨by rfl, fun w9 hS9 => ?yields4x5⟩) (by assumption) ?later4x5
          case yields4x5 =>
            dsimp only at hS9
            go_simp
            try with_reducible rfl
          try simp only [Act.put, List.getElem_toArray, List.getElem_cons_succ, List.getElem_cons_zero, List.setIfInBounds_toArray, List.set_cons_zero, List.set_cons_succ]
          refine wpAnyH_take (i := 5) (v := ?val5x6) rfl (by kernel_rfl) (by kernel_rfl) (by kernel_rfl) (fun _ _ _ h => h) (Or.inl ⟨by rfl, fun w9 hS9 => ?yields5x6⟩) (by assumption) ?later5x6
          case yields5x6 =>
            dsimp only at hS9
            go_simp
            try with_reducible rfl
          try simp only [Act.put, List.getElem_toArray, List.getElem_cons_succ, List.getElem_cons_zero, List.setIfInBounds_toArray, List.set_cons_zero, List.set_cons_succ]
          refine wpAnyH_take (i := 6) (v := ?val6x7) rfl (by kernel_rfl) (by kernel_rfl) (by kernel_rfl) (fun _ _ _ h => h) (Or.inl ⟨by rfl, fun w9 hS9 => ?yields6x7⟩) (by assumption) ?later6x7
          case yields6x7 =>
            dsimp only at hS9
            go_simp
            try with_reducible rfl
          try simp only [Act.put, List.getElem_toArray, List.getElem_cons_succ, List.getElem_cons_zero, List.setIfInBounds_toArray, List.set_cons_zero, List.set_cons_succ]
          refine wpAnyH_take (i := 7) (v := ?val7x8) rfl (by kernel_rfl) (by kernel_rfl) (by kernel_rfl) (fun _ _ _ h => h) (Or.inl ⟨by rfl, fun w9 hS9 => ?yields7x8⟩) (by assumption) ?later7x8
          case yields7x8 =>
            dsimp only at hS9
            go_simp
            try with_reducible rfl
          try simp only [Act.put, List.getElem_toArray, List.getElem_cons_succ, List.getElem_cons_zero, List.setIfInBounds_toArray, List.set_cons_zero, List.set_cons_succ]
          refine wpAnyH_take (i := 8) (v := ?val8x9) rfl (by kernel_rfl) (by kernel_rfl) (by kernel_rfl) (fun _ _ _ h => h) (Or.inl ⟨by rfl, fun w9 hS9 => ?yields8x9⟩) (by assumption) ?later8x9
          case yields8x9 =>
            dsimp only at hS9
            go_simp
            try with_reducible rfl
          try simp only [Act.put, List.getElem_toArray, List.getElem_cons_succ, List.getElem_cons_zero, List.setIfInBounds_toArray, List.set_cons_zero, List.set_cons_succ]
          refine wpAnyH_ready (rs := [9]) (by kernel_rfl) (by simp) ?_
          refine AllReadyH.cons rfl (fun K hK => ?_) AllReadyH.nil
          go_simp
          go_split_ands
          refine (clonePts_any (listD KK.roads k).pts (b.p k) (b.pc k) _ (KP.out.arr.keep (Keep.below (Hid.out (by assumption)))) (by omega)).mono ?_
          rintro e' w8 ⟨A8, c8, rfl, h8, h9, hb1⟩
          replace h8 := Lib.hid h8
          replace h9 := Lib.hid h9
          go_wp2_with fail
          refine hK.out _ _ ?_ (fun hHeld => ?_)
          · (try dsimp only)
            (go_split_ands; exact MK.out _ (Below.trans (Hid.out (by assumption)) (hb1.mono (Hid.out (by assumption) : Below wq.heap.size wq _).size)))
          clear hK K
          try simp only [Act.put, List.getElem_toArray, List.getElem_cons_succ, List.getElem_cons_zero, List.setIfInBounds_toArray, List.set_cons_zero, List.set_cons_succ]
          refine wpAnyH_take (i := 10) (v := ?val10x10) rfl (by kernel_rfl) (by kernel_rfl) (by kernel_rfl) (fun _ _ _ h => h) (Or.inl ⟨by rfl, fun w9 hS9 => ?yields10x10⟩) (by assumption) ?later10x10
          case yields10x10 =>
            dsimp only at hS9
            go_simp
            try with_reducible rfl
          try simp only [Act.put, List.getElem_toArray, List.getElem_cons_succ, List.getElem_cons_zero, List.setIfInBounds_toArray, List.set_cons_zero, List.set_cons_succ]
          refine wpAnyH_take (i := 11) (v := ?val11x11) rfl (by kernel_rfl) (by kernel_rfl) (by kernel_rfl) (fun _ _ _ h => h) (Or.inl ⟨by rfl, fun w9 hS9 => ?yields11x11⟩) (by assumption) ?later11x11
          case yields11x11 =>
            dsimp only at hS9
            go_simp
            try with_reducible rfl
          try simp only [Act.put, List.getElem_toArray, List.getElem_cons_succ, List.getElem_cons_zero, List.setIfInBounds_toArray, List.set_cons_zero, List.set_cons_succ]
          refine wpAnyH_done (by kernel_rfl) ?_ _
          unfold Peeled
          dsimp only
          have hbb := hHeld.2.2.out
          clear hHeld
          have hxl : x < wq.heap.size := World.block_lt_of_cell? wq _ q4
          have HROW2 := Lib.hid (HROW.out.below hbb hxl)
          have t4 := Keep.below hbb _ _ q4
          have tf := HROW2.out.free (k * 5 + 4)
          have G1 := Lib.hid (show 0 < KK.roads.length → R1 = some ⟨x, 0, none⟩ ∧ w.heap.size + 1 < x ∧ RowD (w8.setCell ⟨x, k * 5 + 4, none⟩ (.slice A8 (listD KK.roads k).pts.length c8)) x KK.roads (b.put k A8 c8) from fun _ => ⟨hR2.out, hxx, HROW2.out.put hlt A8 c8⟩)
          have G2 := Lib.hid (show ∀ i, i < KK.roads.length → AwP (fun b => b = w.heap.size + 1 ∨ b = g ∨ b = x) (w8.setCell ⟨x, k * 5 + 4, none⟩ (.slice A8 (listD KK.roads k).pts.length c8)) ((b.put k A8 c8).p i) (listD KK.roads i).pts ((b.put k A8 c8).pc i) from fun i hi => by
            by_cases e : i = k
            · subst e
              simp only [DA.put, if_pos]
              exact (Aw.new h8.out h9.out (fun b hb => HS2.out b (Nat.le_trans (by simp at hb ⊢; omega) hb))).set (p := ⟨x, _, none⟩) (.inr (.inr rfl)) _
            · simp only [DA.put, if_neg e]
              exact ((HQk.out i hi).keep (Keep.below hbb)).set (p := ⟨x, _, none⟩) (.inr (.inr rfl)) _)
          have G3 := Lib.hid ((HPk.out.keep (Keep.below hbb)).set (p := ⟨x, k * 5 + 4, none⟩) (.inr (.inr rfl)) (.slice A8 (listD KK.roads k).pts.length c8))
          have G4 := Lib.hid ((HOk.out.below hbb hol).far (p := ⟨x, k * 5 + 4, none⟩) (by show x ≠ g; omega) (.slice A8 (listD KK.roads k).pts.length c8))
          have G5 := Lib.hid ((HZk.out.below hbb HZk.out.lt).far (p := ⟨x, k * 5 + 4, none⟩) (by show x ≠ _; omega) (.slice A8 (listD KK.roads k).pts.length c8))
          have G6 := Lib.hid ((HWk.out.trans (hbb.mono HWk.out.size)).setCell (p := ⟨x, k * 5 + 4, none⟩) (by show w.heap.size ≤ x; omega) (.slice A8 (listD KK.roads k).pts.length c8))
          clear MK HBd hbb o0 o1 of0 q4
          go_wp2_with fail
          go_roundw
          case rel => exact ⟨k + 1, b.put k A8 c8, by omega, by go_num, G1, G2, G3, G4, G5, G6⟩
          case measure => simp [intOf]; omega
        · obtain rfl : k = KK.roads.length := by omega
          clear hlt hk
          obtain ⟨z0, z1, zf0, zf1⟩ := HZk.out
          have HFIN : Hid (RdNet ((wr.setCell ⟨w.heap.size + 1, 0, none⟩ (.slice A2 KK.places.length c2)).setCell ⟨w.heap.size + 1, 1, none⟩ (.slice R1 KK.roads.length rc1)) (.agg #[.slice A2 KK.places.length c2, .slice R1 KK.roads.length rc1]) KK) := Lib.hid ⟨A2, R1, c2, rc1, b, rfl,
            ((HPk.out.set (p := ⟨w.heap.size + 1, 0, none⟩) (.inl rfl) _).set (p := ⟨w.heap.size + 1, 1, none⟩) (.inl rfl) _).arr,
            ⟨by
              by_cases hp : 0 < KK.roads.length
              · obtain ⟨hR1, hxx, hrow⟩ := HRk.out hp
                rw [hR1]
                exact ((hrow.far (p := ⟨w.heap.size + 1, 0, none⟩) (by show w.heap.size + 1 ≠ x; omega) _).far (p := ⟨w.heap.size + 1, 1, none⟩) (by show w.heap.size + 1 ≠ x; omega) _).arr hc1 hc2
              · exact ⟨hc1, hc2, fun h => absurd h hp⟩,
            fun i hi => (((HQk.out i hi).set (p := ⟨w.heap.size + 1, 0, none⟩) (.inl rfl) _).set (p := ⟨w.heap.size + 1, 1, none⟩) (.inl rfl) _).arr⟩⟩
          go_wp2_with fail
          refine bodyPost_ret (v := .tuple #[.agg #[.slice A2 KK.places.length c2, .slice R1 KK.roads.length rc1], .int .i64 0]) (by simp [results, Try.results20, go_sem, z0, z1]) rfl ⟨_, by rw [HE0.out], ?_, ?_⟩
          · rw [HF.out]; exact HFIN.out
          · exact (HWk.out.setCell (p := ⟨w.heap.size + 1, 0, none⟩) (by simp) _).setCell (p := ⟨w.heap.size + 1, 1, none⟩) (by simp) _
    · have HF := Lib.hid (show woNet N i = ⟨[], []⟩ from if_neg he)
      obtain ⟨z0, z1, zf0, zf1⟩ := BZ.out
      have d1 : (woErr N i != 0) = true := by simpa using he
      clear he
      go_wp2_with fail
      refine bodyPost_ret (v := .tuple #[netV ⟨[], []⟩ none none 0 0, (.int .i64 (woErr N i))]) (by simp [results, Try.results20, go_sem, z0, z1]) rfl ⟨_, rfl, ?_, ?_⟩
      · rw [HF.out]
        exact ⟨none, none, 0, 0, ⟨fun _ => none, fun _ => 0⟩, rfl, ⟨⟨Nat.le_refl _, by decide, fun hh => absurd hh (by decide)⟩, ⟨Nat.le_refl _, by decide, fun hh => absurd hh (by decide)⟩, fun j hj => absurd hj (Nat.not_lt_zero _)⟩⟩
      · exact (HW.out.setCell (p := ⟨w.heap.size + 1, 0, none⟩) (by simp) _).setCell (p := ⟨w.heap.size + 1, 1, none⟩) (by simp) _
end Go.Proofs.Ytnjaadmmbdlfoaa

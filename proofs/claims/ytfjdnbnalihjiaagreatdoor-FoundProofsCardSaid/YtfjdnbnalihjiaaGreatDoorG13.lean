/- No more pairs than a cover has, plainly. No condition. -/
import Derived.Test.YtfjdnbnalihjiaaGreatDoorG12
import Derived.Test.YtfjdnbnalihjiaaGreatDoorK6
import Derived.Test.YtfjdnbnalihjiaaGreatDoorK8
import Derived.Test.YtfjdnbnalihjiaaGreatDoorK10
namespace Go.Proofs.YtfjdnbnalihjiaaGreatDoor
open Go.RowKit Fs

namespace Fs
theorem nodup_le {L M : List Int} (h : L.Nodup) (hs : ∀ x ∈ L, x ∈ M) : L.length ≤ M.length := by
  induction L generalizing M with
  | nil => exact Nat.zero_le _
  | cons x L ih =>
    rw [List.nodup_cons] at h
    have hx := hs x (List.mem_cons_self ..)
    have h1 := ih (M := M.erase x) h.2 (fun y hy => (List.mem_erase_of_ne (fun e : y = x => h.1 (by rw [← e]; exact hy))).2 (hs y (List.mem_cons_of_mem _ hy)))
    rw [List.length_erase_of_mem hx] at h1
    have : 0 < M.length := List.length_pos_of_mem hx
    rw [List.length_cons]
    omega
structure PairsOk (l c : List Thg) (p : List (Int × Int)) : Prop where
  both : pairErr l c = 0
  len : p.length ≤ 12
  one : ∀ i, i < p.length → pairAt l c p i = 0
theorem pairs_ok {l c : List Thg} {p : List (Int × Int)} (h : pairsErr l c p = 0) : PairsOk l c p := by
  unfold pairsErr at h
  by_cases e : pairErr l c = 0
  · rw [if_neg (fun hh => hh e)] at h
    by_cases e2 : 12 < p.length
    · rw [if_pos e2] at h; exact absurd h (by decide)
    · rw [if_neg e2] at h
      exact ⟨e, by omega, fun i hi => fst_zero h i hi⟩
  · rw [if_pos e] at h; exact absurd h e
theorem pair_is {l c : List Thg} {p : List (Int × Int)} {i : Nat} (h : pairAt l c p i = 0) :
    (0 ≤ (pr p i).1 ∧ (pr p i).1 ≤ (l.length : Int) - 1) ∧ (0 ≤ (pr p i).2 ∧ (pr p i).2 ≤ (c.length : Int) - 1) ∧ (0 < i → (pr p (i - 1)).1 < (pr p i).1) ∧ (∀ k, k < i → (pr p k).2 ≠ (pr p i).2) ∧ canBe (lThg l (pr p i).1.toNat) (lThg c (pr p i).2.toNat) = true := by
  unfold pairAt at h
  by_cases e1 : within (pr p i).1 0 (l.length - 1) = false ∨ within (pr p i).2 0 (c.length - 1) = false
  · rw [if_pos e1] at h; exact absurd h (by decide)
  · rw [if_neg e1] at h
    by_cases e2 : 0 < i ∧ (pr p i).1 ≤ (pr p (i - 1)).1
    · rw [if_pos e2] at h; exact absurd h (by decide)
    · rw [if_neg e2] at h
      by_cases e3 : ∃ k, k < i ∧ (pr p k).2 = (pr p i).2
      · rw [if_pos e3] at h; exact absurd h (by decide)
      · rw [if_neg e3] at h
        by_cases e4 : canBe (lThg l (pr p i).1.toNat) (lThg c (pr p i).2.toNat) = false
        · rw [if_pos e4] at h; exact absurd h (by decide)
        · refine ⟨Fs.within_iff.1 (by simpa using fun e => e1 (Or.inl e)), Fs.within_iff.1 (by simpa using fun e => e1 (Or.inr e)), fun hi => by have := fun hh => e2 ⟨hi, hh⟩; omega, fun k hk hh => e3 ⟨k, hk, hh⟩, by simpa using e4⟩
theorem cover_ok {l c : List Thg} {a b : List Int} (h : coverErr l c a b = 0) : pairErr l c = 0 ∧ ∀ i k : Nat, i < l.length → k < c.length → canBe (lThg l i) (lThg c k) = true → (i : Int) ∈ a ∨ (k : Int) ∈ b := by
  unfold coverErr at h
  by_cases e : pairErr l c = 0
  · rw [if_neg (fun hh => hh e)] at h
    by_cases e2 : numsErr a l.length = 0
    · rw [if_neg (fun hh => hh e2)] at h
      by_cases e3 : numsErr b c.length = 0
      · rw [if_neg (fun hh => hh e3)] at h
        refine ⟨e, fun i k hi hk hc => ?_⟩
        by_cases e4 : (i : Int) ∈ a
        · exact .inl e4
        · by_cases e5 : (k : Int) ∈ b
          · exact .inr e5
          · rw [if_pos ⟨i, k, hi, hk, hc, e4, e5⟩] at h; exact absurd h (by decide)
      · rw [if_pos e3] at h; exact absurd h e3
    · rw [if_pos e2] at h; exact absurd h e2
  · rw [if_pos e] at h; exact absurd h e
theorem pr_get {p : List (Int × Int)} {i : Nat} (h : i < p.length) : p[i] = pr p i := by
  unfold pr
  rw [List.getD_eq_getElem?_getD, List.getElem?_eq_getElem h]
  rfl
theorem no_more {l c : List Thg} {p : List (Int × Int)} {a b : List Int} (h : pairsErr l c p = 0) (h2 : coverErr l c a b = 0) : (p.length : Int) ≤ a.length + b.length := by
  have P := pairs_ok h
  have one := fun i hi => pair_is (P.one i hi)
  obtain ⟨-, cov⟩ := cover_ok h2
  have up : ∀ j, j < p.length → ∀ i, i < j → (pr p i).1 < (pr p j).1 := by
    intro j
    induction j with
    | zero => intro _ i hi; omega
    | succ j ih =>
      intro hj i hi
      have s := (one (j + 1) hj).2.2.1 (by omega)
      rw [Nat.add_sub_cancel] at s
      by_cases e : i = j
      · subst e; exact s
      · have := ih (by omega) i (by omega); omega
  have p1 : p.Pairwise (fun x y => x.1 ≠ y.1) := List.pairwise_iff_getElem.2 fun i j hi hj hij => by
    rw [pr_get hi, pr_get hj]
    have := up j hj i hij
    omega
  have p2 : p.Pairwise (fun x y => x.2 ≠ y.2) := List.pairwise_iff_getElem.2 fun i j hi hj hij => by
    rw [pr_get hi, pr_get hj]
    exact (one j hj).2.2.2.1 i hij
  have hin : ∀ x ∈ p, x.1 ∈ a ∨ x.2 ∈ b := fun x hx => by
    obtain ⟨i, hi, rfl⟩ := List.getElem_of_mem hx
    rw [pr_get hi]
    obtain ⟨h1, h3, -, -, h5⟩ := one i hi
    have := cov (pr p i).1.toNat (pr p i).2.toNat (by omega) (by omega) h5
    rwa [Int.toNat_of_nonneg h1.1, Int.toNat_of_nonneg h3.1] at this
  have l1 : ((p.filter fun x => decide (x.1 ∈ a)).map Prod.fst).length ≤ a.length := nodup_le (List.pairwise_map.2 (p1.filter _)) (fun y hy => by
    obtain ⟨x, hx, rfl⟩ := List.mem_map.1 hy
    simpa using (List.mem_filter.1 hx).2)
  have l2 : ((p.filter fun x => !decide (x.1 ∈ a)).map Prod.snd).length ≤ b.length := nodup_le (List.pairwise_map.2 (p2.filter _)) (fun y hy => by
    obtain ⟨x, hx, rfl⟩ := List.mem_map.1 hy
    obtain ⟨h1, h3⟩ := List.mem_filter.1 hx
    exact (hin x h1).resolve_left (by simpa using h3))
  rw [List.length_map] at l1 l2
  have tot : ∀ q : List (Int × Int), (q.filter fun x => decide (x.1 ∈ a)).length + (q.filter fun x => !decide (x.1 ∈ a)).length = q.length := by
    intro q
    induction q with
    | nil => rfl
    | cons x q ih =>
      by_cases e : x.1 ∈ a
      · rw [List.filter_cons_of_pos (by simpa using e), List.filter_cons_of_neg (by simpa using e), List.length_cons, List.length_cons]; omega
      · rw [List.filter_cons_of_neg (by simpa using e), List.filter_cons_of_pos (by simpa using e), List.length_cons, List.length_cons]; omega
  have := tot p
  omega
end Fs
end Go.Proofs.YtfjdnbnalihjiaaGreatDoor
/- Pairs of items and claims: their first error. No condition. -/
namespace Go.Proofs.YtfjdnbnalihjiaaGreatDoor
open Go.RowKit Fs

theorem ArrPr.le_ {w : World} {A : Option Addr} {l : List (Int × Int)} {c : Nat} (h : ArrPr w A l c) : l.length ≤ c ∧ c ≤ 9223372036854775807 := ⟨h.1, h.2.1⟩
theorem ArrPr.two_ {w : World} {A : Option Addr} {l : List (Int × Int)} {c : Nat} (h : ArrPr w A l c) {k : Nat} (hk : k < l.length) : ∃ b o, A = some ⟨b, o, none⟩ ∧ w.cell? ⟨b, o + k * 2, none⟩ = some (.int .i64 (pr l k).1) ∧ w.cell? ⟨b, o + k * 2 + 1, none⟩ = some (.int .i64 (pr l k).2) := by
  obtain ⟨b, o, e, hc⟩ := Arr.at_ h hk
  exact ⟨b, o, e, hc 0 (by omega), hc 1 (by omega)⟩
theorem Fs.pr_take {l : List (Int × Int)} {k i : Nat} (h : i < k) : pr (l.take k) i = pr l i := by
  unfold pr; rw [List.getD_eq_getElem?_getD, List.getElem?_take, if_pos h, ← List.getD_eq_getElem?_getD]
theorem ArrPr.take_ {w : World} {A : Option Addr} {l : List (Int × Int)} {c : Nat} (h : ArrPr w A l c) {k : Nat} (hk : k ≤ l.length) : ArrPr w A (l.take k) c := by
  have hlen : (l.take k).length = k := by rw [List.length_take]; omega
  obtain ⟨h1, h2, h3⟩ := h
  refine ⟨by omega, h2, fun hp => ?_⟩
  obtain ⟨b, o, e, hc⟩ := h3 (by omega)
  exact ⟨b, o, e, fun i j hi hj => by
    show _ = some (prCells (pr (l.take k) i) j)
    rw [pr_take (by omega)]; exact hc i j (by omega) hj⟩
set_option linter.unusedSimpArgs false in
set_option maxHeartbeats 12800000 in
set_option maxRecDepth 100000 in
theorem xIndexPair_any (K : Nat) (p10 : Value) (g : Nat → Bool) (l : List (Int × Int)) (A : Option Addr) (c : Nat) (w : World) (h : ArrPr w A l c) (hcall : ∀ (args : Array Value) (w : World), (callFunc K args).run Tryz.prog w = .ok (.enter K args) w)
    (hf : ∀ w', Below w.heap.size w w' → ∀ i : Nat, i < l.length → Calls Tryz.prog K #[.agg #[.int .i64 (pr l i).1, .int .i64 (pr l i).2], p10] w' fun e w'' => e = .returned (.bool (g i)) ∧ Below w'.heap.size w' w'') :
    Calls Tryz.prog 160 #[.slice A l.length c, .func (.func K) #[] #[p10]] w fun e w' => e = .returned (.int .i64 (posTo g l.length)) ∧ Below w.heap.size w w' := by
  have b1 := h.le_.1
  have b2 := h.le_.2
  have HA := Lib.hid h
  have HCALL := Lib.hid hcall
  have HF := Lib.hid hf
  clear hcall hf h
  obtain ⟨n, hn⟩ : ∃ n, n = l.length := ⟨_, rfl⟩
  rw [← hn] at b1 ⊢
  have HN := Lib.hid hn
  clear hn
  go_enter Tryz.func160, Tryz.ntmps160
  go_wp2_with fail
  go_loopw [8] (fun i wr => ∃ k : Nat, k ≤ n ∧ i = .int .i64 k ∧ Hid (∀ j, j < k → g j = false) ∧ Hid (Below w.heap.size w wr)) (fun i _ => n - (intOf i).toNat)
  case atStart => exact ⟨0, Nat.zero_le _, rfl, Lib.hid fun j hj => absurd hj (Nat.not_lt_zero _), Lib.hid (Below.refl _ _)⟩
  case round =>
    obtain ⟨k, hk, rfl, Hn, HB⟩ := hrel
    by_cases hlt : k < n
    · have hkn : (k : Int) < (n : Int) := by omega
      have hkl : k < l.length := by rw [← HN.out]; exact hlt
      have HC := Lib.hid (HF.out wr HB.out k hkl)
      have hcall := HCALL.out
      obtain ⟨b, o, rfl, q0, q1⟩ := (HA.out.keep (Keep.below HB.out)).two_ hkl
      clear hkl
      cases he : g k with
      | false =>
        have HE := Lib.hid he
        have HN2 : Hid (∀ j, j < k + 1 → g j = false) := Lib.hid fun j hj => by
          by_cases e : j = k
          · subst e; exact HE.out
          · exact Hn.out j (by omega)
        clear he
        go_wp2_with fail
        refine HC.out.mono ?_
        rintro e w2 ⟨rfl, hb2⟩
        rw [HE.out]
        go_wp2_with fail
        go_roundw
        case rel => exact ⟨k + 1, by omega, by go_num, HN2, Lib.hid (HB.out.trans (hb2.mono HB.out.size))⟩
        case measure => simp [intOf]; omega
      | true =>
        have HE := Lib.hid he
        have F1 := Lib.hid (posTo_hit hlt Hn.out he)
        clear he
        go_wp2_with fail
        refine HC.out.mono ?_
        rintro e w2 ⟨rfl, hb2⟩
        rw [HE.out]
        go_wp2_with fail
        go_ret
        exact ⟨ret_int F1.out.symm, HB.out.trans (hb2.mono HB.out.size)⟩
    · have F1 := Lib.hid (posTo_none (n := n) fun j hj => Hn.out j (by omega))
      go_wp2_with fail
      go_ret
      exact ⟨ret_int F1.out.symm, HB.out⟩
set_option linter.unusedSimpArgs false in
set_option maxHeartbeats 12800000 in
set_option maxRecDepth 100000 in
theorem xHasPair_any (K : Nat) (p10 : Value) (g : Nat → Bool) (l : List (Int × Int)) (A : Option Addr) (c : Nat) (w : World) (h : ArrPr w A l c) (hcall : ∀ (args : Array Value) (w : World), (callFunc K args).run Tryz.prog w = .ok (.enter K args) w)
    (hf : ∀ w', Below w.heap.size w w' → ∀ i : Nat, i < l.length → Calls Tryz.prog K #[.agg #[.int .i64 (pr l i).1, .int .i64 (pr l i).2], p10] w' fun e w'' => e = .returned (.bool (g i)) ∧ Below w'.heap.size w' w'') :
    Calls Tryz.prog 136 #[.slice A l.length c, .func (.func K) #[] #[p10]] w fun e w' => e = .returned (.bool (anyTo g l.length)) ∧ Below w.heap.size w w' := by
  go_enter Tryz.func136, Tryz.ntmps136
  go_wp2_with fail
  refine (xIndexPair_any K p10 g l A c _ h hcall hf).mono ?_
  rintro e w1 ⟨rfl, hb1⟩
  go_wp2_with fail
  go_ret
  exact ⟨rfl, hb1⟩
set_option linter.unusedSimpArgs false in
set_option maxHeartbeats 12800000 in
set_option maxRecDepth 100000 in
theorem xPair1_any (x y c : Int) (g : Nat) (w : World) (h : w.cell? ⟨g, 0, none⟩ = some (.int .i64 c)) :
    Calls Tryz.prog 137 #[.agg #[.int .i64 x, .int .i64 y], .pointer (some ⟨g, 0, none⟩)] w fun e w' => e = .returned (.bool (y == c)) ∧ Below w.heap.size w w' := by
  have h1 := Keep.alloc w (.cells #[.int .i64 x, .int .i64 y] 42) _ _ h
  have c1 := cellNew w #[.int .i64 x, .int .i64 y] 42 1
  have hg : g < w.heap.size := World.block_lt_of_cell? w _ h
  have hne : (w.heap.size = g) = False := eq_false (by omega)
  have hne2 : (g = w.heap.size) = False := eq_false (by omega)
  clear hg
  go_enter Tryz.func137, Tryz.ntmps137
  go_wp2_with fail
  go_ret
  exact ⟨rfl, (Below.refl _ _).alloc (Nat.le_refl _) _⟩
set_option linter.unusedSimpArgs false in
set_option maxHeartbeats 12800000 in
set_option maxRecDepth 100000 in
theorem xErrPair_any (l d : List Thg) (p : List (Int × Int)) (A B P : Option Addr) (c e pc k : Nat) (a b : GA) (w : World) (h : ArrTh w A l c a) (h2 : ArrTh w B d e b) (h3 : ArrPr w P p pc) (hk : k < p.length) (hp : pairErr l d = 0) :
    Calls Tryz.prog 96 #[.slice A l.length c, .slice B d.length e, .slice P k pc, .agg #[.int .i64 (pr p k).1, .int .i64 (pr p k).2]] w fun x w' => x = .returned (.int .i64 (pairAt l d p k)) ∧ Below w.heap.size w w' := by
  obtain ⟨x, hx⟩ : ∃ x, x = (pr p k).1 := ⟨_, rfl⟩
  obtain ⟨y, hy⟩ : ∃ y, y = (pr p k).2 := ⟨_, rfl⟩
  rw [← hx, ← hy]
  have HX := Lib.hid hx
  have HY := Lib.hid hy
  have HW := Lib.hid ((Below.refl w.heap.size w).alloc (Nat.le_refl _) (.cells #[.int .i64 x, .int .i64 y] 42))
  have HA := Lib.hid (h.keep (Keep.below HW.out))
  have HB := Lib.hid (h2.keep (Keep.below HW.out))
  have HP := Lib.hid (h3.keep (Keep.below HW.out))
  have b1 := h.le
  have b2 := h2.le
  have b3 := h3.le_
  obtain ⟨hpl, hpd⟩ := two_zero hp
  have O1 := Lib.hid (thgs_ok hpl)
  have O2 := Lib.hid (thgs_ok hpd)
  have hl12 := O1.out.1
  have hd12 := O2.out.1
  have HK := Lib.hid hk
  clear h h2 h3 hp hpl hpd hx hy
  go_enter Tryz.func96, Tryz.ntmps96
  go_upto_region 1 with fail
  have c0 := cellNew w #[.int .i64 x, .int .i64 y] 42 0
  have c1 := cellNew w #[.int .i64 x, .int .i64 y] 42 1
  obtain ⟨gp, hgp⟩ : ∃ g, g = w.heap.size := ⟨_, rfl⟩
  rw [← hgp] at c0 c1
  rw [← hgp]
  generalize w.alloc _ = wb at *
  clear hgp
  go_cut [9, 10] from 9 to 14 (fun s u wx => ∃ g, s = .int .i64 x ∧ u = .pointer (some ⟨g, 0, none⟩) ∧ Hid (OneAt wx g (.int .i64 y)) ∧ Hid (Below wb.heap.size wb wx))
  case first =>
    have k0 := fun Z => Keep.alloc wb Z _ _ c0
    have k1 := fun Z => Keep.alloc wb Z _ _ c1
    have hgl : gp < wb.heap.size := World.block_lt_of_cell? wb _ c0
    have hg1 : (gp = wb.heap.size) = False := eq_false (by omega)
    have hg2 : (wb.heap.size = gp) = False := eq_false (by omega)
    clear hgl
    go_region
    all_goals
      go_wp2_with fail
      go_meet
      first
        | exact ⟨_, rfl, rfl, Lib.hid (OneAt.new _ _ _), Lib.hid ((Below.refl _ _).alloc (Nat.le_refl _) _)⟩
        | exact ⟨_, rfl, rfl, Lib.hid (OneAt.new _ _ _).drew, Lib.hid ((Below.refl _ _).alloc (Nat.le_refl _) _).drew⟩
  case rest =>
    obtain ⟨g, rfl, rfl, OG, HC⟩ := hcut
    have HA2 := Lib.hid (HA.out.keep (Keep.below HC.out))
    have HB2 := Lib.hid (HB.out.keep (Keep.below HC.out))
    have HP2 := Lib.hid (HP.out.keep (Keep.below HC.out))
    replace HW := Lib.hid (HW.out.trans (HC.out.mono HW.out.size))
    have hk := HK.out
    clear HA HB HP HC c0 c1 hk
    cases h1 : within x 0 ((l.length : Int) - 1) with
    | false =>
      have H1 := Lib.hid h1
      have F := Lib.hid (show pairAt l d p k = 6 by unfold pairAt; rw [← HX.out, ← HY.out]; rw [if_pos (Or.inl h1)])
      clear h1
      go_wp2_with fail
      refine (within_any _ _ _ _).mono ?_
      rintro _ wx ⟨rfl, rfl⟩
      rw [H1.out]
      go_wp2_with fail
      go_ret
      exact ⟨ret_int F.out.symm, HW.out⟩
    | true =>
      have H1 := Lib.hid h1
      have o0 := OG.out.c0
      cases h2 : within y 0 ((d.length : Int) - 1) with
      | false =>
        have H2 := Lib.hid h2
        have F := Lib.hid (show pairAt l d p k = 6 by unfold pairAt; rw [← HX.out, ← HY.out]; rw [if_pos (Or.inr h2)])
        clear h1 h2
        go_wp2_with fail
        refine (within_any _ _ _ _).mono ?_
        rintro _ wx ⟨rfl, rfl⟩
        rw [H1.out]
        go_wp2_with fail
        refine (within_any _ _ _ _).mono ?_
        rintro _ wx ⟨rfl, rfl⟩
        rw [H2.out]
        go_wp2_with fail
        go_ret
        exact ⟨ret_int F.out.symm, HW.out⟩
      | true =>
        have H2 := Lib.hid h2
        have HN1 := Lib.hid (show ¬ (within x 0 ((l.length : Int) - 1) = false ∨ within y 0 ((d.length : Int) - 1) = false) by rw [h1, h2]; decide)
        have i1 := Fs.within_iff.1 h1
        have i2 := Fs.within_iff.1 h2
        obtain ⟨X, hX⟩ : ∃ X : Nat, x = X := ⟨_, (Int.toNat_of_nonneg i1.1).symm⟩
        obtain ⟨Y, hY⟩ : ∃ Y : Nat, y = Y := ⟨_, (Int.toNat_of_nonneg i2.1).symm⟩
        subst hX
        subst hY
        have HXl := Lib.hid (show X < l.length by omega)
        have HYl := Lib.hid (show Y < d.length by omega)
        have F0 := Lib.hid (show pairAt l d p k = if 0 < k ∧ (X : Int) ≤ (pr p (k - 1)).1 then 9 else if ∃ i, i < k ∧ (pr p i).2 = (Y : Int) then 26 else if canBe (lThg l X) (lThg d Y) = false then 13 else 0 by
          unfold pairAt; rw [← HX.out, ← HY.out, if_neg HN1.out]; rfl)
        clear h1 h2 i1 i2 HN1 HX HY
        by_cases hk0 : 0 < k
        · have d3 : decide ((k : Int) > 0) = true := decide_eq_true (by omega)
          have d4 : decide (0 < (k : Int)) = true := decide_eq_true (by omega)
          have d6 : decide (0 < k) = true := decide_eq_true hk0
          obtain ⟨j, hj⟩ : ∃ j, k = j + 1 := ⟨k - 1, by omega⟩
          have hkj : k - 1 = j := by omega
          have hk1 : (j : Int) < (k : Int) := by omega
          have hkp : (k : Int) - 1 = (j : Int) := by omega
          have hwj : IntKind.i64.wrap (j : Int) = (j : Int) := by rw [IntKind.wrap_i64]; omega
          obtain ⟨bp, op, rfl, z0, -⟩ := HP2.out.two_ (show j < p.length by have := HK.out; omega)
          rw [hkj] at F0
          by_cases hq : (X : Int) ≤ (pr p j).1
          · have F := Lib.hid (F0.out.trans (if_pos ⟨hk0, hq⟩))
            have d1 := decide_eq_true hq
            clear hq hj hk0 hkj
            go_wp2_with fail
            refine (within_any _ _ _ _).mono ?_
            rintro _ wx ⟨rfl, rfl⟩
            rw [H1.out]
            go_wp2_with fail
            refine (within_any _ _ _ _).mono ?_
            rintro _ wx ⟨rfl, rfl⟩
            rw [H2.out]
            go_wp2_with fail
            go_ret
            exact ⟨ret_int F.out.symm, HW.out⟩
          · have F1 := Lib.hid (F0.out.trans (if_neg (fun hh => hq hh.2)))
            have d1 := decide_eq_false hq
            clear hq hj hk0 hkj F0
            have HT := Lib.hid (HP2.out.take_ (show k ≤ p.length by have := HK.out; omega))
            have hlen : (p.take k).length = k := by rw [List.length_take]; have := HK.out; omega
            have hF : Hid (∀ w', Below wc.heap.size wc w' → ∀ i : Nat, i < (p.take k).length → Calls Tryz.prog 137 #[.agg #[.int .i64 (pr (p.take k) i).1, .int .i64 (pr (p.take k) i).2], .pointer (some ⟨g, 0, none⟩)] w' fun e w'' => e = .returned (.bool ((pr p i).2 == (Y : Int))) ∧ Below w'.heap.size w' w'') := Lib.hid fun w' hb i hi => by
              rw [hlen] at hi
              rw [pr_take hi]
              exact xPair1_any _ _ _ g w' (Keep.below hb _ _ OG.out.c0)
            have HHAS := Lib.hid (xHasPair_any 137 (.pointer (some ⟨g, 0, none⟩)) (fun i => ((pr p i).2 == (Y : Int))) (p.take k) _ pc wc HT.out (fun args w => by kernel_rfl) hF.out)
            rw [hlen] at HHAS
            clear hF HT hlen
            go_wp2_with fail
            refine (within_any _ _ _ _).mono ?_
            rintro _ wx ⟨rfl, rfl⟩
            rw [H1.out]
            go_wp2_with fail
            refine (within_any _ _ _ _).mono ?_
            rintro _ wx ⟨rfl, rfl⟩
            rw [H2.out]
            go_wp2_with fail
            refine HHAS.out.mono ?_
            rintro _ w2 ⟨rfl, hb1⟩
            replace HW := Lib.hid (HW.out.trans (hb1.mono HW.out.size))
            have HA3 := Lib.hid (HA2.out.keep (Keep.below hb1))
            have HB3 := Lib.hid (HB2.out.keep (Keep.below hb1))
            have OG3 := Lib.hid (OG.out.keep hb1)
            clear hb1 HHAS HA2 HB2 OG o0
            cases hx : anyTo (fun i => ((pr p i).2 == (Y : Int))) k with
            | true =>
              have F := Lib.hid (F1.out.trans (if_pos (by obtain ⟨i, hi, he⟩ := anyTo_iff.1 hx; exact ⟨i, hi, by simpa using he⟩)))
              clear hx
              go_wp2_with fail
              go_ret
              exact ⟨ret_int F.out.symm, HW.out⟩
            | false =>
              have F2 := Lib.hid (F1.out.trans (if_neg (fun ⟨i, hi, he⟩ => by
                have : anyTo (fun i => ((pr p i).2 == (Y : Int))) k = true := anyTo_iff.2 ⟨i, hi, by simpa using he⟩
                rw [hx] at this; cases this)))
              clear hx F1
              obtain ⟨ba, oa, rfl, ⟨q0, q1, q2, q3⟩, mq⟩ := HA3.out.at_ HXl.out
              obtain ⟨bb, ob, rfl, ⟨r0, r1, r2, r3⟩, mr⟩ := HB3.out.at_ HYl.out
              have HMQ := Lib.hid mq
              have HMR := Lib.hid mr
              have o0 := OG3.out.c0
              have hXn : (X : Int) < (l.length : Int) := by have := HXl.out; omega
              have hYn : (Y : Int) < (d.length : Int) := by have := HYl.out; omega
              clear mq mr
              go_wp2_with fail
              have HBd : Hid (Below w2.heap.size w2 w2.drew) := Lib.hid (Below.refl _ _).drew
              have MK : Hid (∀ w', Below w2.heap.size w2 w' → w'.cell? ⟨ba, oa + X * 4, none⟩ = some (.string (lThg l X).name) ∧ w'.cell? ⟨ba, oa + X * 4 + 1, none⟩ = some (.int .i64 (lThg l X).day) ∧ w'.cell? ⟨ba, oa + X * 4 + 2, none⟩ = some (.string (lThg l X).who) ∧ w'.cell? ⟨ba, oa + X * 4 + 3, none⟩ = some (.slice (a.p X) (lThg l X).marks.length (a.pc X)) ∧ w'.cell? ⟨bb, ob + Y * 4, none⟩ = some (.string (lThg d Y).name) ∧ w'.cell? ⟨bb, ob + Y * 4 + 1, none⟩ = some (.int .i64 (lThg d Y).day) ∧ w'.cell? ⟨bb, ob + Y * 4 + 2, none⟩ = some (.string (lThg d Y).who) ∧ w'.cell? ⟨bb, ob + Y * 4 + 3, none⟩ = some (.slice (b.p Y) (lThg d Y).marks.length (b.pc Y)) ∧ w'.cell? ⟨g, 0, none⟩ = some (.int .i64 (Y : Int)) ∧ Hid (Below w2.heap.size w2 w')) :=
                Lib.hid fun w' hw => ⟨Keep.below hw _ _ q0, Keep.below hw _ _ q1, Keep.below hw _ _ q2, Keep.below hw _ _ q3, Keep.below hw _ _ r0, Keep.below hw _ _ r1, Keep.below hw _ _ r2, Keep.below hw _ _ r3, Keep.below hw _ _ o0, Lib.hid hw⟩
              have KQ : Hid (∀ w', Below w2.heap.size w2 w' → ArrMk w' (a.p X) (lThg l X).marks (a.pc X)) := Lib.hid fun w' hw => (HMQ.out.keep (Keep.below hw))
              have KR : Hid (∀ w', Below w2.heap.size w2 w' → ArrMk w' (b.p Y) (lThg d Y).marks (b.pc Y)) := Lib.hid fun w' hw => (HMR.out.keep (Keep.below hw))
              refine wp_region_held_drew (S := fun w' => w'.cell? ⟨ba, oa + X * 4, none⟩ = some (.string (lThg l X).name) ∧ w'.cell? ⟨ba, oa + X * 4 + 1, none⟩ = some (.int .i64 (lThg l X).day) ∧ w'.cell? ⟨ba, oa + X * 4 + 2, none⟩ = some (.string (lThg l X).who) ∧ w'.cell? ⟨ba, oa + X * 4 + 3, none⟩ = some (.slice (a.p X) (lThg l X).marks.length (a.pc X)) ∧ w'.cell? ⟨bb, ob + Y * 4, none⟩ = some (.string (lThg d Y).name) ∧ w'.cell? ⟨bb, ob + Y * 4 + 1, none⟩ = some (.int .i64 (lThg d Y).day) ∧ w'.cell? ⟨bb, ob + Y * 4 + 2, none⟩ = some (.string (lThg d Y).who) ∧ w'.cell? ⟨bb, ob + Y * 4 + 3, none⟩ = some (.slice (b.p Y) (lThg d Y).marks.length (b.pc Y)) ∧ w'.cell? ⟨g, 0, none⟩ = some (.int .i64 (Y : Int)) ∧ Hid (Below w2.heap.size w2 w')) (by kernel_rfl) (MK.out _ HBd.out) (fun hHeld => ?_)
              refine wpAnyH_take (i := 0) (v := ?val0x7) rfl (by kernel_rfl) (by kernel_rfl) (by kernel_rfl) (fun _ _ _ h => h) (Or.inl ⟨by rfl, fun w9 hS9 => ?yields0x7⟩) (by assumption) ?later0x7
              case yields0x7 =>
                dsimp only at hS9
                go_simp
                try with_reducible rfl
              try simp only [Act.put, List.getElem_toArray, List.getElem_cons_succ, List.getElem_cons_zero, List.setIfInBounds_toArray, List.set_cons_zero, List.set_cons_succ]
              refine wpAnyH_take (i := 1) (v := ?val1x8) rfl (by kernel_rfl) (by kernel_rfl) (by kernel_rfl) (fun _ _ _ h => h) (Or.inl ⟨by rfl, fun w9 hS9 => ?yields1x8⟩) (by assumption) ?later1x8
              case yields1x8 =>
                dsimp only at hS9
                go_simp
                try with_reducible rfl
              try simp only [Act.put, List.getElem_toArray, List.getElem_cons_succ, List.getElem_cons_zero, List.setIfInBounds_toArray, List.set_cons_zero, List.set_cons_succ]
              refine wpAnyH_take (i := 2) (v := ?val2x9) rfl (by kernel_rfl) (by kernel_rfl) (by kernel_rfl) (fun _ _ _ h => h) (Or.inl ⟨by rfl, fun w9 hS9 => ?yields2x9⟩) (by assumption) ?later2x9
              case yields2x9 =>
                dsimp only at hS9
                go_simp
                try with_reducible rfl
              try simp only [Act.put, List.getElem_toArray, List.getElem_cons_succ, List.getElem_cons_zero, List.setIfInBounds_toArray, List.set_cons_zero, List.set_cons_succ]
              refine wpAnyH_take (i := 3) (v := ?val3x10) rfl (by kernel_rfl) (by kernel_rfl) (by kernel_rfl) (fun _ _ _ h => h) (Or.inl ⟨by rfl, fun w9 hS9 => ?yields3x10⟩) (by assumption) ?later3x10
              case yields3x10 =>
                dsimp only at hS9
                go_simp
                try with_reducible rfl
              try simp only [Act.put, List.getElem_toArray, List.getElem_cons_succ, List.getElem_cons_zero, List.setIfInBounds_toArray, List.set_cons_zero, List.set_cons_succ]
              refine wpAnyH_take (i := 4) (v := ?val4x11) rfl (by kernel_rfl) (by kernel_rfl) (by kernel_rfl) (fun _ _ _ h => h) (Or.inl ⟨by rfl, fun w9 hS9 => ?yields4x11⟩) (by assumption) ?later4x11
              case yields4x11 =>
                dsimp only at hS9
                go_simp
                try with_reducible rfl
              try simp only [Act.put, List.getElem_toArray, List.getElem_cons_succ, List.getElem_cons_zero, List.setIfInBounds_toArray, List.set_cons_zero, List.set_cons_succ]
              refine wpAnyH_take (i := 5) (v := ?val5x12) rfl (by kernel_rfl) (by kernel_rfl) (by kernel_rfl) (fun _ _ _ h => h) (Or.inl ⟨by rfl, fun w9 hS9 => ?yields5x12⟩) (by assumption) ?later5x12
              case yields5x12 =>
                dsimp only at hS9
                go_simp
                try with_reducible rfl
              try simp only [Act.put, List.getElem_toArray, List.getElem_cons_succ, List.getElem_cons_zero, List.setIfInBounds_toArray, List.set_cons_zero, List.set_cons_succ]
              refine wpAnyH_take (i := 6) (v := ?val6x13) rfl (by kernel_rfl) (by kernel_rfl) (by kernel_rfl) (fun _ _ _ h => h) (Or.inl ⟨by rfl, fun w9 hS9 => ?yields6x13⟩) (by assumption) ?later6x13
              case yields6x13 =>
                dsimp only at hS9
                go_simp
                try with_reducible rfl
              try simp only [Act.put, List.getElem_toArray, List.getElem_cons_succ, List.getElem_cons_zero, List.setIfInBounds_toArray, List.set_cons_zero, List.set_cons_succ]
              refine wpAnyH_take (i := 7) (v := ?val7x14) rfl (by kernel_rfl) (by kernel_rfl) (by kernel_rfl) (fun _ _ _ h => h) (Or.inl ⟨by rfl, fun w9 hS9 => ?yields7x14⟩) (by assumption) ?later7x14
              case yields7x14 =>
                dsimp only at hS9
                go_simp
                try with_reducible rfl
              try simp only [Act.put, List.getElem_toArray, List.getElem_cons_succ, List.getElem_cons_zero, List.setIfInBounds_toArray, List.set_cons_zero, List.set_cons_succ]
              refine wpAnyH_ready (rs := [8]) (by kernel_rfl) (by simp) ?_
              refine AllReadyH.cons rfl (fun K hK => ?_) AllReadyH.nil
              go_simp
              go_at_call 90
              go_split_ands
              refine (xCanBe0_any (lThg l X) (lThg d Y) _ _ _ ⟨_, _, rfl, KQ.out _ (Hid.out (by assumption))⟩ ⟨_, _, rfl, KR.out _ (Hid.out (by assumption))⟩ (O1.out.2 X HXl.out).1 (O2.out.2 Y HYl.out).1).mono ?_
              rintro e' w5 ⟨rfl, hb1⟩
              go_wp2_with fail
              refine hK.out _ _ ?_ (fun hHeld => ?_)
              · (try dsimp only)
                (go_split_ands; exact MK.out _ (Below.trans (Hid.out (by assumption)) (hb1.mono (Hid.out (by assumption) : Below w2.heap.size w2 _).size)))
              clear hK K
              try simp only [Act.put, List.getElem_toArray, List.getElem_cons_succ, List.getElem_cons_zero, List.setIfInBounds_toArray, List.set_cons_zero, List.set_cons_succ]
              refine wpAnyH_take (i := 9) (v := ?val9x15) rfl (by kernel_rfl) (by kernel_rfl) (by kernel_rfl) (fun _ _ _ h => h) (Or.inl ⟨by rfl, fun w9 hS9 => ?yields9x15⟩) (by assumption) ?later9x15
              case yields9x15 =>
                dsimp only at hS9
                go_simp
                try with_reducible rfl
              try simp only [Act.put, List.getElem_toArray, List.getElem_cons_succ, List.getElem_cons_zero, List.setIfInBounds_toArray, List.set_cons_zero, List.set_cons_succ]
              refine wpAnyH_take (i := 10) (v := ?val10x16) rfl (by kernel_rfl) (by kernel_rfl) (by kernel_rfl) (fun _ _ _ h => h) (Or.inl ⟨by rfl, fun w9 hS9 => ?yields10x16⟩) (by assumption) ?later10x16
              case yields10x16 =>
                dsimp only at hS9
                go_simp
                try with_reducible rfl
              try simp only [Act.put, List.getElem_toArray, List.getElem_cons_succ, List.getElem_cons_zero, List.setIfInBounds_toArray, List.set_cons_zero, List.set_cons_succ]
              refine wpAnyH_done (by kernel_rfl) ?_ _
              obtain ⟨-, -, -, -, -, -, -, -, -, HB⟩ := hHeld
              clear HBd MK
              replace HW := Lib.hid (HW.out.trans (HB.out.mono HW.out.size))
              clear HB KQ KR
              cases hcb : canBe (lThg l X) (lThg d Y) with
              | false =>
                have F := Lib.hid (F2.out.trans (if_pos hcb))
                clear hcb
                go_wp2_with fail
                go_ret
                exact ⟨ret_int F.out.symm, HW.out⟩
              | true =>
                have F := Lib.hid (F2.out.trans (if_neg (by rw [hcb]; decide)))
                clear hcb
                go_wp2_with fail
                go_ret
                exact ⟨ret_int F.out.symm, HW.out⟩
        · have F1 := Lib.hid (F0.out.trans (if_neg (fun hh => hk0 hh.1)))
          have d3 : decide ((k : Int) > 0) = false := decide_eq_false (by omega)
          have d4 : decide (0 < (k : Int)) = false := decide_eq_false (by omega)
          have d6 : decide (0 < k) = false := decide_eq_false hk0
          clear hk0 F0
          have HT := Lib.hid (HP2.out.take_ (show k ≤ p.length by have := HK.out; omega))
          have hlen : (p.take k).length = k := by rw [List.length_take]; have := HK.out; omega
          have hF : Hid (∀ w', Below wc.heap.size wc w' → ∀ i : Nat, i < (p.take k).length → Calls Tryz.prog 137 #[.agg #[.int .i64 (pr (p.take k) i).1, .int .i64 (pr (p.take k) i).2], .pointer (some ⟨g, 0, none⟩)] w' fun e w'' => e = .returned (.bool ((pr p i).2 == (Y : Int))) ∧ Below w'.heap.size w' w'') := Lib.hid fun w' hb i hi => by
            rw [hlen] at hi
            rw [pr_take hi]
            exact xPair1_any _ _ _ g w' (Keep.below hb _ _ OG.out.c0)
          have HHAS := Lib.hid (xHasPair_any 137 (.pointer (some ⟨g, 0, none⟩)) (fun i => ((pr p i).2 == (Y : Int))) (p.take k) _ pc wc HT.out (fun args w => by kernel_rfl) hF.out)
          rw [hlen] at HHAS
          clear hF HT hlen
          go_wp2_with fail
          refine (within_any _ _ _ _).mono ?_
          rintro _ wx ⟨rfl, rfl⟩
          rw [H1.out]
          go_wp2_with fail
          refine (within_any _ _ _ _).mono ?_
          rintro _ wx ⟨rfl, rfl⟩
          rw [H2.out]
          go_wp2_with fail
          refine HHAS.out.mono ?_
          rintro _ w2 ⟨rfl, hb1⟩
          replace HW := Lib.hid (HW.out.trans (hb1.mono HW.out.size))
          have HA3 := Lib.hid (HA2.out.keep (Keep.below hb1))
          have HB3 := Lib.hid (HB2.out.keep (Keep.below hb1))
          have OG3 := Lib.hid (OG.out.keep hb1)
          clear hb1 HHAS HA2 HB2 OG o0
          cases hx : anyTo (fun i => ((pr p i).2 == (Y : Int))) k with
          | true =>
            have F := Lib.hid (F1.out.trans (if_pos (by obtain ⟨i, hi, he⟩ := anyTo_iff.1 hx; exact ⟨i, hi, by simpa using he⟩)))
            clear hx
            go_wp2_with fail
            go_ret
            exact ⟨ret_int F.out.symm, HW.out⟩
          | false =>
            have F2 := Lib.hid (F1.out.trans (if_neg (fun ⟨i, hi, he⟩ => by
              have : anyTo (fun i => ((pr p i).2 == (Y : Int))) k = true := anyTo_iff.2 ⟨i, hi, by simpa using he⟩
              rw [hx] at this; cases this)))
            clear hx F1
            obtain ⟨ba, oa, rfl, ⟨q0, q1, q2, q3⟩, mq⟩ := HA3.out.at_ HXl.out
            obtain ⟨bb, ob, rfl, ⟨r0, r1, r2, r3⟩, mr⟩ := HB3.out.at_ HYl.out
            have HMQ := Lib.hid mq
            have HMR := Lib.hid mr
            have o0 := OG3.out.c0
            have hXn : (X : Int) < (l.length : Int) := by have := HXl.out; omega
            have hYn : (Y : Int) < (d.length : Int) := by have := HYl.out; omega
            clear mq mr
            go_wp2_with fail
            have HBd : Hid (Below w2.heap.size w2 w2.drew) := Lib.hid (Below.refl _ _).drew
            have MK : Hid (∀ w', Below w2.heap.size w2 w' → w'.cell? ⟨ba, oa + X * 4, none⟩ = some (.string (lThg l X).name) ∧ w'.cell? ⟨ba, oa + X * 4 + 1, none⟩ = some (.int .i64 (lThg l X).day) ∧ w'.cell? ⟨ba, oa + X * 4 + 2, none⟩ = some (.string (lThg l X).who) ∧ w'.cell? ⟨ba, oa + X * 4 + 3, none⟩ = some (.slice (a.p X) (lThg l X).marks.length (a.pc X)) ∧ w'.cell? ⟨bb, ob + Y * 4, none⟩ = some (.string (lThg d Y).name) ∧ w'.cell? ⟨bb, ob + Y * 4 + 1, none⟩ = some (.int .i64 (lThg d Y).day) ∧ w'.cell? ⟨bb, ob + Y * 4 + 2, none⟩ = some (.string (lThg d Y).who) ∧ w'.cell? ⟨bb, ob + Y * 4 + 3, none⟩ = some (.slice (b.p Y) (lThg d Y).marks.length (b.pc Y)) ∧ w'.cell? ⟨g, 0, none⟩ = some (.int .i64 (Y : Int)) ∧ Hid (Below w2.heap.size w2 w')) :=
              Lib.hid fun w' hw => ⟨Keep.below hw _ _ q0, Keep.below hw _ _ q1, Keep.below hw _ _ q2, Keep.below hw _ _ q3, Keep.below hw _ _ r0, Keep.below hw _ _ r1, Keep.below hw _ _ r2, Keep.below hw _ _ r3, Keep.below hw _ _ o0, Lib.hid hw⟩
            have KQ : Hid (∀ w', Below w2.heap.size w2 w' → ArrMk w' (a.p X) (lThg l X).marks (a.pc X)) := Lib.hid fun w' hw => (HMQ.out.keep (Keep.below hw))
            have KR : Hid (∀ w', Below w2.heap.size w2 w' → ArrMk w' (b.p Y) (lThg d Y).marks (b.pc Y)) := Lib.hid fun w' hw => (HMR.out.keep (Keep.below hw))
            refine wp_region_held_drew (S := fun w' => w'.cell? ⟨ba, oa + X * 4, none⟩ = some (.string (lThg l X).name) ∧ w'.cell? ⟨ba, oa + X * 4 + 1, none⟩ = some (.int .i64 (lThg l X).day) ∧ w'.cell? ⟨ba, oa + X * 4 + 2, none⟩ = some (.string (lThg l X).who) ∧ w'.cell? ⟨ba, oa + X * 4 + 3, none⟩ = some (.slice (a.p X) (lThg l X).marks.length (a.pc X)) ∧ w'.cell? ⟨bb, ob + Y * 4, none⟩ = some (.string (lThg d Y).name) ∧ w'.cell? ⟨bb, ob + Y * 4 + 1, none⟩ = some (.int .i64 (lThg d Y).day) ∧ w'.cell? ⟨bb, ob + Y * 4 + 2, none⟩ = some (.string (lThg d Y).who) ∧ w'.cell? ⟨bb, ob + Y * 4 + 3, none⟩ = some (.slice (b.p Y) (lThg d Y).marks.length (b.pc Y)) ∧ w'.cell? ⟨g, 0, none⟩ = some (.int .i64 (Y : Int)) ∧ Hid (Below w2.heap.size w2 w')) (by kernel_rfl) (MK.out _ HBd.out) (fun hHeld => ?_)
            refine wpAnyH_take (i := 0) (v := ?val0x17) rfl (by kernel_rfl) (by kernel_rfl) (by kernel_rfl) (fun _ _ _ h => h) (Or.inl ⟨by rfl, fun w9 hS9 => ?yields0x17⟩) (by assumption) ?later0x17
            case yields0x17 =>
              dsimp only at hS9
              go_simp
              try with_reducible rfl
            try simp only [Act.put, List.getElem_toArray, List.getElem_cons_succ, List.getElem_cons_zero, List.setIfInBounds_toArray, List.set_cons_zero, List.set_cons_succ]
            refine wpAnyH_take (i := 1) (v := ?val1x18) rfl (by kernel_rfl) (by kernel_rfl) (by kernel_rfl) (fun _ _ _ h => h) (Or.inl ⟨by rfl, fun w9 hS9 => ?yields1x18⟩) (by assumption) ?later1x18
            case yields1x18 =>
              dsimp only at hS9
              go_simp
              try with_reducible rfl
            try simp only [Act.put, List.getElem_toArray, List.getElem_cons_succ, List.getElem_cons_zero, List.setIfInBounds_toArray, List.set_cons_zero, List.set_cons_succ]
            refine wpAnyH_take (i := 2) (v := ?val2x19) rfl (by kernel_rfl) (by kernel_rfl) (by kernel_rfl) (fun _ _ _ h => h) (Or.inl ⟨by rfl, fun w9 hS9 => ?yields2x19⟩) (by assumption) ?later2x19
            case yields2x19 =>
              dsimp only at hS9
              go_simp
              try with_reducible rfl
            try simp only [Act.put, List.getElem_toArray, List.getElem_cons_succ, List.getElem_cons_zero, List.setIfInBounds_toArray, List.set_cons_zero, List.set_cons_succ]
            refine wpAnyH_take (i := 3) (v := ?val3x20) rfl (by kernel_rfl) (by kernel_rfl) (by kernel_rfl) (fun _ _ _ h => h) (Or.inl ⟨by rfl, fun w9 hS9 => ?yields3x20⟩) (by assumption) ?later3x20
            case yields3x20 =>
              dsimp only at hS9
              go_simp
              try with_reducible rfl
            try simp only [Act.put, List.getElem_toArray, List.getElem_cons_succ, List.getElem_cons_zero, List.setIfInBounds_toArray, List.set_cons_zero, List.set_cons_succ]
            refine wpAnyH_take (i := 4) (v := ?val4x21) rfl (by kernel_rfl) (by kernel_rfl) (by kernel_rfl) (fun _ _ _ h => h) (Or.inl ⟨by rfl, fun w9 hS9 => ?yields4x21⟩) (by assumption) ?later4x21
            case yields4x21 =>
              dsimp only at hS9
              go_simp
              try with_reducible rfl
            try simp only [Act.put, List.getElem_toArray, List.getElem_cons_succ, List.getElem_cons_zero, List.setIfInBounds_toArray, List.set_cons_zero, List.set_cons_succ]
            refine wpAnyH_take (i := 5) (v := ?val5x22) rfl (by kernel_rfl) (by kernel_rfl) (by kernel_rfl) (fun _ _ _ h => h) (Or.inl ⟨by rfl, fun w9 hS9 => ?yields5x22⟩) (by assumption) ?later5x22
            case yields5x22 =>
              dsimp only at hS9
              go_simp
              try with_reducible rfl
            try simp only [Act.put, List.getElem_toArray, List.getElem_cons_succ, List.getElem_cons_zero, List.setIfInBounds_toArray, List.set_cons_zero, List.set_cons_succ]
            refine wpAnyH_take (i := 6) (v := ?val6x23) rfl (by kernel_rfl) (by kernel_rfl) (by kernel_rfl) (fun _ _ _ h => h) (Or.inl ⟨by rfl, fun w9 hS9 => ?yields6x23⟩) (by assumption) ?later6x23
            case yields6x23 =>
              dsimp only at hS9
              go_simp
              try with_reducible rfl
            try simp only [Act.put, List.getElem_toArray, List.getElem_cons_succ, List.getElem_cons_zero, List.setIfInBounds_toArray, List.set_cons_zero, List.set_cons_succ]
            refine wpAnyH_take (i := 7) (v := ?val7x24) rfl (by kernel_rfl) (by kernel_rfl) (by kernel_rfl) (fun _ _ _ h => h) (Or.inl ⟨by rfl, fun w9 hS9 => ?yields7x24⟩) (by assumption) ?later7x24
            case yields7x24 =>
              dsimp only at hS9
              go_simp
              try with_reducible rfl
            try simp only [Act.put, List.getElem_toArray, List.getElem_cons_succ, List.getElem_cons_zero, List.setIfInBounds_toArray, List.set_cons_zero, List.set_cons_succ]
            refine wpAnyH_ready (rs := [8]) (by kernel_rfl) (by simp) ?_
            refine AllReadyH.cons rfl (fun K hK => ?_) AllReadyH.nil
            go_simp
            go_at_call 90
            go_split_ands
            refine (xCanBe0_any (lThg l X) (lThg d Y) _ _ _ ⟨_, _, rfl, KQ.out _ (Hid.out (by assumption))⟩ ⟨_, _, rfl, KR.out _ (Hid.out (by assumption))⟩ (O1.out.2 X HXl.out).1 (O2.out.2 Y HYl.out).1).mono ?_
            rintro e' w5 ⟨rfl, hb1⟩
            go_wp2_with fail
            refine hK.out _ _ ?_ (fun hHeld => ?_)
            · (try dsimp only)
              (go_split_ands; exact MK.out _ (Below.trans (Hid.out (by assumption)) (hb1.mono (Hid.out (by assumption) : Below w2.heap.size w2 _).size)))
            clear hK K
            try simp only [Act.put, List.getElem_toArray, List.getElem_cons_succ, List.getElem_cons_zero, List.setIfInBounds_toArray, List.set_cons_zero, List.set_cons_succ]
            refine wpAnyH_take (i := 9) (v := ?val9x25) rfl (by kernel_rfl) (by kernel_rfl) (by kernel_rfl) (fun _ _ _ h => h) (Or.inl ⟨by rfl, fun w9 hS9 => ?yields9x25⟩) (by assumption) ?later9x25
            case yields9x25 =>
              dsimp only at hS9
              go_simp
              try with_reducible rfl
            try simp only [Act.put, List.getElem_toArray, List.getElem_cons_succ, List.getElem_cons_zero, List.setIfInBounds_toArray, List.set_cons_zero, List.set_cons_succ]
            refine wpAnyH_take (i := 10) (v := ?val10x26) rfl (by kernel_rfl) (by kernel_rfl) (by kernel_rfl) (fun _ _ _ h => h) (Or.inl ⟨by rfl, fun w9 hS9 => ?yields10x26⟩) (by assumption) ?later10x26
            case yields10x26 =>
              dsimp only at hS9
              go_simp
              try with_reducible rfl
            try simp only [Act.put, List.getElem_toArray, List.getElem_cons_succ, List.getElem_cons_zero, List.setIfInBounds_toArray, List.set_cons_zero, List.set_cons_succ]
            refine wpAnyH_done (by kernel_rfl) ?_ _
            obtain ⟨-, -, -, -, -, -, -, -, -, HB⟩ := hHeld
            clear HBd MK
            replace HW := Lib.hid (HW.out.trans (HB.out.mono HW.out.size))
            clear HB KQ KR
            cases hcb : canBe (lThg l X) (lThg d Y) with
            | false =>
              have F := Lib.hid (F2.out.trans (if_pos hcb))
              clear hcb
              go_wp2_with fail
              go_ret
              exact ⟨ret_int F.out.symm, HW.out⟩
            | true =>
              have F := Lib.hid (F2.out.trans (if_neg (by rw [hcb]; decide)))
              clear hcb
              go_wp2_with fail
              go_ret
              exact ⟨ret_int F.out.symm, HW.out⟩
end Go.Proofs.YtfjdnbnalihjiaaGreatDoor
/- Lists of pairs, ascending numbers: their first error. No condition. -/
namespace Go.Proofs.YtfjdnbnalihjiaaGreatDoor
open Go.RowKit Fs

theorem Fs.numsHit_ {l : List Int} {n : Int} {k : Nat} {x : Int} (hk : k < l.length) (h1 : ∀ j, j < k → numAt l n j = 0) (h2 : numAt l n k = x) (h3 : x ≠ 0) : numsErr l n = x := by
  unfold numsErr
  rw [(fst_hit hk h1 (by rw [h2]; exact h3)).1, h2]
set_option linter.unusedSimpArgs false in
set_option maxHeartbeats 12800000 in
set_option maxRecDepth 100000 in
theorem xNums_any (l : List Int) (A : Option Addr) (c m : Nat) (w : World) (h : ArrI w A l c) (hm : m ≤ 9223372036854775807) :
    Calls Tryz.prog 97 #[.slice A l.length c, .int .i64 m] w fun e w' => e = .returned (.int .i64 (numsErr l m)) ∧ Below w.heap.size w w' := by
  have b1 := h.le.1
  have b2 := h.le.2
  have HA := Lib.hid h
  have hw0 : IntKind.i64.wrap ((m : Int) - 1) = (m : Int) - 1 := by rw [IntKind.wrap_i64]; omega
  clear h
  go_enter Tryz.func97, Tryz.ntmps97
  go_wp2_with fail
  go_loopw [9] (fun i wr => ∃ k : Nat, k ≤ l.length ∧ i = .int .i64 k ∧ Hid (∀ j, j < k → numAt l m j = 0) ∧ Hid (Below w.heap.size w wr)) (fun i _ => l.length - (intOf i).toNat)
  case atStart => exact ⟨0, Nat.zero_le _, rfl, Lib.hid fun j hj => absurd hj (Nat.not_lt_zero _), Lib.hid (Below.refl _ _)⟩
  case round =>
    obtain ⟨k, hk, rfl, Hn, HB⟩ := hrel
    by_cases hlt : k < l.length
    · have hkn : (k : Int) < (l.length : Int) := by omega
      cases hw : within (listI l k) 0 ((m : Int) - 1) with
      | false =>
        obtain ⟨b, o, rfl, q⟩ := (HA.out.keep (Keep.below HB.out)).at_ hlt
        have F := Lib.hid (numsHit_ (x := 6) hlt Hn.out (if_pos hw) (by decide))
        go_wp2_with fail
        refine (within_any _ _ _ _).mono ?_
        rintro e w9 ⟨rfl, rfl⟩
        rw [hw]
        go_wp2_with fail
        go_ret
        exact ⟨ret_int F.out.symm, HB.out⟩
      | true =>
        have NW : Hid (¬ within (listI l k) 0 ((m : Int) - 1) = false) := Lib.hid (by rw [hw]; decide)
        by_cases hk0 : 0 < k
        · have d3 : decide ((k : Int) > 0) = true := decide_eq_true (by omega)
          have d4 : decide (0 < (k : Int)) = true := decide_eq_true (by omega)
          have d6 : decide (0 < k) = true := decide_eq_true hk0
          obtain ⟨j, hj⟩ : ∃ j, j = k - 1 := ⟨_, rfl⟩
          have hkp : (k : Int) - 1 = (j : Int) := by omega
          have hkw : IntKind.i64.wrap (j : Int) = (j : Int) := by rw [IntKind.wrap_i64]; omega
          have hk1 : (j : Int) < (l.length : Int) := by omega
          obtain ⟨b, o, rfl, q⟩ := (HA.out.keep (Keep.below HB.out)).at_ hlt
          obtain ⟨b', o', e', r⟩ := (HA.out.keep (Keep.below HB.out)).at_ (k := j) (by omega)
          obtain ⟨rfl, rfl⟩ : b = b' ∧ o = o' := by simpa using e'
          clear e'
          by_cases hl : listI l k ≤ listI l j
          · have d5 : decide (listI l k ≤ listI l j) = true := decide_eq_true hl
            have F := Lib.hid (numsHit_ (x := 9) hlt Hn.out (by unfold numAt; rw [if_neg NW.out, if_pos ⟨hk0, by rw [← hj]; exact hl⟩]) (by decide))
            clear hl hk0 hj
            go_wp2_with fail
            refine (within_any _ _ _ _).mono ?_
            rintro e w9 ⟨rfl, rfl⟩
            rw [hw]
            go_wp2_with fail
            go_ret
            exact ⟨ret_int F.out.symm, HB.out⟩
          · have d5 : decide (listI l k ≤ listI l j) = false := decide_eq_false hl
            have F := Lib.hid (show numAt l m k = 0 by unfold numAt; rw [if_neg NW.out, if_neg (fun hh => hl (by rw [hj]; exact hh.2))])
            clear hl hk0 hj
            go_wp2_with fail
            refine (within_any _ _ _ _).mono ?_
            rintro e w9 ⟨rfl, rfl⟩
            rw [hw]
            go_wp2_with fail
            go_roundw
            case rel =>
              exact ⟨k + 1, by omega, by go_num, Lib.hid fun j hj => by
                by_cases e : j = k
                · subst e; exact F.out
                · exact Hn.out j (by omega), Lib.hid (HB.out)⟩
            case measure => simp [intOf]; omega
        · have d3 : decide ((k : Int) > 0) = false := decide_eq_false (by omega)
          have d4 : decide (0 < (k : Int)) = false := decide_eq_false (by omega)
          have d6 : decide (0 < k) = false := decide_eq_false hk0
          obtain ⟨b, o, rfl, q⟩ := (HA.out.keep (Keep.below HB.out)).at_ hlt
          have F := Lib.hid (show numAt l m k = 0 by unfold numAt; rw [if_neg NW.out, if_neg (fun hh => hk0 hh.1)])
          clear hk0
          go_wp2_with fail
          refine (within_any _ _ _ _).mono ?_
          rintro e w9 ⟨rfl, rfl⟩
          rw [hw]
          go_wp2_with fail
          go_roundw
          case rel =>
            exact ⟨k + 1, by omega, by go_num, Lib.hid fun j hj => by
              by_cases e : j = k
              · subst e; exact F.out
              · exact Hn.out j (by omega), Lib.hid (HB.out)⟩
          case measure => simp [intOf]; omega
    · have F := Lib.hid (show numsErr l m = 0 from fst_none fun j hj => Hn.out j (by omega))
      go_wp2_with fail
      go_ret
      exact ⟨ret_int F.out.symm, HB.out⟩
set_option linter.unusedSimpArgs false in
set_option maxHeartbeats 12800000 in
set_option maxRecDepth 100000 in
theorem xPairs1_any (l d : List Thg) (p : List (Int × Int)) (A B P : Option Addr) (c e pc k g3 g4 g5 : Nat) (a b : GA) (w : World) (h : ArrTh w A l c a) (h2 : ArrTh w B d e b) (h3' : ArrPr w P p pc) (hk : k < p.length) (hp : pairErr l d = 0)
    (h3 : w.cell? ⟨g3, 0, none⟩ = some (.slice A l.length c)) (h4 : w.cell? ⟨g4, 0, none⟩ = some (.slice B d.length e)) (h5 : w.cell? ⟨g5, 0, none⟩ = some (.slice P p.length pc)) :
    Calls Tryz.prog 95 #[.int .i64 k, .pointer (some ⟨g3, 0, none⟩), .pointer (some ⟨g4, 0, none⟩), .pointer (some ⟨g5, 0, none⟩)] w fun x w' => x = .returned (.int .i64 (pairAt l d p k)) ∧ Below w.heap.size w w' := by
  have HA := Lib.hid h
  have HB0 := Lib.hid h2
  have HP := Lib.hid h3'
  have b3 := h3'.le_
  have hkn : (k : Int) < (p.length : Int) := by omega
  have hkc : (k : Int) ≤ (pc : Int) := by omega
  have hk0 : (0 : Int) ≤ (k : Int) := by omega
  have d1 : decide ((k : Int) ≤ (pc : Int)) = true := decide_eq_true hkc
  have d0 : decide ((0 : Int) ≤ (k : Int)) = true := decide_eq_true hk0
  obtain ⟨b', o, rfl, r0, r1⟩ := h3'.two_ hk
  have HPE := Lib.hid hp
  have HK := Lib.hid hk
  clear h h2 h3' hp hk
  go_enter Tryz.func95, Tryz.ntmps95
  go_wp2_with fail
  go_wp2_with fail
  have HBd : Hid (Below w.heap.size w w.drew) := Lib.hid (Below.refl _ _).drew
  have MK : Hid (∀ w', Below w.heap.size w w' → w'.cell? ⟨g3, 0, none⟩ = some (.slice A l.length c) ∧ w'.cell? ⟨g4, 0, none⟩ = some (.slice B d.length e) ∧ w'.cell? ⟨g5, 0, none⟩ = some (.slice (some ⟨b', o, none⟩) p.length pc) ∧ w'.cell? ⟨b', o + k * 2, none⟩ = some (.int .i64 (pr p k).1) ∧ w'.cell? ⟨b', o + k * 2 + 1, none⟩ = some (.int .i64 (pr p k).2) ∧ Hid (Below w.heap.size w w')) :=
    Lib.hid fun w' hw => ⟨Keep.below hw _ _ h3, Keep.below hw _ _ h4, Keep.below hw _ _ h5, Keep.below hw _ _ r0, Keep.below hw _ _ r1, Lib.hid hw⟩
  have KX : Hid (∀ w', Below w.heap.size w w' → ArrTh w' A l c a ∧ ArrTh w' B d e b ∧ ArrPr w' (some ⟨b', o, none⟩) p pc) := Lib.hid fun w' hw => ⟨HA.out.keep (Keep.below hw), HB0.out.keep (Keep.below hw), HP.out.keep (Keep.below hw)⟩
  refine wp_region_held_drew (S := fun w' => w'.cell? ⟨g3, 0, none⟩ = some (.slice A l.length c) ∧ w'.cell? ⟨g4, 0, none⟩ = some (.slice B d.length e) ∧ w'.cell? ⟨g5, 0, none⟩ = some (.slice (some ⟨b', o, none⟩) p.length pc) ∧ w'.cell? ⟨b', o + k * 2, none⟩ = some (.int .i64 (pr p k).1) ∧ w'.cell? ⟨b', o + k * 2 + 1, none⟩ = some (.int .i64 (pr p k).2) ∧ Hid (Below w.heap.size w w')) (by kernel_rfl) (MK.out _ HBd.out) (fun hHeld => ?_)
  refine wpAnyH_take (i := 0) (v := ?val0x7) rfl (by kernel_rfl) (by kernel_rfl) (by kernel_rfl) (fun _ _ _ h => h) (Or.inl ⟨by rfl, fun w9 hS9 => ?yields0x7⟩) (by assumption) ?later0x7
  case yields0x7 =>
    dsimp only at hS9
    go_simp
    try with_reducible rfl
  try simp only [Act.put, List.getElem_toArray, List.getElem_cons_succ, List.getElem_cons_zero, List.setIfInBounds_toArray, List.set_cons_zero, List.set_cons_succ]
  refine wpAnyH_take (i := 1) (v := ?val1x8) rfl (by kernel_rfl) (by kernel_rfl) (by kernel_rfl) (fun _ _ _ h => h) (Or.inl ⟨by rfl, fun w9 hS9 => ?yields1x8⟩) (by assumption) ?later1x8
  case yields1x8 =>
    dsimp only at hS9
    go_simp
    try with_reducible rfl
  try simp only [Act.put, List.getElem_toArray, List.getElem_cons_succ, List.getElem_cons_zero, List.setIfInBounds_toArray, List.set_cons_zero, List.set_cons_succ]
  refine wpAnyH_take (i := 2) (v := ?val2x9) rfl (by kernel_rfl) (by kernel_rfl) (by kernel_rfl) (fun _ _ _ h => h) (Or.inl ⟨by rfl, fun w9 hS9 => ?yields2x9⟩) (by assumption) ?later2x9
  case yields2x9 =>
    dsimp only at hS9
    go_simp
    try with_reducible rfl
  try simp only [Act.put, List.getElem_toArray, List.getElem_cons_succ, List.getElem_cons_zero, List.setIfInBounds_toArray, List.set_cons_zero, List.set_cons_succ]
  refine wpAnyH_take (i := 3) (v := ?val3x10) rfl (by kernel_rfl) (by kernel_rfl) (by kernel_rfl) (fun _ _ _ h => h) (Or.inl ⟨by rfl, fun w9 hS9 => ?yields3x10⟩) (by assumption) ?later3x10
  case yields3x10 =>
    dsimp only at hS9
    go_simp
    try with_reducible rfl
  try simp only [Act.put, List.getElem_toArray, List.getElem_cons_succ, List.getElem_cons_zero, List.setIfInBounds_toArray, List.set_cons_zero, List.set_cons_succ]
  refine wpAnyH_take (i := 4) (v := ?val4x11) rfl (by kernel_rfl) (by kernel_rfl) (by kernel_rfl) (fun _ _ _ h => h) (Or.inl ⟨by rfl, fun w9 hS9 => ?yields4x11⟩) (by assumption) ?later4x11
  case yields4x11 =>
    dsimp only at hS9
    go_simp
    try with_reducible rfl
  try simp only [Act.put, List.getElem_toArray, List.getElem_cons_succ, List.getElem_cons_zero, List.setIfInBounds_toArray, List.set_cons_zero, List.set_cons_succ]
  refine wpAnyH_take (i := 5) (v := ?val5x12) rfl (by kernel_rfl) (by kernel_rfl) (by kernel_rfl) (fun _ _ _ h => h) (Or.inl ⟨by rfl, fun w9 hS9 => ?yields5x12⟩) (by assumption) ?later5x12
  case yields5x12 =>
    dsimp only at hS9
    go_simp
    try with_reducible rfl
  try simp only [Act.put, List.getElem_toArray, List.getElem_cons_succ, List.getElem_cons_zero, List.setIfInBounds_toArray, List.set_cons_zero, List.set_cons_succ]
  refine wpAnyH_take (i := 6) (v := ?val6x13) rfl (by kernel_rfl) (by kernel_rfl) (by kernel_rfl) (fun _ _ _ h => h) (Or.inl ⟨by rfl, fun w9 hS9 => ?yields6x13⟩) (by assumption) ?later6x13
  case yields6x13 =>
    dsimp only at hS9
    go_simp
    try with_reducible rfl
  try simp only [Act.put, List.getElem_toArray, List.getElem_cons_succ, List.getElem_cons_zero, List.setIfInBounds_toArray, List.set_cons_zero, List.set_cons_succ]
  refine wpAnyH_take (i := 7) (v := ?val7x14) rfl (by kernel_rfl) (by kernel_rfl) (by kernel_rfl) (fun _ _ _ h => h) (Or.inl ⟨by rfl, fun w9 hS9 => ?yields7x14⟩) (by assumption) ?later7x14
  case yields7x14 =>
    dsimp only at hS9
    go_simp
    try with_reducible rfl
  try simp only [Act.put, List.getElem_toArray, List.getElem_cons_succ, List.getElem_cons_zero, List.setIfInBounds_toArray, List.set_cons_zero, List.set_cons_succ]
  refine wpAnyH_take (i := 8) (v := ?val8x15) rfl (by kernel_rfl) (by kernel_rfl) (by kernel_rfl) (fun _ _ _ h => h) (Or.inl ⟨by rfl, fun w9 hS9 => ?yields8x15⟩) (by assumption) ?later8x15
  case yields8x15 =>
    dsimp only at hS9
    go_simp
    try with_reducible rfl
  try simp only [Act.put, List.getElem_toArray, List.getElem_cons_succ, List.getElem_cons_zero, List.setIfInBounds_toArray, List.set_cons_zero, List.set_cons_succ]
  refine wpAnyH_ready (rs := [9]) (by kernel_rfl) (by simp) ?_
  refine AllReadyH.cons rfl (fun K hK => ?_) AllReadyH.nil
  go_simp
  go_at_call 96
  go_split_ands
  refine (xErrPair_any l d p A B (some ⟨b', o, none⟩) c e pc k a b _ (KX.out _ (Hid.out (by assumption))).1 (KX.out _ (Hid.out (by assumption))).2.1 (KX.out _ (Hid.out (by assumption))).2.2 HK.out HPE.out).mono ?_
  rintro e' w5 ⟨rfl, hb1⟩
  go_wp2_with fail
  refine hK.out _ _ ?_ (fun hHeld => ?_)
  · (try dsimp only)
    (go_split_ands; exact MK.out _ (Below.trans (Hid.out (by assumption)) (hb1.mono (Hid.out (by assumption) : Below w.heap.size w _).size)))
  clear hK K
  try simp only [Act.put, List.getElem_toArray, List.getElem_cons_succ, List.getElem_cons_zero, List.setIfInBounds_toArray, List.set_cons_zero, List.set_cons_succ]
  refine wpAnyH_take (i := 10) (v := ?val10x16) rfl (by kernel_rfl) (by kernel_rfl) (by kernel_rfl) (fun _ _ _ h => h) (Or.inl ⟨by rfl, fun w9 hS9 => ?yields10x16⟩) (by assumption) ?later10x16
  case yields10x16 =>
    dsimp only at hS9
    go_simp
    try with_reducible rfl
  try simp only [Act.put, List.getElem_toArray, List.getElem_cons_succ, List.getElem_cons_zero, List.setIfInBounds_toArray, List.set_cons_zero, List.set_cons_succ]
  refine wpAnyH_done (by kernel_rfl) ?_ _
  obtain ⟨-, -, -, -, -, HB⟩ := hHeld
  clear HBd MK
  go_wp2_with fail
  go_ret
  exact ⟨rfl, HB.out⟩
end Go.Proofs.YtfjdnbnalihjiaaGreatDoor

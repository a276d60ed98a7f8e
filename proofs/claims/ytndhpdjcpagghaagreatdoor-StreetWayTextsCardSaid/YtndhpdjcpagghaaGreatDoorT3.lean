/- The points of a road are looked at as the plain function says. No condition. -/
import Derived.Test.YtndhpdjcpagghaaGreatDoorT1
import Derived.Test.YtndhpdjcpagghaaGreatDoorWQ
import Derived.Deep.Cut
namespace Go.Proofs.YtndhpdjcpagghaaGreatDoor
open Go.RowKit Fs

/-- The worlds in which what is below a world's end is as it was. -/
theorem classOf (w : World) : ∃ C : World → Prop, Hid (∀ w', C w' → Below w.heap.size w w') ∧ Hid (∀ w', Below w.heap.size w w' → C w') := ⟨_, Lib.hid (fun _ h => h), Lib.hid (fun _ h => h)⟩
theorem Fs.errPoint_no {l : List Pt} {i : Nat} (h : ptRight (listP l i) = false) : errPoint l i = 2 := by unfold errPoint; rw [h]; rfl
theorem Fs.errPoint_order {l : List Pt} {i : Nat} (h : ptRight (listP l i) = true) (h2 : (listP l i).hi < (listP l i).lo ∨ (0 < i ∧ (listP l i).hour ≤ (listP l (i - 1)).hour)) : errPoint l i = 9 := by
  unfold errPoint; rw [h]; exact if_pos h2
theorem Fs.errPoint_yes {l : List Pt} {i : Nat} (h : ptRight (listP l i) = true) (h2 : ¬ ((listP l i).hi < (listP l i).lo ∨ (0 < i ∧ (listP l i).hour ≤ (listP l (i - 1)).hour))) : errPoint l i = 0 := by
  unfold errPoint; rw [h]; exact if_neg h2
theorem Fs.errPoint_right {l : List Pt} {i : Nat} (h : errPoint l i = 0) : ptRight (listP l i) = true := by
  cases hp : ptRight (listP l i) with
  | true => rfl
  | false => rw [errPoint_no hp] at h; cases h
theorem Fs.errPoints_hit {l : List Pt} {k : Nat} (hk : k < l.length) (h : ∀ j, j < k → errPoint l j = 0) (h1 : errPoint l k ≠ 0) : errPoints l = (k, errPoint l k) := by
  obtain ⟨a, b⟩ := fst_hit hk h h1
  unfold errPoints
  rw [if_pos (by rw [a]; exact h1), a, b]
theorem Fs.errPoints_pair {l : List Pt} {k : Nat} (h0 : ∀ j, j < l.length → errPoint l j = 0) (hk : k < l.length) (h : ∀ j, j < k → errPair l j = 0) (h1 : errPair l k ≠ 0) : errPoints l = (k, errPair l k) := by
  obtain ⟨a, b⟩ := fst_hit hk h h1
  unfold errPoints
  rw [if_neg (fun hh => hh (fst_none h0)), a, b]
theorem Fs.errPoints_none {l : List Pt} (h0 : ∀ j, j < l.length → errPoint l j = 0) (h : ∀ j, j < l.length → errPair l j = 0) : errPoints l = (0, 0) := by
  unfold errPoints
  rw [if_neg (fun hh => hh (fst_none h0)), fst_none h, idx_none h]
theorem Fs.next_is {n k : Nat} (hk : k < n) : ∃ j, j = (k + 1) % n ∧ j < n ∧ ((k : Int) + 1) % (n : Int) = (j : Int) :=
  ⟨_, rfl, Nat.mod_lt _ (by omega), by rw [Int.natCast_emod]; rfl⟩

/-- A point's cells in the block g. -/
structure PtAt (w : World) (g : Nat) (p : Pt) : Prop where
  c0 : w.cell? ⟨g, 0, none⟩ = some (.int .i64 p.hour)
  c1 : w.cell? ⟨g, 1, none⟩ = some (.int .i64 p.lo)
  c2 : w.cell? ⟨g, 2, none⟩ = some (.int .i64 p.hi)
theorem PtAt.keep {w w' : World} (k : Keep w w') {g : Nat} {p : Pt} (m : PtAt w g p) : PtAt w' g p := ⟨k _ _ m.c0, k _ _ m.c1, k _ _ m.c2⟩
theorem PtAt.new (w : World) (p : Pt) (t : TypeId) : PtAt (w.alloc (.cells #[.int .i64 p.hour, .int .i64 p.lo, .int .i64 p.hi] t)) w.heap.size p := ⟨cellNew _ _ _ 0, cellNew _ _ _ 1, cellNew _ _ _ 2⟩

set_option maxHeartbeats 1600000 in
set_option maxRecDepth 100000 in
theorem checkPoints_any (l : List Pt) (A : Option Addr) (c : Nat) (w : World) (h : ArrP w A l c) :
    Calls Tryz.prog 115 #[.slice A l.length c] w fun e w' => e = .returned (.tuple #[.int .i64 (errPoints l).1, .int .i64 (errPoints l).2]) ∧ Below w.heap.size w w' := by
  have b1 := h.le.1
  have b2 := h.le.2
  go_enter Tryz.func115, Tryz.ntmps115
  go_wp2
  go_loopw [10] (fun i wr => ∃ k : Nat, k ≤ l.length ∧ i = .int .i64 k ∧ Hid (∀ j, j < k → errPoint l j = 0) ∧ Hid (Below w.heap.size w wr)) (fun i _ => l.length - (intOf i).toNat)
  case atStart => exact ⟨0, Nat.zero_le _, rfl, fun j hj => absurd hj (Nat.not_lt_zero _), Lib.hid (Below.refl _ _)⟩
  case round =>
    obtain ⟨k, hk, rfl, Hn, HB⟩ := hrel
    by_cases hlt : k < l.length
    · have hr : ArrP wr A l c := h.keep (Keep.below HB.out)
      obtain ⟨b, o, rfl, c0, c1, c2⟩ := hr.at_ hlt
      have HW := Lib.hid (HB.out.alloc HB.out.size (.cells #[.int .i64 (listP l k).hour, .int .i64 (listP l k).lo, .int .i64 (listP l k).hi] 94))
      cases hp : ptRight (listP l k) with
      | false =>
        have F0 := errPoint_no hp
        have F := Lib.hid (errPoints_hit hlt Hn.out (by rw [F0]; decide))
        rw [F0] at F
        clear F0
        unfold ptRight at hp
        cases h1 : within (listP l k).hour 0 86399 with
        | false =>
          have H1 := Lib.hid h1
          clear h1 hp
          go_wp2_with (first | (go_at_call 85; refine (within_any _ _ _ _).mono ?_; rintro e w' ⟨rfl, rfl⟩; rw [H1.out]))
          go_ret2
          exact ⟨by rw [F.out]; rfl, HW.out⟩
        | true =>
          cases h2 : within (listP l k).lo 0 7200 with
          | false =>
            have H1 := Lib.hid h1
            have H2 := Lib.hid h2
            clear h1 h2 hp
            go_wp2_with (first | (go_at_call 85; refine (within_any _ _ _ _).mono ?_; rintro e w' ⟨rfl, rfl⟩; rw [H1.out]) | (go_at_call 132; refine (isTaken_any _ _).mono ?_; rintro e w' ⟨rfl, rfl⟩; rw [H2.out]))
            go_ret2
            exact ⟨by rw [F.out]; rfl, HW.out⟩
          | true =>
            cases h3 : within (listP l k).hi 0 7200 with
            | false =>
              have H1 := Lib.hid h1
              have H2 := Lib.hid h2
              have H3 := Lib.hid h3
              clear h1 h2 h3 hp
              go_wp2_with (first | (go_at_call 85; refine (within_any _ _ _ _).mono ?_; rintro e w' ⟨rfl, rfl⟩; rw [H1.out]) | (go_at_call 132; refine (isTaken_any _ _).mono ?_; rintro e w' ⟨rfl, rfl⟩; first | rw [H2.out] | rw [H3.out]))
              go_ret2
              exact ⟨by rw [F.out]; rfl, HW.out⟩
            | true => rw [h1, h2, h3] at hp; cases hp
      | true =>
        have hp' := hp
        unfold ptRight at hp'
        rw [Bool.and_eq_true, Bool.and_eq_true] at hp'
        obtain ⟨⟨h1, h2⟩, h3⟩ := hp'
        have H1 := Lib.hid h1
        have H2 := Lib.hid h2
        have H3 := Lib.hid h3
        have HP := Lib.hid hp
        clear h1 h2 h3 hp
        by_cases hlo : (listP l k).hi < (listP l k).lo
        · have F0 := errPoint_order HP.out (.inl hlo)
          have F := Lib.hid (errPoints_hit hlt Hn.out (by rw [F0]; decide))
          rw [F0] at F
          clear F0
          have d1 : decide ((listP l k).hi < (listP l k).lo) = true := by simpa using hlo
          clear hlo
          go_wp2_with (first | (go_at_call 85; refine (within_any _ _ _ _).mono ?_; rintro e w' ⟨rfl, rfl⟩; rw [H1.out]) | (go_at_call 132; refine (isTaken_any _ _).mono ?_; rintro e w' ⟨rfl, rfl⟩; first | rw [H2.out] | rw [H3.out]))
          go_quiet (fail)
          go_wp2
          go_ret2
          exact ⟨by rw [F.out]; rfl, bdrewN HW.out _⟩
        · have d1 : decide ((listP l k).hi < (listP l k).lo) = false := by simpa using hlo
          by_cases h0 : 0 < k
          · have d0 : decide ((0 : Int) < (k : Int)) = true := by simpa using h0
            have ib1 : (0 : Int) ≤ (k : Int) - 1 := by omega
            have ib2 : (k : Int) - 1 < (l.length : Int) := by omega
            have ix : ((k : Int) - 1).toNat = k - 1 := by omega
            obtain ⟨b', o', e', p0, -, -⟩ := hr.at_ (k := k - 1) (by omega)
            obtain ⟨rfl, rfl⟩ : b = b' ∧ o = o' := by simpa using e'
            clear e'
            have p0' := Keep.alloc wr (.cells #[.int .i64 (listP l k).hour, .int .i64 (listP l k).lo, .int .i64 (listP l k).hi] 94) _ _ p0
            by_cases hq : (listP l k).hour ≤ (listP l (k - 1)).hour
            · have F0 := errPoint_order HP.out (.inr ⟨h0, hq⟩)
              have F := Lib.hid (errPoints_hit hlt Hn.out (by rw [F0]; decide))
              rw [F0] at F
              clear F0
              have d2 : decide ((listP l k).hour ≤ (listP l (k - 1)).hour) = true := by simpa using hq
              clear hlo hq
              go_wp2_with (first | (go_at_call 85; refine (within_any _ _ _ _).mono ?_; rintro e w' ⟨rfl, rfl⟩; rw [H1.out]) | (go_at_call 132; refine (isTaken_any _ _).mono ?_; rintro e w' ⟨rfl, rfl⟩; first | rw [H2.out] | rw [H3.out]))
              go_quiet (fail)
              go_wp2
              go_ret2
              exact ⟨by rw [F.out]; rfl, bdrewN HW.out _⟩
            · have F0 := errPoint_yes HP.out (fun hh => hh.elim hlo (fun x => hq x.2))
              have F : Hid (∀ j, j < k + 1 → errPoint l j = 0) := fun j hj => by
                by_cases e : j = k
                · subst e; exact F0
                · exact Hn.out j (by omega)
              clear F0
              have d2 : decide ((listP l k).hour ≤ (listP l (k - 1)).hour) = false := by simpa using hq
              clear hlo hq
              go_wp2_with (first | (go_at_call 85; refine (within_any _ _ _ _).mono ?_; rintro e w' ⟨rfl, rfl⟩; rw [H1.out]) | (go_at_call 132; refine (isTaken_any _ _).mono ?_; rintro e w' ⟨rfl, rfl⟩; first | rw [H2.out] | rw [H3.out]))
              go_quiet (fail)
              go_wp2
              go_roundw
              case rel => exact ⟨k + 1, by omega, by go_num, F, Lib.hid (bdrewN HW.out _)⟩
              case measure => simp [intOf]; omega
          · have d0 : decide ((0 : Int) < (k : Int)) = false := by simpa using h0
            have F0 := errPoint_yes HP.out (fun hh => hh.elim hlo (fun x => h0 x.1))
            have F : Hid (∀ j, j < k + 1 → errPoint l j = 0) := fun j hj => by
              by_cases e : j = k
              · subst e; exact F0
              · exact Hn.out j (by omega)
            clear F0 hlo
            go_wp2_with (first | (go_at_call 85; refine (within_any _ _ _ _).mono ?_; rintro e w' ⟨rfl, rfl⟩; rw [H1.out]) | (go_at_call 132; refine (isTaken_any _ _).mono ?_; rintro e w' ⟨rfl, rfl⟩; first | rw [H2.out] | rw [H3.out]))
            go_quiet (fail)
            go_wp2
            go_roundw
            case rel => exact ⟨k + 1, by omega, by go_num, F, Lib.hid (bdrewN HW.out _)⟩
            case measure => simp [intOf]; omega
    · have H0 : Hid (∀ j, j < l.length → errPoint l j = 0) := fun j hj => Hn.out j (by omega)
      clear Hn
      go_wp2
      go_loopw [62] (fun i wr => ∃ k : Nat, k ≤ l.length ∧ i = .int .i64 k ∧ Hid (∀ j, j < k → errPair l j = 0) ∧ Hid (Below w.heap.size w wr)) (fun i _ => l.length - (intOf i).toNat)
      case atStart => exact ⟨0, Nat.zero_le _, rfl, fun j hj => absurd hj (Nat.not_lt_zero _), HB⟩
      case round =>
        clear hk hlt HB
        obtain ⟨k, hk, rfl, Hn, HB⟩ := hrel
        by_cases hlt : k < l.length
        · have hr := h.keep (Keep.below HB.out)
          have hr0 := hr
          obtain ⟨b, o, rfl, c0, c1, c2⟩ := hr.at_ hlt
          obtain ⟨j, hj, hjl, jx⟩ := next_is hlt
          obtain ⟨b', o', e', p0, p1, p2⟩ := hr.at_ (k := j) hjl
          obtain ⟨rfl, rfl⟩ : b = b' ∧ o = o' := by simpa using e'
          clear e'
          have R1 := Lib.hid (errPoint_right (H0.out k hlt))
          have R2 := Lib.hid (errPoint_right (H0.out j hjl))
          have hne : ((l.length : Int) == 0) = false := by simpa using (show (l.length : Int) ≠ 0 by omega)
          have hj0 : (0 : Int) ≤ (k : Int) + 1 := by omega
          have hnil : l ≠ [] := fun e => by rw [e] at hlt; exact absurd hlt (Nat.not_lt_zero _)
          have HJ := Lib.hid hj
          clear hj
          have fin : Hid (errPair l k = if inOrder (listP l k) (listP l j) then 0 else 23) := by rw [HJ.out]; exact Lib.hid rfl
          have F := fin
          have HA := Lib.hid hr0
          have BX := Lib.hid (PtAt.new wr (listP l k) 94)
          have HAb := Lib.hid (hr0.keep (Keep.alloc wr (.cells #[.int .i64 (listP l k).hour, .int .i64 (listP l k).lo, .int .i64 (listP l k).hi] 94)))
          have HW := Lib.hid (HB.out.alloc HB.out.size (.cells #[.int .i64 (listP l k).hour, .int .i64 (listP l k).lo, .int .i64 (listP l k).hi] 94))
          have hsz : (wr.alloc (.cells #[.int .i64 (listP l k).hour, .int .i64 (listP l k).lo, .int .i64 (listP l k).hi] 94)).heap.size = wr.heap.size + 1 := by simp
          go_upto_region 12 with fail
          generalize hwb : wr.alloc _ = wb at *
          clear hwb p0 p1 p2 c0 c1 c2
          have hbs : w.heap.size ≤ wb.heap.size := HW.out.size
          obtain ⟨C, Ci, Co⟩ := classOf wb
          cases ho : inOrder (listP l k) (listP l j) with
          | true =>
            have O := Lib.hid ho
            rw [ho] at F
            clear ho
            refine quietC (C := C) (by kernel_rfl) (by kernel_rfl) (Co.out _ (Below.refl _ _).drew) ?_
            repeat (first
              | go_big_quiet_skip
              | (go_big_quiet_want; go_big_quiet_op; go_big_quiet_on)
              | (refine quiet_yes (by rfl) ?_
                 apply Exists.intro
                 refine ⟨fun w' hC => ?_, ?_⟩
                 · have hbb := Ci.out _ hC
                   obtain ⟨t0, t1, t2⟩ := BX.out.keep (Keep.below hbb)
                   obtain ⟨b', o', e', p0, p1, p2⟩ := (HAb.out.keep (Keep.below hbb)).at_ (k := j) hjl
                   obtain ⟨rfl, rfl⟩ : b = b' ∧ o = o' := by simpa using e'
                   clear e'
                   go_simp
                   try go_bits
                   first
                     | done
                     | rfl
                     | (go_at_call 133
                        refine (inOrder_any (listP l k) (listP l j) _ R1.out R2.out).mono ?_
                        rintro e' w1 ⟨rfl, hb1⟩
                        rw [O.out]
                        exact ⟨rfl, Co.out _ (hbb.trans (hb1.mono hbb.size))⟩)
                 simp only [Act.put, List.setIfInBounds_toArray, List.set_cons_zero, List.set_cons_succ]))
            refine wpQuiet_nil ?_
            intro w1 hC1
            have HW1 := Lib.hid (HW.out.trans ((Ci.out _ hC1).mono hbs))
            have G : Hid (∀ i, i < k + 1 → errPair l i = 0) := fun i hi => by
              by_cases e : i = k
              · subst e; exact F.out
              · exact Hn.out i (by omega)
            go_wp2
            go_roundw
            case rel => exact ⟨k + 1, by omega, by go_num, G, HW1⟩
            case measure => simp [intOf]; omega
          | false =>
            have O := Lib.hid ho
            rw [ho] at F
            clear ho
            refine quietC (C := C) (by kernel_rfl) (by kernel_rfl) (Co.out _ (Below.refl _ _).drew) ?_
            repeat (first
              | go_big_quiet_skip
              | (go_big_quiet_want; go_big_quiet_op; go_big_quiet_on)
              | (refine quiet_yes (by rfl) ?_
                 apply Exists.intro
                 refine ⟨fun w' hC => ?_, ?_⟩
                 · have hbb := Ci.out _ hC
                   obtain ⟨t0, t1, t2⟩ := BX.out.keep (Keep.below hbb)
                   obtain ⟨b', o', e', p0, p1, p2⟩ := (HAb.out.keep (Keep.below hbb)).at_ (k := j) hjl
                   obtain ⟨rfl, rfl⟩ : b = b' ∧ o = o' := by simpa using e'
                   clear e'
                   go_simp
                   try go_bits
                   first
                     | done
                     | rfl
                     | (go_at_call 133
                        refine (inOrder_any (listP l k) (listP l j) _ R1.out R2.out).mono ?_
                        rintro e' w1 ⟨rfl, hb1⟩
                        rw [O.out]
                        exact ⟨rfl, Co.out _ (hbb.trans (hb1.mono hbb.size))⟩)
                 simp only [Act.put, List.setIfInBounds_toArray, List.set_cons_zero, List.set_cons_succ]))
            refine wpQuiet_nil ?_
            intro w1 hC1
            have HW1 := Lib.hid (HW.out.trans ((Ci.out _ hC1).mono hbs))
            have F2 := F.out
            rw [if_neg (by decide)] at F2
            have G := Lib.hid (errPoints_pair H0.out hlt Hn.out (by rw [F2]; decide))
            rw [F2] at G
            clear F2
            go_wp2
            go_ret2
            exact ⟨by rw [G.out]; rfl, HW1.out⟩
        · have F := Lib.hid (errPoints_none H0.out fun j hj => Hn.out j (by omega))
          go_wp2
          go_ret2
          exact ⟨by rw [F.out]; rfl, HB.out⟩
end Go.Proofs.YtndhpdjcpagghaaGreatDoor

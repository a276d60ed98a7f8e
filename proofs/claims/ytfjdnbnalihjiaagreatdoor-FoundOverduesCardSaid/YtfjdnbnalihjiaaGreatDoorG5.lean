/- Events: the reference's done, right, eventErr. Conditions: the days of earlier events are dates. -/
import Derived.Test.YtfjdnbnalihjiaaGreatDoorG4
namespace Go.Proofs.YtfjdnbnalihjiaaGreatDoor
open Go.RowKit Fs

theorem rDone_any (n : Int) (w : World) : Calls Tryz.prog 145 #[.int .i64 n] w fun e w' => e = .returned (.bool (isDone n)) ∧ w = w' := by
  go_enter Tryz.func145, Tryz.ntmps145
  go_wp2_with fail
  go_ret
  exact ⟨rfl, rfl⟩
set_option maxHeartbeats 800000 in
theorem rRight_any (l : List Evt) (A : Option Addr) (c k : Nat) (day : Int) (w : World) (h : ArrEv w A l c) (hk : k ≤ l.length) (hd : 0 ≤ day ∧ day ≤ 100000) (hE : 0 < k → 0 ≤ (lEvt l 0).day ∧ (lEvt l 0).day ≤ 100000) :
    Calls Tryz.prog 116 #[.slice A k c, .int .i64 day] w fun e w' => e = .returned (.int .i64 (rightOf l k day)) ∧ w = w' := by
  have b1 := h.le.1
  have b2 := h.le.2
  go_enter Tryz.func116, Tryz.ntmps116
  by_cases h0 : k = 0
  · have F := Lib.hid (show rightOf l k day = 1 from if_pos h0)
    have d1 : ((k : Int) == 0) = true := by simp; omega
    have d2 : decide (k = 0) = true := decide_eq_true h0
    clear h0
    go_wp2_with fail
    go_ret
    exact ⟨ret_int F.out.symm, rfl⟩
  · have d1 : ((k : Int) == 0) = false := by simp; omega
    have d2 : decide (k = 0) = false := decide_eq_false h0
    have hkp : (k : Int) - 1 = ((k - 1 : Nat) : Int) := by omega
    have hk1 : ((k - 1 : Nat) : Int) < (k : Int) := by omega
    have hk0 : (0 : Int) < (k : Int) := by omega
    obtain ⟨b, o, rfl, r, q⟩ := h.two (i := k - 1) (k := 0) (by omega) (by omega)
    obtain ⟨r0, r1, r2, r3, r4⟩ := r
    obtain ⟨q0, q1, q2, q3, q4⟩ := q
    obtain ⟨e0, e1⟩ := hE (by omega)
    rw [Nat.zero_mul, Nat.add_zero] at q0 q1 q2 q3 q4
    cases h1 : isDone (lEvt l (k - 1)).kind with
    | true =>
      have F := Lib.hid (show rightOf l k day = 0 by unfold rightOf; rw [if_neg h0, if_pos h1])
      clear h0
      go_wp2_with fail
      refine (rDone_any _ _).mono ?_
      rintro e w' ⟨rfl, rfl⟩
      rw [h1]
      go_wp2_with fail
      go_ret
      exact ⟨ret_int F.out.symm, rfl⟩
    | false =>
      have hw1 : IntKind.i64.wrap (day - (lEvt l 0).day) = day - (lEvt l 0).day := by rw [IntKind.wrap_i64]; omega
      by_cases h2 : day - (lEvt l 0).day ≤ 180
      · have d3 : decide (day - (lEvt l 0).day ≤ 180) = true := decide_eq_true h2
        have F := Lib.hid (show rightOf l k day = 1 by unfold rightOf; rw [if_neg h0, if_neg (by rw [h1]; decide), if_pos h2])
        clear h0 h2
        go_wp2_with fail
        refine (rDone_any _ _).mono ?_
        rintro e w' ⟨rfl, rfl⟩
        rw [h1]
        go_wp2_with fail
        go_ret
        exact ⟨ret_int F.out.symm, rfl⟩
      · have d3 : decide (day - (lEvt l 0).day ≤ 180) = false := decide_eq_false h2
        by_cases h3 : day - (lEvt l 0).day ≤ 210
        · have d4 : decide (day - (lEvt l 0).day ≤ 210) = true := decide_eq_true h3
          have F := Lib.hid (show rightOf l k day = 2 by unfold rightOf; rw [if_neg h0, if_neg (by rw [h1]; decide), if_neg h2, if_pos h3])
          clear h0 h2 h3
          go_wp2_with fail
          refine (rDone_any _ _).mono ?_
          rintro e w' ⟨rfl, rfl⟩
          rw [h1]
          go_wp2_with fail
          go_ret
          exact ⟨ret_int F.out.symm, rfl⟩
        · have d4 : decide (day - (lEvt l 0).day ≤ 210) = false := decide_eq_false h3
          have F := Lib.hid (show rightOf l k day = 3 by unfold rightOf; rw [if_neg h0, if_neg (by rw [h1]; decide), if_neg h2, if_neg h3])
          clear h0 h2 h3
          go_wp2_with fail
          refine (rDone_any _ _).mono ?_
          rintro e w' ⟨rfl, rfl⟩
          rw [h1]
          go_wp2_with fail
          go_ret
          exact ⟨ret_int F.out.symm, rfl⟩
set_option maxHeartbeats 6400000 in
set_option maxRecDepth 100000 in
theorem rEventErr_any (x : Thg) (l : List Evt) (A : Option Addr) (c k : Nat) (p : Option Addr) (pc : Nat) (w : World) (h : ArrEv w A l c) (hk : k < l.length) (hl : l.length ≤ 1000) (hdy : ∀ j, j < k → 0 ≤ (lEvt l j).day ∧ (lEvt l j).day ≤ 100000) :
    Calls Tryz.prog 111 #[thgV x p pc, .slice A k c, evtV (lEvt l k)] w fun e w' => e = .returned (.int .i64 (evtAt x l k)) ∧ Below w.heap.size w w' := by
  have b1 := h.le.1
  have b2 := h.le.2
  have HA := Lib.hid h
  have HDY := Lib.hid hdy
  have BX := Lib.hid ((ThgAt.new w x p pc 24).keep (Keep.alloc _ (.cells #[.string (lEvt l k).item, .int .i64 (lEvt l k).day, .int .i64 (lEvt l k).kind, .string (lEvt l k).src, .string (lEvt l k).dst] 107)))
  have BE := Lib.hid (show EvtAt ((w.alloc (.cells #[.string x.name, .int .i64 x.day, .string x.who, .slice p x.marks.length pc] 24)).alloc (.cells #[.string (lEvt l k).item, .int .i64 (lEvt l k).day, .int .i64 (lEvt l k).kind, .string (lEvt l k).src, .string (lEvt l k).dst] 107)) (w.heap.size + 1) 0 (lEvt l k) from ⟨cellNew1 _ _ _ _ 0, cellNew1 _ _ _ _ 1, cellNew1 _ _ _ _ 2, cellNew1 _ _ _ _ 3, cellNew1 _ _ _ _ 4⟩)
  clear h hdy
  go_enter Tryz.func111, Tryz.ntmps111
  go_upto_region 1 with fail
  generalize hwb : (w.alloc _).alloc _ = wb at *
  have HW : Hid (Below w.heap.size w wb) := by rw [← hwb]; exact Lib.hid (((Below.refl _ _).alloc (Nat.le_refl _) _).alloc (by simp) _)
  clear hwb
  obtain ⟨q0, q1, q2, q3⟩ := BX.out
  obtain ⟨r0, r1, r2, r3, r4⟩ := BE.out
  by_cases hk0 : k = 0
  · have HK0 := Lib.hid hk0
    clear hk0
    by_cases h0 : (lEvt l k).item = x.name
    · have e1 := str_eq h0
      have e2 : ((lEvt l k).item.toList != x.name.toList) = false := by rw [bne, e1]; rfl
      have C0 : Hid (¬ ((lEvt l k).item ≠ x.name)) := Lib.hid (fun hh => hh h0)
      clear h0
      go_wp2_with fail
      cases h1 : isDay (lEvt l k).day with
      | false =>
        have F := Lib.hid (show evtAt x l k = 2 by unfold evtAt; rw [if_neg C0.out, if_pos h1])
        refine (bwithin_any _ _ _ _).mono ?_
        rintro e w9 ⟨rfl, rfl⟩
        rw [show within (lEvt l k).day 0 100000 = false from h1]
        go_wp2_with fail
        go_ret
        exact ⟨ret_int F.out.symm, HW.out⟩
      | true =>
        have C1 : Hid (¬ (isDay (lEvt l k).day = false)) := Lib.hid (by rw [h1]; decide)
        obtain ⟨dy0, dy1⟩ := Fs.within_iff.1 (show within (lEvt l k).day 0 100000 = true from h1)
        refine (bwithin_any _ _ _ _).mono ?_
        rintro e w9 ⟨rfl, rfl⟩
        rw [show within (lEvt l k).day 0 100000 = true from h1]
        go_wp2_with fail
        clear h1
        cases h2 : within (lEvt l k).kind 0 4 with
        | false =>
          have F := Lib.hid (show evtAt x l k = 15 by unfold evtAt; rw [if_neg C0.out, if_neg C1.out, if_pos h2])
          refine (bwithin_any _ _ _ _).mono ?_
          rintro e w9 ⟨rfl, rfl⟩
          rw [h2]
          go_wp2_with fail
          go_ret
          exact ⟨ret_int F.out.symm, HW.out⟩
        | true =>
          have C2 : Hid (¬ (within (lEvt l k).kind 0 4 = false)) := Lib.hid (by rw [h2]; decide)
          refine (bwithin_any _ _ _ _).mono ?_
          rintro e w9 ⟨rfl, rfl⟩
          rw [h2]
          go_wp2_with fail
          clear h2
          cases h3 : isName (lEvt l k).src with
          | false =>
            have F := Lib.hid (show evtAt x l k = 4 by unfold evtAt; rw [if_neg C0.out, if_neg C1.out, if_neg C2.out, if_pos (Or.inl h3)])
            refine (bIsName_any _ _).mono ?_
            rintro e w9 ⟨rfl, rfl⟩
            rw [h3]
            go_wp2_with fail
            go_ret
            exact ⟨ret_int F.out.symm, HW.out⟩
          | true =>
            cases h4 : isName (lEvt l k).dst with
            | false =>
              have F := Lib.hid (show evtAt x l k = 4 by unfold evtAt; rw [if_neg C0.out, if_neg C1.out, if_neg C2.out, if_pos (Or.inr h4)])
              refine (bIsName_any _ _).mono ?_
              rintro e w9 ⟨rfl, rfl⟩
              rw [h3]
              go_wp2_with fail
              refine (bIsName_any _ _).mono ?_
              rintro e w9 ⟨rfl, rfl⟩
              rw [h4]
              go_wp2_with fail
              go_ret
              exact ⟨ret_int F.out.symm, HW.out⟩
            | true =>
              have C3 : Hid (¬ (isName (lEvt l k).src = false ∨ isName (lEvt l k).dst = false)) := Lib.hid (by rw [h3, h4]; decide)
              refine (bIsName_any _ _).mono ?_
              rintro e w9 ⟨rfl, rfl⟩
              rw [h3]
              go_wp2_with fail
              refine (bIsName_any _ _).mono ?_
              rintro e w9 ⟨rfl, rfl⟩
              rw [h4]
              go_wp2_with fail
              clear h3 h4
              have d1 : decide ((k : Int) > 0) = false := decide_eq_false (by have := HK0.out; omega)
              have d2 : decide (0 < (k : Int)) = false := decide_eq_false (by have := HK0.out; omega)
              have d3 : decide (0 < k) = false := decide_eq_false (by have := HK0.out; omega)
              have HD := Lib.hid (show dayOf x l k = x.day from if_pos HK0.out)
              have HH := Lib.hid (show holderOf x l k = x.who from if_pos HK0.out)
              have HE := Lib.hid (show endedOf l k = false from if_pos HK0.out)
              go_quiet (fail)
              have BX2 := Lib.hid (BX.out.keep (Keep.below (bdrewN (Below.refl _ _) nq)))
              have BE2 := Lib.hid (BE.out.keep (Keep.below (bdrewN (Below.refl _ _) nq)))
              have HW2 := Lib.hid (bdrewN HW.out nq)
              clear q0 q1 q2 q3 r0 r1 r2 r3 r4 BX BE HW
              generalize World.drewN wb nq = wy at *
              clear nq
              have HW := HW2
              have BX := BX2
              have BE := BE2
              clear HW2 BX2 BE2
              obtain ⟨q0, q1, q2, q3⟩ := BX.out
              obtain ⟨r0, r1, r2, r3, r4⟩ := BE.out
              by_cases h5 : (lEvt l k).day < x.day
              · have d5 : decide ((lEvt l k).day < x.day) = true := decide_eq_true h5
                have F := Lib.hid (show evtAt x l k = 9 by unfold evtAt; rw [if_neg C0.out, if_neg C1.out, if_neg C2.out, if_neg C3.out, if_pos (by rw [HD.out]; exact h5)])
                go_wp2_with fail
                go_ret
                exact ⟨ret_int F.out.symm, HW.out⟩
              · have d5 : decide ((lEvt l k).day < x.day) = false := decide_eq_false h5
                have h5c : x.day ≤ (lEvt l k).day := Int.not_lt.1 h5
                have C4 : Hid (dayOf x l k ≤ (lEvt l k).day) := Lib.hid (by rw [HD.out]; exact Int.not_lt.1 h5)
                have d6 : ((k : Int) == 0) = true := by have := HK0.out; simp; omega
                have d7 : decide (k = 0) = true := decide_eq_true HK0.out
                by_cases hq : (lEvt l k).kind = 0
                · have e5 : ((lEvt l k).kind == 0) = true := by simpa using hq
                  have C5 : Hid (¬ (((lEvt l k).kind = 0 ↔ k ≠ 0) ∨ endedOf l k = true)) := Lib.hid (by rw [HE.out]; exact fun hh => hh.elim (fun hh => absurd HK0.out (hh.1 hq)) (fun hh => absurd hh (by decide)))
                  by_cases h7 : (lEvt l k).src = x.who
                  · have e6 := str_eq h7
                    have e7 : ((lEvt l k).src.toList != x.who.toList) = false := by rw [bne, e6]; rfl
                    have C6 : Hid (¬ ((lEvt l k).src ≠ holderOf x l k)) := Lib.hid (by rw [HH.out]; exact fun hh => hh h7)
                    clear h7
                    have h8 : ¬ (lEvt l k).kind = 3 := by omega
                    have h9 : ¬ (lEvt l k).kind = 4 := by omega
                    have e8 : ((lEvt l k).kind == 3) = false := by simpa using h8
                    have e13 : ((lEvt l k).kind == 4) = false := by simpa using h9
                    have C7 : Hid (¬ ((lEvt l k).kind = 3 ∧ (lEvt l k).dst ≠ x.who)) := Lib.hid (fun hh => h8 hh.1)
                    have C8 : Hid (¬ (((lEvt l k).kind = 3 ∧ rightOf l k (lEvt l k).day ≠ 2) ∨ ((lEvt l k).kind = 4 ∧ rightOf l k (lEvt l k).day ≠ 3))) := Lib.hid (fun hh => hh.elim (fun hh => h8 hh.1) (fun hh => h9 hh.1))
                    have F := Lib.hid (show evtAt x l k = 0 by unfold evtAt; rw [if_neg C0.out, if_neg C1.out, if_neg C2.out, if_neg C3.out, if_neg (Int.not_lt.2 C4.out), if_neg C5.out, if_neg C6.out, if_neg C7.out, if_neg C8.out])
                    clear hq h8 h9
                    go_wp2_with fail
                    refine (rRight_any l _ c k (lEvt l k).day _ (HA.out.keep (Keep.below HW.out)) (by omega) ⟨dy0, dy1⟩ (fun h => HDY.out 0 h)).mono ?_
                    rintro e w9 ⟨rfl, rfl⟩
                    generalize hrr : rightOf l k (lEvt l k).day = rr at *
                    go_wp2_with fail
                    go_ret
                    exact ⟨ret_int F.out.symm, HW.out⟩
                  · have e6 := str_ne h7
                    have e7 : ((lEvt l k).src.toList != x.who.toList) = true := by rw [bne, e6]; rfl
                    have F := Lib.hid (show evtAt x l k = 13 by unfold evtAt; rw [if_neg C0.out, if_neg C1.out, if_neg C2.out, if_neg C3.out, if_neg (Int.not_lt.2 C4.out), if_neg C5.out, if_pos (by rw [HH.out]; exact h7)])
                    clear h7
                    go_wp2_with fail
                    go_ret
                    exact ⟨ret_int F.out.symm, HW.out⟩
                · have e5 : ((lEvt l k).kind == 0) = false := by simpa using hq
                  have F := Lib.hid (show evtAt x l k = 22 by unfold evtAt; rw [if_neg C0.out, if_neg C1.out, if_neg C2.out, if_neg C3.out, if_neg (Int.not_lt.2 C4.out), if_pos (Or.inl (by exact ⟨fun h => absurd h hq, fun h => absurd HK0.out h⟩))])
                  go_wp2_with fail
                  go_ret
                  exact ⟨ret_int F.out.symm, HW.out⟩
    · have e1 := str_ne h0
      have e2 : ((lEvt l k).item.toList != x.name.toList) = true := by rw [bne, e1]; rfl
      have F := Lib.hid (show evtAt x l k = 6 by unfold evtAt; rw [if_pos h0])
      clear h0
      go_wp2_with fail
      go_ret
      exact ⟨ret_int F.out.symm, HW.out⟩
  · have HK0 := Lib.hid hk0
    clear hk0
    by_cases h0 : (lEvt l k).item = x.name
    · have e1 := str_eq h0
      have e2 : ((lEvt l k).item.toList != x.name.toList) = false := by rw [bne, e1]; rfl
      have C0 : Hid (¬ ((lEvt l k).item ≠ x.name)) := Lib.hid (fun hh => hh h0)
      clear h0
      go_wp2_with fail
      cases h1 : isDay (lEvt l k).day with
      | false =>
        have F := Lib.hid (show evtAt x l k = 2 by unfold evtAt; rw [if_neg C0.out, if_pos h1])
        refine (bwithin_any _ _ _ _).mono ?_
        rintro e w9 ⟨rfl, rfl⟩
        rw [show within (lEvt l k).day 0 100000 = false from h1]
        go_wp2_with fail
        go_ret
        exact ⟨ret_int F.out.symm, HW.out⟩
      | true =>
        have C1 : Hid (¬ (isDay (lEvt l k).day = false)) := Lib.hid (by rw [h1]; decide)
        obtain ⟨dy0, dy1⟩ := Fs.within_iff.1 (show within (lEvt l k).day 0 100000 = true from h1)
        refine (bwithin_any _ _ _ _).mono ?_
        rintro e w9 ⟨rfl, rfl⟩
        rw [show within (lEvt l k).day 0 100000 = true from h1]
        go_wp2_with fail
        clear h1
        cases h2 : within (lEvt l k).kind 0 4 with
        | false =>
          have F := Lib.hid (show evtAt x l k = 15 by unfold evtAt; rw [if_neg C0.out, if_neg C1.out, if_pos h2])
          refine (bwithin_any _ _ _ _).mono ?_
          rintro e w9 ⟨rfl, rfl⟩
          rw [h2]
          go_wp2_with fail
          go_ret
          exact ⟨ret_int F.out.symm, HW.out⟩
        | true =>
          have C2 : Hid (¬ (within (lEvt l k).kind 0 4 = false)) := Lib.hid (by rw [h2]; decide)
          refine (bwithin_any _ _ _ _).mono ?_
          rintro e w9 ⟨rfl, rfl⟩
          rw [h2]
          go_wp2_with fail
          clear h2
          cases h3 : isName (lEvt l k).src with
          | false =>
            have F := Lib.hid (show evtAt x l k = 4 by unfold evtAt; rw [if_neg C0.out, if_neg C1.out, if_neg C2.out, if_pos (Or.inl h3)])
            refine (bIsName_any _ _).mono ?_
            rintro e w9 ⟨rfl, rfl⟩
            rw [h3]
            go_wp2_with fail
            go_ret
            exact ⟨ret_int F.out.symm, HW.out⟩
          | true =>
            cases h4 : isName (lEvt l k).dst with
            | false =>
              have F := Lib.hid (show evtAt x l k = 4 by unfold evtAt; rw [if_neg C0.out, if_neg C1.out, if_neg C2.out, if_pos (Or.inr h4)])
              refine (bIsName_any _ _).mono ?_
              rintro e w9 ⟨rfl, rfl⟩
              rw [h3]
              go_wp2_with fail
              refine (bIsName_any _ _).mono ?_
              rintro e w9 ⟨rfl, rfl⟩
              rw [h4]
              go_wp2_with fail
              go_ret
              exact ⟨ret_int F.out.symm, HW.out⟩
            | true =>
              have C3 : Hid (¬ (isName (lEvt l k).src = false ∨ isName (lEvt l k).dst = false)) := Lib.hid (by rw [h3, h4]; decide)
              refine (bIsName_any _ _).mono ?_
              rintro e w9 ⟨rfl, rfl⟩
              rw [h3]
              go_wp2_with fail
              refine (bIsName_any _ _).mono ?_
              rintro e w9 ⟨rfl, rfl⟩
              rw [h4]
              go_wp2_with fail
              clear h3 h4
              have d1 : decide ((k : Int) > 0) = true := decide_eq_true (by have := HK0.out; omega)
              have d2 : decide (0 < (k : Int)) = true := decide_eq_true (by have := HK0.out; omega)
              have d3 : decide (0 < k) = true := decide_eq_true (by have := HK0.out; omega)
              have hkp : (k : Int) - 1 = ((k - 1 : Nat) : Int) := by have := HK0.out; omega
              have hk1 : ((k - 1 : Nat) : Int) < (k : Int) := by have := HK0.out; omega
              have hkw : IntKind.i64.wrap ((k - 1 : Nat) : Int) = ((k - 1 : Nat) : Int) := by rw [IntKind.wrap_i64]; omega
              have HD := Lib.hid (show dayOf x l k = (lEvt l (k - 1)).day from if_neg HK0.out)
              have HH := Lib.hid (show holderOf x l k = (lEvt l (k - 1)).dst from if_neg HK0.out)
              have HE := Lib.hid (show endedOf l k = isDone (lEvt l (k - 1)).kind from if_neg HK0.out)
              go_quiet (fail)
              go_wp2_with fail
              have BX2 := Lib.hid (BX.out.keep (Keep.below (bdrewN (Below.refl _ _) nq)))
              have BE2 := Lib.hid (BE.out.keep (Keep.below (bdrewN (Below.refl _ _) nq)))
              have HW2 := Lib.hid (bdrewN HW.out nq)
              clear q0 q1 q2 q3 r0 r1 r2 r3 r4 BX BE HW
              generalize World.drewN wb nq = wz at *
              clear nq
              have HW := HW2
              have BX := BX2
              have BE := BE2
              clear HW2 BX2 BE2
              obtain ⟨q0, q1, q2, q3⟩ := BX.out
              obtain ⟨r0, r1, r2, r3, r4⟩ := BE.out
              obtain ⟨gb, go, rfl, z0, z1, z2, z3, z4⟩ := (HA.out.keep (Keep.below HW.out)).at_ (k := k - 1) (by have := HK0.out; omega)
              go_quiet ((go_at_call 145; exact Calls.quiet_of_same ((rDone_any _ _).mono fun _ _ h => ⟨h.1, h.2.symm⟩)))
              clear z0 z1 z2 z3 z4 hkp hkw hk1 d1 d2 d3
              have BX2 := Lib.hid (BX.out.keep (Keep.below (bdrewN (Below.refl _ _) nq)))
              have BE2 := Lib.hid (BE.out.keep (Keep.below (bdrewN (Below.refl _ _) nq)))
              have HW2 := Lib.hid (bdrewN HW.out nq)
              clear q0 q1 q2 q3 r0 r1 r2 r3 r4 BX BE HW
              generalize World.drewN wz nq = wy at *
              clear nq
              have HW := HW2
              have BX := BX2
              have BE := BE2
              clear HW2 BX2 BE2
              obtain ⟨q0, q1, q2, q3⟩ := BX.out
              obtain ⟨r0, r1, r2, r3, r4⟩ := BE.out
              by_cases h5 : (lEvt l k).day < (lEvt l (k - 1)).day
              · have d5 : decide ((lEvt l k).day < (lEvt l (k - 1)).day) = true := decide_eq_true h5
                have F := Lib.hid (show evtAt x l k = 9 by unfold evtAt; rw [if_neg C0.out, if_neg C1.out, if_neg C2.out, if_neg C3.out, if_pos (by rw [HD.out]; exact h5)])
                go_wp2_with fail
                go_ret
                exact ⟨ret_int F.out.symm, HW.out⟩
              · have d5 : decide ((lEvt l k).day < (lEvt l (k - 1)).day) = false := decide_eq_false h5
                have h5c : (lEvt l (k - 1)).day ≤ (lEvt l k).day := Int.not_lt.1 h5
                have C4 : Hid (dayOf x l k ≤ (lEvt l k).day) := Lib.hid (by rw [HD.out]; exact Int.not_lt.1 h5)
                have d6 : ((k : Int) == 0) = false := by have := HK0.out; simp; omega
                have d7 : decide (k = 0) = false := decide_eq_false HK0.out
                by_cases hq : (lEvt l k).kind = 0
                · have e5 : ((lEvt l k).kind == 0) = true := by simpa using hq
                  have F := Lib.hid (show evtAt x l k = 22 by unfold evtAt; rw [if_neg C0.out, if_neg C1.out, if_neg C2.out, if_neg C3.out, if_neg (Int.not_lt.2 C4.out), if_pos (Or.inl (by exact ⟨fun _ => HK0.out, fun _ => hq⟩))])
                  go_wp2_with fail
                  go_ret
                  exact ⟨ret_int F.out.symm, HW.out⟩
                · have e5 : ((lEvt l k).kind == 0) = false := by simpa using hq
                  cases h6 : isDone (lEvt l (k - 1)).kind with
                  | true =>
                    have F := Lib.hid (show evtAt x l k = 22 by unfold evtAt; rw [if_neg C0.out, if_neg C1.out, if_neg C2.out, if_neg C3.out, if_neg (Int.not_lt.2 C4.out), if_pos (Or.inr (by rw [HE.out]; exact h6))])
                    go_wp2_with fail
                    go_ret
                    exact ⟨ret_int F.out.symm, HW.out⟩
                  | false =>
                    have C5 : Hid (¬ (((lEvt l k).kind = 0 ↔ k ≠ 0) ∨ endedOf l k = true)) := Lib.hid (by rw [HE.out, h6]; exact fun hh => hh.elim (fun hh => absurd (hh.2 HK0.out) hq) (fun hh => absurd hh (by decide)))
                    by_cases h7 : (lEvt l k).src = (lEvt l (k - 1)).dst
                    · have e6 := str_eq h7
                      have e7 : ((lEvt l k).src.toList != (lEvt l (k - 1)).dst.toList) = false := by rw [bne, e6]; rfl
                      have C6 : Hid (¬ ((lEvt l k).src ≠ holderOf x l k)) := Lib.hid (by rw [HH.out]; exact fun hh => hh h7)
                      clear h7
                      by_cases h8 : (lEvt l k).kind = 3
                      · have e8 : ((lEvt l k).kind == 3) = true := by simpa using h8
                        have H8 := Lib.hid h8
                        have e13 : ((lEvt l k).kind == 4) = false := by rw [beq_eq_false_iff_ne]; omega
                        clear hq h8
                        by_cases h9 : (lEvt l k).dst = x.who
                        · have e11 := str_eq h9
                          have e12 : ((lEvt l k).dst.toList != x.who.toList) = false := by rw [bne, e11]; rfl
                          have C7 : Hid (¬ ((lEvt l k).kind = 3 ∧ (lEvt l k).dst ≠ x.who)) := Lib.hid (fun hh => hh.2 h9)
                          clear h9
                          go_wp2_with fail
                          refine (rRight_any l _ c k (lEvt l k).day _ (HA.out.keep (Keep.below HW.out)) (by omega) ⟨dy0, dy1⟩ (fun h => HDY.out 0 h)).mono ?_
                          rintro e w9 ⟨rfl, rfl⟩
                          generalize hrr : rightOf l k (lEvt l k).day = rr at *
                          by_cases hr : rr = 2
                          · have e9 : (rr == 2) = true := by simpa using hr
                            have e10 : (rr != 2) = false := by rw [bne, e9]; rfl
                            have C8 : Hid (¬ (((lEvt l k).kind = 3 ∧ rightOf l k (lEvt l k).day ≠ 2) ∨ ((lEvt l k).kind = 4 ∧ rightOf l k (lEvt l k).day ≠ 3))) := Lib.hid (by rw [hrr]; exact fun hh => hh.elim (fun hh => hh.2 hr) (fun hh => by have := H8.out; have := hh.1; omega))
                            have F := Lib.hid (show evtAt x l k = 0 by unfold evtAt; rw [if_neg C0.out, if_neg C1.out, if_neg C2.out, if_neg C3.out, if_neg (Int.not_lt.2 C4.out), if_neg C5.out, if_neg C6.out, if_neg C7.out, if_neg C8.out])
                            go_wp2_with fail
                            go_ret
                            exact ⟨ret_int F.out.symm, HW.out⟩
                          · have e9 : (rr == 2) = false := by simpa using hr
                            have e10 : (rr != 2) = true := by rw [bne, e9]; rfl
                            have F := Lib.hid (show evtAt x l k = 25 by unfold evtAt; rw [if_neg C0.out, if_neg C1.out, if_neg C2.out, if_neg C3.out, if_neg (Int.not_lt.2 C4.out), if_neg C5.out, if_neg C6.out, if_neg C7.out, if_pos (Or.inl ⟨H8.out, by rw [hrr]; exact hr⟩)])
                            go_wp2_with fail
                            go_ret
                            exact ⟨ret_int F.out.symm, HW.out⟩
                        · have e11 := str_ne h9
                          have e12 : ((lEvt l k).dst.toList != x.who.toList) = true := by rw [bne, e11]; rfl
                          have F := Lib.hid (show evtAt x l k = 18 by unfold evtAt; rw [if_neg C0.out, if_neg C1.out, if_neg C2.out, if_neg C3.out, if_neg (Int.not_lt.2 C4.out), if_neg C5.out, if_neg C6.out, if_pos ⟨H8.out, h9⟩])
                          clear h9
                          go_wp2_with fail
                          go_ret
                          exact ⟨ret_int F.out.symm, HW.out⟩
                      · have e8 : ((lEvt l k).kind == 3) = false := by simpa using h8
                        have C7 : Hid (¬ ((lEvt l k).kind = 3 ∧ (lEvt l k).dst ≠ x.who)) := Lib.hid (fun hh => h8 hh.1)
                        have H8 := Lib.hid h8
                        clear hq h8
                        by_cases h9 : (lEvt l k).kind = 4
                        · have e13 : ((lEvt l k).kind == 4) = true := by simpa using h9
                          have H9 := Lib.hid h9
                          clear h9
                          go_wp2_with fail
                          refine (rRight_any l _ c k (lEvt l k).day _ (HA.out.keep (Keep.below HW.out)) (by omega) ⟨dy0, dy1⟩ (fun h => HDY.out 0 h)).mono ?_
                          rintro e w9 ⟨rfl, rfl⟩
                          generalize hrr : rightOf l k (lEvt l k).day = rr at *
                          by_cases hr : rr = 3
                          · have e9 : (rr == 3) = true := by simpa using hr
                            have e10 : (rr != 3) = false := by rw [bne, e9]; rfl
                            have C8 : Hid (¬ (((lEvt l k).kind = 3 ∧ rightOf l k (lEvt l k).day ≠ 2) ∨ ((lEvt l k).kind = 4 ∧ rightOf l k (lEvt l k).day ≠ 3))) := Lib.hid (by rw [hrr]; exact fun hh => hh.elim (fun hh => H8.out hh.1) (fun hh => hh.2 hr))
                            have F := Lib.hid (show evtAt x l k = 0 by unfold evtAt; rw [if_neg C0.out, if_neg C1.out, if_neg C2.out, if_neg C3.out, if_neg (Int.not_lt.2 C4.out), if_neg C5.out, if_neg C6.out, if_neg C7.out, if_neg C8.out])
                            go_wp2_with fail
                            go_ret
                            exact ⟨ret_int F.out.symm, HW.out⟩
                          · have e9 : (rr == 3) = false := by simpa using hr
                            have e10 : (rr != 3) = true := by rw [bne, e9]; rfl
                            have F := Lib.hid (show evtAt x l k = 25 by unfold evtAt; rw [if_neg C0.out, if_neg C1.out, if_neg C2.out, if_neg C3.out, if_neg (Int.not_lt.2 C4.out), if_neg C5.out, if_neg C6.out, if_neg C7.out, if_pos (Or.inr ⟨H9.out, by rw [hrr]; exact hr⟩)])
                            go_wp2_with fail
                            go_ret
                            exact ⟨ret_int F.out.symm, HW.out⟩
                        · have e13 : ((lEvt l k).kind == 4) = false := by simpa using h9
                          have H9 := Lib.hid h9
                          clear h9
                          go_wp2_with fail
                          refine (rRight_any l _ c k (lEvt l k).day _ (HA.out.keep (Keep.below HW.out)) (by omega) ⟨dy0, dy1⟩ (fun h => HDY.out 0 h)).mono ?_
                          rintro e w9 ⟨rfl, rfl⟩
                          generalize hrr : rightOf l k (lEvt l k).day = rr at *
                          have C8 : Hid (¬ (((lEvt l k).kind = 3 ∧ rightOf l k (lEvt l k).day ≠ 2) ∨ ((lEvt l k).kind = 4 ∧ rightOf l k (lEvt l k).day ≠ 3))) := Lib.hid (fun hh => hh.elim (fun hh => H8.out hh.1) (fun hh => H9.out hh.1))
                          have F := Lib.hid (show evtAt x l k = 0 by unfold evtAt; rw [if_neg C0.out, if_neg C1.out, if_neg C2.out, if_neg C3.out, if_neg (Int.not_lt.2 C4.out), if_neg C5.out, if_neg C6.out, if_neg C7.out, if_neg C8.out])
                          go_wp2_with fail
                          go_ret
                          exact ⟨ret_int F.out.symm, HW.out⟩
                    · have e6 := str_ne h7
                      have e7 : ((lEvt l k).src.toList != (lEvt l (k - 1)).dst.toList) = true := by rw [bne, e6]; rfl
                      have F := Lib.hid (show evtAt x l k = 13 by unfold evtAt; rw [if_neg C0.out, if_neg C1.out, if_neg C2.out, if_neg C3.out, if_neg (Int.not_lt.2 C4.out), if_neg C5.out, if_pos (by rw [HH.out]; exact h7)])
                      clear h7
                      go_wp2_with fail
                      go_ret
                      exact ⟨ret_int F.out.symm, HW.out⟩
    · have e1 := str_ne h0
      have e2 : ((lEvt l k).item.toList != x.name.toList) = true := by rw [bne, e1]; rfl
      have F := Lib.hid (show evtAt x l k = 6 by unfold evtAt; rw [if_pos h0])
      clear h0
      go_wp2_with fail
      go_ret
      exact ⟨ret_int F.out.symm, HW.out⟩
end Go.Proofs.YtfjdnbnalihjiaaGreatDoor

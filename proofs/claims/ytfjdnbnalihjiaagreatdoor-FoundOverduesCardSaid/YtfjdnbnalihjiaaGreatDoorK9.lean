/- The errors of an event of an item, alone and as the next one. No condition. -/
import Derived.Test.YtfjdnbnalihjiaaGreatDoorK8
namespace Go.Proofs.YtfjdnbnalihjiaaGreatDoor
open Go.RowKit Fs

theorem xBehind_any (s : Std) (x : Evt) (w : World) (ht : TabSt w) (h0 : 0 ≤ x.kind) (h4 : x.kind ≤ 4) :
    Calls Tryz.prog 110 #[stdV s, evtV x] w fun e w' => e = .returned (stdV (nextS s x)) ∧ Below w.heap.size w w' := by
  by_cases hk : x.kind = 0
  · have := xBehind0_any s x w ht
    rw [show nextS s x = ⟨x.dst, stB 0, x.day, x.day⟩ by unfold nextS; rw [if_pos hk, hk]; rfl]
    unfold evtV
    rw [hk]
    exact this
  · obtain ⟨κ, hκ⟩ : ∃ κ : Nat, x.kind = ((κ + 1 : Nat) : Int) := ⟨x.kind.toNat - 1, by omega⟩
    have := xBehind1_any s x κ (by omega) w ht
    rw [show nextS s x = ⟨x.dst, stB (κ + 1), x.day, s.stored⟩ by unfold nextS; rw [if_neg hk, hκ]; rfl]
    unfold evtV
    rw [hκ]
    exact this
def Fs.rightD (s : Std) (d : Int) : Int := if doneS s = true then 0 else if s.state = 0 ∨ d ≤ 180 then 1 else if d ≤ 210 then 2 else 3
set_option linter.unusedSimpArgs false in
set_option maxHeartbeats 12800000 in
set_option maxRecDepth 100000 in
theorem xRightD_any (s : Std) (day : Int) (w : World) : Calls Tryz.prog 114 #[stdV s, .int .i64 day] w fun e w' => e = .returned (.int .i64 (rightD s (IntKind.i64.wrap (day - s.stored)))) ∧ Below w.heap.size w w' := by
  have BS := Lib.hid (StdAt.new w s 152)
  have HW := Lib.hid ((Below.refl w.heap.size w).alloc (Nat.le_refl _) (.cells #[.string s.holder, .int .i64 s.state, .int .i64 s.day, .int .i64 s.stored] 152))
  obtain ⟨d, hd⟩ : ∃ d, d = IntKind.i64.wrap (day - s.stored) := ⟨_, rfl⟩
  rw [← hd]
  have hd2 : IntKind.i64.wrap (day - s.stored) = d := hd.symm
  clear hd
  go_enter Tryz.func114, Tryz.ntmps114
  go_upto_region 1 with fail
  generalize w.alloc _ = wb at *
  obtain ⟨q0, q1, q2, q3, _, _, _, _⟩ := BS.out
  go_wp2_with fail
  refine (xIsDone_any s _).mono ?_
  rintro e w1 ⟨rfl, hb1⟩
  replace HW := Lib.hid (HW.out.trans (hb1.mono HW.out.size))
  replace BS := Lib.hid (BS.out.keep hb1)
  clear q0 q1 q2 q3 hb1
  obtain ⟨q0, q1, q2, q3, _, _, _, _⟩ := BS.out
  cases hdn : doneS s with
  | true =>
    have F := Lib.hid (show rightD s d = 0 by unfold rightD; simp [hdn])
    go_wp2_with fail
    go_ret
    exact ⟨ret_int F.out.symm, HW.out⟩
  | false =>
    by_cases hs : s.state = 0
    · have e1 : (s.state == 0) = true := by simpa using hs
      have F := Lib.hid (show rightD s d = 1 by unfold rightD; simp [hdn, hs])
      clear hs
      go_wp2_with fail
      go_ret
      exact ⟨ret_int F.out.symm, HW.out⟩
    · have e1 : (s.state == 0) = false := by simpa using hs
      by_cases h1 : d ≤ 180
      · have d1 := decide_eq_true h1
        have F := Lib.hid (show rightD s d = 1 by unfold rightD; simp [hdn, h1])
        clear h1 hs
        go_wp2_with fail
        go_ret
        exact ⟨ret_int F.out.symm, HW.out⟩
      · have d1 := decide_eq_false h1
        by_cases h2 : d ≤ 210
        · have d2 := decide_eq_true h2
          have F := Lib.hid (show rightD s d = 2 by unfold rightD; simp [hdn, h1, h2, hs])
          clear h1 h2 hs
          go_wp2_with fail
          go_ret
          exact ⟨ret_int F.out.symm, HW.out⟩
        · have d2 := decide_eq_false h2
          have F := Lib.hid (show rightD s d = 3 by unfold rightD; simp [hdn, h1, h2, hs])
          clear h1 h2 hs
          go_wp2_with fail
          go_ret
          exact ⟨ret_int F.out.symm, HW.out⟩
def Fs.nextE (s : Std) (x : Thg) (e : Evt) : Int :=
  if e.day < s.day then 9
  else if ¬ (e.kind = 0 ↔ s.state = 0) ∨ doneS s = true then 22
  else if e.src ≠ s.holder then 13
  else if e.kind = 3 ∧ e.dst ≠ x.who then 18
  else if (e.kind = 3 ∧ rightD s (IntKind.i64.wrap (e.day - s.stored)) ≠ 2) ∨ (e.kind = 4 ∧ rightD s (IntKind.i64.wrap (e.day - s.stored)) ≠ 3) then 25 else 0
set_option linter.unusedSimpArgs false in
set_option maxHeartbeats 12800000 in
set_option maxRecDepth 100000 in
theorem xNextE_any (s : Std) (x : Thg) (v : Value) (e : Evt) (w : World) (hv : RdThg w v x) :
    Calls Tryz.prog 109 #[stdV s, v, evtV e] w fun a w' => a = .returned (.int .i64 (nextE s x e)) ∧ Below w.heap.size w w' := by
  obtain ⟨p, pc, rfl, -⟩ := hv
  have BS := Lib.hid ((StdAt.new w s 152).keep (((Below.refl _ _).alloc (Nat.le_refl _) (.cells #[.string x.name, .int .i64 x.day, .string x.who, .slice p x.marks.length pc] 24)).alloc (by simp) (.cells #[.string e.item, .int .i64 e.day, .int .i64 e.kind, .string e.src, .string e.dst] 107)))
  have BX := Lib.hid (ThgAt.keep (Keep.alloc _ (.cells #[.string e.item, .int .i64 e.day, .int .i64 e.kind, .string e.src, .string e.dst] 107)) (show ThgAt ((w.alloc (.cells #[.string s.holder, .int .i64 s.state, .int .i64 s.day, .int .i64 s.stored] 152)).alloc (.cells #[.string x.name, .int .i64 x.day, .string x.who, .slice p x.marks.length pc] 24)) (w.heap.size + 1) 0 x p pc from ⟨cellNew1 _ _ _ _ 0, cellNew1 _ _ _ _ 1, cellNew1 _ _ _ _ 2, cellNew1 _ _ _ _ 3⟩))
  have BE := Lib.hid (show EvtAt (((w.alloc (.cells #[.string s.holder, .int .i64 s.state, .int .i64 s.day, .int .i64 s.stored] 152)).alloc (.cells #[.string x.name, .int .i64 x.day, .string x.who, .slice p x.marks.length pc] 24)).alloc (.cells #[.string e.item, .int .i64 e.day, .int .i64 e.kind, .string e.src, .string e.dst] 107)) (w.heap.size + 1 + 1) 0 e by
    have := EvtAt.new ((w.alloc (.cells #[.string s.holder, .int .i64 s.state, .int .i64 s.day, .int .i64 s.stored] 152)).alloc (.cells #[.string x.name, .int .i64 x.day, .string x.who, .slice p x.marks.length pc] 24)) e 107
    rw [show ((w.alloc (.cells #[.string s.holder, .int .i64 s.state, .int .i64 s.day, .int .i64 s.stored] 152)).alloc (.cells #[.string x.name, .int .i64 x.day, .string x.who, .slice p x.marks.length pc] 24)).heap.size = w.heap.size + 1 + 1 by simp] at this
    exact this)
  have HW := Lib.hid ((((Below.refl w.heap.size w).alloc (Nat.le_refl _) (.cells #[.string s.holder, .int .i64 s.state, .int .i64 s.day, .int .i64 s.stored] 152)).alloc (by simp) (.cells #[.string x.name, .int .i64 x.day, .string x.who, .slice p x.marks.length pc] 24)).alloc (by simp; omega) (.cells #[.string e.item, .int .i64 e.day, .int .i64 e.kind, .string e.src, .string e.dst] 107))
  go_enter Tryz.func109, Tryz.ntmps109
  go_upto_region 1 with fail
  generalize ((w.alloc _).alloc _).alloc _ = wb at *
  by_cases h9 : e.day < s.day
  · have F := Lib.hid (show nextE s x e = 9 by unfold nextE; simp [h9])
    have d9 := decide_eq_true h9
    clear h9
    obtain ⟨s0, s1, s2, s3, _, _, _, _⟩ := BS.out
    obtain ⟨q0, q1, q2, q3⟩ := BX.out
    obtain ⟨r0, r1, r2, r3, r4⟩ := BE.out
    go_quiet (fail)
    generalize hwd : World.drewN wb _ = wd at *
    have HD : Hid (Below wb.heap.size wb wd) := by rw [← hwd]; exact Lib.hid (bdrewN (Below.refl _ _) _)
    clear hwd s0 s1 s2 s3 q0 q1 q2 q3 r0 r1 r2 r3 r4
    replace HW := Lib.hid (HW.out.trans (HD.out.mono HW.out.size))
    replace BS := Lib.hid (BS.out.keep HD.out)
    replace BX := Lib.hid (BX.out.keep (Keep.below HD.out))
    replace BE := Lib.hid (BE.out.keep (Keep.below HD.out))
    clear HD
    obtain ⟨s0, s1, s2, s3, _, _, _, _⟩ := BS.out
    obtain ⟨q0, q1, q2, q3⟩ := BX.out
    obtain ⟨r0, r1, r2, r3, r4⟩ := BE.out
    go_wp2_with fail
    go_ret
    exact ⟨ret_int F.out.symm, HW.out⟩
  · have d9 := decide_eq_false h9
    by_cases hk : e.kind = 0
    · have ehk : (e.kind == 0) = true := by simpa using hk
      have nhk : (e.kind != 0) = false := by simpa using hk
      by_cases hs : s.state = 0
      · have ehs : (s.state == 0) = true := by simpa using hs
        have nhs : (s.state != 0) = false := by simpa using hs
        have hdn : doneS s = false := by unfold doneS; rw [decide_eq_false (fun hh => hh hs)]; rfl
        have HDN := Lib.hid hdn
        by_cases hc : e.src = s.holder
        · have F := Lib.hid (show nextE s x e = 0 by unfold nextE; simp [h9, hk, hs, hdn, hc])
          have c1 := str_eq hc
          have c2 : (e.src.toList != s.holder.toList) = false := by rw [bne, c1]; rfl
          have e3 : (e.kind == 3) = false := by rw [hk]; rfl
          have e4 : (e.kind == 4) = false := by rw [hk]; rfl
          clear hc hdn hs hk h9
          obtain ⟨s0, s1, s2, s3, _, _, _, _⟩ := BS.out
          obtain ⟨q0, q1, q2, q3⟩ := BX.out
          obtain ⟨r0, r1, r2, r3, r4⟩ := BE.out
          go_quiet (fail)
          generalize hwd : World.drewN wb _ = wd at *
          have HD : Hid (Below wb.heap.size wb wd) := by rw [← hwd]; exact Lib.hid (bdrewN (Below.refl _ _) _)
          clear hwd s0 s1 s2 s3 q0 q1 q2 q3 r0 r1 r2 r3 r4
          replace HW := Lib.hid (HW.out.trans (HD.out.mono HW.out.size))
          replace BS := Lib.hid (BS.out.keep HD.out)
          replace BX := Lib.hid (BX.out.keep (Keep.below HD.out))
          replace BE := Lib.hid (BE.out.keep (Keep.below HD.out))
          clear HD
          obtain ⟨s0, s1, s2, s3, _, _, _, _⟩ := BS.out
          obtain ⟨q0, q1, q2, q3⟩ := BX.out
          obtain ⟨r0, r1, r2, r3, r4⟩ := BE.out
          go_wp2_with fail
          refine (xIsDone_any s _).mono ?_
          rintro _ w1 ⟨rfl, hb1⟩
          rw [HDN.out]
          replace HW := Lib.hid (HW.out.trans (hb1.mono HW.out.size))
          replace BS := Lib.hid (BS.out.keep hb1)
          replace BX := Lib.hid (BX.out.keep (Keep.below hb1))
          replace BE := Lib.hid (BE.out.keep (Keep.below hb1))
          clear s0 s1 s2 s3 q0 q1 q2 q3 r0 r1 r2 r3 r4 hb1
          obtain ⟨s0, s1, s2, s3, _, _, _, _⟩ := BS.out
          obtain ⟨q0, q1, q2, q3⟩ := BX.out
          obtain ⟨r0, r1, r2, r3, r4⟩ := BE.out
          go_wp2_with fail
          go_ret
          exact ⟨ret_int F.out.symm, HW.out⟩
        · have F := Lib.hid (show nextE s x e = 13 by unfold nextE; simp [h9, hk, hs, hdn, hc])
          have c1 := str_ne hc
          have c2 : (e.src.toList != s.holder.toList) = true := by rw [bne, c1]; rfl
          clear hc hdn hs hk h9
          obtain ⟨s0, s1, s2, s3, _, _, _, _⟩ := BS.out
          obtain ⟨q0, q1, q2, q3⟩ := BX.out
          obtain ⟨r0, r1, r2, r3, r4⟩ := BE.out
          go_quiet (fail)
          generalize hwd : World.drewN wb _ = wd at *
          have HD : Hid (Below wb.heap.size wb wd) := by rw [← hwd]; exact Lib.hid (bdrewN (Below.refl _ _) _)
          clear hwd s0 s1 s2 s3 q0 q1 q2 q3 r0 r1 r2 r3 r4
          replace HW := Lib.hid (HW.out.trans (HD.out.mono HW.out.size))
          replace BS := Lib.hid (BS.out.keep HD.out)
          replace BX := Lib.hid (BX.out.keep (Keep.below HD.out))
          replace BE := Lib.hid (BE.out.keep (Keep.below HD.out))
          clear HD
          obtain ⟨s0, s1, s2, s3, _, _, _, _⟩ := BS.out
          obtain ⟨q0, q1, q2, q3⟩ := BX.out
          obtain ⟨r0, r1, r2, r3, r4⟩ := BE.out
          go_wp2_with fail
          refine (xIsDone_any s _).mono ?_
          rintro _ w1 ⟨rfl, hb1⟩
          rw [HDN.out]
          replace HW := Lib.hid (HW.out.trans (hb1.mono HW.out.size))
          replace BS := Lib.hid (BS.out.keep hb1)
          replace BX := Lib.hid (BX.out.keep (Keep.below hb1))
          replace BE := Lib.hid (BE.out.keep (Keep.below hb1))
          clear s0 s1 s2 s3 q0 q1 q2 q3 r0 r1 r2 r3 r4 hb1
          obtain ⟨s0, s1, s2, s3, _, _, _, _⟩ := BS.out
          obtain ⟨q0, q1, q2, q3⟩ := BX.out
          obtain ⟨r0, r1, r2, r3, r4⟩ := BE.out
          go_wp2_with fail
          go_ret
          exact ⟨ret_int F.out.symm, HW.out⟩
      · have ehs : (s.state == 0) = false := by simpa using hs
        have nhs : (s.state != 0) = true := by simpa using hs
        have F := Lib.hid (show nextE s x e = 22 by unfold nextE; simp [h9, hk, hs])
        clear hs hk h9
        obtain ⟨s0, s1, s2, s3, _, _, _, _⟩ := BS.out
        obtain ⟨q0, q1, q2, q3⟩ := BX.out
        obtain ⟨r0, r1, r2, r3, r4⟩ := BE.out
        go_quiet (fail)
        generalize hwd : World.drewN wb _ = wd at *
        have HD : Hid (Below wb.heap.size wb wd) := by rw [← hwd]; exact Lib.hid (bdrewN (Below.refl _ _) _)
        clear hwd s0 s1 s2 s3 q0 q1 q2 q3 r0 r1 r2 r3 r4
        replace HW := Lib.hid (HW.out.trans (HD.out.mono HW.out.size))
        replace BS := Lib.hid (BS.out.keep HD.out)
        replace BX := Lib.hid (BX.out.keep (Keep.below HD.out))
        replace BE := Lib.hid (BE.out.keep (Keep.below HD.out))
        clear HD
        obtain ⟨s0, s1, s2, s3, _, _, _, _⟩ := BS.out
        obtain ⟨q0, q1, q2, q3⟩ := BX.out
        obtain ⟨r0, r1, r2, r3, r4⟩ := BE.out
        go_wp2_with fail
        go_ret
        exact ⟨ret_int F.out.symm, HW.out⟩
    · have ehk : (e.kind == 0) = false := by simpa using hk
      have nhk : (e.kind != 0) = true := by simpa using hk
      by_cases hs : s.state = 0
      · have ehs : (s.state == 0) = true := by simpa using hs
        have nhs : (s.state != 0) = false := by simpa using hs
        have F := Lib.hid (show nextE s x e = 22 by unfold nextE; simp [h9, hk, hs])
        clear hs hk h9
        obtain ⟨s0, s1, s2, s3, _, _, _, _⟩ := BS.out
        obtain ⟨q0, q1, q2, q3⟩ := BX.out
        obtain ⟨r0, r1, r2, r3, r4⟩ := BE.out
        go_quiet (fail)
        generalize hwd : World.drewN wb _ = wd at *
        have HD : Hid (Below wb.heap.size wb wd) := by rw [← hwd]; exact Lib.hid (bdrewN (Below.refl _ _) _)
        clear hwd s0 s1 s2 s3 q0 q1 q2 q3 r0 r1 r2 r3 r4
        replace HW := Lib.hid (HW.out.trans (HD.out.mono HW.out.size))
        replace BS := Lib.hid (BS.out.keep HD.out)
        replace BX := Lib.hid (BX.out.keep (Keep.below HD.out))
        replace BE := Lib.hid (BE.out.keep (Keep.below HD.out))
        clear HD
        obtain ⟨s0, s1, s2, s3, _, _, _, _⟩ := BS.out
        obtain ⟨q0, q1, q2, q3⟩ := BX.out
        obtain ⟨r0, r1, r2, r3, r4⟩ := BE.out
        go_wp2_with fail
        go_ret
        exact ⟨ret_int F.out.symm, HW.out⟩
      · have ehs : (s.state == 0) = false := by simpa using hs
        have nhs : (s.state != 0) = true := by simpa using hs
        cases hdn : doneS s with
        | true =>
          have HDN := Lib.hid hdn
          have F := Lib.hid (show nextE s x e = 22 by unfold nextE; simp [h9, hk, hs, hdn])
          clear hdn hs hk h9
          obtain ⟨s0, s1, s2, s3, _, _, _, _⟩ := BS.out
          obtain ⟨q0, q1, q2, q3⟩ := BX.out
          obtain ⟨r0, r1, r2, r3, r4⟩ := BE.out
          go_quiet (fail)
          generalize hwd : World.drewN wb _ = wd at *
          have HD : Hid (Below wb.heap.size wb wd) := by rw [← hwd]; exact Lib.hid (bdrewN (Below.refl _ _) _)
          clear hwd s0 s1 s2 s3 q0 q1 q2 q3 r0 r1 r2 r3 r4
          replace HW := Lib.hid (HW.out.trans (HD.out.mono HW.out.size))
          replace BS := Lib.hid (BS.out.keep HD.out)
          replace BX := Lib.hid (BX.out.keep (Keep.below HD.out))
          replace BE := Lib.hid (BE.out.keep (Keep.below HD.out))
          clear HD
          obtain ⟨s0, s1, s2, s3, _, _, _, _⟩ := BS.out
          obtain ⟨q0, q1, q2, q3⟩ := BX.out
          obtain ⟨r0, r1, r2, r3, r4⟩ := BE.out
          go_wp2_with fail
          refine (xIsDone_any s _).mono ?_
          rintro _ w1 ⟨rfl, hb1⟩
          rw [HDN.out]
          replace HW := Lib.hid (HW.out.trans (hb1.mono HW.out.size))
          replace BS := Lib.hid (BS.out.keep hb1)
          replace BX := Lib.hid (BX.out.keep (Keep.below hb1))
          replace BE := Lib.hid (BE.out.keep (Keep.below hb1))
          clear s0 s1 s2 s3 q0 q1 q2 q3 r0 r1 r2 r3 r4 hb1
          obtain ⟨s0, s1, s2, s3, _, _, _, _⟩ := BS.out
          obtain ⟨q0, q1, q2, q3⟩ := BX.out
          obtain ⟨r0, r1, r2, r3, r4⟩ := BE.out
          go_wp2_with fail
          go_ret
          exact ⟨ret_int F.out.symm, HW.out⟩
        | false =>
          have HDN := Lib.hid hdn
          by_cases hc : e.src = s.holder
          · have c1 := str_eq hc
            have c2 : (e.src.toList != s.holder.toList) = false := by rw [bne, c1]; rfl
            by_cases h3 : e.kind = 3
            · have eh3 : (e.kind == 3) = true := by simpa using h3
              have nh3 : (e.kind != 3) = false := by simpa using h3
              have e4 : (e.kind == 4) = false := by rw [h3]; rfl
              have h4 : ¬ e.kind = 4 := by rw [h3]; decide
              by_cases hg : e.dst = x.who
              · have g1 := str_eq hg
                have g2 : (e.dst.toList != x.who.toList) = false := by rw [bne, g1]; rfl
                obtain ⟨r, hr⟩ : ∃ r, rightD s (IntKind.i64.wrap (e.day - s.stored)) = r := ⟨_, rfl⟩
                have HR := Lib.hid hr
                by_cases hrr : r = 2
                · have ehrr : (r == 2) = true := by simpa using hrr
                  have nhrr : (r != 2) = false := by simpa using hrr
                  have F := Lib.hid (show nextE s x e = 0 by unfold nextE; simp [h9, hs, hdn, hc, h3, hg, hr, hrr])
                  clear hg h3 h4 hc hdn hs hk h9 hr hrr
                  obtain ⟨s0, s1, s2, s3, _, _, _, _⟩ := BS.out
                  obtain ⟨q0, q1, q2, q3⟩ := BX.out
                  obtain ⟨r0, r1, r2, r3, r4⟩ := BE.out
                  go_quiet (fail)
                  generalize hwd : World.drewN wb _ = wd at *
                  have HD : Hid (Below wb.heap.size wb wd) := by rw [← hwd]; exact Lib.hid (bdrewN (Below.refl _ _) _)
                  clear hwd s0 s1 s2 s3 q0 q1 q2 q3 r0 r1 r2 r3 r4
                  replace HW := Lib.hid (HW.out.trans (HD.out.mono HW.out.size))
                  replace BS := Lib.hid (BS.out.keep HD.out)
                  replace BX := Lib.hid (BX.out.keep (Keep.below HD.out))
                  replace BE := Lib.hid (BE.out.keep (Keep.below HD.out))
                  clear HD
                  obtain ⟨s0, s1, s2, s3, _, _, _, _⟩ := BS.out
                  obtain ⟨q0, q1, q2, q3⟩ := BX.out
                  obtain ⟨r0, r1, r2, r3, r4⟩ := BE.out
                  go_wp2_with fail
                  refine (xIsDone_any s _).mono ?_
                  rintro _ w1 ⟨rfl, hb1⟩
                  rw [HDN.out]
                  replace HW := Lib.hid (HW.out.trans (hb1.mono HW.out.size))
                  replace BS := Lib.hid (BS.out.keep hb1)
                  replace BX := Lib.hid (BX.out.keep (Keep.below hb1))
                  replace BE := Lib.hid (BE.out.keep (Keep.below hb1))
                  clear s0 s1 s2 s3 q0 q1 q2 q3 r0 r1 r2 r3 r4 hb1
                  obtain ⟨s0, s1, s2, s3, _, _, _, _⟩ := BS.out
                  obtain ⟨q0, q1, q2, q3⟩ := BX.out
                  obtain ⟨r0, r1, r2, r3, r4⟩ := BE.out
                  go_wp2_with fail
                  refine (xRightD_any s _ _).mono ?_
                  rintro _ w2 ⟨rfl, hb1⟩
                  rw [HR.out]
                  replace HW := Lib.hid (HW.out.trans (hb1.mono HW.out.size))
                  replace BS := Lib.hid (BS.out.keep hb1)
                  replace BX := Lib.hid (BX.out.keep (Keep.below hb1))
                  replace BE := Lib.hid (BE.out.keep (Keep.below hb1))
                  clear s0 s1 s2 s3 q0 q1 q2 q3 r0 r1 r2 r3 r4 hb1
                  obtain ⟨s0, s1, s2, s3, _, _, _, _⟩ := BS.out
                  obtain ⟨q0, q1, q2, q3⟩ := BX.out
                  obtain ⟨r0, r1, r2, r3, r4⟩ := BE.out
                  go_wp2_with fail
                  go_ret
                  exact ⟨ret_int F.out.symm, HW.out⟩
                · have ehrr : (r == 2) = false := by simpa using hrr
                  have nhrr : (r != 2) = true := by simpa using hrr
                  have F := Lib.hid (show nextE s x e = 25 by unfold nextE; simp [h9, hs, hdn, hc, h3, hg, hr, hrr])
                  clear hg h3 h4 hc hdn hs hk h9 hr hrr
                  obtain ⟨s0, s1, s2, s3, _, _, _, _⟩ := BS.out
                  obtain ⟨q0, q1, q2, q3⟩ := BX.out
                  obtain ⟨r0, r1, r2, r3, r4⟩ := BE.out
                  go_quiet (fail)
                  generalize hwd : World.drewN wb _ = wd at *
                  have HD : Hid (Below wb.heap.size wb wd) := by rw [← hwd]; exact Lib.hid (bdrewN (Below.refl _ _) _)
                  clear hwd s0 s1 s2 s3 q0 q1 q2 q3 r0 r1 r2 r3 r4
                  replace HW := Lib.hid (HW.out.trans (HD.out.mono HW.out.size))
                  replace BS := Lib.hid (BS.out.keep HD.out)
                  replace BX := Lib.hid (BX.out.keep (Keep.below HD.out))
                  replace BE := Lib.hid (BE.out.keep (Keep.below HD.out))
                  clear HD
                  obtain ⟨s0, s1, s2, s3, _, _, _, _⟩ := BS.out
                  obtain ⟨q0, q1, q2, q3⟩ := BX.out
                  obtain ⟨r0, r1, r2, r3, r4⟩ := BE.out
                  go_wp2_with fail
                  refine (xIsDone_any s _).mono ?_
                  rintro _ w1 ⟨rfl, hb1⟩
                  rw [HDN.out]
                  replace HW := Lib.hid (HW.out.trans (hb1.mono HW.out.size))
                  replace BS := Lib.hid (BS.out.keep hb1)
                  replace BX := Lib.hid (BX.out.keep (Keep.below hb1))
                  replace BE := Lib.hid (BE.out.keep (Keep.below hb1))
                  clear s0 s1 s2 s3 q0 q1 q2 q3 r0 r1 r2 r3 r4 hb1
                  obtain ⟨s0, s1, s2, s3, _, _, _, _⟩ := BS.out
                  obtain ⟨q0, q1, q2, q3⟩ := BX.out
                  obtain ⟨r0, r1, r2, r3, r4⟩ := BE.out
                  go_wp2_with fail
                  refine (xRightD_any s _ _).mono ?_
                  rintro _ w2 ⟨rfl, hb1⟩
                  rw [HR.out]
                  replace HW := Lib.hid (HW.out.trans (hb1.mono HW.out.size))
                  replace BS := Lib.hid (BS.out.keep hb1)
                  replace BX := Lib.hid (BX.out.keep (Keep.below hb1))
                  replace BE := Lib.hid (BE.out.keep (Keep.below hb1))
                  clear s0 s1 s2 s3 q0 q1 q2 q3 r0 r1 r2 r3 r4 hb1
                  obtain ⟨s0, s1, s2, s3, _, _, _, _⟩ := BS.out
                  obtain ⟨q0, q1, q2, q3⟩ := BX.out
                  obtain ⟨r0, r1, r2, r3, r4⟩ := BE.out
                  go_wp2_with fail
                  go_ret
                  exact ⟨ret_int F.out.symm, HW.out⟩
              · have g1 := str_ne hg
                have g2 : (e.dst.toList != x.who.toList) = true := by rw [bne, g1]; rfl
                have F := Lib.hid (show nextE s x e = 18 by unfold nextE; simp [h9, hs, hdn, hc, h3, hg])
                clear hg h3 h4 hc hdn hs hk h9
                obtain ⟨s0, s1, s2, s3, _, _, _, _⟩ := BS.out
                obtain ⟨q0, q1, q2, q3⟩ := BX.out
                obtain ⟨r0, r1, r2, r3, r4⟩ := BE.out
                go_quiet (fail)
                generalize hwd : World.drewN wb _ = wd at *
                have HD : Hid (Below wb.heap.size wb wd) := by rw [← hwd]; exact Lib.hid (bdrewN (Below.refl _ _) _)
                clear hwd s0 s1 s2 s3 q0 q1 q2 q3 r0 r1 r2 r3 r4
                replace HW := Lib.hid (HW.out.trans (HD.out.mono HW.out.size))
                replace BS := Lib.hid (BS.out.keep HD.out)
                replace BX := Lib.hid (BX.out.keep (Keep.below HD.out))
                replace BE := Lib.hid (BE.out.keep (Keep.below HD.out))
                clear HD
                obtain ⟨s0, s1, s2, s3, _, _, _, _⟩ := BS.out
                obtain ⟨q0, q1, q2, q3⟩ := BX.out
                obtain ⟨r0, r1, r2, r3, r4⟩ := BE.out
                go_wp2_with fail
                refine (xIsDone_any s _).mono ?_
                rintro _ w1 ⟨rfl, hb1⟩
                rw [HDN.out]
                replace HW := Lib.hid (HW.out.trans (hb1.mono HW.out.size))
                replace BS := Lib.hid (BS.out.keep hb1)
                replace BX := Lib.hid (BX.out.keep (Keep.below hb1))
                replace BE := Lib.hid (BE.out.keep (Keep.below hb1))
                clear s0 s1 s2 s3 q0 q1 q2 q3 r0 r1 r2 r3 r4 hb1
                obtain ⟨s0, s1, s2, s3, _, _, _, _⟩ := BS.out
                obtain ⟨q0, q1, q2, q3⟩ := BX.out
                obtain ⟨r0, r1, r2, r3, r4⟩ := BE.out
                go_wp2_with fail
                go_ret
                exact ⟨ret_int F.out.symm, HW.out⟩
            · have eh3 : (e.kind == 3) = false := by simpa using h3
              have nh3 : (e.kind != 3) = true := by simpa using h3
              by_cases h4 : e.kind = 4
              · have eh4 : (e.kind == 4) = true := by simpa using h4
                have nh4 : (e.kind != 4) = false := by simpa using h4
                obtain ⟨r, hr⟩ : ∃ r, rightD s (IntKind.i64.wrap (e.day - s.stored)) = r := ⟨_, rfl⟩
                have HR := Lib.hid hr
                by_cases hrr : r = 3
                · have ehrr : (r == 3) = true := by simpa using hrr
                  have nhrr : (r != 3) = false := by simpa using hrr
                  have F := Lib.hid (show nextE s x e = 0 by unfold nextE; simp [h9, hs, hdn, hc, h4, hr, hrr])
                  clear h3 h4 hc hdn hs hk h9 hr hrr
                  obtain ⟨s0, s1, s2, s3, _, _, _, _⟩ := BS.out
                  obtain ⟨q0, q1, q2, q3⟩ := BX.out
                  obtain ⟨r0, r1, r2, r3, r4⟩ := BE.out
                  go_quiet (fail)
                  generalize hwd : World.drewN wb _ = wd at *
                  have HD : Hid (Below wb.heap.size wb wd) := by rw [← hwd]; exact Lib.hid (bdrewN (Below.refl _ _) _)
                  clear hwd s0 s1 s2 s3 q0 q1 q2 q3 r0 r1 r2 r3 r4
                  replace HW := Lib.hid (HW.out.trans (HD.out.mono HW.out.size))
                  replace BS := Lib.hid (BS.out.keep HD.out)
                  replace BX := Lib.hid (BX.out.keep (Keep.below HD.out))
                  replace BE := Lib.hid (BE.out.keep (Keep.below HD.out))
                  clear HD
                  obtain ⟨s0, s1, s2, s3, _, _, _, _⟩ := BS.out
                  obtain ⟨q0, q1, q2, q3⟩ := BX.out
                  obtain ⟨r0, r1, r2, r3, r4⟩ := BE.out
                  go_wp2_with fail
                  refine (xIsDone_any s _).mono ?_
                  rintro _ w1 ⟨rfl, hb1⟩
                  rw [HDN.out]
                  replace HW := Lib.hid (HW.out.trans (hb1.mono HW.out.size))
                  replace BS := Lib.hid (BS.out.keep hb1)
                  replace BX := Lib.hid (BX.out.keep (Keep.below hb1))
                  replace BE := Lib.hid (BE.out.keep (Keep.below hb1))
                  clear s0 s1 s2 s3 q0 q1 q2 q3 r0 r1 r2 r3 r4 hb1
                  obtain ⟨s0, s1, s2, s3, _, _, _, _⟩ := BS.out
                  obtain ⟨q0, q1, q2, q3⟩ := BX.out
                  obtain ⟨r0, r1, r2, r3, r4⟩ := BE.out
                  go_wp2_with fail
                  refine (xRightD_any s _ _).mono ?_
                  rintro _ w2 ⟨rfl, hb1⟩
                  rw [HR.out]
                  replace HW := Lib.hid (HW.out.trans (hb1.mono HW.out.size))
                  replace BS := Lib.hid (BS.out.keep hb1)
                  replace BX := Lib.hid (BX.out.keep (Keep.below hb1))
                  replace BE := Lib.hid (BE.out.keep (Keep.below hb1))
                  clear s0 s1 s2 s3 q0 q1 q2 q3 r0 r1 r2 r3 r4 hb1
                  obtain ⟨s0, s1, s2, s3, _, _, _, _⟩ := BS.out
                  obtain ⟨q0, q1, q2, q3⟩ := BX.out
                  obtain ⟨r0, r1, r2, r3, r4⟩ := BE.out
                  go_wp2_with fail
                  go_ret
                  exact ⟨ret_int F.out.symm, HW.out⟩
                · have ehrr : (r == 3) = false := by simpa using hrr
                  have nhrr : (r != 3) = true := by simpa using hrr
                  have F := Lib.hid (show nextE s x e = 25 by unfold nextE; simp [h9, hs, hdn, hc, h4, hr, hrr])
                  clear h3 h4 hc hdn hs hk h9 hr hrr
                  obtain ⟨s0, s1, s2, s3, _, _, _, _⟩ := BS.out
                  obtain ⟨q0, q1, q2, q3⟩ := BX.out
                  obtain ⟨r0, r1, r2, r3, r4⟩ := BE.out
                  go_quiet (fail)
                  generalize hwd : World.drewN wb _ = wd at *
                  have HD : Hid (Below wb.heap.size wb wd) := by rw [← hwd]; exact Lib.hid (bdrewN (Below.refl _ _) _)
                  clear hwd s0 s1 s2 s3 q0 q1 q2 q3 r0 r1 r2 r3 r4
                  replace HW := Lib.hid (HW.out.trans (HD.out.mono HW.out.size))
                  replace BS := Lib.hid (BS.out.keep HD.out)
                  replace BX := Lib.hid (BX.out.keep (Keep.below HD.out))
                  replace BE := Lib.hid (BE.out.keep (Keep.below HD.out))
                  clear HD
                  obtain ⟨s0, s1, s2, s3, _, _, _, _⟩ := BS.out
                  obtain ⟨q0, q1, q2, q3⟩ := BX.out
                  obtain ⟨r0, r1, r2, r3, r4⟩ := BE.out
                  go_wp2_with fail
                  refine (xIsDone_any s _).mono ?_
                  rintro _ w1 ⟨rfl, hb1⟩
                  rw [HDN.out]
                  replace HW := Lib.hid (HW.out.trans (hb1.mono HW.out.size))
                  replace BS := Lib.hid (BS.out.keep hb1)
                  replace BX := Lib.hid (BX.out.keep (Keep.below hb1))
                  replace BE := Lib.hid (BE.out.keep (Keep.below hb1))
                  clear s0 s1 s2 s3 q0 q1 q2 q3 r0 r1 r2 r3 r4 hb1
                  obtain ⟨s0, s1, s2, s3, _, _, _, _⟩ := BS.out
                  obtain ⟨q0, q1, q2, q3⟩ := BX.out
                  obtain ⟨r0, r1, r2, r3, r4⟩ := BE.out
                  go_wp2_with fail
                  refine (xRightD_any s _ _).mono ?_
                  rintro _ w2 ⟨rfl, hb1⟩
                  rw [HR.out]
                  replace HW := Lib.hid (HW.out.trans (hb1.mono HW.out.size))
                  replace BS := Lib.hid (BS.out.keep hb1)
                  replace BX := Lib.hid (BX.out.keep (Keep.below hb1))
                  replace BE := Lib.hid (BE.out.keep (Keep.below hb1))
                  clear s0 s1 s2 s3 q0 q1 q2 q3 r0 r1 r2 r3 r4 hb1
                  obtain ⟨s0, s1, s2, s3, _, _, _, _⟩ := BS.out
                  obtain ⟨q0, q1, q2, q3⟩ := BX.out
                  obtain ⟨r0, r1, r2, r3, r4⟩ := BE.out
                  go_wp2_with fail
                  go_ret
                  exact ⟨ret_int F.out.symm, HW.out⟩
              · have eh4 : (e.kind == 4) = false := by simpa using h4
                have nh4 : (e.kind != 4) = true := by simpa using h4
                have F := Lib.hid (show nextE s x e = 0 by unfold nextE; simp [h9, hk, hs, hdn, hc, h3, h4])
                clear h3 h4 hc hdn hs hk h9
                obtain ⟨s0, s1, s2, s3, _, _, _, _⟩ := BS.out
                obtain ⟨q0, q1, q2, q3⟩ := BX.out
                obtain ⟨r0, r1, r2, r3, r4⟩ := BE.out
                go_quiet (fail)
                generalize hwd : World.drewN wb _ = wd at *
                have HD : Hid (Below wb.heap.size wb wd) := by rw [← hwd]; exact Lib.hid (bdrewN (Below.refl _ _) _)
                clear hwd s0 s1 s2 s3 q0 q1 q2 q3 r0 r1 r2 r3 r4
                replace HW := Lib.hid (HW.out.trans (HD.out.mono HW.out.size))
                replace BS := Lib.hid (BS.out.keep HD.out)
                replace BX := Lib.hid (BX.out.keep (Keep.below HD.out))
                replace BE := Lib.hid (BE.out.keep (Keep.below HD.out))
                clear HD
                obtain ⟨s0, s1, s2, s3, _, _, _, _⟩ := BS.out
                obtain ⟨q0, q1, q2, q3⟩ := BX.out
                obtain ⟨r0, r1, r2, r3, r4⟩ := BE.out
                go_wp2_with fail
                refine (xIsDone_any s _).mono ?_
                rintro _ w1 ⟨rfl, hb1⟩
                rw [HDN.out]
                replace HW := Lib.hid (HW.out.trans (hb1.mono HW.out.size))
                replace BS := Lib.hid (BS.out.keep hb1)
                replace BX := Lib.hid (BX.out.keep (Keep.below hb1))
                replace BE := Lib.hid (BE.out.keep (Keep.below hb1))
                clear s0 s1 s2 s3 q0 q1 q2 q3 r0 r1 r2 r3 r4 hb1
                obtain ⟨s0, s1, s2, s3, _, _, _, _⟩ := BS.out
                obtain ⟨q0, q1, q2, q3⟩ := BX.out
                obtain ⟨r0, r1, r2, r3, r4⟩ := BE.out
                go_wp2_with fail
                go_ret
                exact ⟨ret_int F.out.symm, HW.out⟩
          · have c1 := str_ne hc
            have c2 : (e.src.toList != s.holder.toList) = true := by rw [bne, c1]; rfl
            have F := Lib.hid (show nextE s x e = 13 by unfold nextE; simp [h9, hk, hs, hdn, hc])
            clear hc hdn hs hk h9
            obtain ⟨s0, s1, s2, s3, _, _, _, _⟩ := BS.out
            obtain ⟨q0, q1, q2, q3⟩ := BX.out
            obtain ⟨r0, r1, r2, r3, r4⟩ := BE.out
            go_quiet (fail)
            generalize hwd : World.drewN wb _ = wd at *
            have HD : Hid (Below wb.heap.size wb wd) := by rw [← hwd]; exact Lib.hid (bdrewN (Below.refl _ _) _)
            clear hwd s0 s1 s2 s3 q0 q1 q2 q3 r0 r1 r2 r3 r4
            replace HW := Lib.hid (HW.out.trans (HD.out.mono HW.out.size))
            replace BS := Lib.hid (BS.out.keep HD.out)
            replace BX := Lib.hid (BX.out.keep (Keep.below HD.out))
            replace BE := Lib.hid (BE.out.keep (Keep.below HD.out))
            clear HD
            obtain ⟨s0, s1, s2, s3, _, _, _, _⟩ := BS.out
            obtain ⟨q0, q1, q2, q3⟩ := BX.out
            obtain ⟨r0, r1, r2, r3, r4⟩ := BE.out
            go_wp2_with fail
            refine (xIsDone_any s _).mono ?_
            rintro _ w1 ⟨rfl, hb1⟩
            rw [HDN.out]
            replace HW := Lib.hid (HW.out.trans (hb1.mono HW.out.size))
            replace BS := Lib.hid (BS.out.keep hb1)
            replace BX := Lib.hid (BX.out.keep (Keep.below hb1))
            replace BE := Lib.hid (BE.out.keep (Keep.below hb1))
            clear s0 s1 s2 s3 q0 q1 q2 q3 r0 r1 r2 r3 r4 hb1
            obtain ⟨s0, s1, s2, s3, _, _, _, _⟩ := BS.out
            obtain ⟨q0, q1, q2, q3⟩ := BX.out
            obtain ⟨r0, r1, r2, r3, r4⟩ := BE.out
            go_wp2_with fail
            go_ret
            exact ⟨ret_int F.out.symm, HW.out⟩
def Fs.evtE (x : Thg) (e : Evt) : Int :=
  if e.item ≠ x.name then 6 else if isDay e.day = false then 2 else if within e.kind 0 4 = false then 15 else if isName e.src = false ∨ isName e.dst = false then 4 else 0
set_option maxHeartbeats 400000 in
theorem xIsKind_any (n : Int) (w : World) : Calls Tryz.prog 143 #[.int .i64 n] w fun e w' => e = .returned (.bool (within n 0 4)) ∧ w = w' := by
  go_enter Tryz.func143, Tryz.ntmps143
  go_wp2_with fail
  refine (within_any _ _ _ _).mono ?_
  rintro e w' ⟨rfl, rfl⟩
  go_wp2_with fail
  go_ret
  exact ⟨rfl, rfl⟩
set_option linter.unusedSimpArgs false in
set_option maxHeartbeats 12800000 in
set_option maxRecDepth 100000 in
theorem xEvtE_any (x : Thg) (v : Value) (e : Evt) (w : World) (hv : RdThg w v x) :
    Calls Tryz.prog 108 #[v, evtV e] w fun a w' => a = .returned (.int .i64 (evtE x e)) ∧ Below w.heap.size w w' := by
  obtain ⟨p, pc, rfl, -⟩ := hv
  have BX := Lib.hid ((ThgAt.new w x p pc 24).keep (Keep.alloc _ (.cells #[.string e.item, .int .i64 e.day, .int .i64 e.kind, .string e.src, .string e.dst] 107)))
  have BE := Lib.hid (show EvtAt ((w.alloc (.cells #[.string x.name, .int .i64 x.day, .string x.who, .slice p x.marks.length pc] 24)).alloc (.cells #[.string e.item, .int .i64 e.day, .int .i64 e.kind, .string e.src, .string e.dst] 107)) (w.heap.size + 1) 0 e from ⟨cellNew1 _ _ _ _ 0, cellNew1 _ _ _ _ 1, cellNew1 _ _ _ _ 2, cellNew1 _ _ _ _ 3, cellNew1 _ _ _ _ 4⟩)
  have HW := Lib.hid (((Below.refl w.heap.size w).alloc (Nat.le_refl _) (.cells #[.string x.name, .int .i64 x.day, .string x.who, .slice p x.marks.length pc] 24)).alloc (by simp) (.cells #[.string e.item, .int .i64 e.day, .int .i64 e.kind, .string e.src, .string e.dst] 107))
  go_enter Tryz.func108, Tryz.ntmps108
  go_upto_region 1 with fail
  generalize (w.alloc _).alloc _ = wb at *
  obtain ⟨q0, q1, q2, q3⟩ := BX.out
  obtain ⟨r0, r1, r2, r3, r4⟩ := BE.out
  by_cases hn : e.item = x.name
  · have c1 := str_eq hn
    have c2 : (e.item.toList != x.name.toList) = false := by rw [bne, c1]; rfl
    cases hd : isDay e.day with
    | false =>
      have F := Lib.hid (show evtE x e = 2 by unfold evtE; simp [hn, hd])
      have HDY := Lib.hid (show dayErr e.day 0 = 2 by unfold dayErr; rw [show within e.day 0 100000 = false from hd]; rfl)
      clear hn hd
      go_wp2_with fail
      refine (xDayErr_any _ _ _).mono ?_
      rintro _ wx ⟨rfl, rfl⟩
      rw [HDY.out]
      go_wp2_with fail
      go_ret
      exact ⟨ret_int F.out.symm, HW.out⟩
    | true =>
      have HDY := Lib.hid (show dayErr e.day 0 = 0 by unfold dayErr; rw [show within e.day 0 100000 = true from hd]; rfl)
      cases hk : within e.kind 0 4 with
      | false =>
        have F := Lib.hid (show evtE x e = 15 by unfold evtE; simp [hn, hd, hk])
        have HKN := Lib.hid hk
        clear hn hd hk
        go_wp2_with fail
        refine (xDayErr_any _ _ _).mono ?_
        rintro _ wx ⟨rfl, rfl⟩
        rw [HDY.out]
        go_wp2_with fail
        refine (xIsKind_any _ _).mono ?_
        rintro _ wx ⟨rfl, rfl⟩
        rw [HKN.out]
        go_wp2_with fail
        go_ret
        exact ⟨ret_int F.out.symm, HW.out⟩
      | true =>
        have HKN := Lib.hid hk
        cases hm : isName e.src && isName e.dst with
        | false =>
          have hm2 : isName e.src = false ∨ isName e.dst = false := by
            cases ha : isName e.src with
            | false => exact Or.inl rfl
            | true => rw [ha] at hm; exact Or.inr (by simpa using hm)
          have F := Lib.hid (show evtE x e = 4 by unfold evtE; rw [if_neg (fun hh => hh hn), if_neg (by rw [hd]; decide), if_neg (by rw [hk]; decide), if_pos hm2])
          have HNM := Lib.hid ((areN_two e.src e.dst).trans hm)
          clear hn hd hk hm hm2
          go_wp2_with fail
          refine (xDayErr_any _ _ _).mono ?_
          rintro _ wx ⟨rfl, rfl⟩
          rw [HDY.out]
          go_wp2_with fail
          refine (xIsKind_any _ _).mono ?_
          rintro _ wx ⟨rfl, rfl⟩
          rw [HKN.out]
          have HN := Lib.hid (strs2New wb e.src e.dst 9)
          replace HW := Lib.hid (HW.out.alloc HW.out.size (.cells #[.string e.src, .string e.dst] 9))
          go_wp2_with fail
          refine (xAreNames_any [e.src, e.dst] _ _ _ HN.out).mono ?_
          rintro _ w3 ⟨rfl, hb1⟩
          replace HW := Lib.hid (HW.out.trans (hb1.mono HW.out.size))
          clear hb1 HN
          rw [HNM.out]
          go_wp2_with fail
          go_ret
          exact ⟨ret_int F.out.symm, HW.out⟩
        | true =>
          have hm2 : ¬ (isName e.src = false ∨ isName e.dst = false) := by
            rw [Bool.and_eq_true] at hm
            rw [hm.1, hm.2]; decide
          have F := Lib.hid (show evtE x e = 0 by unfold evtE; rw [if_neg (fun hh => hh hn), if_neg (by rw [hd]; decide), if_neg (by rw [hk]; decide), if_neg hm2])
          have HNM := Lib.hid ((areN_two e.src e.dst).trans hm)
          clear hn hd hk hm hm2
          go_wp2_with fail
          refine (xDayErr_any _ _ _).mono ?_
          rintro _ wx ⟨rfl, rfl⟩
          rw [HDY.out]
          go_wp2_with fail
          refine (xIsKind_any _ _).mono ?_
          rintro _ wx ⟨rfl, rfl⟩
          rw [HKN.out]
          have HN := Lib.hid (strs2New wb e.src e.dst 9)
          replace HW := Lib.hid (HW.out.alloc HW.out.size (.cells #[.string e.src, .string e.dst] 9))
          go_wp2_with fail
          refine (xAreNames_any [e.src, e.dst] _ _ _ HN.out).mono ?_
          rintro _ w3 ⟨rfl, hb1⟩
          replace HW := Lib.hid (HW.out.trans (hb1.mono HW.out.size))
          clear hb1 HN
          rw [HNM.out]
          go_wp2_with fail
          go_ret
          exact ⟨ret_int F.out.symm, HW.out⟩
  · have c1 := str_ne hn
    have c2 : (e.item.toList != x.name.toList) = true := by rw [bne, c1]; rfl
    have F := Lib.hid (show evtE x e = 6 by unfold evtE; simp [hn])
    clear hn
    go_wp2_with fail
    go_ret
    exact ⟨ret_int F.out.symm, HW.out⟩
end Go.Proofs.YtfjdnbnalihjiaaGreatDoor

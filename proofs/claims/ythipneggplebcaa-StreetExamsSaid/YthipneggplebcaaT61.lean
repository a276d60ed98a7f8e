/- The law of ways: which are right, their arrivals and metres. No condition. -/
import Derived.Test.YthipneggplebcaaT35
import Derived.Test.YthipneggplebcaaT60
import Derived.Test.YthipneggplebcaaT52
namespace Go.Proofs.Ythipneggplebcaa
open Go.RowKit Fs

theorem Fs.avErr_first {N : Net} {l : List Int} {a : Int} (h : cwErr N l ≠ 0) : avErr N l a = cwErr N l := by
  have : avErr N l a = listI [cwErr N l, timeErr a] 0 := (fst_hit (k := 0) (n := 2) (by decide) (fun j hj => absurd hj (Nat.not_lt_zero _)) h).1
  exact this
theorem Fs.avErr_time {N : Net} {l : List Int} {a : Int} (h : cwErr N l = 0) : avErr N l a = timeErr a := by
  unfold avErr
  rw [h]
  by_cases e : timeErr a = 0
  · rw [e]; rfl
  · have : fst (listI [0, timeErr a]) 2 = listI [0, timeErr a] 1 := (fst_hit (k := 1) (n := 2) (by decide) (fun j hj => by
      obtain rfl : j = 0 := by omega
      rfl) e).1
    exact this
def Fs.shortL (n : Nat) : Bool := decide (n ≤ 12) || (decide (200 < n) && decide (n ≤ 202))
set_option maxHeartbeats 800000 in
theorem short_any (l : List Int) (A : Option Addr) (c : Nat) (w : World) (h : ArrI w A l c) :
    Calls Try.prog 27 #[.slice A l.length c] w fun e w' => e = .returned (.bool (shortL l.length)) ∧ w = w' := by
  have b1 := h.le.1
  have b2 := h.le.2
  clear h
  go_enter Try.func27, Try.ntmps27
  by_cases h1 : l.length ≤ 12
  · have d1 : decide ((l.length : Int) ≤ 12) = true := decide_eq_true (by omega)
    have G := Lib.hid (show shortL l.length = true by unfold shortL; rw [decide_eq_true h1]; rfl)
    clear h1
    go_wp2_with fail
    go_ret
    exact ⟨ret_bool G.out.symm, rfl⟩
  · have d1 : decide ((l.length : Int) ≤ 12) = false := decide_eq_false (by omega)
    by_cases h2 : 200 < l.length
    · have d2 : decide ((l.length : Int) > 200) = true := decide_eq_true (by omega)
      have d3 : decide (200 < (l.length : Int)) = true := decide_eq_true (by omega)
      by_cases h3 : l.length ≤ 202
      · have d4 : decide ((l.length : Int) ≤ 202) = true := decide_eq_true (by omega)
        have G := Lib.hid (show shortL l.length = true by unfold shortL; rw [decide_eq_false h1, decide_eq_true h2, decide_eq_true h3]; rfl)
        clear h1 h2 h3
        go_wp2_with fail
        go_ret
        exact ⟨ret_bool G.out.symm, rfl⟩
      · have d4 : decide ((l.length : Int) ≤ 202) = false := decide_eq_false (by omega)
        have G := Lib.hid (show shortL l.length = false by unfold shortL; rw [decide_eq_false h1, decide_eq_true h2, decide_eq_false h3]; rfl)
        clear h1 h2 h3
        go_wp2_with fail
        go_ret
        exact ⟨ret_bool G.out.symm, rfl⟩
    · have d2 : decide ((l.length : Int) > 200) = false := decide_eq_false (by omega)
      have d3 : decide (200 < (l.length : Int)) = false := decide_eq_false (by omega)
      have G := Lib.hid (show shortL l.length = false by unfold shortL; rw [decide_eq_false h1, decide_eq_false h2]; rfl)
      clear h1 h2
      go_wp2_with fail
      go_ret
      exact ⟨ret_bool G.out.symm, rfl⟩
theorem Fs.shortL_le {n : Nat} (h : shortL n = true) : n ≤ 202 := by
  unfold shortL at h
  by_cases h1 : n ≤ 12
  · omega
  · rw [decide_eq_false h1, Bool.false_or, Bool.and_eq_true] at h
    exact of_decide_eq_true h.2

set_option maxHeartbeats 6400000 in
set_option maxRecDepth 100000 in
theorem law61_any (N : Net) (v : Value) (l : List Int) (A : Option Addr) (c : Nat) (a : Int) (w : World) (hN : RdNet w v N) (hA : ArrI w A l c) :
    Calls Try.prog 4 #[v, .slice A l.length c, .int .i64 a] w fun e w' => e = .returned (.bool true) ∧ Below w.heap.size w w' := by
  have hN0 := Lib.hid hN
  obtain ⟨P, R, pc, rc, ar, rfl, mm⟩ := hN
  clear mm
  have HA := Lib.hid hA
  clear hA
  have BN := Lib.hid (BoxN.new w N P R pc rc 25)
  go_enter Try.func4, Try.ntmps4
  go_upto_region 1 with fail
  generalize hwb : w.alloc _ = wb at *
  have HW : Hid (Below w.heap.size w wb) := by rw [← hwb]; exact Lib.hid ((Below.refl _ _).alloc (Nat.le_refl _) _)
  clear hwb
  obtain ⟨n0, n1⟩ := BN.out
  go_wp2_with fail
  refine (awake_any _).mono ?_
  rintro e' w1 ⟨rfl, hb1⟩
  replace HW := Lib.hid (HW.out.trans (hb1.mono HW.out.size))
  replace BN := Lib.hid (BN.out.keep (Keep.below hb1))
  clear n0 n1
  clear hb1
  obtain ⟨n0, n1⟩ := BN.out
  go_wp2_with fail
  refine (few_any N _ _ (hN0.out.keep (Keep.below HW.out))).mono ?_
  rintro e' w2 ⟨rfl, hb1⟩
  replace HW := Lib.hid (HW.out.trans (hb1.mono HW.out.size))
  replace BN := Lib.hid (BN.out.keep (Keep.below hb1))
  clear n0 n1
  clear hb1
  cases hf : fewN N with
  | false =>
    go_wp2_with fail
    go_ret
    exact ⟨rfl, HW.out⟩
  | true =>
    have HL := Lib.hid (few_lens hf)
    clear hf
    obtain ⟨n0, n1⟩ := BN.out
    go_wp2_with fail
    refine (short_any l A c _ (HA.out.keep (Keep.below HW.out))).mono ?_
    rintro e' w3 ⟨rfl, rfl⟩
    clear n0 n1
    cases hs : shortL l.length with
    | false =>
      go_wp2_with fail
      go_ret
      exact ⟨rfl, HW.out⟩
    | true =>
      have hlen := shortL_le hs
      clear hs
      obtain ⟨n0, n1⟩ := BN.out
      go_wp2_with fail
      refine (copyNet_any N _ _ (hN0.out.keep (Keep.below HW.out)) HL.out.1 HL.out.2.1 HL.out.2.2).mono ?_
      rintro e' wa1 ⟨va1, rfl, h3, hb1⟩
      replace HW := Lib.hid (HW.out.trans (hb1.mono HW.out.size))
      replace BN := Lib.hid (BN.out.keep (Keep.below hb1))
      have HC1 := Lib.hid h3
      clear h3
      clear n0 n1
      clear hb1
      obtain ⟨n0, n1⟩ := BN.out
      go_wp2_with fail
      refine (copyInts_any l A c _ (HA.out.keep (Keep.below HW.out)) (by omega)).mono ?_
      rintro e' wi1 ⟨A1, c1, rfl, h3, -, hb1⟩
      replace HW := Lib.hid (HW.out.trans (hb1.mono HW.out.size))
      replace BN := Lib.hid (BN.out.keep (Keep.below hb1))
      replace HC1 := Lib.hid (HC1.out.keep (Keep.below hb1))
      have HI1 := Lib.hid h3
      clear h3
      clear n0 n1
      clear hb1
      obtain ⟨n0, n1⟩ := BN.out
      go_wp2_with fail
      refine (checkWay_any N _ l A1 c1 _ HC1.out HI1.out).mono ?_
      rintro e' w4 ⟨rfl, hb1⟩
      replace HW := Lib.hid (HW.out.trans (hb1.mono HW.out.size))
      replace BN := Lib.hid (BN.out.keep (Keep.below hb1))
      clear HC1 HI1
      clear n0 n1
      clear hb1
      obtain ⟨n0, n1⟩ := BN.out
      go_wp2_with fail
      refine (copyNet_any N _ _ (hN0.out.keep (Keep.below HW.out)) HL.out.1 HL.out.2.1 HL.out.2.2).mono ?_
      rintro e' wa2 ⟨va2, rfl, h3, hb1⟩
      replace HW := Lib.hid (HW.out.trans (hb1.mono HW.out.size))
      replace BN := Lib.hid (BN.out.keep (Keep.below hb1))
      have HC2 := Lib.hid h3
      clear h3
      clear n0 n1
      clear hb1
      obtain ⟨n0, n1⟩ := BN.out
      go_wp2_with fail
      refine (copyInts_any l A c _ (HA.out.keep (Keep.below HW.out)) (by omega)).mono ?_
      rintro e' wi2 ⟨A2, c2, rfl, h3, -, hb1⟩
      replace HW := Lib.hid (HW.out.trans (hb1.mono HW.out.size))
      replace BN := Lib.hid (BN.out.keep (Keep.below hb1))
      replace HC2 := Lib.hid (HC2.out.keep (Keep.below hb1))
      have HI2 := Lib.hid h3
      clear h3
      clear n0 n1
      clear hb1
      obtain ⟨n0, n1⟩ := BN.out
      go_wp2_with fail
      refine (arrOf_any N _ l A2 c2 a _ HC2.out HI2.out).mono ?_
      rintro e' w5 ⟨rfl, hb1⟩
      replace HW := Lib.hid (HW.out.trans (hb1.mono HW.out.size))
      replace BN := Lib.hid (BN.out.keep (Keep.below hb1))
      clear HC2 HI2
      clear n0 n1
      clear hb1
      have HT := Lib.hid (TreeAt.new w5 (.int .i64 (arrOf N l a).1.1) (.int .i64 (arrOf N l a).1.2) 35)
      have BN2 := Lib.hid (BN.out.keep (Keep.alloc _ (.cells #[.int .i64 (arrOf N l a).1.1, .int .i64 (arrOf N l a).1.2] 35)))
      obtain ⟨n0, n1⟩ := BN.out
      obtain ⟨k0, k1⟩ := BN2.out
      go_wp2_with fail
      generalize hw8 : w5.alloc _ = w8 at *
      have hb8 : Below w5.heap.size w5 w8 := by rw [← hw8]; exact (Below.refl _ _).alloc (Nat.le_refl _) _
      clear hw8 n0 n1 k0 k1
      replace HW := Lib.hid (HW.out.trans (hb8.mono HW.out.size))
      replace BN := BN2
      clear hb8 BN2
      refine (copyNet_any N _ _ (hN0.out.keep (Keep.below HW.out)) HL.out.1 HL.out.2.1 HL.out.2.2).mono ?_
      rintro e' wa3 ⟨va3, rfl, h3, hb1⟩
      replace HW := Lib.hid (HW.out.trans (hb1.mono HW.out.size))
      replace BN := Lib.hid (BN.out.keep (Keep.below hb1))
      replace HT := Lib.hid (HT.out.keep hb1)
      have HC3 := Lib.hid h3
      clear h3 hb1
      obtain ⟨n0, n1⟩ := BN.out
      obtain ⟨t0, t1, -, -⟩ := HT.out
      go_wp2_with fail
      refine (copyInts_any l A c _ (HA.out.keep (Keep.below HW.out)) (by omega)).mono ?_
      rintro e' wi3 ⟨A3, c3, rfl, h3, -, hb1⟩
      replace HW := Lib.hid (HW.out.trans (hb1.mono HW.out.size))
      replace BN := Lib.hid (BN.out.keep (Keep.below hb1))
      replace HT := Lib.hid (HT.out.keep hb1)
      replace HC3 := Lib.hid (HC3.out.keep (Keep.below hb1))
      have HI3 := Lib.hid h3
      clear h3
      clear n0 n1 t0 t1
      clear hb1
      obtain ⟨n0, n1⟩ := BN.out
      obtain ⟨t0, t1, -, -⟩ := HT.out
      go_wp2_with fail
      refine (metOf_any N _ l A3 c3 _ HC3.out HI3.out).mono ?_
      rintro e' w6 ⟨rfl, hb1⟩
      replace HW := Lib.hid (HW.out.trans (hb1.mono HW.out.size))
      replace BN := Lib.hid (BN.out.keep (Keep.below hb1))
      replace HT := Lib.hid (HT.out.keep hb1)
      clear HC3 HI3
      clear n0 n1 t0 t1
      clear hb1
      obtain ⟨n0, n1⟩ := BN.out
      obtain ⟨t0, t1, -, -⟩ := HT.out
      go_wp2_with fail
      refine (rNetErr_any N _ _ (hN0.out.keep (Keep.below HW.out))).mono ?_
      rintro e' w7 ⟨rfl, hb1⟩
      replace HW := Lib.hid (HW.out.trans (hb1.mono HW.out.size))
      replace BN := Lib.hid (BN.out.keep (Keep.below hb1))
      replace HT := Lib.hid (HT.out.keep hb1)
      clear n0 n1 t0 t1
      clear hb1
      by_cases he : netErr N = 0
      · have HE := Lib.hid he
        rw [he]
        obtain ⟨n0, n1⟩ := BN.out
        obtain ⟨t0, t1, -, -⟩ := HT.out
        go_wp2_with fail
        refine (rWayErr_any N _ l A c _ (hN0.out.keep (Keep.below HW.out)) (HA.out.keep (Keep.below HW.out))).mono ?_
        rintro e' wb1 ⟨rfl, hb1⟩
        replace HW := Lib.hid (HW.out.trans (hb1.mono HW.out.size))
        replace BN := Lib.hid (BN.out.keep (Keep.below hb1))
        replace HT := Lib.hid (HT.out.keep hb1)
        clear n0 n1 t0 t1
        clear hb1
        by_cases hw : wayErr N l = 0
        · have hcw : cwErr N l = 0 := by unfold cwErr; rw [if_pos he]; exact hw
          have hca : cwAt N l = wayAt N l := by unfold cwAt; rw [if_pos he]
          have hmo : metOf N l = (metresTo N l, 0) := metOf_ok he hw
          have HQ := Lib.hid hw
          have HAT := Lib.hid (avErr_time (a := a) hcw)
          have HIN := Lib.hid (fun j hj => ((way_ok HQ.out).2 j hj).1)
          rw [hmo, hcw, hca, hw]
          clear he hw hcw hca hmo
          obtain ⟨n0, n1⟩ := BN.out
          obtain ⟨t0, t1, -, -⟩ := HT.out
          go_wp2_with fail
          refine (rMetresOf_any N _ l A c _ (hN0.out.keep (Keep.below HW.out)) (HA.out.keep (Keep.below HW.out)) HE.out HIN.out (by omega)).mono ?_
          rintro e' wb2 ⟨rfl, hb1⟩
          replace HW := Lib.hid (HW.out.trans (hb1.mono HW.out.size))
          replace BN := Lib.hid (BN.out.keep (Keep.below hb1))
          replace HT := Lib.hid (HT.out.keep hb1)
          clear n0 n1 t0 t1
          clear hb1
          obtain ⟨n0, n1⟩ := BN.out
          obtain ⟨t0, t1, -, -⟩ := HT.out
          go_wp2_with fail
          refine (rTimeErr_any a _).mono ?_
          rintro e' wb3 ⟨rfl, rfl⟩
          clear n0 n1 t0 t1
          by_cases ht : timeErr a = 0
          · have hao : arrOf N l a = (arrivals N l a, 0) := by unfold arrOf; rw [if_pos (HAT.out.trans ht)]
            have ha := timeErr_ok ht
            rw [hao] at HT
            rw [hao, ht]
            clear ht hao
            obtain ⟨n0, n1⟩ := BN.out
            obtain ⟨t0, t1, -, -⟩ := HT.out
            obtain ⟨wq, hwq⟩ : ∃ wq, wq = wb2 := ⟨_, rfl⟩
            subst hwq
            go_wp2_with fail
            obtain ⟨C, Ci, Co⟩ := classOf wq
            refine quietC (C := C) (by kernel_rfl) (by kernel_rfl) (Co.out _ (Below.refl _ _).drew) ?_
            repeat (first
              | go_big_quiet_skip
              | (go_big_quiet_want; go_big_quiet_op; go_big_quiet_on)
              | (refine quiet_yes (by rfl) ?_
                 apply Exists.intro
                 refine ⟨fun w' hC => ?_, ?_⟩
                 · have hbb := Ci.out _ hC
                   have zz0 := Keep.below hbb _ _ n0
                   have zz1 := Keep.below hbb _ _ n1
                   have zz2 := Keep.below hbb _ _ t0
                   have zz3 := Keep.below hbb _ _ t1
                   go_simp
                   first
                     | done
                     | rfl
                     | (go_at_call 35
                        refine (rArrivalOf_any N _ l A c a _ (hN0.out.keep (Keep.below (HW.out.trans (hbb.mono HW.out.size)))) (HA.out.keep (Keep.below (HW.out.trans (hbb.mono HW.out.size)))) HE.out HIN.out (by omega) ha.1 (by omega)).mono ?_
                        rintro e' w1 ⟨rfl, hb1⟩
                        exact ⟨rfl, Co.out _ (hbb.trans (hb1.mono hbb.size))⟩)
                 simp only [Act.put, List.setIfInBounds_toArray, List.set_cons_zero, List.set_cons_succ]))
            refine wpQuiet_nil ?_
            intro wE hC1
            have HQ2 := Lib.hid (Ci.out _ hC1)
            go_wp2
            go_ret
            exact ⟨rfl, HW.out.trans (HQ2.out.mono HW.out.size)⟩
          · have hav : avErr N l a = timeErr a := HAT.out
            have hao : arrOf N l a = ((0, 0), timeErr a) := by unfold arrOf; rw [if_neg (by rw [hav]; exact ht), hav]
            have e1 : (timeErr a == 0) = false := by simpa using ht
            have e2 : (timeErr a != 0) = true := by simpa using ht
            rw [hao] at HT
            rw [hao]
            clear ht hav hao
            obtain ⟨t0, t1, -, -⟩ := HT.out
            go_wp2_with fail
            go_ret
            exact ⟨rfl, HW.out⟩
        · have hcw : cwErr N l = wayErr N l := by unfold cwErr; rw [if_pos he]
          have hca : cwAt N l = wayAt N l := by unfold cwAt; rw [if_pos he]
          have e1 : (wayErr N l == 0) = false := by simpa using hw
          have e2 : (wayErr N l != 0) = true := by simpa using hw
          have hav : avErr N l a = wayErr N l := (avErr_first (by rw [hcw]; exact hw)).trans hcw
          have hao : arrOf N l a = ((0, 0), wayErr N l) := by unfold arrOf; rw [if_neg (by rw [hav]; exact hw), hav]
          have hmo : metOf N l = (0, wayErr N l) := by unfold metOf; rw [if_neg (by rw [hcw]; exact hw), hcw]
          rw [hao] at HT
          rw [hao, hmo, hcw, hca]
          clear hav hao hmo hcw hca hw
          clear he
          obtain ⟨t0, t1, -, -⟩ := HT.out
          go_wp2_with fail
          go_ret
          exact ⟨rfl, HW.out⟩
      · have hcw : cwErr N l = netErr N := by unfold cwErr; rw [if_neg he]
        have hca : cwAt N l = 0 := by unfold cwAt; rw [if_neg he]
        have e1 : (netErr N == 0) = false := by simpa using he
        have e2 : (netErr N != 0) = true := by simpa using he
        have hav : avErr N l a = netErr N := (avErr_first (by rw [hcw]; exact he)).trans hcw
        have hao : arrOf N l a = ((0, 0), netErr N) := by unfold arrOf; rw [if_neg (by rw [hav]; exact he), hav]
        have hmo : metOf N l = (0, netErr N) := by unfold metOf; rw [if_neg (by rw [hcw]; exact he), hcw]
        rw [hao] at HT
        rw [hao, hmo, hcw, hca]
        clear hav hao hmo hcw hca he
        obtain ⟨t0, t1, -, -⟩ := HT.out
        go_wp2_with fail
        go_ret
        exact ⟨rfl, HW.out⟩
end Go.Proofs.Ythipneggplebcaa

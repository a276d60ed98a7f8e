/- Chains: the reference's CheckChain, ChainErr, until, HolderAt, StateAt, RightAt; RewardOf. Conditions: the chain is right, or short. -/
import Derived.Test.YtfjdnbnalihjiaaGreatDoorG5
namespace Go.Proofs.YtfjdnbnalihjiaaGreatDoor
open Go.RowKit Fs

theorem Fs.evt_day {x : Thg} {l : List Evt} {k : Nat} (h : evtAt x l k = 0) : 0 ≤ (lEvt l k).day ∧ (lEvt l k).day ≤ 100000 := by
  unfold evtAt at h
  by_cases h0 : (lEvt l k).item ≠ x.name
  · rw [if_pos h0] at h; exact absurd h (by decide)
  · rw [if_neg h0] at h
    by_cases h1 : isDay (lEvt l k).day = false
    · rw [if_pos h1] at h; exact absurd h (by decide)
    · exact Fs.within_iff.1 (show within (lEvt l k).day 0 100000 = true by simpa [isDay] using h1)
theorem Fs.chain_hit {x : Thg} {l : List Evt} {k : Nat} {e : Int} (h0 : thgErr x = 0) (h : ¬ 30 < l.length) (hk : k < l.length) (h1 : ∀ j, j < k → evtAt x l j = 0) (h2 : evtAt x l k = e) (h3 : e ≠ 0) : chainErr x l = e ∧ chainAt x l = k := by
  unfold chainErr chainAt
  rw [if_neg (fun hh => hh h0), if_neg h, if_neg (fun hh => hh h0), if_neg h]
  have := fst_hit hk h1 (by rw [h2]; exact h3)
  exact ⟨this.1.trans h2, this.2⟩
theorem Fs.chain_ok {x : Thg} {l : List Evt} (h : chainErr x l = 0) : thgErr x = 0 ∧ l.length ≤ 30 ∧ ∀ j, j < l.length → evtAt x l j = 0 := by
  unfold chainErr at h
  by_cases h0 : thgErr x = 0
  · rw [if_neg (fun hh => hh h0)] at h
    by_cases h1 : 30 < l.length
    · rw [if_pos h1] at h; exact absurd h (by decide)
    · rw [if_neg h1] at h
      exact ⟨h0, by omega, fun j hj => fst_zero h j hj⟩
  · rw [if_pos h0] at h; exact absurd h h0
theorem Fs.chain_zero {x : Thg} {l : List Evt} (h0 : thgErr x = 0) (h1 : l.length ≤ 30) (h2 : ∀ j, j < l.length → evtAt x l j = 0) : chainErr x l = 0 ∧ chainAt x l = 0 := by
  unfold chainErr chainAt
  rw [if_neg (fun hh => hh h0), if_neg (by omega), if_neg (fun hh => hh h0), if_neg (by omega)]
  exact ⟨fst_none h2, idx_none h2⟩
theorem ret2_nat {a b : Int} {i j : Nat} (h : a = b) (h2 : i = j) : Ending.returned (.tuple #[.int .i64 (i : Int), .int .i64 a]) = .returned (.tuple #[.int .i64 (j : Int), .int .i64 b]) := by rw [h, h2]
set_option linter.unusedSimpArgs false in
set_option maxHeartbeats 6400000 in
set_option maxRecDepth 100000 in
theorem rCheckChain_any (x : Thg) (v : Value) (l : List Evt) (A : Option Addr) (c : Nat) (w : World) (hv : RdThg w v x) (h : ArrEv w A l c) :
    Calls Tryz.prog 57 #[v, .slice A l.length c] w fun e w' => e = .returned (.tuple #[.int .i64 (chainAt x l : Nat), .int .i64 (chainErr x l)]) ∧ Below w.heap.size w w' := by
  obtain ⟨p, pc, rfl, m⟩ := hv
  have b1 := h.le.1
  have b2 := h.le.2
  have BX := Lib.hid (ThgAt.new w x p pc 24)
  have HW := Lib.hid ((Below.refl w.heap.size w).alloc (Nat.le_refl _) (.cells #[.string x.name, .int .i64 x.day, .string x.who, .slice p x.marks.length pc] 24))
  have HA := Lib.hid (h.keep (Keep.below HW.out))
  have M := Lib.hid (m.keep (Keep.below HW.out))
  clear h m
  go_enter Tryz.func57, Tryz.ntmps57
  go_upto_region 1 with fail
  generalize hwb : w.alloc _ = wb at *
  clear hwb
  obtain ⟨q0, q1, q2, q3⟩ := BX.out
  go_wp2_with fail
  refine (rCheckItem_any x _ _ ⟨_, _, rfl, M.out⟩).mono ?_
  rintro e' wc ⟨rfl, hb1⟩
  replace BX := Lib.hid (BX.out.keep (Keep.below hb1))
  replace HA := Lib.hid (HA.out.keep (Keep.below hb1))
  replace HW := Lib.hid (HW.out.trans (hb1.mono HW.out.size))
  clear hb1 q0 q1 q2 q3 M
  by_cases he : thgErr x = 0
  · have HE := Lib.hid he
    rw [he]
    clear he
    by_cases h40 : 30 < l.length
    · have F := Lib.hid (show chainErr x l = 8 ∧ chainAt x l = 0 by unfold chainErr chainAt; rw [if_neg (fun hh => hh HE.out), if_pos h40, if_neg (fun hh => hh HE.out), if_pos h40]; exact ⟨rfl, rfl⟩)
      have d1 : decide ((l.length : Int) > 30) = true := decide_eq_true (by omega)
      have d2 : decide ((30 : Int) < (l.length : Int)) = true := decide_eq_true (by omega)
      clear h40
      go_wp2_with fail
      go_ret2
      exact ⟨by rw [F.out.1, F.out.2]; rfl, HW.out⟩
    · have H40 := Lib.hid h40
      have d1 : decide ((l.length : Int) > 30) = false := decide_eq_false (by omega)
      have d2 : decide ((30 : Int) < (l.length : Int)) = false := decide_eq_false (by omega)
      clear h40
      go_wp2_with fail
      go_loopw [7] (fun i wr => ∃ k : Nat, k ≤ l.length ∧ i = .int .i64 k ∧ Hid (∀ j, j < k → evtAt x l j = 0) ∧ Hid (Below wc.heap.size wc wr)) (fun i _ => l.length - (intOf i).toNat)
      case atStart => exact ⟨0, Nat.zero_le _, rfl, Lib.hid fun j hj => absurd hj (Nat.not_lt_zero _), Lib.hid (Below.refl _ _)⟩
      case round =>
        obtain ⟨k, hk, rfl, Hn, HB⟩ := hrel
        by_cases hlt : k < l.length
        · have hkn : (k : Int) < (l.length : Int) := by omega
          have h41 := H40.out
          have hkc : (k : Int) ≤ (c : Int) := by omega
          have hkc2 : k ≤ c := by omega
          have hk00 : (0 : Int) ≤ (k : Int) := by omega
          have HDY := Lib.hid (fun j (hj : j < k) => evt_day (Hn.out j hj))
          obtain ⟨b, o, rfl, e0, e1, e2, e3, e4⟩ := (HA.out.keep (Keep.below HB.out)).at_ hlt
          obtain ⟨q0, q1, q2, q3⟩ := BX.out.keep (Keep.below HB.out)
          obtain ⟨er, her⟩ : ∃ er, evtAt x l k = er := ⟨_, rfl⟩
          have ER := Lib.hid her
          clear her
          by_cases hz : er = 0
          · subst hz
            go_wp2_with fail
            obtain ⟨C, Ci, Co⟩ := classOf wr
            refine quietC (C := C) (by kernel_rfl) (by kernel_rfl) (Co.out _ (Below.refl _ _).drew) ?_
            repeat (first
              | go_big_quiet_skip
              | (go_big_quiet_want; go_big_quiet_op; go_big_quiet_on)
              | (refine quiet_yes (by rfl) ?_
                 apply Exists.intro
                 refine ⟨fun w' hC => ?_, ?_⟩
                 · have hbb := Ci.out _ hC
                   have zz0 := Keep.below hbb _ _ q0
                   have zz1 := Keep.below hbb _ _ q1
                   have zz2 := Keep.below hbb _ _ q2
                   have zz3 := Keep.below hbb _ _ q3
                   have zz4 := Keep.below hbb _ _ e0
                   have zz5 := Keep.below hbb _ _ e1
                   have zz6 := Keep.below hbb _ _ e2
                   have zz7 := Keep.below hbb _ _ e3
                   have zz8 := Keep.below hbb _ _ e4
                   go_simp
                   first
                     | done
                     | rfl
                     | (go_at_call 111
                        refine (rEventErr_any x l _ c k p pc _ (HA.out.keep (Keep.below (HB.out.trans (hbb.mono HB.out.size)))) hlt (by omega) HDY.out).mono ?_
                        rintro e' w1 ⟨rfl, hb1⟩
                        rw [ER.out]
                        exact ⟨rfl, Co.out _ (hbb.trans (hb1.mono hbb.size))⟩)
                 simp only [Act.put, List.setIfInBounds_toArray, List.set_cons_zero, List.set_cons_succ]))
            refine wpQuiet_nil ?_
            intro wz hC1
            have HBQ := Lib.hid (HB.out.trans ((Ci.out _ hC1).mono HB.out.size))
            clear hC1 Ci Co q0 q1 q2 q3 e0 e1 e2 e3 e4
            go_wp2_with fail
            go_roundw
            case rel =>
              exact ⟨k + 1, by omega, by go_num, Lib.hid fun j hj => by
                by_cases e : j = k
                · subst e; exact ER.out
                · exact Hn.out j (by omega), HBQ⟩
            case measure => simp [intOf]; omega
          · have F := Lib.hid (chain_hit HE.out H40.out hlt Hn.out ER.out hz)
            have e9 : (er == 0) = false := by simpa using hz
            have e10 : (er != 0) = true := by simpa using hz
            clear hz
            go_wp2_with fail
            obtain ⟨C, Ci, Co⟩ := classOf wr
            refine quietC (C := C) (by kernel_rfl) (by kernel_rfl) (Co.out _ (Below.refl _ _).drew) ?_
            repeat (first
              | go_big_quiet_skip
              | (go_big_quiet_want; go_big_quiet_op; go_big_quiet_on)
              | (refine quiet_yes (by rfl) ?_
                 apply Exists.intro
                 refine ⟨fun w' hC => ?_, ?_⟩
                 · have hbb := Ci.out _ hC
                   have zz0 := Keep.below hbb _ _ q0
                   have zz1 := Keep.below hbb _ _ q1
                   have zz2 := Keep.below hbb _ _ q2
                   have zz3 := Keep.below hbb _ _ q3
                   have zz4 := Keep.below hbb _ _ e0
                   have zz5 := Keep.below hbb _ _ e1
                   have zz6 := Keep.below hbb _ _ e2
                   have zz7 := Keep.below hbb _ _ e3
                   have zz8 := Keep.below hbb _ _ e4
                   go_simp
                   first
                     | done
                     | rfl
                     | (go_at_call 111
                        refine (rEventErr_any x l _ c k p pc _ (HA.out.keep (Keep.below (HB.out.trans (hbb.mono HB.out.size)))) hlt (by omega) HDY.out).mono ?_
                        rintro e' w1 ⟨rfl, hb1⟩
                        rw [ER.out]
                        exact ⟨rfl, Co.out _ (hbb.trans (hb1.mono hbb.size))⟩)
                 simp only [Act.put, List.setIfInBounds_toArray, List.set_cons_zero, List.set_cons_succ]))
            refine wpQuiet_nil ?_
            intro wz hC1
            have HBQ := Lib.hid (HB.out.trans ((Ci.out _ hC1).mono HB.out.size))
            clear hC1 Ci Co q0 q1 q2 q3 e0 e1 e2 e3 e4
            go_wp2_with fail
            go_ret2
            exact ⟨ret2_nat F.out.1.symm F.out.2.symm, HW.out.trans (HBQ.out.mono HW.out.size)⟩
        · have F := Lib.hid (chain_zero HE.out (by have := H40.out; omega) (fun j hj => Hn.out j (by omega)))
          go_wp2_with fail
          go_ret2
          exact ⟨by rw [F.out.1, F.out.2]; rfl, HW.out.trans (HB.out.mono HW.out.size)⟩
  · have F := Lib.hid (show chainErr x l = thgErr x ∧ chainAt x l = 0 by unfold chainErr chainAt; rw [if_pos he, if_pos he]; exact ⟨rfl, rfl⟩)
    have e1 : (thgErr x == 0) = false := by simpa using he
    have e2 : (thgErr x != 0) = true := by simpa using he
    clear he
    go_wp2_with fail
    go_ret2
    exact ⟨by rw [F.out.1, F.out.2]; rfl, HW.out⟩
set_option maxHeartbeats 800000 in
theorem rChainErr_any (x : Thg) (v : Value) (l : List Evt) (A : Option Addr) (c : Nat) (day : Int) (w : World) (hv : RdThg w v x) (h : ArrEv w A l c) :
    Calls Tryz.prog 61 #[v, .slice A l.length c, .int .i64 day] w fun e w' => e = .returned (.int .i64 (onErr x l day)) ∧ Below w.heap.size w w' := by
  obtain ⟨p, pc, rfl, m⟩ := hv
  have BX := Lib.hid (ThgAt.new w x p pc 24)
  have HW := Lib.hid ((Below.refl w.heap.size w).alloc (Nat.le_refl _) (.cells #[.string x.name, .int .i64 x.day, .string x.who, .slice p x.marks.length pc] 24))
  have HA := Lib.hid (h.keep (Keep.below HW.out))
  have M := Lib.hid (m.keep (Keep.below HW.out))
  clear h m
  go_enter Tryz.func61, Tryz.ntmps61
  go_upto_region 1 with fail
  generalize hwb : w.alloc _ = wb at *
  clear hwb
  obtain ⟨q0, q1, q2, q3⟩ := BX.out
  go_wp2_with fail
  refine (rCheckChain_any x _ l A c _ ⟨_, _, rfl, M.out⟩ HA.out).mono ?_
  rintro e' wc ⟨rfl, hb1⟩
  replace BX := Lib.hid (BX.out.keep (Keep.below hb1))
  replace HW := Lib.hid (HW.out.trans (hb1.mono HW.out.size))
  clear hb1 q0 q1 q2 q3 M
  obtain ⟨q0, q1, q2, q3⟩ := BX.out
  by_cases he : chainErr x l = 0
  · cases hd : within day x.day 100000 with
    | true =>
      have F := Lib.hid (show onErr x l day = 0 by unfold onErr; rw [if_neg (fun hh => hh he), if_pos hd])
      rw [he]
      clear he
      go_wp2_with fail
      refine (bwithin_any _ _ _ _).mono ?_
      rintro e w9 ⟨rfl, rfl⟩
      rw [hd]
      go_wp2_with fail
      go_ret
      exact ⟨ret_int F.out.symm, HW.out⟩
    | false =>
      have F := Lib.hid (show onErr x l day = 2 by unfold onErr; rw [if_neg (fun hh => hh he), if_neg (by rw [hd]; decide)])
      rw [he]
      clear he
      go_wp2_with fail
      refine (bwithin_any _ _ _ _).mono ?_
      rintro e w9 ⟨rfl, rfl⟩
      rw [hd]
      go_wp2_with fail
      go_ret
      exact ⟨ret_int F.out.symm, HW.out⟩
  · have F := Lib.hid (show onErr x l day = chainErr x l by unfold onErr; rw [if_pos he])
    have e1 : (chainErr x l == 0) = false := by simpa using he
    have e2 : (chainErr x l != 0) = true := by simpa using he
    clear he
    go_wp2_with fail
    go_ret
    exact ⟨ret_int F.out.symm, HW.out⟩
theorem Fs.untilTo_eq {l : List Evt} {day : Int} {k : Nat} (hk : k ≤ l.length) (h2 : k < l.length → day < (lEvt l k).day) : ∀ f i, i + f = l.length → i ≤ k → (∀ j, i ≤ j → j < k → (lEvt l j).day ≤ day) → untilTo l day i f = k := by
  intro f
  induction f with
  | zero => intro i h1 h3 _; rw [untilTo]; omega
  | succ f ih =>
    intro i h1 h3 h4
    rw [untilTo]
    by_cases e : i < k
    · rw [if_pos ⟨by omega, h4 i (Nat.le_refl _) e⟩]
      exact ih (i + 1) (by omega) (by omega) (fun j hj hjk => h4 j (by omega) hjk)
    · obtain rfl : i = k := by omega
      rw [if_neg (fun hh => by have := h2 hh.1; have := hh.2; omega)]
theorem Fs.until_eq {l : List Evt} {day : Int} {k : Nat} (hk : k ≤ l.length) (h2 : k < l.length → day < (lEvt l k).day) (h3 : ∀ j, j < k → (lEvt l j).day ≤ day) : untilN l day = k :=
  untilTo_eq hk h2 _ 0 (by omega) (Nat.zero_le _) (fun j _ hj => h3 j hj)
set_option maxHeartbeats 800000 in
theorem rUntil_any (l : List Evt) (A : Option Addr) (c : Nat) (day : Int) (w : World) (h : ArrEv w A l c) :
    Calls Tryz.prog 115 #[.slice A l.length c, .int .i64 day] w fun e w' => (e = .returned (.slice A (untilN l day) c) ∧ untilN l day ≤ l.length) ∧ w = w' := by
  have b1 := h.le.1
  have b2 := h.le.2
  have HA := Lib.hid h
  clear h
  go_enter Tryz.func115, Tryz.ntmps115
  go_wp2_with fail
  go_loop [5] (fun u => ∃ k : Nat, k ≤ l.length ∧ u = .int .i64 k ∧ Hid (∀ j, j < k → (lEvt l j).day ≤ day)) (fun u => l.length - (intOf u).toNat)
  case atStart => exact ⟨0, Nat.zero_le _, rfl, Lib.hid fun j hj => absurd hj (Nat.not_lt_zero _)⟩
  case round =>
    obtain ⟨k, hk, rfl, Hn⟩ := hrel
    by_cases hlt : k < l.length
    · have hkn : (k : Int) < (l.length : Int) := by omega
      obtain ⟨b, o, rfl, e0, e1, e2, e3, e4⟩ := HA.out.at_ hlt
      by_cases hd : (lEvt l k).day ≤ day
      · have d1 : decide ((lEvt l k).day ≤ day) = true := decide_eq_true hd
        have HD := Lib.hid hd
        go_wp2_with fail
        go_round
        case rel =>
          exact ⟨k + 1, by omega, by go_num, Lib.hid fun j hj => by
            by_cases e : j = k
            · subst e; exact HD.out
            · exact Hn.out j (by omega)⟩
        case measure => simp [intOf]; omega
      · have d1 : decide ((lEvt l k).day ≤ day) = false := decide_eq_false hd
        have F := Lib.hid (until_eq (day := day) hk (fun _ => by omega) Hn.out)
        go_wp2_with fail
        go_ret
        exact ⟨⟨by rw [F.out]; rfl, by rw [F.out]; exact hk⟩, rfl⟩
    · have F := Lib.hid (until_eq (day := day) hk (fun hh => absurd hh hlt) Hn.out)
      obtain rfl : k = l.length := by omega
      go_wp2_with fail
      go_ret
      exact ⟨⟨by rw [F.out]; rfl, by rw [F.out]; exact hk⟩, rfl⟩
set_option maxHeartbeats 800000 in
theorem rHolderAt_any (x : Thg) (v : Value) (l : List Evt) (A : Option Addr) (c : Nat) (day : Int) (w : World) (hv : RdThg w v x) (h : ArrEv w A l c) :
    Calls Tryz.prog 62 #[v, .slice A l.length c, .int .i64 day] w fun e w' => e = .returned (.string (holderOf x l (untilN l day))) ∧ Below w.heap.size w w' := by
  obtain ⟨p, pc, rfl, m⟩ := hv
  have b1 := h.le.1
  have b2 := h.le.2
  have BX := Lib.hid (ThgAt.new w x p pc 24)
  have HW := Lib.hid ((Below.refl w.heap.size w).alloc (Nat.le_refl _) (.cells #[.string x.name, .int .i64 x.day, .string x.who, .slice p x.marks.length pc] 24))
  have HA := Lib.hid (h.keep (Keep.below HW.out))
  clear h m
  go_enter Tryz.func62, Tryz.ntmps62
  go_upto_region 1 with fail
  generalize hwb : w.alloc _ = wb at *
  clear hwb
  obtain ⟨q0, q1, q2, q3⟩ := BX.out
  go_wp2_with fail
  refine (rUntil_any l A c day _ HA.out).mono ?_
  rintro e' wc ⟨⟨rfl, hn⟩, rfl⟩
  obtain ⟨n, hN⟩ : ∃ n, n = untilN l day := ⟨_, rfl⟩
  rw [← hN] at hn ⊢
  have HN := Lib.hid hN
  clear hN
  by_cases hz : n = 0
  · have F := Lib.hid (show holderOf x l n = x.who from if_pos hz)
    have hkz : ((n : Int) == 0) = true := by simp; omega
    have hkz2 : decide (n = 0) = true := decide_eq_true hz
    clear hz
    go_wp2_with fail
    go_ret
    exact ⟨by rw [← HN.out, F.out]; rfl, HW.out⟩
  · have F := Lib.hid (show holderOf x l n = (lEvt l (n - 1)).dst from if_neg hz)
    have hkz : ((n : Int) == 0) = false := by simp; omega
    have hkz2 : decide (n = 0) = false := decide_eq_false hz
    obtain ⟨j, hj⟩ : ∃ j, j = n - 1 := ⟨_, rfl⟩
    rw [← hj] at F
    have hkp : (n : Int) - 1 = (j : Int) := by omega
    have hkw : IntKind.i64.wrap (j : Int) = (j : Int) := by rw [IntKind.wrap_i64]; omega
    have hk1 : (j : Int) < (n : Int) := by omega
    obtain ⟨b, o, rfl, e0, e1, e2, e3, e4⟩ := HA.out.at_ (k := j) (by omega)
    clear hz hj
    go_wp2_with fail
    go_ret
    exact ⟨by rw [← HN.out, F.out]; rfl, HW.out⟩
set_option maxHeartbeats 1600000 in
theorem rStateAt_any (l : List Evt) (A : Option Addr) (c : Nat) (day : Int) (w : World) (h : ArrEv w A l c) :
    Calls Tryz.prog 63 #[.slice A l.length c, .int .i64 day] w fun e w' => e = .returned (.int .i64 (stateOf l (untilN l day))) ∧ w = w' := by
  have b1 := h.le.1
  have b2 := h.le.2
  have HA := Lib.hid h
  clear h
  go_enter Tryz.func63, Tryz.ntmps63
  go_wp2_with fail
  refine (rUntil_any l A c day _ HA.out).mono ?_
  rintro e' wc ⟨⟨rfl, hn⟩, rfl⟩
  obtain ⟨n, hN⟩ : ∃ n, n = untilN l day := ⟨_, rfl⟩
  rw [← hN] at hn ⊢
  have HN := Lib.hid hN
  clear hN
  by_cases hz : n = 0
  · have F := Lib.hid (show stateOf l n = 0 from if_pos hz)
    have hkz : ((n : Int) == 0) = true := by simp; omega
    have hkz2 : decide (n = 0) = true := decide_eq_true hz
    clear hz
    go_wp2_with fail
    go_ret
    exact ⟨ret_int (by rw [← HN.out]; exact F.out.symm), rfl⟩
  · have hkz : ((n : Int) == 0) = false := by simp; omega
    have hkz2 : decide (n = 0) = false := decide_eq_false hz
    have HZ := Lib.hid hz
    obtain ⟨j, hj⟩ : ∃ j, j = n - 1 := ⟨_, rfl⟩
    have HJ := Lib.hid hj
    have hkp : (n : Int) - 1 = (j : Int) := by omega
    have hkw : IntKind.i64.wrap (j : Int) = (j : Int) := by rw [IntKind.wrap_i64]; omega
    have hk1 : (j : Int) < (n : Int) := by omega
    obtain ⟨b, o, rfl, e0, e1, e2, e3, e4⟩ := HA.out.at_ (k := j) (by omega)
    clear hz hj
    by_cases h2 : (lEvt l j).kind = 2
    · have F := Lib.hid (show stateOf l n = 2 by unfold stateOf; rw [if_neg HZ.out, ← HJ.out, if_pos h2])
      have z2 : ((lEvt l j).kind == 2) = true := by simpa using h2
      clear h2
      go_wp2_with fail
      go_ret
      exact ⟨ret_int (by rw [← HN.out]; exact F.out.symm), rfl⟩
    · have z2 : ((lEvt l j).kind == 2) = false := by simpa using h2
      by_cases h3 : (lEvt l j).kind = 3
      · have F := Lib.hid (show stateOf l n = 3 by unfold stateOf; rw [if_neg HZ.out, ← HJ.out, if_neg h2, if_pos h3])
        have z3 : ((lEvt l j).kind == 3) = true := by simpa using h3
        clear h2 h3
        go_wp2_with fail
        go_ret
        exact ⟨ret_int (by rw [← HN.out]; exact F.out.symm), rfl⟩
      · have z3 : ((lEvt l j).kind == 3) = false := by simpa using h3
        by_cases h4 : (lEvt l j).kind = 4
        · have F := Lib.hid (show stateOf l n = 4 by unfold stateOf; rw [if_neg HZ.out, ← HJ.out, if_neg h2, if_neg h3, if_pos h4])
          have z4 : ((lEvt l j).kind == 4) = true := by simpa using h4
          clear h2 h3 h4
          go_wp2_with fail
          go_ret
          exact ⟨ret_int (by rw [← HN.out]; exact F.out.symm), rfl⟩
        · have F := Lib.hid (show stateOf l n = 1 by unfold stateOf; rw [if_neg HZ.out, ← HJ.out, if_neg h2, if_neg h3, if_neg h4])
          have z4 : ((lEvt l j).kind == 4) = false := by simpa using h4
          clear h2 h3 h4
          go_wp2_with fail
          go_ret
          exact ⟨ret_int (by rw [← HN.out]; exact F.out.symm), rfl⟩
set_option maxHeartbeats 800000 in
theorem rRightAt_any (l : List Evt) (A : Option Addr) (c : Nat) (day : Int) (w : World) (h : ArrEv w A l c) (hd : 0 ≤ day ∧ day ≤ 100000) (hE : ∀ j, j < l.length → 0 ≤ (lEvt l j).day ∧ (lEvt l j).day ≤ 100000) :
    Calls Tryz.prog 64 #[.slice A l.length c, .int .i64 day] w fun e w' => e = .returned (.int .i64 (rightOf l (untilN l day) day)) ∧ w = w' := by
  go_enter Tryz.func64, Tryz.ntmps64
  go_wp2_with fail
  refine (rUntil_any l A c day _ h).mono ?_
  rintro e' wc ⟨⟨rfl, hn⟩, rfl⟩
  go_wp2_with fail
  refine (rRight_any l A c (untilN l day) day _ h hn hd (fun h0 => hE 0 (by omega))).mono ?_
  rintro e' wc ⟨rfl, rfl⟩
  go_wp2_with fail
  go_ret
  exact ⟨rfl, rfl⟩
end Go.Proofs.YtfjdnbnalihjiaaGreatDoor

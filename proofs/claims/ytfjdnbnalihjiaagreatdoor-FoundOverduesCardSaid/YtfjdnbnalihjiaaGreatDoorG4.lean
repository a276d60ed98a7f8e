/- Candidates: the reference's CanBe, Candidates, Ambiguous; Size. Conditions: the things are right. -/
import Derived.Test.YtfjdnbnalihjiaaGreatDoorG2
namespace Go.Proofs.YtfjdnbnalihjiaaGreatDoor
open Go.RowKit Fs

theorem Tryz.infoIntG : (Tryz.prog.info? 3).map (fun i => (i.zero, i.size, i.bytes)) = some (some (.int .i64 0), 1, 8) := by kernel_rfl
structure Fs.ThgOk (x : Thg) : Prop where
  day0 : 0 ≤ x.day
  day1 : x.day ≤ 100000
  marks : x.marks.length ≤ 8
theorem Fs.thg_ok {x : Thg} (h : thgErr x = 0) : ThgOk x ∧ marksErr x.marks = 0 ∧ isName x.name = true ∧ isName x.who = true := by
  unfold thgErr at h
  by_cases h1 : isName x.name = false ∨ isName x.who = false
  · rw [if_pos h1] at h; exact absurd h (by decide)
  · rw [if_neg h1] at h
    by_cases h2 : isDay x.day = false
    · rw [if_pos h2] at h; exact absurd h (by decide)
    · rw [if_neg h2] at h
      have h3 := Fs.within_iff.1 (show within x.day 0 100000 = true by simpa [isDay] using h2)
      refine ⟨⟨h3.1, h3.2, ?_⟩, h, by simpa using fun e => h1 (Or.inl e), by simpa using fun e => h1 (Or.inr e)⟩
      by_cases h4 : 8 < x.marks.length
      · rw [(marks_long h4).1] at h; exact absurd h (by decide)
      · omega
theorem Fs.thgs_ok {l : List Thg} (h : thgsErr l = 0) : l.length ≤ 12 ∧ ∀ i, i < l.length → thgErr (lThg l i) = 0 ∧ hasText (fun j => (lThg l j).name) i (lThg l i).name = false := by
  unfold thgsErr at h
  by_cases h1 : 12 < l.length
  · rw [if_pos h1] at h; exact absurd h (by decide)
  · rw [if_neg h1] at h
    refine ⟨by omega, fun i hi => ?_⟩
    have h2 := fst_zero h i hi
    unfold thgAt at h2
    by_cases h3 : thgErr (lThg l i) = 0
    · rw [if_neg (fun hh => hh h3)] at h2
      refine ⟨h3, ?_⟩
      cases h4 : hasText (fun j => (lThg l j).name) i (lThg l i).name with
      | false => rfl
      | true => rw [if_pos h4] at h2; exact absurd h2 (by decide)
    · rw [if_pos h3] at h2; exact absurd h2 h3
set_option maxHeartbeats 400000 in
theorem bSize_any (n : Int) (w : World) (h0 : -1000000 ≤ n) (h1 : n ≤ 1000000) : Calls Tryz.prog 92 #[.int .i64 n] w fun e w' => e = .returned (.int .i64 (size n)) ∧ w = w' := by
  go_enter Tryz.func92, Tryz.ntmps92
  by_cases hn : n < 0
  · have F := Lib.hid (show size n = -n from if_pos hn)
    have d1 : decide (n < 0) = true := decide_eq_true hn
    have hw : IntKind.i64.wrap (-n) = -n := by rw [IntKind.wrap_i64]; omega
    go_wp2_with fail
    go_ret
    exact ⟨ret_int F.out.symm, rfl⟩
  · have F := Lib.hid (show size n = n from if_neg hn)
    have d1 : decide (n < 0) = false := decide_eq_false hn
    go_wp2_with fail
    go_ret
    exact ⟨ret_int F.out.symm, rfl⟩
set_option maxHeartbeats 1600000 in
set_option maxRecDepth 100000 in
theorem rCanBe_any (x c : Thg) (u v : Value) (w : World) (hu : RdThg w u x) (hv : RdThg w v c) (hx : ThgOk x) (hc : ThgOk c) :
    Calls Tryz.prog 35 #[u, v] w fun e w' => e = .returned (.bool (canBe x c)) ∧ Below w.heap.size w w' := by
  obtain ⟨p, pc, rfl, m⟩ := hu
  obtain ⟨p', pc', rfl, m'⟩ := hv
  have hx2 := hx.day0
  have hx3 := hx.day1
  have hc2 := hc.day0
  have hc3 := hc.day1
  have hl1 : x.marks.length ≤ 1000 := by have := hx.marks; omega
  have hl2 : c.marks.length ≤ 1000 := by have := hc.marks; omega
  have BX := Lib.hid ((ThgAt.new w x p pc 24).keep (Keep.alloc _ (.cells #[.string c.name, .int .i64 c.day, .string c.who, .slice p' c.marks.length pc'] 26)))
  have BC := Lib.hid (show ThgAt ((w.alloc (.cells #[.string x.name, .int .i64 x.day, .string x.who, .slice p x.marks.length pc] 24)).alloc (.cells #[.string c.name, .int .i64 c.day, .string c.who, .slice p' c.marks.length pc'] 26)) (w.heap.size + 1) 0 c p' pc' from ⟨cellNew1 _ _ _ _ 0, cellNew1 _ _ _ _ 1, cellNew1 _ _ _ _ 2, cellNew1 _ _ _ _ 3⟩)
  have M := Lib.hid m
  have M' := Lib.hid m'
  clear m m' hx hc
  go_enter Tryz.func35, Tryz.ntmps35
  go_upto_region 1 with fail
  generalize hwb : (w.alloc _).alloc _ = wb at *
  have HW : Hid (Below w.heap.size w wb) := by rw [← hwb]; exact Lib.hid (((Below.refl _ _).alloc (Nat.le_refl _) _).alloc (by simp) _)
  clear hwb
  obtain ⟨q0, q1, q2, q3⟩ := BX.out
  obtain ⟨r0, r1, r2, r3⟩ := BC.out
  go_wp2_with fail
  refine (rAgreement_any x.marks c.marks p p' pc pc' _ (M.out.keep (Keep.below HW.out)) (M'.out.keep (Keep.below HW.out)) hl1 hl2).mono ?_
  rintro e' w1 ⟨rfl, hb1⟩
  have hb2 := hb1.alloc hb1.size (.cells #[.int .i64 (agrees x.marks c.marks), .int .i64 (differs x.marks c.marks)] 42)
  replace BX := Lib.hid (BX.out.keep (Keep.below hb2))
  replace BC := Lib.hid (BC.out.keep (Keep.below hb2))
  replace HW := Lib.hid (HW.out.trans (hb2.mono HW.out.size))
  obtain ⟨o0, o1, -, -⟩ := PairAt.new w1 (agrees x.marks c.marks) (differs x.marks c.marks) 42
  clear hb1 hb2 q0 q1 q2 q3 r0 r1 r2 r3
  go_upto_region 2 with fail
  generalize hg : w1.heap.size = g at *
  generalize hwy : w1.alloc _ = wy at *
  clear hwy hg
  obtain ⟨q0, q1, q2, q3⟩ := BX.out
  obtain ⟨r0, r1, r2, r3⟩ := BC.out
  have hw1 : IntKind.i64.wrap (c.day - 3) = c.day - 3 := by rw [IntKind.wrap_i64]; omega
  by_cases h1 : c.day - 3 ≤ x.day
  · have d1 : decide (c.day - 3 ≤ x.day) = true := decide_eq_true h1
    have d2 : decide (x.day ≥ c.day - 3) = true := d1
    by_cases h2 : differs x.marks c.marks = 0
    · have e1 : (differs x.marks c.marks == 0) = true := by simpa using h2
      by_cases h3 : 2 ≤ agrees x.marks c.marks
      · have d3 : decide (2 ≤ agrees x.marks c.marks) = true := decide_eq_true h3
        have d4 : decide (agrees x.marks c.marks ≥ 2) = true := d3
        have F := Lib.hid (show canBe x c = true by unfold canBe; rw [decide_eq_true h1, decide_eq_true h2, decide_eq_true h3]; rfl)
        clear h1 h2 h3
        go_wp2_with fail
        go_ret
        exact ⟨ret_bool F.out.symm, HW.out⟩
      · have d3 : decide (2 ≤ agrees x.marks c.marks) = false := decide_eq_false h3
        have d4 : decide (agrees x.marks c.marks ≥ 2) = false := d3
        have F := Lib.hid (show canBe x c = false by unfold canBe; rw [decide_eq_true h1, decide_eq_true h2, decide_eq_false h3]; rfl)
        clear h1 h2 h3
        go_wp2_with fail
        go_ret
        exact ⟨ret_bool F.out.symm, HW.out⟩
    · have e1 : (differs x.marks c.marks == 0) = false := by simpa using h2
      have F := Lib.hid (show canBe x c = false by unfold canBe; rw [decide_eq_true h1, decide_eq_false h2]; rfl)
      clear h1 h2
      go_wp2_with fail
      go_ret
      exact ⟨ret_bool F.out.symm, HW.out⟩
  · have d1 : decide (c.day - 3 ≤ x.day) = false := decide_eq_false h1
    have d2 : decide (x.day ≥ c.day - 3) = false := d1
    have F := Lib.hid (show canBe x c = false by unfold canBe; rw [decide_eq_false h1]; rfl)
    clear h1
    go_wp2_with fail
    go_ret
    exact ⟨ret_bool F.out.symm, HW.out⟩
theorem Fs.candTo_len (l : List Thg) (c : Thg) (k : Nat) : (candTo l c k).length ≤ k := by
  induction k with
  | zero => exact Nat.le_refl _
  | succ k ih =>
    rw [candTo]; split
    · rw [List.length_append, List.length_singleton]; omega
    · omega
set_option maxHeartbeats 3200000 in
set_option maxRecDepth 100000 in
theorem rCandidates_any (l : List Thg) (x : Thg) (A : Option Addr) (c : Nat) (a : GA) (v : Value) (w : World) (h : ArrTh w A l c a) (hv : RdThg w v x) (hk : ∀ i, i < l.length → ThgOk (lThg l i)) (hx : ThgOk x) (hl : l.length ≤ 1000) :
    Calls Tryz.prog 39 #[.slice A l.length c, v] w fun e w' => (∃ A' c', e = .returned (.slice A' (cands l x).length c') ∧ ArrI w' A' (cands l x) c') ∧ Below w.heap.size w w' := by
  obtain ⟨i0, hi, hz0, hz1, hz2⟩ := info_parts Tryz.infoIntG
  obtain ⟨p, pc, rfl, m⟩ := hv
  have b1 := h.le.1
  have b2 := h.le.2
  have BX := Lib.hid (ThgAt.new w x p pc 26)
  have HW := Lib.hid ((Below.refl w.heap.size w).alloc (Nat.le_refl _) (.cells #[.string x.name, .int .i64 x.day, .string x.who, .slice p x.marks.length pc] 26))
  have HA := Lib.hid (h.keep (Keep.below HW.out))
  have M := Lib.hid (m.keep (Keep.below HW.out))
  have HK := Lib.hid hk
  have HX := Lib.hid hx
  clear h m hk hx
  go_enter Tryz.func39, Tryz.ntmps39
  go_upto_region 2 with fail
  generalize hwb : w.alloc _ = wb at *
  clear hwb
  go_wp2_with fail
  go_loopw [5, 6] (fun v i wr => ∃ k : Nat, k ≤ l.length ∧ i = .int .i64 k ∧ Hid (wr.ownsRow wb.heap.size 3 1 v (candTo l x k).length (intVals (candTo l x k))) ∧ Hid (Below wb.heap.size wb wr)) (fun _ i _ => l.length - (intOf i).toNat)
  case atStart => exact ⟨0, Nat.zero_le _, rfl, Lib.hid (World.ownsRow_nil _ _ _ _), Lib.hid (Below.refl _ _)⟩
  case round =>
    obtain ⟨k, hk, rfl, HO, HB⟩ := hrel
    have hgl := candTo_len l x k
    by_cases hlt : k < l.length
    · have hkn : (k : Int) < (l.length : Int) := by omega
      obtain ⟨b, o, rfl, q, qm⟩ := (HA.out.keep (Keep.below HB.out)).at_ hlt
      obtain ⟨q0, q1, q2, q3⟩ := q
      have QM := Lib.hid qm
      obtain ⟨r0, r1, r2, r3⟩ := BX.out.keep (Keep.below HB.out)
      clear qm
      cases hcb : canBe (lThg l k) x with
      | true =>
        have CB := Lib.hid hcb
        have HG := Lib.hid (show candTo l x (k + 1) = candTo l x k ++ [(k : Int)] by rw [candTo, if_pos hcb])
        clear hcb
        go_wp2_with fail
        obtain ⟨C, Ci, Co⟩ := classOf wr
        refine quietC (C := C) (by kernel_rfl) (by kernel_rfl) (Co.out _ (Below.refl _ _).drew) ?_
        repeat (first
          | go_big_quiet_skip
          | (go_big_quiet_want; go_big_quiet_op; go_big_quiet_on)
          | (refine quiet_yes (by rfl) ?_
             apply Exists.intro
             refine ⟨fun w' hC => ?_, ?_⟩
             · have hbb := Ci.out _ hC
               have zz0 := Keep.below hbb _ _ q0
               have zz1 := Keep.below hbb _ _ q1
               have zz2 := Keep.below hbb _ _ q2
               have zz3 := Keep.below hbb _ _ q3
               have zz4 := Keep.below hbb _ _ r0
               have zz5 := Keep.below hbb _ _ r1
               have zz6 := Keep.below hbb _ _ r2
               have zz7 := Keep.below hbb _ _ r3
               go_simp
               first
                 | done
                 | rfl
                 | (go_at_call 35
                    refine (rCanBe_any (lThg l k) x _ _ _ ⟨_, _, rfl, QM.out.keep (Keep.below hbb)⟩ ⟨_, _, rfl, M.out.keep (Keep.below (HB.out.trans (hbb.mono HB.out.size)))⟩ (HK.out k hlt) HX.out).mono ?_
                    rintro e' w1 ⟨rfl, hb1⟩
                    rw [CB.out]
                    exact ⟨rfl, Co.out _ (hbb.trans (hb1.mono hbb.size))⟩)
             simp only [Act.put, List.setIfInBounds_toArray, List.set_cons_zero, List.set_cons_succ]))
        refine wpQuiet_nil ?_
        intro wz hC1
        have HBQ := Lib.hid (HB.out.trans ((Ci.out _ hC1).mono HB.out.size))
        have HO2 := Lib.hid (below_of_own HO.out (Ci.out _ hC1))
        clear hC1 Ci Co q0 q1 q2 q3 r0 r1 r2 r3
        go_wp2_with (at_builtin
                     refine wpList_append_own _ rfl (.tmp 19) (.tmp 21) 51 rfl wb.heap.size 3 i0 _ 1 8 Tryz.underlying51 hi hz0 hz1 hz2 rfl (by decide) _ _ _ rfl (HO2.out.alloc _) ⟨_, 0, none⟩ 1 1 [.int .i64 k] rfl rfl ?c1 ?c2 ?c3 ?c4 ?c5 ?_)
        case c1 => exact news0 _ _ _
        case c2 => exact oneInt _
        case c3 => unfold maxLen; omega
        case c4 => omega
        case c5 => have := HBQ.out.size; simp; omega
        intro v9 w9 ho9 hg9 _
        go_wp2_with fail
        go_roundw
        case rel =>
          refine ⟨k + 1, by omega, by go_num, Lib.hid ?_, Lib.hid ?_⟩
          · rw [HG.out, intVals_snoc, List.length_append]
            exact ho9
          · exact (HBQ.out.alloc HBQ.out.size _).grown hg9 (by have := HBQ.out.size; simp; omega) (fun j hj => (HO2.out.lt j hj).1)
        case measure => simp [intOf]; omega
      | false =>
        have CB := Lib.hid hcb
        have HG := Lib.hid (show candTo l x (k + 1) = candTo l x k by rw [candTo, if_neg (by rw [hcb]; decide)])
        clear hcb
        go_wp2_with fail
        obtain ⟨C, Ci, Co⟩ := classOf wr
        refine quietC (C := C) (by kernel_rfl) (by kernel_rfl) (Co.out _ (Below.refl _ _).drew) ?_
        repeat (first
          | go_big_quiet_skip
          | (go_big_quiet_want; go_big_quiet_op; go_big_quiet_on)
          | (refine quiet_yes (by rfl) ?_
             apply Exists.intro
             refine ⟨fun w' hC => ?_, ?_⟩
             · have hbb := Ci.out _ hC
               have zz0 := Keep.below hbb _ _ q0
               have zz1 := Keep.below hbb _ _ q1
               have zz2 := Keep.below hbb _ _ q2
               have zz3 := Keep.below hbb _ _ q3
               have zz4 := Keep.below hbb _ _ r0
               have zz5 := Keep.below hbb _ _ r1
               have zz6 := Keep.below hbb _ _ r2
               have zz7 := Keep.below hbb _ _ r3
               go_simp
               first
                 | done
                 | rfl
                 | (go_at_call 35
                    refine (rCanBe_any (lThg l k) x _ _ _ ⟨_, _, rfl, QM.out.keep (Keep.below hbb)⟩ ⟨_, _, rfl, M.out.keep (Keep.below (HB.out.trans (hbb.mono HB.out.size)))⟩ (HK.out k hlt) HX.out).mono ?_
                    rintro e' w1 ⟨rfl, hb1⟩
                    rw [CB.out]
                    exact ⟨rfl, Co.out _ (hbb.trans (hb1.mono hbb.size))⟩)
             simp only [Act.put, List.setIfInBounds_toArray, List.set_cons_zero, List.set_cons_succ]))
        refine wpQuiet_nil ?_
        intro wz hC1
        have HBQ := Lib.hid (HB.out.trans ((Ci.out _ hC1).mono HB.out.size))
        have HO2 := Lib.hid (below_of_own HO.out (Ci.out _ hC1))
        clear hC1 Ci Co q0 q1 q2 q3 r0 r1 r2 r3
        go_wp2_with fail
        go_roundw
        case rel => exact ⟨k + 1, by omega, by go_num, by rw [HG.out]; exact HO2, HBQ⟩
        case measure => simp [intOf]; omega
    · obtain rfl : k = l.length := by omega
      obtain ⟨A2, c2, rfl, h2⟩ := own_arr HO.out
      have H2 := Lib.hid h2
      clear h2
      go_wp2_with fail
      go_ret
      exact ⟨⟨A2, c2, rfl, H2.out⟩, HW.out.trans (HB.out.mono HW.out.size)⟩
theorem Fs.ambTo_len (l c : List Thg) (k : Nat) : (ambTo l c k).length ≤ k := by
  induction k with
  | zero => exact Nat.le_refl _
  | succ k ih =>
    rw [ambTo]; split
    · rw [List.length_append, List.length_singleton]; omega
    · omega
set_option maxHeartbeats 3200000 in
set_option maxRecDepth 100000 in
theorem rAmbiguous_any (l d : List Thg) (A B : Option Addr) (c e : Nat) (a b : GA) (w : World) (h : ArrTh w A l c a) (h2 : ArrTh w B d e b) (hk : ∀ i, i < l.length → ThgOk (lThg l i)) (hd : ∀ i, i < d.length → ThgOk (lThg d i)) (hl : l.length ≤ 1000) (hdl : d.length ≤ 1000) :
    Calls Tryz.prog 43 #[.slice A l.length c, .slice B d.length e] w fun x w' => (∃ A' c', x = .returned (.slice A' (amb l d).length c') ∧ ArrI w' A' (amb l d) c') ∧ Below w.heap.size w w' := by
  obtain ⟨i0, hi, hz0, hz1, hz2⟩ := info_parts Tryz.infoIntG
  have b1 := h2.le.1
  have b2 := h2.le.2
  have HA := Lib.hid h
  have HA2 := Lib.hid h2
  have HK := Lib.hid hk
  have HD := Lib.hid hd
  clear h h2 hk hd
  go_enter Tryz.func43, Tryz.ntmps43
  go_upto_region 2 with fail
  go_wp2_with fail
  go_loopw [5, 6] (fun v i wr => ∃ k : Nat, k ≤ d.length ∧ i = .int .i64 k ∧ Hid (wr.ownsRow w.heap.size 3 1 v (ambTo l d k).length (intVals (ambTo l d k))) ∧ Hid (Below w.heap.size w wr)) (fun _ i _ => d.length - (intOf i).toNat)
  case atStart => exact ⟨0, Nat.zero_le _, rfl, Lib.hid (World.ownsRow_nil _ _ _ _), Lib.hid (Below.refl _ _)⟩
  case round =>
    obtain ⟨k, hk, rfl, HO, HB⟩ := hrel
    have hgl := ambTo_len l d k
    by_cases hlt : k < d.length
    · have hkn : (k : Int) < (d.length : Int) := by omega
      obtain ⟨g, o, rfl, q, qm⟩ := (HA2.out.keep (Keep.below HB.out)).at_ hlt
      obtain ⟨q0, q1, q2, q3⟩ := q
      have QM := Lib.hid qm
      clear qm
      go_wp2_with fail
      refine (rCandidates_any l (lThg d k) A c a _ _ (HA.out.keep (Keep.below HB.out)) ⟨_, _, rfl, QM.out⟩ HK.out (HD.out k hlt) hl).mono ?_
      rintro e' w1 ⟨⟨A5, c5, rfl, -⟩, hb1⟩
      have HBQ := Lib.hid (HB.out.trans (hb1.mono HB.out.size))
      have HO2 := Lib.hid (below_of_own HO.out hb1)
      clear hb1 q0 q1 q2 q3
      by_cases h2 : 2 ≤ (cands l (lThg d k)).length
      · have d1 : decide (((cands l (lThg d k)).length : Int) ≥ 2) = true := decide_eq_true (by omega)
        have d2 : decide (2 ≤ ((cands l (lThg d k)).length : Int)) = true := decide_eq_true (by omega)
        have HG := Lib.hid (show ambTo l d (k + 1) = ambTo l d k ++ [(k : Int)] by rw [ambTo, if_pos h2])
        clear h2
        go_wp2_with (at_builtin
                     refine wpList_append_own _ rfl (.tmp 21) (.tmp 23) 51 rfl w.heap.size 3 i0 _ 1 8 Tryz.underlying51 hi hz0 hz1 hz2 rfl (by decide) _ _ _ rfl (HO2.out.alloc _) ⟨_, 0, none⟩ 1 1 [.int .i64 k] rfl rfl ?c1 ?c2 ?c3 ?c4 ?c5 ?_)
        case c1 => exact news0 _ _ _
        case c2 => exact oneInt _
        case c3 => unfold maxLen; omega
        case c4 => omega
        case c5 => have := HBQ.out.size; simp; omega
        intro v9 w9 ho9 hg9 _
        go_wp2_with fail
        go_roundw
        case rel =>
          refine ⟨k + 1, by omega, by go_num, Lib.hid ?_, Lib.hid ?_⟩
          · rw [HG.out, intVals_snoc, List.length_append]
            exact ho9
          · exact (HBQ.out.alloc HBQ.out.size _).grown hg9 (by have := HBQ.out.size; simp; omega) (fun j hj => (HO2.out.lt j hj).1)
        case measure => simp [intOf]; omega
      · have d1 : decide (((cands l (lThg d k)).length : Int) ≥ 2) = false := decide_eq_false (by omega)
        have d2 : decide (2 ≤ ((cands l (lThg d k)).length : Int)) = false := decide_eq_false (by omega)
        have HG := Lib.hid (show ambTo l d (k + 1) = ambTo l d k by rw [ambTo, if_neg h2])
        clear h2
        go_wp2_with fail
        go_roundw
        case rel => exact ⟨k + 1, by omega, by go_num, by rw [HG.out]; exact HO2, HBQ⟩
        case measure => simp [intOf]; omega
    · obtain rfl : k = d.length := by omega
      obtain ⟨A2, c2, rfl, h2⟩ := own_arr HO.out
      have H2 := Lib.hid h2
      clear h2
      go_wp2_with fail
      go_ret
      exact ⟨⟨A2, c2, rfl, H2.out⟩, HB.out⟩
end Go.Proofs.YtfjdnbnalihjiaaGreatDoor

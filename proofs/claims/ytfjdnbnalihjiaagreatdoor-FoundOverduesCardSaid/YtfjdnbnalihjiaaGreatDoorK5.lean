/- Candidates; agreement. Conditions of the inner functions: the things are right. -/
import Derived.Test.YtfjdnbnalihjiaaGreatDoorG17
namespace Go.Proofs.YtfjdnbnalihjiaaGreatDoor
open Go.RowKit Fs

theorem Fs.thg_marks {x : Thg} (h : thgErr x = 0) : MarksOk x.marks := marks_ok (thg_ok h).2.1
set_option linter.unusedSimpArgs false in
set_option maxHeartbeats 12800000 in
set_option maxRecDepth 100000 in
theorem xCanBe0_any (x c : Thg) (u v : Value) (w : World) (hu : RdThg w u x) (hv : RdThg w v c) (hx : thgErr x = 0) (hc : thgErr c = 0) :
    Calls Tryz.prog 90 #[u, v] w fun e w' => e = .returned (.bool (canBe x c)) ∧ Below w.heap.size w w' := by
  obtain ⟨p, pc, rfl, m⟩ := hu
  obtain ⟨q, qc, rfl, m2⟩ := hv
  have M1 := Lib.hid (m.keep ((Keep.alloc w (.cells #[.string x.name, .int .i64 x.day, .string x.who, .slice p x.marks.length pc] 24)).trans (Keep.alloc _ (.cells #[.string c.name, .int .i64 c.day, .string c.who, .slice q c.marks.length qc] 26))))
  have M2 := Lib.hid (m2.keep ((Keep.alloc w (.cells #[.string x.name, .int .i64 x.day, .string x.who, .slice p x.marks.length pc] 24)).trans (Keep.alloc _ (.cells #[.string c.name, .int .i64 c.day, .string c.who, .slice q c.marks.length qc] 26))))
  have BX := Lib.hid ((ThgAt.new w x p pc 24).keep (Keep.alloc _ (.cells #[.string c.name, .int .i64 c.day, .string c.who, .slice q c.marks.length qc] 26)))
  have BC := Lib.hid (show ThgAt ((w.alloc (.cells #[.string x.name, .int .i64 x.day, .string x.who, .slice p x.marks.length pc] 24)).alloc (.cells #[.string c.name, .int .i64 c.day, .string c.who, .slice q c.marks.length qc] 26)) (w.heap.size + 1) 0 c q qc from ⟨cellNew1 _ _ _ _ 0, cellNew1 _ _ _ _ 1, cellNew1 _ _ _ _ 2, cellNew1 _ _ _ _ 3⟩)
  have HW := Lib.hid (((Below.refl w.heap.size w).alloc (Nat.le_refl _) (.cells #[.string x.name, .int .i64 x.day, .string x.who, .slice p x.marks.length pc] 24)).alloc (by simp) (.cells #[.string c.name, .int .i64 c.day, .string c.who, .slice q c.marks.length qc] 26))
  have K1 := Lib.hid (thg_marks hx)
  have K2 := Lib.hid (thg_marks hc)
  have O1 := (thg_ok hx).1
  have O2 := (thg_ok hc).1
  have d0 := O1.day0
  have d1 := O1.day1
  have d2 := O2.day0
  have d3 := O2.day1
  clear m m2 hx hc O1 O2
  go_enter Tryz.func90, Tryz.ntmps90
  go_upto_region 1 with fail
  generalize (w.alloc _).alloc _ = wb at *
  obtain ⟨q0, q1, q2, q3⟩ := BX.out
  obtain ⟨r0, r1, r2, r3⟩ := BC.out
  go_wp2_with fail
  refine (xCompared_any x.marks c.marks _ _ _ _ _ M1.out M2.out K1.out K2.out).mono ?_
  rintro e w1 ⟨rfl, hb1⟩
  clear q0 q1 q2 q3 r0 r1 r2 r3
  obtain ⟨q0, q1, q2, q3⟩ := BX.out.keep (Keep.below hb1)
  obtain ⟨r0, r1, r2, r3⟩ := BC.out.keep (Keep.below hb1)
  replace HW := Lib.hid (HW.out.trans (hb1.mono HW.out.size))
  clear hb1 M1 M2
  by_cases h1 : c.day - 3 ≤ x.day
  · have e1 : decide (c.day - 3 ≤ x.day) = true := decide_eq_true h1
    by_cases h2 : differs x.marks c.marks = 0
    · by_cases h3 : 2 ≤ agrees x.marks c.marks
      · have F := Lib.hid (show canBe x c = true by unfold canBe; rw [e1, decide_eq_true h2, decide_eq_true h3]; rfl)
        have e2 : decide (2 ≤ agrees x.marks c.marks) = true := decide_eq_true h3
        have e3 : (differs x.marks c.marks == 0) = true := by simpa using h2
        clear h1 h2 h3
        go_wp2_with fail
        go_ret
        exact ⟨ret_bool F.out.symm, HW.out⟩
      · have F := Lib.hid (show canBe x c = false by unfold canBe; rw [e1, decide_eq_true h2, decide_eq_false h3]; rfl)
        have e2 : decide (2 ≤ agrees x.marks c.marks) = false := decide_eq_false h3
        have e3 : (differs x.marks c.marks == 0) = true := by simpa using h2
        clear h1 h2 h3
        go_wp2_with fail
        go_ret
        exact ⟨ret_bool F.out.symm, HW.out⟩
    · have F := Lib.hid (show canBe x c = false by unfold canBe; rw [e1, decide_eq_false h2]; rfl)
      have e3 : (differs x.marks c.marks == 0) = false := by simpa using h2
      clear h1 h2
      go_wp2_with fail
      go_ret
      exact ⟨ret_bool F.out.symm, HW.out⟩
  · have e1 : decide (c.day - 3 ≤ x.day) = false := decide_eq_false h1
    have F := Lib.hid (show canBe x c = false by unfold canBe; rw [e1]; rfl)
    clear h1
    go_wp2_with fail
    go_ret
    exact ⟨ret_bool F.out.symm, HW.out⟩
set_option linter.unusedSimpArgs false in
set_option maxHeartbeats 12800000 in
set_option maxRecDepth 100000 in
theorem xCandidates0_any (l : List Thg) (x : Thg) (A : Option Addr) (c : Nat) (a : GA) (v : Value) (w : World) (h : ArrTh w A l c a) (hv : RdThg w v x) (hk : ∀ i, i < l.length → thgErr (lThg l i) = 0) (hx : thgErr x = 0) (hl : l.length ≤ 1000) :
    Calls Tryz.prog 86 #[.slice A l.length c, v] w fun e w' => (∃ A' c', e = .returned (.slice A' (cands l x).length c') ∧ ArrI w' A' (cands l x) c') ∧ Below w.heap.size w w' := by
  obtain ⟨i0, hi, hz0, hz1, hz2⟩ := info_parts Tryz.infoIntG
  obtain ⟨p, pc, rfl, m⟩ := hv
  have b1 := h.le.1
  have b2 := h.le.2
  have BX := Lib.hid (ThgAt.new w x p pc 26)
  have HW := Lib.hid ((Below.refl w.heap.size w).alloc (Nat.le_refl _) (.cells #[.string x.name, .int .i64 x.day, .string x.who, .slice p x.marks.length pc] 26))
  have HA := Lib.hid (h.keep (Keep.below HW.out))
  have M := Lib.hid (m.keep (Keep.below HW.out))
  have HK := Lib.hid hk
  have HX := Lib.hid hx
  clear h m hk hx
  go_enter Tryz.func86, Tryz.ntmps86
  go_upto_region 2 with fail
  generalize hwb : w.alloc _ = wb at *
  clear hwb
  go_wp2_with fail
  go_loopw [5, 10] (fun v i wr => ∃ k : Nat, k ≤ l.length ∧ i = .int .i64 k ∧ Hid (wr.ownsRow wb.heap.size 3 1 v (candTo l x k).length (intVals (candTo l x k))) ∧ Hid (Below wb.heap.size wb wr)) (fun _ i _ => l.length - (intOf i).toNat)
  case atStart => exact ⟨0, Nat.zero_le _, rfl, Lib.hid (World.ownsRow_nil _ _ _ _), Lib.hid (Below.refl _ _)⟩
  case round =>
    obtain ⟨k, hk, rfl, HO, HB⟩ := hrel
    have hgl := candTo_len l x k
    by_cases hlt : k < l.length
    · have hkn : (k : Int) < (l.length : Int) := by omega
      obtain ⟨b, o, rfl, q, qm⟩ := (HA.out.keep (Keep.below HB.out)).at_ hlt
      obtain ⟨q0, q1, q2, q3⟩ := q
      have TB := Lib.hid (ThgAt.new wr (lThg l k) (a.p k) (a.pc k) 24)
      have RX := Lib.hid ((BX.out.keep (Keep.below HB.out)).keep (Keep.alloc wr (.cells #[.string (lThg l k).name, .int .i64 (lThg l k).day, .string (lThg l k).who, .slice (a.p k) (lThg l k).marks.length (a.pc k)] 24)))
      have QM := Lib.hid (qm.keep (Keep.alloc wr (.cells #[.string (lThg l k).name, .int .i64 (lThg l k).day, .string (lThg l k).who, .slice (a.p k) (lThg l k).marks.length (a.pc k)] 24)))
      replace HO := Lib.hid (below_of_own HO.out ((Below.refl _ _).alloc (Nat.le_refl _) (.cells #[.string (lThg l k).name, .int .i64 (lThg l k).day, .string (lThg l k).who, .slice (a.p k) (lThg l k).marks.length (a.pc k)] 24)))
      replace HB := Lib.hid (HB.out.alloc HB.out.size (.cells #[.string (lThg l k).name, .int .i64 (lThg l k).day, .string (lThg l k).who, .slice (a.p k) (lThg l k).marks.length (a.pc k)] 24))
      clear qm
      go_upto_region 5 with fail
      generalize wr.alloc _ = wc at *
      clear q0 q1 q2 q3
      obtain ⟨q0, q1, q2, q3⟩ := TB.out
      obtain ⟨r0, r1, r2, r3⟩ := RX.out
      go_wp2_with fail
      refine (xCanBe0_any (lThg l k) x _ _ _ ⟨_, _, rfl, QM.out⟩ ⟨_, _, rfl, M.out.keep (Keep.below HB.out)⟩ (HK.out k hlt) HX.out).mono ?_
      rintro e' w1 ⟨rfl, hb1⟩
      have HBQ := Lib.hid (HB.out.trans (hb1.mono HB.out.size))
      have HO2 := Lib.hid (below_of_own HO.out hb1)
      clear q0 q1 q2 q3 r0 r1 r2 r3 hb1 HO HB TB RX QM
      cases hcb : canBe (lThg l k) x with
      | true =>
        have HG := Lib.hid (show candTo l x (k + 1) = candTo l x k ++ [(k : Int)] by rw [candTo, if_pos hcb])
        clear hcb
        go_wp2_with (at_builtin
                     refine wpList_append_own _ rfl (.tmp 18) (.tmp 20) 51 rfl wb.heap.size 3 i0 _ 1 8 Tryz.underlying51 hi hz0 hz1 hz2 rfl (by decide) _ _ _ rfl (HO2.out.alloc _) ⟨_, 0, none⟩ 1 1 [.int .i64 k] rfl rfl ?c1 ?c2 ?c3 ?c4 ?c5 ?_)
        case c1 => exact news0 _ _ _
        case c2 => exact oneInt _
        case c3 => unfold maxLen; omega
        case c4 => omega
        case c5 => have := HBQ.out.size; simp; omega
        intro v9 w9 ho9 hg9 _
        go_wp2_with fail
        go_roundw
        case rel =>
          refine ⟨k + 1, by omega, by go_num, Lib.hid ?_, Lib.hid ?_⟩
          · rw [HG.out, intVals_snoc, List.length_append]
            exact ho9
          · exact (HBQ.out.alloc HBQ.out.size _).grown hg9 (by have := HBQ.out.size; simp; omega) (fun j hj => (HO2.out.lt j hj).1)
        case measure => simp [intOf]; omega
      | false =>
        have HG := Lib.hid (show candTo l x (k + 1) = candTo l x k by rw [candTo, if_neg (by rw [hcb]; decide)])
        clear hcb
        go_wp2_with fail
        go_roundw
        case rel => exact ⟨k + 1, by omega, by go_num, by rw [HG.out]; exact HO2, HBQ⟩
        case measure => simp [intOf]; omega
    · obtain rfl : k = l.length := by omega
      obtain ⟨A2, c2, rfl, h2⟩ := own_arr HO.out
      have H2 := Lib.hid h2
      clear h2
      go_wp2_with fail
      go_ret
      exact ⟨⟨A2, c2, rfl, H2.out⟩, HW.out.trans (HB.out.mono HW.out.size)⟩
end Go.Proofs.YtfjdnbnalihjiaaGreatDoor

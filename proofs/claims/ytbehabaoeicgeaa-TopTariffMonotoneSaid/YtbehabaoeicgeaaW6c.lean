/- The error of a tariff and where it stands. No condition. -/
import Derived.Test.YtbehabaoeicgeaaW6b
import Derived.Test.YtbehabaoeicgeaaW6t
import Derived.Laws.EntriesVeiled
import Derived.Test.YtbehabaoeicgeaaW5e
namespace Go.Proofs.Ytbehabaoeicgeaa
open Go.RowKit Fs

theorem listErr_any (T : Tar) (v : Value) (k i : Nat) (w : World) (hT : RdTar w v T) (hk : k < 5) (hi : i < listLen T k) :
    Calls Try.prog (listFn k) #[v, .int .i64 i] w fun e w' => e = .returned (.int .i64 (listErr T k i)) ∧ Below w.heap.size w w' := by
  match k, hk with
  | 0, _ => exact zoneErr_any T v i w hT hi
  | 1, _ => exact holErr_any T v i w hT hi
  | 2, _ => exact ruleErr_any T v i w hT hi
  | 3, _ => exact extraErr_any T v i w hT hi
  | 4, _ => exact fixErr_any T v i w hT hi
set_option maxHeartbeats 1000000 in
set_option maxRecDepth 100000 in
theorem check_any (T : Tar) (v : Value) (w : World) (hT : RdTar w v T) :
    Calls Try.prog 51 #[v] w fun e w' => e = .returned (.tuple #[.agg #[.int .i64 (markTar T).1, .int .i64 (markTar T).2], .int .i64 (errTar T)]) ∧ Below w.heap.size w w' := by
  have hT0 := hT
  obtain ⟨z, h, r, e, f, zc, hc, rc, ec, fc, a, rfl, m⟩ := hT
  have a1 := m.zones.le.1
  have a2 := m.zones.le.2
  have a3 := m.hols.le.1
  have a4 := m.hols.le.2
  have a5 := m.rules.le.1
  have a6 := m.rules.le.2
  have a7 := m.extras.le.1
  have a8 := m.extras.le.2
  have a9 := m.fixed.le.1
  have a10 := m.fixed.le.2
  clear m
  by_cases hh : errHead T = 0
  · have d0 : (errHead T != 0) = false := by simpa using hh
    have H0 := Lib.hid hh
    clear hh
    go_enter Try.func51, Try.ntmps51
    go_wp2_with fail
    refine (headErr_any T _ _ (hT0.keep ((Keep.alloc _ _).trans (Keep.alloc _ _)))).mono ?_
    rintro e w1 ⟨rfl, hb1⟩
    rw [H0.out]
    have mk1 : MarkAt w1 (w.heap.size + 1) := by
      have := (MarkAt.new (w.alloc (.cells #[.string T.name, .int .i64 T.unit, .int .i64 T.step, .slice z T.zones.length zc, .slice h T.hols.length hc, .slice r T.rules.length rc, .slice e T.extras.length ec, .slice f T.fixed.length fc] 28)) 103).below hb1 (by simp)
      simpa using this
    have BX1 := (BoxT.new w T z h r e f zc hc rc ec fc 28).keep ((Keep.alloc _ _).trans (Keep.below hb1))
    have hk1 := Lib.hid (((Keep.alloc _ _).trans (Keep.alloc _ _)).trans (Keep.below hb1))
    have hbw1 : Below w.heap.size w w1 := (((Below.refl _ _).alloc (Nat.le_refl _) _).alloc (by simp) _).trans (hb1.mono (by simp; omega))
    have hs1 : w.heap.size + 1 < w1.heap.size := by have := hb1.size; simp at this; omega
    clear hb1
    have HBX := Lib.hid BX1
    have HMK := Lib.hid mk1
    clear mk1
    obtain ⟨t0, t1, t2, t3, t4, t5, t6, t7⟩ := BX1
    go_wp2_with fail
    clear t0 t1 t2 t3 t4 t5 t6 t7
    go_loopw [39] (fun u wr => ∃ k : Nat, k ≤ 5 ∧ u = .int .i64 k ∧ Hid (∀ j, j < k → errList T j = 0) ∧ Hid (Below (w1.alloc (.cells (listsArr T) 110)).heap.size (w1.alloc (.cells (listsArr T) 110)) wr)) (fun u _ => 5 - (intOf u).toNat)
    case atStart => exact ⟨0, by omega, rfl, fun j hj => absurd hj (Nat.not_lt_zero _), Below.refl _ _⟩
    case round =>
      obtain ⟨k, hk, rfl, Hn, hbl⟩ := hrel
      have hbr : Below w.heap.size w wr := (hbw1.alloc (by omega) _).trans (hbl.out.mono (by simp; omega))
      by_cases hlt : k < 5
      · have hk5 : decide ((k : Int) < 5) = true := decide_eq_true (by omega)
        have LA := (ListAt.new w1 T 110 k hlt).keep (Keep.below hbl.out)
        have hkr := Lib.hid (hk1.out.trans ((Keep.alloc _ _).trans (Keep.below hbl.out)))
        have HBr := Lib.hid (HBX.out.keep ((Keep.alloc _ _).trans (Keep.below hbl.out)))
        have HMr := Lib.hid ((HMK.out.alloc _).below hbl.out (by simp; omega))
        obtain ⟨l0, l1, l2, l3⟩ := LA
        have hll : listLen T k ≤ 9223372036854775807 := listLen_le (by omega) (by omega) (by omega) (by omega) (by omega)
        have hlm := listMost_le k
        have hsr : w.heap.size + 1 < wr.heap.size := HMr.out.lt
        by_cases hm : listMost k < listLen T k
        · have F1 := Lib.hid (tar_large H0.out hlt Hn.out hm).1
          have F2 := Lib.hid (tar_large H0.out hlt Hn.out hm).2
          obtain ⟨m0, m1, mf0, mf1⟩ := HMr.out
          go_wp2_with fail
          refine bodyPost_ret (v := .tuple #[.agg #[.int .i64 0, .int .i64 0], .int .i64 8]) (by simp [results, Try.results51, go_sem, m0, m1, hsr]) rfl ⟨by rw [F1.out, F2.out], ?_⟩
          exact ((hbr.setCell (p := ⟨w.heap.size + 1, 0, none⟩) (by simp) _).setCell (p := ⟨w.heap.size + 1, 1, none⟩) (by simp) _).alloc (by simp; omega) _
        · go_wp2_with fail
          have hcall := callList k
          obtain ⟨wo, rfl⟩ : ∃ wo : World, wo = wr := ⟨_, rfl⟩
          go_loopw [51] (fun u wi => ∃ i : Nat, i ≤ listLen T k ∧ u = .int .i64 i ∧ Hid (∀ j, j < i → listErr T k j = 0) ∧ Hid (Below (wo.alloc (.cells #[.int .i64 ((k : Int) + 1), .int .i64 (listLen T k), .int .i64 (listMost k), .func (.func (listFn k)) #[] #[]] 110)).heap.size (wo.alloc (.cells #[.int .i64 ((k : Int) + 1), .int .i64 (listLen T k), .int .i64 (listMost k), .func (.func (listFn k)) #[] #[]] 110)) wi)) (fun u _ => listLen T k - (intOf u).toNat)
          case atStart => exact ⟨0, by omega, rfl, fun j hj => absurd hj (Nat.not_lt_zero _), Below.refl _ _⟩
          case round =>
            obtain ⟨i, hi, rfl, Hz, hbi⟩ := hrel
            have hso : wo.heap.size < wr.heap.size := by have := hbi.out.size; simp at this; omega
            have hbw : Below w.heap.size w wr := (hbr.alloc (by omega) _).trans (hbi.out.mono (by simp; omega))
            have hbo := Lib.hid ((hbl.out.alloc hbl.out.size _).trans (hbi.out.mono (by have := hbl.out.size; simp at this ⊢; omega)))
            by_cases hil : i < listLen T k
            · have hki : Keep wo wr := (Keep.alloc _ _).trans (Keep.below hbi.out)
              have HTi := Lib.hid (hT0.keep (hkr.out.trans hki))
              have BXi := HBr.out.keep hki
              have HMi := (HMr.out.alloc _).below hbi.out (by simp; omega)
              have HM := Lib.hid HMi
              have q0 : wr.cell? ⟨wo.heap.size, 0, none⟩ = some (.int .i64 ((k : Int) + 1)) := Keep.below hbi.out _ _ (cellNew _ _ _ _)
              have q3 : wr.cell? ⟨wo.heap.size, 3, none⟩ = some (.func (.func (listFn k)) #[] #[]) := Keep.below hbi.out _ _ (cellNew _ _ _ _)
              obtain ⟨t0, t1, t2, t3, t4, t5, t6, t7⟩ := BXi
              clear hki HMi l0 l1 l2 l3
              by_cases hz0 : listErr T k i = 0
              · have F : Hid (∀ j, j < i + 1 → listErr T k j = 0) := fun j hj => by
                  by_cases e : j = i
                  · subst e; exact hz0
                  · exact Hz.out j (by omega)
                have d1 : (listErr T k i != 0) = false := by simpa using hz0
                clear hz0
                go_wp2_with fail
                refine (listErr_any T _ k i _ HTi.out hlt hil).mono ?_
                rintro e' w2 ⟨rfl, hb2⟩
                have HB2 := Lib.hid (hbi.out.trans (hb2.mono hbi.out.size))
                clear hb2
                go_wp2_with fail
                go_roundw
                case rel => first | exact ⟨i + 1, by omega, by go_num, F, HB2⟩ | ((repeat apply Exists.intro); exact ⟨⟨i + 1, by omega, by go_num, F, HB2⟩, rfl⟩)
                case measure => simp [intOf]; omega
              · have F1 := Lib.hid (tar_item H0.out hlt Hn.out hm hil Hz.out hz0).1
                have F2 := Lib.hid (tar_item H0.out hlt Hn.out hm hil Hz.out hz0).2
                have d1 : (listErr T k i != 0) = true := by simpa using hz0
                clear hz0
                go_wp2_with fail
                refine (listErr_any T _ k i _ HTi.out hlt hil).mono ?_
                rintro e' w2 ⟨rfl, hb2⟩
                have hbw2 := hbw.trans (hb2.mono hbw.size)
                have q0 := Keep.below hb2 _ _ q0
                obtain ⟨m0, m1, mf0, mf1⟩ := HM.out.below hb2 HM.out.lt
                clear hb2
                go_wp2_with fail
                refine bodyPost_ret (v := .tuple #[.agg #[.int .i64 ((k : Int) + 1), .int .i64 i], .int .i64 (listErr T k i)]) (by simp [results, Try.results51, go_sem, m0, m1]) rfl ⟨by rw [F1.out, F2.out], ?_⟩
                exact ((hbw2.setCell (p := ⟨w.heap.size + 1, 0, none⟩) (by simp) _).setCell (p := ⟨w.heap.size + 1, 1, none⟩) (by simp) _)
            · have F : Hid (∀ j, j < k + 1 → errList T j = 0) := fun j hj => by
                by_cases e : j = k
                · subst e; exact list_ok hm fun j hj => Hz.out j (by omega)
                · exact Hn.out j (by omega)
              clear l0 l1 l2 l3 hcall
              go_wp2_with fail
              go_roundw
              case rel => exact ⟨k + 1, by omega, by go_num, F, hbo⟩
              case measure => simp [intOf]; omega
      · have e5 : k = 5 := by omega
        have F1 := Lib.hid (tar_ok H0.out (fun j hj => Hn.out j (by omega))).1
        have F2 := Lib.hid (tar_ok H0.out (fun j hj => Hn.out j (by omega))).2
        have HMr := (HMK.out.alloc _).below hbl.out (by simp; omega)
        obtain ⟨m0, m1, mf0, mf1⟩ := HMr
        clear e5
        go_wp2_with fail
        refine bodyPost_ret (v := .tuple #[.agg #[.int .i64 0, .int .i64 0], .int .i64 0]) (by simp [results, Try.results51, go_sem, m0, m1]) rfl ⟨by rw [F1.out, F2.out], ?_⟩
        exact (hbr.setCell (p := ⟨w.heap.size + 1, 0, none⟩) (by simp) _).setCell (p := ⟨w.heap.size + 1, 1, none⟩) (by simp) _
  · have d0 : (errHead T != 0) = true := by simpa using hh
    have F1 := Lib.hid (show errTar T = errHead T by unfold errTar; rw [if_pos hh])
    have F2 := Lib.hid (show markTar T = (0, 0) by unfold markTar; rw [if_pos hh])
    clear hh
    go_enter Try.func51, Try.ntmps51
    go_wp2_with fail
    refine (headErr_any T _ _ (hT0.keep ((Keep.alloc _ _).trans (Keep.alloc _ _)))).mono ?_
    rintro e' w1 ⟨rfl, hb1⟩
    have mk1 : MarkAt w1 (w.heap.size + 1) := by
      have := (MarkAt.new (w.alloc (.cells #[.string T.name, .int .i64 T.unit, .int .i64 T.step, .slice z T.zones.length zc, .slice h T.hols.length hc, .slice r T.rules.length rc, .slice e T.extras.length ec, .slice f T.fixed.length fc] 28)) 103).below hb1 (by simp)
      simpa using this
    obtain ⟨m0, m1, mf0, mf1⟩ := mk1
    have hbw1 : Below w.heap.size w w1 := (((Below.refl _ _).alloc (Nat.le_refl _) _).alloc (by simp) _).trans (hb1.mono (by simp; omega))
    have HB := Lib.hid hb1
    clear hb1
    go_wp2_with fail
    refine bodyPost_ret (v := .tuple #[.agg #[.int .i64 0, .int .i64 0], .int .i64 (errHead T)]) (by simp [results, Try.results51, go_sem, m0, m1]) rfl ⟨by rw [F1.out, F2.out], ?_⟩
    exact (hbw1.setCell (p := ⟨w.heap.size + 1, 0, none⟩) (by simp) _).setCell (p := ⟨w.heap.size + 1, 1, none⟩) (by simp) _
end Go.Proofs.Ytbehabaoeicgeaa

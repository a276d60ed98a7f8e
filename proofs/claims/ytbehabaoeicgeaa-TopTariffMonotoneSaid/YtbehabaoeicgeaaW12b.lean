/- The law itself. No condition. -/
import Derived.Test.YtbehabaoeicgeaaW12a
import Derived.Test.YtbehabaoeicgeaaW11b
import Derived.Deep.RegionHeld3
import Derived.Deep.CutRange
import Derived.Deep.CutBlock
namespace Go.Proofs.Ytbehabaoeicgeaa
open Go.RowKit Fs

set_option maxHeartbeats 6400000 in
set_option maxRecDepth 100000 in
theorem law_any (T : Tar) (X : Trip) (M : List Int) (v x : Value) (A : Option Addr) (c : Nat) (w : World) (hT : RdTar w v T) (hX : RdTrip w x X) (hM : ArrI w A M c) :
    Calls Try.prog 3 #[v, x, .slice A M.length c] w fun e w' => e = .returned (.bool true) ∧ Below w.heap.size w w' := by
  have hT0 := hT
  have hX0 := hX
  obtain ⟨z, h, r, e, f, zc, hc, rc, ec, fc, a, rfl, m⟩ := hT
  obtain ⟨xe, xs, xec, xsc, rfl, x1, x2⟩ := hX
  have n1 := hM.le.1
  have n2 := hM.le.2
  clear m x1 x2
  have BT := Lib.hid ((BoxT.new w T z h r e f zc hc rc ec fc 28).keep (Keep.alloc _ (.cells #[.int .i64 X.date, .int .i64 X.time, .bool X.fixed, .slice xe X.extras.length xec, .slice xs X.segs.length xsc] 33)))
  have BX := Lib.hid (BoxX.new1 w (.cells #[.string T.name, .int .i64 T.unit, .int .i64 T.step, .slice z T.zones.length zc, .slice h T.hols.length hc, .slice r T.rules.length rc, .slice e T.extras.length ec, .slice f T.fixed.length fc] 28) X xe xs xec xsc 33)
  go_enter Try.func3, Try.ntmps3
  go_upto_region 1 with fail
  generalize hwb : (w.alloc _).alloc _ = wb at *
  have hsz : wb.heap.size = w.heap.size + 1 + 1 := by rw [← hwb]; simp
  have HBW : Hid (Below w.heap.size w wb) := by rw [← hwb]; exact Lib.hid (((Below.refl _ _).alloc (Nat.le_refl _) _).alloc (by simp) _)
  clear hwb
  go_wp2_with fail
  refine (tariffed_any _).mono ?_
  rintro e' w1 ⟨rfl, hb1⟩
  have HW1 := Lib.hid (HBW.out.trans (hb1.mono HBW.out.size))
  have BT1 := Lib.hid (BT.out.keep (Keep.below hb1))
  have BX1 := Lib.hid (BX.out.keep (Keep.below hb1))
  have hs1 : w.heap.size + 2 ≤ w1.heap.size := by have := hb1.size; omega
  clear hb1 BT BX HBW hsz
  obtain ⟨t0, t1, t2, t3, t4, t5, t6, t7⟩ := BT1.out
  go_wp2_with fail
  refine (few_any T _ _ (hT0.keep (Keep.below HW1.out))).mono ?_
  rintro e' w2 ⟨rfl, hb2⟩
  have HW2 := Lib.hid (HW1.out.trans (hb2.mono HW1.out.size))
  have BT2 := Lib.hid (BT1.out.keep (Keep.below hb2))
  have BX2 := Lib.hid (BX1.out.keep (Keep.below hb2))
  have hs2 : w.heap.size + 2 ≤ w2.heap.size := by have := hb2.size; omega
  clear hb2 BT1 BX1 HW1 hs1 t0 t1 t2 t3 t4 t5 t6 t7
  cases hf : few T with
  | false =>
    go_wp2_with fail
    go_ret
    exact ⟨rfl, HW2.out⟩
  | true =>
    have HL := Lib.hid (few_lists hf)
    clear hf
    obtain ⟨p0, p1, p2, p3, p4⟩ := BX2.out
    go_wp2_with fail
    refine (short_any X _ _ (hX0.keep (Keep.below HW2.out))).mono ?_
    rintro e' w3 ⟨rfl, hb3⟩
    have HW3 := Lib.hid (HW2.out.trans (hb3.mono HW2.out.size))
    have BT3 := Lib.hid (BT2.out.keep (Keep.below hb3))
    have BX3 := Lib.hid (BX2.out.keep (Keep.below hb3))
    have hs3 : w.heap.size + 2 ≤ w3.heap.size := by have := hb3.size; omega
    clear hb3 BT2 BX2 HW2 hs2 p0 p1 p2 p3 p4
    cases hs : short X with
    | false =>
      go_wp2_with fail
      go_ret
      exact ⟨rfl, HW3.out⟩
    | true =>
      obtain ⟨k1, k2⟩ := short_len hs
      clear hs
      by_cases hm : M.length ≤ 10
      · have d1 : decide ((M.length : Int) > 10) = false := decide_eq_false (by omega)
        have d2 : decide (10 < (M.length : Int)) = false := decide_eq_false (by omega)
        obtain ⟨p0, p1, p2, p3, p4⟩ := BX3.out
        go_wp2_with fail
        refine (copyTrip_any X _ _ (hX0.keep (Keep.below HW3.out)) (by omega) (by omega)).mono ?_
        rintro e' w4 ⟨v4, rfl, h4, hb4⟩
        obtain ⟨ye, ys, yec, ysc, base, rfl, hB, hY⟩ := YAt.start h4 33
        have HW4 := Lib.hid (HW3.out.trans (hb4.mono HW3.out.size))
        have BT4 := Lib.hid (BT3.out.keep (Keep.below hb4))
        have BX4 := Lib.hid (BX3.out.keep (Keep.below hb4))
        have HA := Lib.hid (show LawAt w _ base w4.heap.size T X X.segs ⟨z, h, r, e, f, zc, hc, rc, ec, fc, xe, xs, xec, xsc⟩ ye ys yec ysc from
          ⟨HW4.out.alloc HW4.out.size (.cells #[.int .i64 X.date, .int .i64 X.time, .bool X.fixed, .slice ye X.extras.length yec, .slice ys X.segs.length ysc] 33), BT4.out.keep (Keep.alloc _ _), BX4.out.keep (Keep.alloc _ _), hY, by omega⟩)
        clear h4 hb4 hY HW3 HW4 BT3 BX3 BT4 BX4 p0 p1 p2 p3 p4 d1 d2 hs3 hB
        go_upto_region 6 with fail
        generalize w4.alloc _ = w5 at *
        generalize w4.heap.size = gy at *
        clear w1 w2 w3
        go_upto_block 0 with fail
        go_cut [6, 8] from 39 to 84 (fun s6 s8 wx => ∃ k : Nat, s8 = .int .i64 k ∧ k ≤ X.segs.length ∧ Hid (∀ i, i < k → within (listI M i) 0 100000 = true ∧ within (listG X.segs i).metres 0 100000 = true) ∧ Hid (LawAt w wx base gy T X (bumpTo X.segs M k) ⟨z, h, r, e, f, zc, hc, rc, ec, fc, xe, xs, xec, xsc⟩ ye ys yec ysc))
        case first =>
          go_wp2_with fail
          go_loopw [8] (fun u wr => ∃ k : Nat, k ≤ X.segs.length ∧ k ≤ M.length ∧ u = .int .i64 k ∧ Hid (∀ i, i < k → within (listI M i) 0 100000 = true ∧ within (listG X.segs i).metres 0 100000 = true) ∧ Hid (LawAt w wr base gy T X (bumpTo X.segs M k) ⟨z, h, r, e, f, zc, hc, rc, ec, fc, xe, xs, xec, xsc⟩ ye ys yec ysc)) (fun u _ => X.segs.length - (intOf u).toNat)
          case atStart => exact ⟨0, Nat.zero_le _, Nat.zero_le _, rfl, Lib.hid (fun i hi => absurd hi (Nat.not_lt_zero _)), HA⟩
          case round =>
            obtain ⟨k, hk, hk', rfl, HN, HR⟩ := hrel
            clear HA
            have q4 := HR.out.y.c4
            have hys := HR.out.y.h1
            by_cases c1 : k < X.segs.length
            · have d1 : decide ((k : Int) < (X.segs.length : Int)) = true := decide_eq_true (by omega)
              by_cases c2 : k < M.length
              · have d2 : decide ((k : Int) < (M.length : Int)) = true := decide_eq_true (by omega)
                have e1 : listG (bumpTo X.segs M k) k = listG X.segs k := by rw [bumpTo_at _ _ _ _ hk, if_neg (Nat.lt_irrefl _)]
                obtain ⟨b, hb, hbb, -, -, fz, s0, s1, s2⟩ := HR.out.y.at_ c1
                subst hb
                rw [e1] at s1
                obtain ⟨bm, om, rfl, mc⟩ := (hM.keep (Keep.below HR.out.bel)).at_ c2
                have i0 : (0 : Int) ≤ (k : Int) := by omega
                have i1 : (k : Int) < (X.segs.length : Int) := by omega
                have i2 : (k : Int) < (M.length : Int) := by omega
                cases w1 : within (listI M k) 0 100000 with
                | false =>
                  have X1 := Lib.hid w1
                  clear w1
                  go_wp2_with (go_at_call 9; refine (bwithin_any _ _ _ _).mono ?_; rintro e' w' ⟨rfl, rfl⟩; rw [X1.out])
                  go_ret
                  exact ⟨rfl, HR.out.bel⟩
                | true =>
                  have X1 := Lib.hid w1
                  cases w2 : within (listG X.segs k).metres 0 100000 with
                  | false =>
                    have X2 := Lib.hid w2
                    clear w1 w2
                    go_wp2_with (go_at_call 9; refine (bwithin_any _ _ _ _).mono ?_; rintro e' w' ⟨rfl, rfl⟩; first | rw [X1.out] | rw [X2.out])
                    go_ret
                    exact ⟨rfl, HR.out.bel⟩
                  | true =>
                    have X2 := Lib.hid w2
                    obtain ⟨m0, m1⟩ := within_true w1
                    obtain ⟨m2, m3⟩ := within_true w2
                    clear w1 w2
                    go_wp2_with (go_at_call 9; refine (bwithin_any _ _ _ _).mono ?_; rintro e' w' ⟨rfl, rfl⟩; first | rw [X1.out] | rw [X2.out])
                    go_region
                    have hv : (if (listG X.segs k).metres + listI M k < 100000 then (listG X.segs k).metres + listI M k else 100000) = min 100000 ((listG X.segs k).metres + listI M k) := by split <;> omega
                    rw [hv]
                    have HR2 := Lib.hid ((HR.out.put hbb c1 (min 100000 ((listG X.segs k).metres + listI M k))).below (Below.refl _ _).drew)
                    have HN2 : Hid (∀ i, i < k + 1 → within (listI M i) 0 100000 = true ∧ within (listG X.segs i).metres 0 100000 = true) := Lib.hid fun i hi => by
                      by_cases e : i = k
                      · rw [e]; exact ⟨X1.out, X2.out⟩
                      · exact HN.out i (by omega)
                    clear s0 s1 s2 mc q4 fz hv m0 m1 m2 m3
                    generalize (wr.setCell _ _).drew = wz at *
                    go_wp2_with fail
                    go_roundw
                    case rel => exact ⟨k + 1, by omega, by omega, by go_num, HN2, HR2⟩
                    case measure => simp [intOf]; omega
              · have d2 : decide ((k : Int) < (M.length : Int)) = false := decide_eq_false (by omega)
                go_wp2_with fail
                go_meet
                exact ⟨k, rfl, hk, HN, HR⟩
            · have d1 : decide ((k : Int) < (X.segs.length : Int)) = false := decide_eq_false (by omega)
              go_wp2_with fail
              go_meet
              exact ⟨k, rfl, hk, HN, HR⟩
        case rest =>
          obtain ⟨k, rfl, hk, HN, HQ⟩ := hcut
          obtain ⟨hal, hml⟩ := bump_alike hk HN.out
          generalize bumpTo X.segs M k = L at *
          have HAL := Lib.hid hal
          have HML := Lib.hid hml
          clear hal hml HN HA hk
          obtain ⟨wA, hwA⟩ : ∃ wA, wA = wc := ⟨_, rfl⟩
          subst hwA
          have HYS : Hid (∀ b, ys = some ⟨b, 0, none⟩ → 0 < X.segs.length → b < wA.heap.size) := Lib.hid fun b hb hn => by
            obtain ⟨b', h1, -, -, h4, -⟩ := HQ.out.y.at_ hn
            rw [hb] at h1
            injection h1 with h1
            injection h1 with h1
            omega
          go_upto_region 12 with fail
          have hgW := HQ.out.y.lt
          go_cut [9, 10] from 85 to 92 (fun s1 s2 wx => ∃ g1 : Nat, s1 = .pointer (some ⟨g1, 0, none⟩) ∧ s2 = .int .i64 (fareOf T X).2 ∧ wA.heap.size ≤ g1 ∧ Hid (FareAt wx g1 (fareOf T X).1.start (fareOf T X).1.driven (fareOf T X).1.extras (fareOf T X).1.total) ∧ Hid (Below wA.heap.size wA wx))
          case first =>
            obtain ⟨t0, t1, t2, t3, t4, t5, t6, t7⟩ := HQ.out.bt
            obtain ⟨p0, p1, p2, p3, p4⟩ := HQ.out.bx
            have HWW := Lib.hid HQ.out.bel
            have HX := Lib.hid (hX0.keep (Keep.below HWW.out))
            have HBd : Hid (Below wA.heap.size wA wA.drew) := Lib.hid (Below.refl _ _).drew
            have MK : Hid (∀ w', Below wA.heap.size wA w' → w'.cell? ⟨w.heap.size, 0, none⟩ = some (.string T.name) ∧ w'.cell? ⟨w.heap.size, 1, none⟩ = some (.int .i64 T.unit) ∧ w'.cell? ⟨w.heap.size, 2, none⟩ = some (.int .i64 T.step) ∧ w'.cell? ⟨w.heap.size, 3, none⟩ = some (.slice z T.zones.length zc) ∧ w'.cell? ⟨w.heap.size, 4, none⟩ = some (.slice h T.hols.length hc) ∧ w'.cell? ⟨w.heap.size, 5, none⟩ = some (.slice r T.rules.length rc) ∧ w'.cell? ⟨w.heap.size, 6, none⟩ = some (.slice e T.extras.length ec) ∧ w'.cell? ⟨w.heap.size, 7, none⟩ = some (.slice f T.fixed.length fc) ∧ w'.cell? ⟨w.heap.size + 1, 0, none⟩ = some (.int .i64 X.date) ∧ w'.cell? ⟨w.heap.size + 1, 1, none⟩ = some (.int .i64 X.time) ∧ w'.cell? ⟨w.heap.size + 1, 2, none⟩ = some (.bool X.fixed) ∧ w'.cell? ⟨w.heap.size + 1, 3, none⟩ = some (.slice xe X.extras.length xec) ∧ w'.cell? ⟨w.heap.size + 1, 4, none⟩ = some (.slice xs X.segs.length xsc) ∧ Hid (Below wA.heap.size wA w')) := Lib.hid fun w' hw => ⟨Keep.below hw _ _ t0, Keep.below hw _ _ t1, Keep.below hw _ _ t2, Keep.below hw _ _ t3, Keep.below hw _ _ t4, Keep.below hw _ _ t5, Keep.below hw _ _ t6, Keep.below hw _ _ t7, Keep.below hw _ _ p0, Keep.below hw _ _ p1, Keep.below hw _ _ p2, Keep.below hw _ _ p3, Keep.below hw _ _ p4, Lib.hid hw⟩
            have hle0 := Nat.le_refl wA.heap.size
            clear hgW
            go_region_held3 (fun w' => w'.cell? ⟨w.heap.size, 0, none⟩ = some (.string T.name) ∧ w'.cell? ⟨w.heap.size, 1, none⟩ = some (.int .i64 T.unit) ∧ w'.cell? ⟨w.heap.size, 2, none⟩ = some (.int .i64 T.step) ∧ w'.cell? ⟨w.heap.size, 3, none⟩ = some (.slice z T.zones.length zc) ∧ w'.cell? ⟨w.heap.size, 4, none⟩ = some (.slice h T.hols.length hc) ∧ w'.cell? ⟨w.heap.size, 5, none⟩ = some (.slice r T.rules.length rc) ∧ w'.cell? ⟨w.heap.size, 6, none⟩ = some (.slice e T.extras.length ec) ∧ w'.cell? ⟨w.heap.size, 7, none⟩ = some (.slice f T.fixed.length fc) ∧ w'.cell? ⟨w.heap.size + 1, 0, none⟩ = some (.int .i64 X.date) ∧ w'.cell? ⟨w.heap.size + 1, 1, none⟩ = some (.int .i64 X.time) ∧ w'.cell? ⟨w.heap.size + 1, 2, none⟩ = some (.bool X.fixed) ∧ w'.cell? ⟨w.heap.size + 1, 3, none⟩ = some (.slice xe X.extras.length xec) ∧ w'.cell? ⟨w.heap.size + 1, 4, none⟩ = some (.slice xs X.segs.length xsc) ∧ Hid (Below wA.heap.size wA w'))
              (first
                | exact MK.out _ HBd.out
                | (go_split_ands; exact MK.out _ (Below.trans (Hid.out (by assumption)) (hb1.mono (Hid.out (by assumption) : Below wA.heap.size wA _).size)))
                | (go_split_ands; exact MK.out _ (Below.realloc (Hid.out (by assumption)) hle _))
                | (go_split_ands; exact MK.out _ (Below.alloc (Hid.out (by assumption)) (Hid.out (by assumption) : Below wA.heap.size wA _).size _))
                | (go_split_ands; exact MK.out _ (Below.setCell (Below.setCell (Below.setCell (Below.setCell (Hid.out (by assumption)) (by show wA.heap.size ≤ _; first | exact Nat.le_refl _ | assumption) _) (by show wA.heap.size ≤ _; first | exact Nat.le_refl _ | assumption) _) (by show wA.heap.size ≤ _; first | exact Nat.le_refl _ | assumption) _) (by show wA.heap.size ≤ _; first | exact Nat.le_refl _ | assumption) _)))
              ((first
                | (go_at_call 11
                   go_split_ands
                   refine (copy_any T _ _ (hT0.keep (Keep.below (HWW.out.trans ((Hid.out (by assumption) : Below wA.heap.size wA _).mono HWW.out.size)))) HL.out).mono ?_
                   rintro e' w1 ⟨v1, rfl, h1, hb1⟩
                   have hle := Nat.le_trans (Hid.out (by assumption) : Below wA.heap.size wA _).size hb1.size
                   have H1 := Lib.hid h1
                   clear h1
                   try (first
                      | (have HN := Lib.hid (show FareAt w1 wA.heap.size 0 0 0 0 from (FareAt.new wA.drew 0 0 0 0 42).below hb1 (by simp)); obtain ⟨q0, q1, q2, q3, f0, f1, f2, f3⟩ := HN.out)
                      | (have HN := Lib.hid (show FareAt w1 _ 0 0 0 0 from (FareAt.new _ 0 0 0 0 42).below hb1 (by simp)); obtain ⟨q0, q1, q2, q3, f0, f1, f2, f3⟩ := HN.out)
                      | (have HN := Lib.hid (FareAt.below (Hid.out HN) hb1 (FareAt.lt (Hid.out HN))); obtain ⟨q0, q1, q2, q3, f0, f1, f2, f3⟩ := HN.out)))
                | (go_at_call 8
                   go_split_ands
                   refine (copyTrip_any X _ _ (HX.out.keep (Keep.below (Hid.out (by assumption) : Below wA.heap.size wA _))) (by omega) (by omega)).mono ?_
                   rintro e' w1 ⟨v2, rfl, h2, hb1⟩
                   have hle := Nat.le_trans (Hid.out (by assumption) : Below wA.heap.size wA _).size hb1.size
                   have H1 : Hid (RdTar w1 v1 T) := (by first | exact Lib.hid (H1.out.keep (Keep.below hb1)) | exact Lib.hid ((H1.out.keep (Keep.alloc _ _)).keep (Keep.below hb1)))
                   have H2 := Lib.hid h2.rd
                   clear h2
                   try (first
                      | (have HN := Lib.hid (show FareAt w1 wA.heap.size 0 0 0 0 from (FareAt.new wA.drew 0 0 0 0 42).below hb1 (by simp)); obtain ⟨q0, q1, q2, q3, f0, f1, f2, f3⟩ := HN.out)
                      | (have HN := Lib.hid (show FareAt w1 _ 0 0 0 0 from (FareAt.new _ 0 0 0 0 42).below hb1 (by simp)); obtain ⟨q0, q1, q2, q3, f0, f1, f2, f3⟩ := HN.out)
                      | (have HN := Lib.hid (FareAt.below (Hid.out HN) hb1 (FareAt.lt (Hid.out HN))); obtain ⟨q0, q1, q2, q3, f0, f1, f2, f3⟩ := HN.out)))
                | (go_at_call 10
                   go_split_ands
                   refine (fareOf_any T X _ _ _ (by first | exact H1.out | exact H1.out.keep (Keep.alloc _ _)) (by first | exact H2.out | exact H2.out.keep (Keep.alloc _ _)) HL.out.rules).mono ?_
                   rintro e' w1 ⟨rfl, hb1⟩
                   have hle := Nat.le_trans (Hid.out (by assumption) : Below wA.heap.size wA _).size hb1.size
                   try (first
                      | (have HN := Lib.hid (show FareAt w1 wA.heap.size 0 0 0 0 from (FareAt.new wA.drew 0 0 0 0 42).below hb1 (by simp)); obtain ⟨q0, q1, q2, q3, f0, f1, f2, f3⟩ := HN.out)
                      | (have HN := Lib.hid (show FareAt w1 _ 0 0 0 0 from (FareAt.new _ 0 0 0 0 42).below hb1 (by simp)); obtain ⟨q0, q1, q2, q3, f0, f1, f2, f3⟩ := HN.out)
                      | (have HN := Lib.hid (FareAt.below (Hid.out HN) hb1 (FareAt.lt (Hid.out HN))); obtain ⟨q0, q1, q2, q3, f0, f1, f2, f3⟩ := HN.out)))))
            all_goals
              rename_i hS
              obtain ⟨-, -, -, -, -, -, -, -, -, -, -, -, -, hbb⟩ := hS
              clear t0 t1 t2 t3 t4 t5 t6 t7 p0 p1 p2 p3 p4
              go_wp2_with fail
              go_meet
              first
                | exact ⟨_, rfl, rfl, (by first | exact Nat.le_refl _ | assumption), Lib.hid (FareAt.set (Hid.out HN) _ _ _ _), hbb⟩
                | exact ⟨_, rfl, rfl, (by first | exact Nat.le_refl _ | assumption), Lib.hid (FareAt.new _ _ _ _ _ _), hbb⟩
          case rest =>
            obtain ⟨ga, rfl, rfl, hga, HFa, HB⟩ := hcut
            have HQb := Lib.hid (HQ.out.below HB.out)
            obtain ⟨wB, hwA⟩ : ∃ wA, wA = wc := ⟨_, rfl⟩
            subst hwA
            go_upto_region 13 with fail
            have hgW := HQb.out.y.lt
            go_cut [11, 12] from 93 to 100 (fun s1 s2 wx => ∃ g1 : Nat, s1 = .pointer (some ⟨g1, 0, none⟩) ∧ s2 = .int .i64 (fareOf T (withSegs X L)).2 ∧ wB.heap.size ≤ g1 ∧ Hid (FareAt wx g1 (fareOf T (withSegs X L)).1.start (fareOf T (withSegs X L)).1.driven (fareOf T (withSegs X L)).1.extras (fareOf T (withSegs X L)).1.total) ∧ Hid (Below wB.heap.size wB wx))
            case first =>
              obtain ⟨t0, t1, t2, t3, t4, t5, t6, t7⟩ := HQb.out.bt
              obtain ⟨p0, p1, p2, p3, p4, hyl, -, -, -, -⟩ := HQb.out.y
              have HWW := Lib.hid HQb.out.bel
              have HX := Lib.hid HQb.out.y.rd
              have HYL := Lib.hid hyl
              clear hyl
              have HBd : Hid (Below wB.heap.size wB wB.drew) := Lib.hid (Below.refl _ _).drew
              have MK : Hid (∀ w', Below wB.heap.size wB w' → w'.cell? ⟨w.heap.size, 0, none⟩ = some (.string T.name) ∧ w'.cell? ⟨w.heap.size, 1, none⟩ = some (.int .i64 T.unit) ∧ w'.cell? ⟨w.heap.size, 2, none⟩ = some (.int .i64 T.step) ∧ w'.cell? ⟨w.heap.size, 3, none⟩ = some (.slice z T.zones.length zc) ∧ w'.cell? ⟨w.heap.size, 4, none⟩ = some (.slice h T.hols.length hc) ∧ w'.cell? ⟨w.heap.size, 5, none⟩ = some (.slice r T.rules.length rc) ∧ w'.cell? ⟨w.heap.size, 6, none⟩ = some (.slice e T.extras.length ec) ∧ w'.cell? ⟨w.heap.size, 7, none⟩ = some (.slice f T.fixed.length fc) ∧ w'.cell? ⟨gy, 0, none⟩ = some (.int .i64 X.date) ∧ w'.cell? ⟨gy, 1, none⟩ = some (.int .i64 X.time) ∧ w'.cell? ⟨gy, 2, none⟩ = some (.bool X.fixed) ∧ w'.cell? ⟨gy, 3, none⟩ = some (.slice ye X.extras.length yec) ∧ w'.cell? ⟨gy, 4, none⟩ = some (.slice ys X.segs.length ysc) ∧ Hid (Below wB.heap.size wB w')) := Lib.hid fun w' hw => ⟨Keep.below hw _ _ t0, Keep.below hw _ _ t1, Keep.below hw _ _ t2, Keep.below hw _ _ t3, Keep.below hw _ _ t4, Keep.below hw _ _ t5, Keep.below hw _ _ t6, Keep.below hw _ _ t7, Keep.below hw _ _ p0, Keep.below hw _ _ p1, Keep.below hw _ _ p2, Keep.below hw _ _ p3, Keep.below hw _ _ p4, Lib.hid hw⟩
              have hle0 := Nat.le_refl wB.heap.size
              clear hgW
              go_region_held3 (fun w' => w'.cell? ⟨w.heap.size, 0, none⟩ = some (.string T.name) ∧ w'.cell? ⟨w.heap.size, 1, none⟩ = some (.int .i64 T.unit) ∧ w'.cell? ⟨w.heap.size, 2, none⟩ = some (.int .i64 T.step) ∧ w'.cell? ⟨w.heap.size, 3, none⟩ = some (.slice z T.zones.length zc) ∧ w'.cell? ⟨w.heap.size, 4, none⟩ = some (.slice h T.hols.length hc) ∧ w'.cell? ⟨w.heap.size, 5, none⟩ = some (.slice r T.rules.length rc) ∧ w'.cell? ⟨w.heap.size, 6, none⟩ = some (.slice e T.extras.length ec) ∧ w'.cell? ⟨w.heap.size, 7, none⟩ = some (.slice f T.fixed.length fc) ∧ w'.cell? ⟨gy, 0, none⟩ = some (.int .i64 X.date) ∧ w'.cell? ⟨gy, 1, none⟩ = some (.int .i64 X.time) ∧ w'.cell? ⟨gy, 2, none⟩ = some (.bool X.fixed) ∧ w'.cell? ⟨gy, 3, none⟩ = some (.slice ye X.extras.length yec) ∧ w'.cell? ⟨gy, 4, none⟩ = some (.slice ys X.segs.length ysc) ∧ Hid (Below wB.heap.size wB w'))
                (first
                  | exact MK.out _ HBd.out
                  | (go_split_ands; exact MK.out _ (Below.trans (Hid.out (by assumption)) (hb1.mono (Hid.out (by assumption) : Below wB.heap.size wB _).size)))
                  | (go_split_ands; exact MK.out _ (Below.realloc (Hid.out (by assumption)) hle _))
                  | (go_split_ands; exact MK.out _ (Below.alloc (Hid.out (by assumption)) (Hid.out (by assumption) : Below wB.heap.size wB _).size _))
                  | (go_split_ands; exact MK.out _ (Below.setCell (Below.setCell (Below.setCell (Below.setCell (Hid.out (by assumption)) (by show wB.heap.size ≤ _; first | exact Nat.le_refl _ | assumption) _) (by show wB.heap.size ≤ _; first | exact Nat.le_refl _ | assumption) _) (by show wB.heap.size ≤ _; first | exact Nat.le_refl _ | assumption) _) (by show wB.heap.size ≤ _; first | exact Nat.le_refl _ | assumption) _)))
                ((first
                  | (go_at_call 11
                     go_split_ands
                     refine (copy_any T _ _ (hT0.keep (Keep.below (HWW.out.trans ((Hid.out (by assumption) : Below wB.heap.size wB _).mono HWW.out.size)))) HL.out).mono ?_
                     rintro e' w1 ⟨v1, rfl, h1, hb1⟩
                     have hle := Nat.le_trans (Hid.out (by assumption) : Below wB.heap.size wB _).size hb1.size
                     have H1 := Lib.hid h1
                     clear h1
                     try (first
                        | (have HN := Lib.hid (show FareAt w1 wB.heap.size 0 0 0 0 from (FareAt.new wB.drew 0 0 0 0 42).below hb1 (by simp)); obtain ⟨q0, q1, q2, q3, f0, f1, f2, f3⟩ := HN.out)
                        | (have HN := Lib.hid (show FareAt w1 _ 0 0 0 0 from (FareAt.new _ 0 0 0 0 42).below hb1 (by simp)); obtain ⟨q0, q1, q2, q3, f0, f1, f2, f3⟩ := HN.out)
                        | (have HN := Lib.hid (FareAt.below (Hid.out HN) hb1 (FareAt.lt (Hid.out HN))); obtain ⟨q0, q1, q2, q3, f0, f1, f2, f3⟩ := HN.out)))
                  | (go_at_call 8
                     go_split_ands
                     refine (copyTrip_any (withSegs X L) _ _ (HX.out.keep (Keep.below (Hid.out (by assumption) : Below wB.heap.size wB _))) (by show X.extras.length ≤ _; omega) (by show L.length ≤ _; have := HYL.out; omega)).mono ?_
                     rintro e' w1 ⟨v2, rfl, h2, hb1⟩
                     have hle := Nat.le_trans (Hid.out (by assumption) : Below wB.heap.size wB _).size hb1.size
                     have H1 : Hid (RdTar w1 v1 T) := (by first | exact Lib.hid (H1.out.keep (Keep.below hb1)) | exact Lib.hid ((H1.out.keep (Keep.alloc _ _)).keep (Keep.below hb1)))
                     have H2 := Lib.hid h2.rd
                     clear h2
                     try (first
                        | (have HN := Lib.hid (show FareAt w1 wB.heap.size 0 0 0 0 from (FareAt.new wB.drew 0 0 0 0 42).below hb1 (by simp)); obtain ⟨q0, q1, q2, q3, f0, f1, f2, f3⟩ := HN.out)
                        | (have HN := Lib.hid (show FareAt w1 _ 0 0 0 0 from (FareAt.new _ 0 0 0 0 42).below hb1 (by simp)); obtain ⟨q0, q1, q2, q3, f0, f1, f2, f3⟩ := HN.out)
                        | (have HN := Lib.hid (FareAt.below (Hid.out HN) hb1 (FareAt.lt (Hid.out HN))); obtain ⟨q0, q1, q2, q3, f0, f1, f2, f3⟩ := HN.out)))
                  | (go_at_call 10
                     go_split_ands
                     refine (fareOf_any T (withSegs X L) _ _ _ (by first | exact H1.out | exact H1.out.keep (Keep.alloc _ _)) (by first | exact H2.out | exact H2.out.keep (Keep.alloc _ _)) HL.out.rules).mono ?_
                     rintro e' w1 ⟨rfl, hb1⟩
                     have hle := Nat.le_trans (Hid.out (by assumption) : Below wB.heap.size wB _).size hb1.size
                     try (first
                        | (have HN := Lib.hid (show FareAt w1 wB.heap.size 0 0 0 0 from (FareAt.new wB.drew 0 0 0 0 42).below hb1 (by simp)); obtain ⟨q0, q1, q2, q3, f0, f1, f2, f3⟩ := HN.out)
                        | (have HN := Lib.hid (show FareAt w1 _ 0 0 0 0 from (FareAt.new _ 0 0 0 0 42).below hb1 (by simp)); obtain ⟨q0, q1, q2, q3, f0, f1, f2, f3⟩ := HN.out)
                        | (have HN := Lib.hid (FareAt.below (Hid.out HN) hb1 (FareAt.lt (Hid.out HN))); obtain ⟨q0, q1, q2, q3, f0, f1, f2, f3⟩ := HN.out)))))
              all_goals
                rename_i hS
                obtain ⟨-, -, -, -, -, -, -, -, -, -, -, -, -, hbb⟩ := hS
                clear t0 t1 t2 t3 t4 t5 t6 t7 p0 p1 p2 p3 p4
                go_wp2_with fail
                go_meet
                first
                  | exact ⟨_, rfl, rfl, (by first | exact Nat.le_refl _ | assumption), Lib.hid (FareAt.set (Hid.out HN) _ _ _ _), hbb⟩
                  | exact ⟨_, rfl, rfl, (by first | exact Nat.le_refl _ | assumption), Lib.hid (FareAt.new _ _ _ _ _ _), hbb⟩
            case rest =>
              obtain ⟨gb, rfl, rfl, hgb, HFb, HB⟩ := hcut
              have HQc := Lib.hid (HQb.out.below HB.out)
              replace HFa := Lib.hid (HFa.out.below HB.out HFa.out.lt)
              obtain ⟨wC, hwA⟩ : ∃ wA, wA = wc := ⟨_, rfl⟩
              subst hwA
              have HGA : Hid (∀ b, ys = some ⟨b, 0, none⟩ → 0 < X.segs.length → b < ga) := Lib.hid fun b hb hn => Nat.lt_of_lt_of_le (HYS.out b hb hn) hga
              have hA := lawA (T := T) HAL.out HML.out
              clear HYS hga hgb
              by_cases hE : (fareOf T X).2 = 0
              · by_cases hF : (fareOf T (withSegs X L)).2 = 0
                · have dE : ((fareOf T X).2 != 0) = false := by simpa using hE
                  have dF : ((fareOf T (withSegs X L)).2 != 0) = false := by simpa using hF
                  obtain ⟨b1, b2, b3⟩ := lawB (T := T) HAL.out HML.out hE hF
                  have HE := Lib.hid hE
                  have HF := Lib.hid hF
                  have e1 : decide ((fareOf T X).1.total > (fareOf T (withSegs X L)).1.total) = false := decide_eq_false (by omega)
                  have e1' : decide ((fareOf T (withSegs X L)).1.total < (fareOf T X).1.total) = false := decide_eq_false (by omega)
                  have e2 : ((fareOf T X).1.start != (fareOf T (withSegs X L)).1.start) = false := by rw [b2]; simp
                  have e3 : ((fareOf T X).1.extras != (fareOf T (withSegs X L)).1.extras) = false := by rw [b3]; simp
                  clear hA hE hF b1 b2 b3
                  obtain ⟨q0, -, q2, q3, -, -, -, -⟩ := HFa.out
                  obtain ⟨r0, -, r2, r3, -, -, -, -⟩ := HFb.out
                  go_upto_region 18 with fail
                  clear q0 q2 q3 r0 r2 r3 dE dF e1 e1' e2 e3
                  go_upto_region 18 with fail
                  have hgW := HQc.out.y.lt
                  go_cut [13, 14] from 133 to 139 (fun s1 s2 wx => ∃ g1 : Nat, s1 = .pointer (some ⟨g1, 0, none⟩) ∧ s2 = .int .i64 (rangeOf T X).2 ∧ wC.heap.size ≤ g1 ∧ Hid (PairAt wx g1 (rangeOf T X).1.1 (rangeOf T X).1.2) ∧ Hid (Below wC.heap.size wC wx))
                  case first =>
                    obtain ⟨t0, t1, t2, t3, t4, t5, t6, t7⟩ := HQc.out.bt
                    obtain ⟨p0, p1, p2, p3, p4⟩ := HQc.out.bx
                    have HWW := Lib.hid HQc.out.bel
                    have HX := Lib.hid (hX0.keep (Keep.below HWW.out))
                    have HBd : Hid (Below wC.heap.size wC wC.drew) := Lib.hid (Below.refl _ _).drew
                    have MK : Hid (∀ w', Below wC.heap.size wC w' → w'.cell? ⟨w.heap.size, 0, none⟩ = some (.string T.name) ∧ w'.cell? ⟨w.heap.size, 1, none⟩ = some (.int .i64 T.unit) ∧ w'.cell? ⟨w.heap.size, 2, none⟩ = some (.int .i64 T.step) ∧ w'.cell? ⟨w.heap.size, 3, none⟩ = some (.slice z T.zones.length zc) ∧ w'.cell? ⟨w.heap.size, 4, none⟩ = some (.slice h T.hols.length hc) ∧ w'.cell? ⟨w.heap.size, 5, none⟩ = some (.slice r T.rules.length rc) ∧ w'.cell? ⟨w.heap.size, 6, none⟩ = some (.slice e T.extras.length ec) ∧ w'.cell? ⟨w.heap.size, 7, none⟩ = some (.slice f T.fixed.length fc) ∧ w'.cell? ⟨w.heap.size + 1, 0, none⟩ = some (.int .i64 X.date) ∧ w'.cell? ⟨w.heap.size + 1, 1, none⟩ = some (.int .i64 X.time) ∧ w'.cell? ⟨w.heap.size + 1, 2, none⟩ = some (.bool X.fixed) ∧ w'.cell? ⟨w.heap.size + 1, 3, none⟩ = some (.slice xe X.extras.length xec) ∧ w'.cell? ⟨w.heap.size + 1, 4, none⟩ = some (.slice xs X.segs.length xsc) ∧ Hid (Below wC.heap.size wC w')) := Lib.hid fun w' hw => ⟨Keep.below hw _ _ t0, Keep.below hw _ _ t1, Keep.below hw _ _ t2, Keep.below hw _ _ t3, Keep.below hw _ _ t4, Keep.below hw _ _ t5, Keep.below hw _ _ t6, Keep.below hw _ _ t7, Keep.below hw _ _ p0, Keep.below hw _ _ p1, Keep.below hw _ _ p2, Keep.below hw _ _ p3, Keep.below hw _ _ p4, Lib.hid hw⟩
                    have hle0 := Nat.le_refl wC.heap.size
                    clear hgW
                    go_region_held3 (fun w' => w'.cell? ⟨w.heap.size, 0, none⟩ = some (.string T.name) ∧ w'.cell? ⟨w.heap.size, 1, none⟩ = some (.int .i64 T.unit) ∧ w'.cell? ⟨w.heap.size, 2, none⟩ = some (.int .i64 T.step) ∧ w'.cell? ⟨w.heap.size, 3, none⟩ = some (.slice z T.zones.length zc) ∧ w'.cell? ⟨w.heap.size, 4, none⟩ = some (.slice h T.hols.length hc) ∧ w'.cell? ⟨w.heap.size, 5, none⟩ = some (.slice r T.rules.length rc) ∧ w'.cell? ⟨w.heap.size, 6, none⟩ = some (.slice e T.extras.length ec) ∧ w'.cell? ⟨w.heap.size, 7, none⟩ = some (.slice f T.fixed.length fc) ∧ w'.cell? ⟨w.heap.size + 1, 0, none⟩ = some (.int .i64 X.date) ∧ w'.cell? ⟨w.heap.size + 1, 1, none⟩ = some (.int .i64 X.time) ∧ w'.cell? ⟨w.heap.size + 1, 2, none⟩ = some (.bool X.fixed) ∧ w'.cell? ⟨w.heap.size + 1, 3, none⟩ = some (.slice xe X.extras.length xec) ∧ w'.cell? ⟨w.heap.size + 1, 4, none⟩ = some (.slice xs X.segs.length xsc) ∧ Hid (Below wC.heap.size wC w'))
                      (first
                        | exact MK.out _ HBd.out
                        | (go_split_ands; exact MK.out _ (Below.trans (Hid.out (by assumption)) (hb1.mono (Hid.out (by assumption) : Below wC.heap.size wC _).size)))
                        | (go_split_ands; exact MK.out _ (Below.realloc (Hid.out (by assumption)) hle _))
                        | (go_split_ands; exact MK.out _ (Below.alloc (Hid.out (by assumption)) (Hid.out (by assumption) : Below wC.heap.size wC _).size _))
                        | (go_split_ands; exact MK.out _ (Below.setCell (Below.setCell (Hid.out (by assumption)) (by show wC.heap.size ≤ _; first | exact Nat.le_refl _ | assumption) _) (by show wC.heap.size ≤ _; first | exact Nat.le_refl _ | assumption) _)))
                      ((first
                        | (go_at_call 11
                           go_split_ands
                           refine (copy_any T _ _ (hT0.keep (Keep.below (HWW.out.trans ((Hid.out (by assumption) : Below wC.heap.size wC _).mono HWW.out.size)))) HL.out).mono ?_
                           rintro e' w1 ⟨v1, rfl, h1, hb1⟩
                           have hle := Nat.le_trans (Hid.out (by assumption) : Below wC.heap.size wC _).size hb1.size
                           have H1 := Lib.hid h1
                           clear h1
                           try (first
                              | (have HN := Lib.hid (show PairAt w1 wC.heap.size 0 0 from (PairAt.new wC.drew 0 0 48).below hb1 (by simp)); obtain ⟨q0, q1, f0, f1⟩ := HN.out)
                              | (have HN := Lib.hid (show PairAt w1 _ 0 0 from (PairAt.new _ 0 0 48).below hb1 (by simp)); obtain ⟨q0, q1, f0, f1⟩ := HN.out)
                              | (have HN := Lib.hid (PairAt.below (Hid.out HN) hb1 (PairAt.lt (Hid.out HN))); obtain ⟨q0, q1, f0, f1⟩ := HN.out)))
                        | (go_at_call 12
                           go_split_ands
                           refine (rangeOf_any T X _ _ _ (by first | exact H1.out | exact H1.out.keep (Keep.alloc _ _)) (HX.out.keep (Keep.below (Hid.out (by assumption) : Below wC.heap.size wC _))) HL.out.rules).mono ?_
                           rintro e' w1 ⟨rfl, hb1⟩
                           have hle := Nat.le_trans (Hid.out (by assumption) : Below wC.heap.size wC _).size hb1.size
                           try (first
                              | (have HN := Lib.hid (show PairAt w1 wC.heap.size 0 0 from (PairAt.new wC.drew 0 0 48).below hb1 (by simp)); obtain ⟨q0, q1, f0, f1⟩ := HN.out)
                              | (have HN := Lib.hid (show PairAt w1 _ 0 0 from (PairAt.new _ 0 0 48).below hb1 (by simp)); obtain ⟨q0, q1, f0, f1⟩ := HN.out)
                              | (have HN := Lib.hid (PairAt.below (Hid.out HN) hb1 (PairAt.lt (Hid.out HN))); obtain ⟨q0, q1, f0, f1⟩ := HN.out)))))
                    all_goals
                      rename_i hS
                      obtain ⟨-, -, -, -, -, -, -, -, -, -, -, -, -, hbb⟩ := hS
                      clear t0 t1 t2 t3 t4 t5 t6 t7 p0 p1 p2 p3 p4
                      go_wp2_with fail
                      go_meet
                      first
                        | exact ⟨_, rfl, rfl, (by first | exact Nat.le_refl _ | assumption), Lib.hid (PairAt.set (Hid.out HN) _ _), hbb⟩
                        | exact ⟨_, rfl, rfl, (by first | exact Nat.le_refl _ | assumption), Lib.hid (PairAt.new _ _ _ _), hbb⟩
                  case rest =>
                    obtain ⟨gp, rfl, rfl, hgp, HFp, HB⟩ := hcut
                    have HQd := Lib.hid (HQc.out.below HB.out)
                    replace HFa := Lib.hid (HFa.out.below HB.out HFa.out.lt)
                    replace HFb := Lib.hid (HFb.out.below HB.out HFb.out.lt)
                    obtain ⟨wD, hwA⟩ : ∃ wA, wA = wc := ⟨_, rfl⟩
                    subst hwA
                    go_upto_region 19 with fail
                    have hgW := HQd.out.y.lt
                    go_cut [15, 16] from 140 to 147 (fun s1 s2 wx => ∃ g1 : Nat, s1 = .pointer (some ⟨g1, 0, none⟩) ∧ s2 = .int .i64 (rangeOf T (withSegs X L)).2 ∧ wD.heap.size ≤ g1 ∧ Hid (PairAt wx g1 (rangeOf T (withSegs X L)).1.1 (rangeOf T (withSegs X L)).1.2) ∧ Hid (Below wD.heap.size wD wx))
                    case first =>
                      obtain ⟨t0, t1, t2, t3, t4, t5, t6, t7⟩ := HQd.out.bt
                      obtain ⟨p0, p1, p2, p3, p4, hyl, -, -, -, -⟩ := HQd.out.y
                      have HWW := Lib.hid HQd.out.bel
                      have HX := Lib.hid HQd.out.y.rd
                      have HYL := Lib.hid hyl
                      clear hyl
                      have HBd : Hid (Below wD.heap.size wD wD.drew) := Lib.hid (Below.refl _ _).drew
                      have MK : Hid (∀ w', Below wD.heap.size wD w' → w'.cell? ⟨w.heap.size, 0, none⟩ = some (.string T.name) ∧ w'.cell? ⟨w.heap.size, 1, none⟩ = some (.int .i64 T.unit) ∧ w'.cell? ⟨w.heap.size, 2, none⟩ = some (.int .i64 T.step) ∧ w'.cell? ⟨w.heap.size, 3, none⟩ = some (.slice z T.zones.length zc) ∧ w'.cell? ⟨w.heap.size, 4, none⟩ = some (.slice h T.hols.length hc) ∧ w'.cell? ⟨w.heap.size, 5, none⟩ = some (.slice r T.rules.length rc) ∧ w'.cell? ⟨w.heap.size, 6, none⟩ = some (.slice e T.extras.length ec) ∧ w'.cell? ⟨w.heap.size, 7, none⟩ = some (.slice f T.fixed.length fc) ∧ w'.cell? ⟨gy, 0, none⟩ = some (.int .i64 X.date) ∧ w'.cell? ⟨gy, 1, none⟩ = some (.int .i64 X.time) ∧ w'.cell? ⟨gy, 2, none⟩ = some (.bool X.fixed) ∧ w'.cell? ⟨gy, 3, none⟩ = some (.slice ye X.extras.length yec) ∧ w'.cell? ⟨gy, 4, none⟩ = some (.slice ys X.segs.length ysc) ∧ Hid (Below wD.heap.size wD w')) := Lib.hid fun w' hw => ⟨Keep.below hw _ _ t0, Keep.below hw _ _ t1, Keep.below hw _ _ t2, Keep.below hw _ _ t3, Keep.below hw _ _ t4, Keep.below hw _ _ t5, Keep.below hw _ _ t6, Keep.below hw _ _ t7, Keep.below hw _ _ p0, Keep.below hw _ _ p1, Keep.below hw _ _ p2, Keep.below hw _ _ p3, Keep.below hw _ _ p4, Lib.hid hw⟩
                      have hle0 := Nat.le_refl wD.heap.size
                      clear hgW
                      go_region_held3 (fun w' => w'.cell? ⟨w.heap.size, 0, none⟩ = some (.string T.name) ∧ w'.cell? ⟨w.heap.size, 1, none⟩ = some (.int .i64 T.unit) ∧ w'.cell? ⟨w.heap.size, 2, none⟩ = some (.int .i64 T.step) ∧ w'.cell? ⟨w.heap.size, 3, none⟩ = some (.slice z T.zones.length zc) ∧ w'.cell? ⟨w.heap.size, 4, none⟩ = some (.slice h T.hols.length hc) ∧ w'.cell? ⟨w.heap.size, 5, none⟩ = some (.slice r T.rules.length rc) ∧ w'.cell? ⟨w.heap.size, 6, none⟩ = some (.slice e T.extras.length ec) ∧ w'.cell? ⟨w.heap.size, 7, none⟩ = some (.slice f T.fixed.length fc) ∧ w'.cell? ⟨gy, 0, none⟩ = some (.int .i64 X.date) ∧ w'.cell? ⟨gy, 1, none⟩ = some (.int .i64 X.time) ∧ w'.cell? ⟨gy, 2, none⟩ = some (.bool X.fixed) ∧ w'.cell? ⟨gy, 3, none⟩ = some (.slice ye X.extras.length yec) ∧ w'.cell? ⟨gy, 4, none⟩ = some (.slice ys X.segs.length ysc) ∧ Hid (Below wD.heap.size wD w'))
                        (first
                          | exact MK.out _ HBd.out
                          | (go_split_ands; exact MK.out _ (Below.trans (Hid.out (by assumption)) (hb1.mono (Hid.out (by assumption) : Below wD.heap.size wD _).size)))
                          | (go_split_ands; exact MK.out _ (Below.realloc (Hid.out (by assumption)) hle _))
                          | (go_split_ands; exact MK.out _ (Below.alloc (Hid.out (by assumption)) (Hid.out (by assumption) : Below wD.heap.size wD _).size _))
                          | (go_split_ands; exact MK.out _ (Below.setCell (Below.setCell (Hid.out (by assumption)) (by show wD.heap.size ≤ _; first | exact Nat.le_refl _ | assumption) _) (by show wD.heap.size ≤ _; first | exact Nat.le_refl _ | assumption) _)))
                        ((first
                          | (go_at_call 11
                             go_split_ands
                             refine (copy_any T _ _ (hT0.keep (Keep.below (HWW.out.trans ((Hid.out (by assumption) : Below wD.heap.size wD _).mono HWW.out.size)))) HL.out).mono ?_
                             rintro e' w1 ⟨v1, rfl, h1, hb1⟩
                             have hle := Nat.le_trans (Hid.out (by assumption) : Below wD.heap.size wD _).size hb1.size
                             have H1 := Lib.hid h1
                             clear h1
                             try (first
                                | (have HN := Lib.hid (show PairAt w1 wD.heap.size 0 0 from (PairAt.new wD.drew 0 0 48).below hb1 (by simp)); obtain ⟨q0, q1, f0, f1⟩ := HN.out)
                                | (have HN := Lib.hid (show PairAt w1 _ 0 0 from (PairAt.new _ 0 0 48).below hb1 (by simp)); obtain ⟨q0, q1, f0, f1⟩ := HN.out)
                                | (have HN := Lib.hid (PairAt.below (Hid.out HN) hb1 (PairAt.lt (Hid.out HN))); obtain ⟨q0, q1, f0, f1⟩ := HN.out)))
                          | (go_at_call 8
                             go_split_ands
                             refine (copyTrip_any (withSegs X L) _ _ (HX.out.keep (Keep.below (Hid.out (by assumption) : Below wD.heap.size wD _))) (by show X.extras.length ≤ _; omega) (by show L.length ≤ _; have := HYL.out; omega)).mono ?_
                             rintro e' w1 ⟨v2, rfl, h2, hb1⟩
                             have hle := Nat.le_trans (Hid.out (by assumption) : Below wD.heap.size wD _).size hb1.size
                             have H1 : Hid (RdTar w1 v1 T) := (by first | exact Lib.hid (H1.out.keep (Keep.below hb1)) | exact Lib.hid ((H1.out.keep (Keep.alloc _ _)).keep (Keep.below hb1)))
                             have H2 := Lib.hid h2.rd
                             clear h2
                             try (first
                                | (have HN := Lib.hid (show PairAt w1 wD.heap.size 0 0 from (PairAt.new wD.drew 0 0 48).below hb1 (by simp)); obtain ⟨q0, q1, f0, f1⟩ := HN.out)
                                | (have HN := Lib.hid (show PairAt w1 _ 0 0 from (PairAt.new _ 0 0 48).below hb1 (by simp)); obtain ⟨q0, q1, f0, f1⟩ := HN.out)
                                | (have HN := Lib.hid (PairAt.below (Hid.out HN) hb1 (PairAt.lt (Hid.out HN))); obtain ⟨q0, q1, f0, f1⟩ := HN.out)))
                          | (go_at_call 12
                             go_split_ands
                             refine (rangeOf_any T (withSegs X L) _ _ _ (by first | exact H1.out | exact H1.out.keep (Keep.alloc _ _)) (by first | exact H2.out | exact H2.out.keep (Keep.alloc _ _)) HL.out.rules).mono ?_
                             rintro e' w1 ⟨rfl, hb1⟩
                             have hle := Nat.le_trans (Hid.out (by assumption) : Below wD.heap.size wD _).size hb1.size
                             try (first
                                | (have HN := Lib.hid (show PairAt w1 wD.heap.size 0 0 from (PairAt.new wD.drew 0 0 48).below hb1 (by simp)); obtain ⟨q0, q1, f0, f1⟩ := HN.out)
                                | (have HN := Lib.hid (show PairAt w1 _ 0 0 from (PairAt.new _ 0 0 48).below hb1 (by simp)); obtain ⟨q0, q1, f0, f1⟩ := HN.out)
                                | (have HN := Lib.hid (PairAt.below (Hid.out HN) hb1 (PairAt.lt (Hid.out HN))); obtain ⟨q0, q1, f0, f1⟩ := HN.out)))))
                      all_goals
                        rename_i hS
                        obtain ⟨-, -, -, -, -, -, -, -, -, -, -, -, -, hbb⟩ := hS
                        clear t0 t1 t2 t3 t4 t5 t6 t7 p0 p1 p2 p3 p4
                        go_wp2_with fail
                        go_meet
                        first
                          | exact ⟨_, rfl, rfl, (by first | exact Nat.le_refl _ | assumption), Lib.hid (PairAt.set (Hid.out HN) _ _), hbb⟩
                          | exact ⟨_, rfl, rfl, (by first | exact Nat.le_refl _ | assumption), Lib.hid (PairAt.new _ _ _ _), hbb⟩
                    case rest =>
                      obtain ⟨gq, rfl, rfl, hgq, HFq, HB⟩ := hcut
                      have HQe := Lib.hid (HQd.out.below HB.out)
                      replace HFa := Lib.hid (HFa.out.below HB.out HFa.out.lt)
                      replace HFb := Lib.hid (HFb.out.below HB.out HFb.out.lt)
                      replace HFp := Lib.hid (HFp.out.below HB.out HFp.out.lt)
                      obtain ⟨wE, hwA⟩ : ∃ wA, wA = wc := ⟨_, rfl⟩
                      subst hwA
                      clear hgp hgq
                      by_cases hG : (rangeOf T X).2 = 0
                      · by_cases hH : (rangeOf T (withSegs X L)).2 = 0
                        · have dG : ((rangeOf T X).2 != 0) = false := by simpa using hG
                          have dH : ((rangeOf T (withSegs X L)).2 != 0) = false := by simpa using hH
                          obtain ⟨b1, b2, b3⟩ := lawD (T := T) HAL.out HML.out HE.out HF.out hG hH
                          have e1 : ((rangeOf T X).1.1 != (fareOf T X).1.total) = false := by rw [b1]; simp
                          have e2 : ((rangeOf T (withSegs X L)).1.1 != (fareOf T (withSegs X L)).1.total) = false := by rw [b2]; simp
                          have e3 : decide ((rangeOf T X).1.2 > (rangeOf T (withSegs X L)).1.2) = false := decide_eq_false (by omega)
                          have e3' : decide ((rangeOf T (withSegs X L)).1.2 < (rangeOf T X).1.2) = false := decide_eq_false (by omega)
                          have HLN := Lib.hid HQe.out.y.hL
                          clear hG hH b1 b2 b3
                          obtain ⟨-, -, -, q3, -, -, -, -⟩ := HFa.out
                          obtain ⟨-, -, -, r3, -, -, -, -⟩ := HFb.out
                          obtain ⟨y0, y1, -, -⟩ := HFp.out
                          obtain ⟨z0, z1, -, -⟩ := HFq.out
                          go_wp2_with fail
                          clear q3 r3 y0 y1 z0 z1 dG dH e1 e2 e3 e3' HFb HFp HFq
                          go_loopw [17] (fun u wr => ∃ k : Nat, k ≤ X.segs.length ∧ u = .int .i64 k ∧ Hid (LawAt w wr base gy T X (zeroTo L k) ⟨z, h, r, e, f, zc, hc, rc, ec, fc, xe, xs, xec, xsc⟩ ye ys yec ysc) ∧ Hid (FareAt wr ga (fareOf T X).1.start (fareOf T X).1.driven (fareOf T X).1.extras (fareOf T X).1.total)) (fun u _ => X.segs.length - (intOf u).toNat)
                          case atStart => exact ⟨0, Nat.zero_le _, rfl, HQe, HFa⟩
                          case round =>
                            obtain ⟨k, hk, rfl, HR, HFz⟩ := hrel
                            clear HQe HFa
                            have q4 := HR.out.y.c4
                            have hys := HR.out.y.h1
                            by_cases c1 : k < X.segs.length
                            · have d1 : decide ((k : Int) < (X.segs.length : Int)) = true := decide_eq_true (by omega)
                              obtain ⟨b, hb, hbb, -, -, fz, s0, s1, s2⟩ := HR.out.y.at_ c1
                              subst hb
                              have hgb : b < ga := HGA.out b rfl (by omega)
                              have i0 : (0 : Int) ≤ (k : Int) := by omega
                              have i1 : (k : Int) < (X.segs.length : Int) := by omega
                              have HR2 := Lib.hid (HR.out.put hbb c1 0)
                              have HF2 := Lib.hid (HFz.out.other (g' := b) (i := k * 3 + 1) (by omega) (.int .i64 0))
                              go_wp2_with fail
                              go_roundw
                              case rel => exact ⟨k + 1, by omega, by go_num, HR2, HF2⟩
                              case measure => simp [intOf]; omega
                            · have d1 : decide ((k : Int) < (X.segs.length : Int)) = false := decide_eq_false (by omega)
                              have hkL : k = L.length := by have := HLN.out; omega
                              obtain ⟨hz, hz0⟩ := zero_alike HAL.out (fun i hi => fare_metres (T := T) HE.out i hi)
                              rw [← hkL] at hz hz0
                              generalize zeroTo L k = Z at *
                              obtain ⟨j1, j2, j3, j4⟩ := lawE (T := T) hz hz0 HE.out
                              have J1 := Lib.hid j1
                              have J2 := Lib.hid j2
                              have J3 := Lib.hid j3
                              have J4 := Lib.hid j4
                              clear hz hz0 j1 j2 j3 j4 hkL
                              obtain ⟨wF, hwF⟩ : ∃ wF, wF = wr := ⟨_, rfl⟩
                              subst hwF
                              go_upto_region 28 with fail
                              have hgW := HR.out.y.lt
                              go_cut [18, 19] from 191 to 198 (fun s1 s2 wx => ∃ g1 : Nat, s1 = .pointer (some ⟨g1, 0, none⟩) ∧ s2 = .int .i64 (fareOf T (withSegs X Z)).2 ∧ wF.heap.size ≤ g1 ∧ Hid (FareAt wx g1 (fareOf T (withSegs X Z)).1.start (fareOf T (withSegs X Z)).1.driven (fareOf T (withSegs X Z)).1.extras (fareOf T (withSegs X Z)).1.total) ∧ Hid (Below wF.heap.size wF wx))
                              case first =>
                                obtain ⟨t0, t1, t2, t3, t4, t5, t6, t7⟩ := HR.out.bt
                                obtain ⟨p0, p1, p2, p3, p4, hyl, -, -, -, -⟩ := HR.out.y
                                have HWW := Lib.hid HR.out.bel
                                have HX := Lib.hid HR.out.y.rd
                                have HYL := Lib.hid hyl
                                clear hyl
                                have HBd : Hid (Below wF.heap.size wF wF.drew) := Lib.hid (Below.refl _ _).drew
                                have MK : Hid (∀ w', Below wF.heap.size wF w' → w'.cell? ⟨w.heap.size, 0, none⟩ = some (.string T.name) ∧ w'.cell? ⟨w.heap.size, 1, none⟩ = some (.int .i64 T.unit) ∧ w'.cell? ⟨w.heap.size, 2, none⟩ = some (.int .i64 T.step) ∧ w'.cell? ⟨w.heap.size, 3, none⟩ = some (.slice z T.zones.length zc) ∧ w'.cell? ⟨w.heap.size, 4, none⟩ = some (.slice h T.hols.length hc) ∧ w'.cell? ⟨w.heap.size, 5, none⟩ = some (.slice r T.rules.length rc) ∧ w'.cell? ⟨w.heap.size, 6, none⟩ = some (.slice e T.extras.length ec) ∧ w'.cell? ⟨w.heap.size, 7, none⟩ = some (.slice f T.fixed.length fc) ∧ w'.cell? ⟨gy, 0, none⟩ = some (.int .i64 X.date) ∧ w'.cell? ⟨gy, 1, none⟩ = some (.int .i64 X.time) ∧ w'.cell? ⟨gy, 2, none⟩ = some (.bool X.fixed) ∧ w'.cell? ⟨gy, 3, none⟩ = some (.slice ye X.extras.length yec) ∧ w'.cell? ⟨gy, 4, none⟩ = some (.slice ys X.segs.length ysc) ∧ Hid (Below wF.heap.size wF w')) := Lib.hid fun w' hw => ⟨Keep.below hw _ _ t0, Keep.below hw _ _ t1, Keep.below hw _ _ t2, Keep.below hw _ _ t3, Keep.below hw _ _ t4, Keep.below hw _ _ t5, Keep.below hw _ _ t6, Keep.below hw _ _ t7, Keep.below hw _ _ p0, Keep.below hw _ _ p1, Keep.below hw _ _ p2, Keep.below hw _ _ p3, Keep.below hw _ _ p4, Lib.hid hw⟩
                                have hle0 := Nat.le_refl wF.heap.size
                                clear hgW
                                go_region_held3 (fun w' => w'.cell? ⟨w.heap.size, 0, none⟩ = some (.string T.name) ∧ w'.cell? ⟨w.heap.size, 1, none⟩ = some (.int .i64 T.unit) ∧ w'.cell? ⟨w.heap.size, 2, none⟩ = some (.int .i64 T.step) ∧ w'.cell? ⟨w.heap.size, 3, none⟩ = some (.slice z T.zones.length zc) ∧ w'.cell? ⟨w.heap.size, 4, none⟩ = some (.slice h T.hols.length hc) ∧ w'.cell? ⟨w.heap.size, 5, none⟩ = some (.slice r T.rules.length rc) ∧ w'.cell? ⟨w.heap.size, 6, none⟩ = some (.slice e T.extras.length ec) ∧ w'.cell? ⟨w.heap.size, 7, none⟩ = some (.slice f T.fixed.length fc) ∧ w'.cell? ⟨gy, 0, none⟩ = some (.int .i64 X.date) ∧ w'.cell? ⟨gy, 1, none⟩ = some (.int .i64 X.time) ∧ w'.cell? ⟨gy, 2, none⟩ = some (.bool X.fixed) ∧ w'.cell? ⟨gy, 3, none⟩ = some (.slice ye X.extras.length yec) ∧ w'.cell? ⟨gy, 4, none⟩ = some (.slice ys X.segs.length ysc) ∧ Hid (Below wF.heap.size wF w'))
                                  (first
                                    | exact MK.out _ HBd.out
                                    | (go_split_ands; exact MK.out _ (Below.trans (Hid.out (by assumption)) (hb1.mono (Hid.out (by assumption) : Below wF.heap.size wF _).size)))
                                    | (go_split_ands; exact MK.out _ (Below.realloc (Hid.out (by assumption)) hle _))
                                    | (go_split_ands; exact MK.out _ (Below.alloc (Hid.out (by assumption)) (Hid.out (by assumption) : Below wF.heap.size wF _).size _))
                                    | (go_split_ands; exact MK.out _ (Below.setCell (Below.setCell (Below.setCell (Below.setCell (Hid.out (by assumption)) (by show wF.heap.size ≤ _; first | exact Nat.le_refl _ | assumption) _) (by show wF.heap.size ≤ _; first | exact Nat.le_refl _ | assumption) _) (by show wF.heap.size ≤ _; first | exact Nat.le_refl _ | assumption) _) (by show wF.heap.size ≤ _; first | exact Nat.le_refl _ | assumption) _)))
                                  ((first
                                    | (go_at_call 11
                                       go_split_ands
                                       refine (copy_any T _ _ (hT0.keep (Keep.below (HWW.out.trans ((Hid.out (by assumption) : Below wF.heap.size wF _).mono HWW.out.size)))) HL.out).mono ?_
                                       rintro e' w1 ⟨v1, rfl, h1, hb1⟩
                                       have hle := Nat.le_trans (Hid.out (by assumption) : Below wF.heap.size wF _).size hb1.size
                                       have H1 := Lib.hid h1
                                       clear h1
                                       try (first
                                          | (have HN := Lib.hid (show FareAt w1 wF.heap.size 0 0 0 0 from (FareAt.new wF.drew 0 0 0 0 42).below hb1 (by simp)); obtain ⟨q0, q1, q2, q3, f0, f1, f2, f3⟩ := HN.out)
                                          | (have HN := Lib.hid (show FareAt w1 _ 0 0 0 0 from (FareAt.new _ 0 0 0 0 42).below hb1 (by simp)); obtain ⟨q0, q1, q2, q3, f0, f1, f2, f3⟩ := HN.out)
                                          | (have HN := Lib.hid (FareAt.below (Hid.out HN) hb1 (FareAt.lt (Hid.out HN))); obtain ⟨q0, q1, q2, q3, f0, f1, f2, f3⟩ := HN.out)))
                                    | (go_at_call 8
                                       go_split_ands
                                       refine (copyTrip_any (withSegs X Z) _ _ (HX.out.keep (Keep.below (Hid.out (by assumption) : Below wF.heap.size wF _))) (by show X.extras.length ≤ _; omega) (by show Z.length ≤ _; have := HYL.out; omega)).mono ?_
                                       rintro e' w1 ⟨v2, rfl, h2, hb1⟩
                                       have hle := Nat.le_trans (Hid.out (by assumption) : Below wF.heap.size wF _).size hb1.size
                                       have H1 : Hid (RdTar w1 v1 T) := (by first | exact Lib.hid (H1.out.keep (Keep.below hb1)) | exact Lib.hid ((H1.out.keep (Keep.alloc _ _)).keep (Keep.below hb1)))
                                       have H2 := Lib.hid h2.rd
                                       clear h2
                                       try (first
                                          | (have HN := Lib.hid (show FareAt w1 wF.heap.size 0 0 0 0 from (FareAt.new wF.drew 0 0 0 0 42).below hb1 (by simp)); obtain ⟨q0, q1, q2, q3, f0, f1, f2, f3⟩ := HN.out)
                                          | (have HN := Lib.hid (show FareAt w1 _ 0 0 0 0 from (FareAt.new _ 0 0 0 0 42).below hb1 (by simp)); obtain ⟨q0, q1, q2, q3, f0, f1, f2, f3⟩ := HN.out)
                                          | (have HN := Lib.hid (FareAt.below (Hid.out HN) hb1 (FareAt.lt (Hid.out HN))); obtain ⟨q0, q1, q2, q3, f0, f1, f2, f3⟩ := HN.out)))
                                    | (go_at_call 10
                                       go_split_ands
                                       refine (fareOf_any T (withSegs X Z) _ _ _ (by first | exact H1.out | exact H1.out.keep (Keep.alloc _ _)) (by first | exact H2.out | exact H2.out.keep (Keep.alloc _ _)) HL.out.rules).mono ?_
                                       rintro e' w1 ⟨rfl, hb1⟩
                                       have hle := Nat.le_trans (Hid.out (by assumption) : Below wF.heap.size wF _).size hb1.size
                                       try (first
                                          | (have HN := Lib.hid (show FareAt w1 wF.heap.size 0 0 0 0 from (FareAt.new wF.drew 0 0 0 0 42).below hb1 (by simp)); obtain ⟨q0, q1, q2, q3, f0, f1, f2, f3⟩ := HN.out)
                                          | (have HN := Lib.hid (show FareAt w1 _ 0 0 0 0 from (FareAt.new _ 0 0 0 0 42).below hb1 (by simp)); obtain ⟨q0, q1, q2, q3, f0, f1, f2, f3⟩ := HN.out)
                                          | (have HN := Lib.hid (FareAt.below (Hid.out HN) hb1 (FareAt.lt (Hid.out HN))); obtain ⟨q0, q1, q2, q3, f0, f1, f2, f3⟩ := HN.out)))))
                                all_goals
                                  rename_i hS
                                  obtain ⟨-, -, -, -, -, -, -, -, -, -, -, -, -, hbb⟩ := hS
                                  clear t0 t1 t2 t3 t4 t5 t6 t7 p0 p1 p2 p3 p4
                                  go_wp2_with fail
                                  go_meet
                                  first
                                    | exact ⟨_, rfl, rfl, (by first | exact Nat.le_refl _ | assumption), Lib.hid (FareAt.set (Hid.out HN) _ _ _ _), hbb⟩
                                    | exact ⟨_, rfl, rfl, (by first | exact Nat.le_refl _ | assumption), Lib.hid (FareAt.new _ _ _ _ _ _), hbb⟩
                              case rest =>
                                obtain ⟨gc, rfl, rfl, hgc, HFc, HB⟩ := hcut
                                have HQg := Lib.hid (HR.out.below HB.out)
                                replace HFz := Lib.hid (HFz.out.below HB.out HFz.out.lt)
                                obtain ⟨wG, hwA⟩ : ∃ wA, wA = wc := ⟨_, rfl⟩
                                subst hwA
                                go_upto_region 29 with fail
                                have hgW := HQg.out.y.lt
                                go_cut [20, 21] from 199 to 205 (fun s1 s2 wx => ∃ g1 : Nat, s1 = .pointer (some ⟨g1, 0, none⟩) ∧ s2 = .int .i64 (rangeOf T (withSegs X Z)).2 ∧ wG.heap.size ≤ g1 ∧ Hid (PairAt wx g1 (rangeOf T (withSegs X Z)).1.1 (rangeOf T (withSegs X Z)).1.2) ∧ Hid (Below wG.heap.size wG wx))
                                case first =>
                                  obtain ⟨t0, t1, t2, t3, t4, t5, t6, t7⟩ := HQg.out.bt
                                  obtain ⟨p0, p1, p2, p3, p4, hyl, -, -, -, -⟩ := HQg.out.y
                                  have HWW := Lib.hid HQg.out.bel
                                  have HX := Lib.hid HQg.out.y.rd
                                  have HYL := Lib.hid hyl
                                  clear hyl
                                  have HBd : Hid (Below wG.heap.size wG wG.drew) := Lib.hid (Below.refl _ _).drew
                                  have MK : Hid (∀ w', Below wG.heap.size wG w' → w'.cell? ⟨w.heap.size, 0, none⟩ = some (.string T.name) ∧ w'.cell? ⟨w.heap.size, 1, none⟩ = some (.int .i64 T.unit) ∧ w'.cell? ⟨w.heap.size, 2, none⟩ = some (.int .i64 T.step) ∧ w'.cell? ⟨w.heap.size, 3, none⟩ = some (.slice z T.zones.length zc) ∧ w'.cell? ⟨w.heap.size, 4, none⟩ = some (.slice h T.hols.length hc) ∧ w'.cell? ⟨w.heap.size, 5, none⟩ = some (.slice r T.rules.length rc) ∧ w'.cell? ⟨w.heap.size, 6, none⟩ = some (.slice e T.extras.length ec) ∧ w'.cell? ⟨w.heap.size, 7, none⟩ = some (.slice f T.fixed.length fc) ∧ w'.cell? ⟨gy, 0, none⟩ = some (.int .i64 X.date) ∧ w'.cell? ⟨gy, 1, none⟩ = some (.int .i64 X.time) ∧ w'.cell? ⟨gy, 2, none⟩ = some (.bool X.fixed) ∧ w'.cell? ⟨gy, 3, none⟩ = some (.slice ye X.extras.length yec) ∧ w'.cell? ⟨gy, 4, none⟩ = some (.slice ys X.segs.length ysc) ∧ Hid (Below wG.heap.size wG w')) := Lib.hid fun w' hw => ⟨Keep.below hw _ _ t0, Keep.below hw _ _ t1, Keep.below hw _ _ t2, Keep.below hw _ _ t3, Keep.below hw _ _ t4, Keep.below hw _ _ t5, Keep.below hw _ _ t6, Keep.below hw _ _ t7, Keep.below hw _ _ p0, Keep.below hw _ _ p1, Keep.below hw _ _ p2, Keep.below hw _ _ p3, Keep.below hw _ _ p4, Lib.hid hw⟩
                                  have hle0 := Nat.le_refl wG.heap.size
                                  clear hgW
                                  go_region_held3 (fun w' => w'.cell? ⟨w.heap.size, 0, none⟩ = some (.string T.name) ∧ w'.cell? ⟨w.heap.size, 1, none⟩ = some (.int .i64 T.unit) ∧ w'.cell? ⟨w.heap.size, 2, none⟩ = some (.int .i64 T.step) ∧ w'.cell? ⟨w.heap.size, 3, none⟩ = some (.slice z T.zones.length zc) ∧ w'.cell? ⟨w.heap.size, 4, none⟩ = some (.slice h T.hols.length hc) ∧ w'.cell? ⟨w.heap.size, 5, none⟩ = some (.slice r T.rules.length rc) ∧ w'.cell? ⟨w.heap.size, 6, none⟩ = some (.slice e T.extras.length ec) ∧ w'.cell? ⟨w.heap.size, 7, none⟩ = some (.slice f T.fixed.length fc) ∧ w'.cell? ⟨gy, 0, none⟩ = some (.int .i64 X.date) ∧ w'.cell? ⟨gy, 1, none⟩ = some (.int .i64 X.time) ∧ w'.cell? ⟨gy, 2, none⟩ = some (.bool X.fixed) ∧ w'.cell? ⟨gy, 3, none⟩ = some (.slice ye X.extras.length yec) ∧ w'.cell? ⟨gy, 4, none⟩ = some (.slice ys X.segs.length ysc) ∧ Hid (Below wG.heap.size wG w'))
                                    (first
                                      | exact MK.out _ HBd.out
                                      | (go_split_ands; exact MK.out _ (Below.trans (Hid.out (by assumption)) (hb1.mono (Hid.out (by assumption) : Below wG.heap.size wG _).size)))
                                      | (go_split_ands; exact MK.out _ (Below.realloc (Hid.out (by assumption)) hle _))
                                      | (go_split_ands; exact MK.out _ (Below.alloc (Hid.out (by assumption)) (Hid.out (by assumption) : Below wG.heap.size wG _).size _))
                                      | (go_split_ands; exact MK.out _ (Below.setCell (Below.setCell (Hid.out (by assumption)) (by show wG.heap.size ≤ _; first | exact Nat.le_refl _ | assumption) _) (by show wG.heap.size ≤ _; first | exact Nat.le_refl _ | assumption) _)))
                                    ((first
                                      | (go_at_call 11
                                         go_split_ands
                                         refine (copy_any T _ _ (hT0.keep (Keep.below (HWW.out.trans ((Hid.out (by assumption) : Below wG.heap.size wG _).mono HWW.out.size)))) HL.out).mono ?_
                                         rintro e' w1 ⟨v1, rfl, h1, hb1⟩
                                         have hle := Nat.le_trans (Hid.out (by assumption) : Below wG.heap.size wG _).size hb1.size
                                         have H1 := Lib.hid h1
                                         clear h1
                                         try (first
                                            | (have HN := Lib.hid (show PairAt w1 wG.heap.size 0 0 from (PairAt.new wG.drew 0 0 48).below hb1 (by simp)); obtain ⟨q0, q1, f0, f1⟩ := HN.out)
                                            | (have HN := Lib.hid (show PairAt w1 _ 0 0 from (PairAt.new _ 0 0 48).below hb1 (by simp)); obtain ⟨q0, q1, f0, f1⟩ := HN.out)
                                            | (have HN := Lib.hid (PairAt.below (Hid.out HN) hb1 (PairAt.lt (Hid.out HN))); obtain ⟨q0, q1, f0, f1⟩ := HN.out)))
                                      | (go_at_call 12
                                         go_split_ands
                                         refine (rangeOf_any T (withSegs X Z) _ _ _ (by first | exact H1.out | exact H1.out.keep (Keep.alloc _ _)) (HX.out.keep (Keep.below (Hid.out (by assumption) : Below wG.heap.size wG _))) HL.out.rules).mono ?_
                                         rintro e' w1 ⟨rfl, hb1⟩
                                         have hle := Nat.le_trans (Hid.out (by assumption) : Below wG.heap.size wG _).size hb1.size
                                         try (first
                                            | (have HN := Lib.hid (show PairAt w1 wG.heap.size 0 0 from (PairAt.new wG.drew 0 0 48).below hb1 (by simp)); obtain ⟨q0, q1, f0, f1⟩ := HN.out)
                                            | (have HN := Lib.hid (show PairAt w1 _ 0 0 from (PairAt.new _ 0 0 48).below hb1 (by simp)); obtain ⟨q0, q1, f0, f1⟩ := HN.out)
                                            | (have HN := Lib.hid (PairAt.below (Hid.out HN) hb1 (PairAt.lt (Hid.out HN))); obtain ⟨q0, q1, f0, f1⟩ := HN.out)))))
                                  all_goals
                                    rename_i hS
                                    obtain ⟨-, -, -, -, -, -, -, -, -, -, -, -, -, hbb⟩ := hS
                                    clear t0 t1 t2 t3 t4 t5 t6 t7 p0 p1 p2 p3 p4
                                    go_wp2_with fail
                                    go_meet
                                    first
                                      | exact ⟨_, rfl, rfl, (by first | exact Nat.le_refl _ | assumption), Lib.hid (PairAt.set (Hid.out HN) _ _), hbb⟩
                                      | exact ⟨_, rfl, rfl, (by first | exact Nat.le_refl _ | assumption), Lib.hid (PairAt.new _ _ _ _), hbb⟩
                                case rest =>
                                  obtain ⟨gr, rfl, rfl, hgr, HFr, HB⟩ := hcut
                                  have HQh := Lib.hid (HQg.out.below HB.out)
                                  replace HFz := Lib.hid (HFz.out.below HB.out HFz.out.lt)
                                  replace HFc := Lib.hid (HFc.out.below HB.out HFc.out.lt)
                                  obtain ⟨wH, hwA⟩ : ∃ wA, wA = wc := ⟨_, rfl⟩
                                  subst hwA
                                  have dI : ((fareOf T (withSegs X Z)).2 == 0) = true := by rw [J1.out]; rfl
                                  have dJ : decide ((fareOf T (withSegs X Z)).1.total ≤ (fareOf T X).1.total) = true := decide_eq_true J2.out
                                  have dK : ((rangeOf T (withSegs X Z)).2 == 0) = true := by rw [J3.out]; rfl
                                  rw [J4.out] at HFr
                                  obtain ⟨-, -, -, q3, -, -, -, -⟩ := HFz.out
                                  obtain ⟨-, -, -, r3, -, -, -, -⟩ := HFc.out
                                  obtain ⟨y0, y1, -, -⟩ := HFr.out
                                  go_wp2_with fail
                                  go_ret
                                  exact ⟨rfl, HQh.out.bel⟩
                        · have dG : ((rangeOf T X).2 != 0) = false := by simpa using hG
                          have dH : ((rangeOf T (withSegs X L)).2 != 0) = true := by simpa using hH
                          have dG8 : ((rangeOf T X).2 == 8) = false := by rw [hG]; rfl
                          have dH8 : ((rangeOf T (withSegs X L)).2 == 8) = true := by rw [(lawC HF.out).resolve_left hH]; rfl
                          clear hG hH
                          go_wp2_with fail
                          go_ret
                          exact ⟨rfl, HQe.out.bel⟩
                      · have dG : ((rangeOf T X).2 != 0) = true := by simpa using hG
                        have dG8 : ((rangeOf T X).2 == 8) = true := by rw [(lawC HE.out).resolve_left hG]; rfl
                        clear hG
                        go_wp2_with fail
                        go_ret
                        exact ⟨rfl, HQe.out.bel⟩
                · have dE : ((fareOf T X).2 != 0) = false := by simpa using hE
                  have dF : ((fareOf T (withSegs X L)).2 != 0) = true := by simpa using hF
                  have dEF : ((fareOf T X).2 == (fareOf T (withSegs X L)).2) = false := by rw [beq_eq_false_iff_ne]; omega
                  have dF8 : ((fareOf T (withSegs X L)).2 == 8) = true := by rw [hA.resolve_left (by omega)]; rfl
                  clear hA hE hF
                  go_wp2_with fail
                  go_ret
                  exact ⟨rfl, HQc.out.bel⟩
              · have dE : ((fareOf T X).2 != 0) = true := by simpa using hE
                by_cases hEF : (fareOf T X).2 = (fareOf T (withSegs X L)).2
                · have dEF : ((fareOf T X).2 == (fareOf T (withSegs X L)).2) = true := by simpa using hEF
                  clear hA hE hEF
                  go_wp2_with fail
                  go_ret
                  exact ⟨rfl, HQc.out.bel⟩
                · have dEF : ((fareOf T X).2 == (fareOf T (withSegs X L)).2) = false := by rw [beq_eq_false_iff_ne]; exact hEF
                  have dF8 : ((fareOf T (withSegs X L)).2 == 8) = true := by rw [hA.resolve_left hEF]; rfl
                  clear hA hE hEF
                  go_wp2_with fail
                  go_ret
                  exact ⟨rfl, HQc.out.bel⟩
      · have d1 : decide ((M.length : Int) > 10) = true := decide_eq_true (by omega)
        have d2 : decide (10 < (M.length : Int)) = true := decide_eq_true (by omega)
        go_wp2_with fail
        go_ret
        exact ⟨rfl, HW3.out⟩
end Go.Proofs.Ytbehabaoeicgeaa

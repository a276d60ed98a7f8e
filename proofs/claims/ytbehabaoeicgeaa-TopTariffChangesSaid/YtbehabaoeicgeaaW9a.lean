/- The rules of a trip's segments. Condition: there are at most a million rules. -/
import Derived.Test.YtbehabaoeicgeaaFs3
namespace Go.Proofs.Ytbehabaoeicgeaa
open Go.RowKit Fs

theorem LoopR.begin {w0 w : World} {g ti n : Nat} {f : Nat → Value} {d t : Int} (h : LoopR w0 w g ti n f d t) (d' t' : Int) :
    LoopR w0 ((w.setCell ⟨g + 1, 0, none⟩ (.int .i64 d')).setCell ⟨g + 1, 1, none⟩ (.int .i64 t')) g ti n f d' t' := by
  have i1 : ((w.setCell ⟨g + 1, 0, none⟩ (.int .i64 d')).cell? ⟨g + 1, 1, none⟩) = some (.int .i64 t) := by
    rw [World.cell?_setCell_other _ _ _ _ (by simp)]; exact h.c1
  refine ⟨(h.row.setOther (a := ⟨g + 1, 0, none⟩) (by simp) _).setOther (a := ⟨g + 1, 1, none⟩) (by simp) _, ?_, ?_, ?_, ?_, (h.bel.setCell (p := ⟨g + 1, 0, none⟩) (by simp) _).setCell (p := ⟨g + 1, 1, none⟩) (by simp) _⟩
  · rw [World.cell?_setCell_other _ _ _ _ (by simp)]
    exact World.cell?_setCell_same _ _ _ (by rw [h.c0])
  · exact World.cell?_setCell_same _ _ _ (by rw [i1])
  · exact (World.frozen?_setCell _ _ _ _).trans ((World.frozen?_setCell _ _ _ _).trans h.f0)
  · exact (World.frozen?_setCell _ _ _ _).trans ((World.frozen?_setCell _ _ _ _).trans h.f1)

theorem LoopR.congr {w0 w : World} {g ti n : Nat} {f f' : Nat → Value} {d t : Int} (h : LoopR w0 w g ti n f d t) (e : ∀ i, i < n → f i = f' i) : LoopR w0 w g ti n f' d t :=
  ⟨h.row.congr e, h.c0, h.c1, h.f0, h.f1, h.bel⟩
theorem LoopR.start (w : World) (n : Nat) (ti tj : TypeId) (d t : Int) (F : Nat → Int) : LoopR w ((w.alloc (.cells (madeCells #[.int .i64 0] n) ti)).alloc (.cells #[.int .i64 d, .int .i64 t] tj)) w.heap.size ti n (fun j => .int .i64 (if j < 0 then F j else 0)) d t := by
  refine ⟨((World.rowIs_made w (.int .i64 0) n ti).congr fun i _ => by rw [if_neg (Nat.not_lt_zero _)]).alloc _, cellNew1 _ _ _ _ 0, cellNew1 _ _ _ _ 1, ?_, ?_, ((Below.refl _ _).alloc (Nat.le_refl _) _).alloc (by simp) _⟩
  · exact frozenNew1 _ _ _ _ _
  · exact frozenNew1 _ _ _ _ _
set_option maxHeartbeats 1600000 in
set_option maxRecDepth 100000 in
theorem rulesOf_any (T : Tar) (X : Trip) (v x : Value) (w : World) (hT : RdTar w v T) (hX : RdTrip w x X) (hn : T.rules.length ≤ 1000000) :
    Calls Try.prog 20 #[v, x] w fun e w' => Below w.heap.size w w' ∧
      ((rulesErr T X ≠ 0 ∧ e = .returned (.tuple #[.slice none 0 0, .int .i64 (rulesErr T X)])) ∨
       (rulesErr T X = 0 ∧ ∃ A c, e = .returned (.tuple #[.slice A (rulesL T X).length c, .int .i64 0]) ∧ ArrI w' A (rulesL T X) c)) := by
  have hT0 := hT
  have hX0 := hX
  obtain ⟨z, h, r, e, f, zc, hc, rc, ec, fc, a, rfl, m⟩ := hT
  obtain ⟨xe, xs, xec, xsc, rfl, x1, x2⟩ := hX
  clear m x1
  have a1 := x2.le.1
  have a2 := x2.le.2
  have BT := Lib.hid ((BoxT.new w T z h r e f zc hc rc ec fc 28).keep (Keep.alloc _ (.cells #[.int .i64 X.date, .int .i64 X.time, .bool X.fixed, .slice xe X.extras.length xec, .slice xs X.segs.length xsc] 33)))
  have BX := Lib.hid (BoxX.new1 w (.cells #[.string T.name, .int .i64 T.unit, .int .i64 T.step, .slice z T.zones.length zc, .slice h T.hols.length hc, .slice r T.rules.length rc, .slice e T.extras.length ec, .slice f T.fixed.length fc] 28) X xe xs xec xsc 33)
  by_cases h1 : (checkTrip' T X).2 = 0
  · have d1 : ((checkTrip' T X).2 != 0) = false := by simpa using h1
    have F1 := Lib.hid (show rulesErr T X = fst (sErr T X) X.segs.length by unfold rulesErr; rw [if_neg (fun hh => hh h1)])
    obtain ⟨-, hm0, -, hs0⟩ := trip_ok h1
    obtain ⟨n1, n2, hsg⟩ := segs_ok hs0
    have HSG := Lib.hid hsg
    clear h1 hs0 hsg
    go_enter Try.func20, Try.ntmps20
    go_wp2_with fail
    refine (checkTrip_any T X _ _ _ (hT0.keep ((Keep.alloc _ _).trans (Keep.alloc _ _))) (hX0.keep ((Keep.alloc _ _).trans (Keep.alloc _ _)))).mono ?_
    rintro e' w1 ⟨rfl, hb1⟩
    have HK1 := Lib.hid (((Keep.alloc _ _).trans (Keep.alloc _ _)).trans (Keep.below hb1) : Keep w w1)
    have HW1 := Lib.hid ((((Below.refl _ _).alloc (Nat.le_refl _) _).alloc (by simp) _).trans (hb1.mono (by simp; omega)) : Below w.heap.size w w1)
    have BT1 := Lib.hid (BT.out.keep (Keep.below hb1))
    have BX1 := Lib.hid (BX.out.keep (Keep.below hb1))
    have hs1 : w.heap.size + 1 + 1 ≤ w1.heap.size := by have := hb1.size; simpa using this
    clear hb1 BT BX
    obtain ⟨p0, p1, p2, p3, p4⟩ := BX1.out
    have hmk := run_make_row' (P := Try.prog) 23 3 (.int .i64 0) 8 Try.underlying23 Try.infoInt rfl .i64 .i64 X.segs.length (by omega) (by omega)
    have q := fun y => Keep.alloc w1 y _ _ p0
    have q0 := fun y z => Keep.alloc (w1.alloc y) z _ _ (Keep.alloc w1 y _ _ p0)
    have q1 := fun y => Keep.alloc w1 y _ _ p0
    have q1 := fun y => Keep.alloc w1 y _ _ p1
    have q3 := fun y => Keep.alloc w1 y _ _ p3
    have q4 := fun y z => Keep.alloc (w1.alloc y) z _ _ (Keep.alloc w1 y _ _ p4)
    go_wp2_with fail
    clear q q0 q1 q3 q4 p0 p1 p2 p3 p4 d1
    go_loopw [33] (fun u wr => ∃ k : Nat, k ≤ X.segs.length ∧ u = .int .i64 k ∧ Hid (∀ j, j < k → sErr T X j = 0) ∧ Hid (LoopR w1 wr w1.heap.size 3 X.segs.length (fun j => .int .i64 (if j < k then (sRule T X j).1 else 0)) (begins X k).1 (begins X k).2)) (fun u _ => X.segs.length - (intOf u).toNat)
    case atStart =>
      refine ⟨0, Nat.zero_le _, rfl, fun j hj => absurd hj (Nat.not_lt_zero _), ?_⟩
      exact LoopR.start _ _ _ _ _ _ _
    case round =>
      obtain ⟨k, hk, rfl, Hn, HL⟩ := hrel
      have hgs := HL.out.lt
      have HK := Lib.hid (HK1.out.trans (Keep.below HL.out.bel))
      have HW := Lib.hid (HW1.out.trans (HL.out.bel.mono (by omega)))
      by_cases hlt : k < X.segs.length
      · have hkr : decide ((k : Int) < (X.segs.length : Int)) = true := decide_eq_true (by omega)
        obtain ⟨b, o, rfl, c0, c1, c2⟩ := (x2.keep HK.out).at_ hlt
        have c0 := c0
        have i0 : (0 : Int) ≤ (k : Int) := by omega
        have i1 : (k : Int) < (X.segs.length : Int) := by omega
        have HLa := Lib.hid (HL.out.alloc (.cells #[.int .i64 (listG X.segs k).zone, .int .i64 (listG X.segs k).metres, .int .i64 (listG X.segs k).seconds] 40))
        have q0 := HLa.out.c0
        have q1 := HLa.out.c1
        by_cases h2 : errMoment (begins X k).1 (begins X k).2 = 0
        · have d2 : (errMoment (begins X k).1 (begins X k).2 != 0) = false := by simpa using h2
          obtain ⟨⟨m0, m1⟩, m2, m3⟩ := moment_ok h2
          have Hm := Lib.hid h2
          clear h2
          go_wp2_with fail
          refine (moment_any _ _ _).mono ?_
          rintro e' w2 ⟨rfl, hb2⟩
          have HL2 := Lib.hid (HLa.out.below hb2)
          have HW2 := Lib.hid ((HW.out.alloc (by omega) _).trans (hb2.mono (by simp; omega)))
          have s0 : w2.cell? ⟨wr.heap.size, 0, none⟩ = some (.int .i64 (listG X.segs k).zone) := Keep.below hb2 _ _ (cellNew _ _ _ _)
          have s2 : w2.cell? ⟨wr.heap.size, 2, none⟩ = some (.int .i64 (listG X.segs k).seconds) := Keep.below hb2 _ _ (cellNew _ _ _ _)
          have hsz2 : wr.heap.size < w2.heap.size := World.block_lt_of_cell? w2 _ s0
          clear hb2 c0 c1 c2 q0 q1 HLa
          have q0 := HL2.out.c0
          have q1 := HL2.out.c1
          obtain ⟨t0, t1, t2, t3, t4, t5, t6, t7⟩ := BT1.out.keep (Keep.below HL2.out.bel)
          go_wp2_with fail
          refine (show Calls _ _ _ _ (fun e w' => e = .returned (.tuple #[.int .i64 (sRule T X k).1, .int .i64 (sRule T X k).2]) ∧ Below _ _ w') from ruleAt_any T _ (listG X.segs k).zone (begins X k).1 (begins X k).2 _ (hT0.keep (Keep.below HW2.out)) m0 hn).mono ?_
          rintro e' w3 ⟨rfl, hb3⟩
          have HL3 := Lib.hid (HL2.out.below hb3)
          have HW3 := Lib.hid (HW2.out.trans (hb3.mono HW2.out.size))
          have s2 : w3.cell? ⟨wr.heap.size, 2, none⟩ = some (.int .i64 (listG X.segs k).seconds) := Keep.below hb3 _ _ s2
          have hsz3 : wr.heap.size < w3.heap.size := World.block_lt_of_cell? w3 _ s2
          clear hb3 s0 q0 q1 t0 t1 t2 t3 t4 t5 t6 t7 hsz2
          by_cases h4 : (sRule T X k).2 = 0
          · have d4 : ((sRule T X k).2 != 0) = false := by simpa using h4
            have F4 := Lib.hid (show sErr T X k = 0 by unfold sErr; rw [if_neg (fun hh => hh Hm.out)]; exact h4)
            clear h4
            have r1 := HL3.out.row.cell hlt
            have r2 := HL3.out.row.frozen k
            have HL4 := Lib.hid (HL3.out.put k (.int .i64 (sRule T X k).1))
            have HW4 := Lib.hid (HW3.out.setCell (p := ⟨w1.heap.size, k, none⟩) (by simp; omega) (.int .i64 (sRule T X k).1))
            have q0 := HL4.out.c0
            have q1 := HL4.out.c1
            have s2 : (w3.setCell ⟨w1.heap.size, k, none⟩ (.int .i64 (sRule T X k).1)).cell? ⟨wr.heap.size, 2, none⟩ = some (.int .i64 (listG X.segs k).seconds) := (World.cell?_setCell_far _ _ _ _ (by simp; omega)).trans s2
            have hs := (HSG.out k hlt).2
            go_wp2_with fail
            refine (later_any (begins X k).1 (begins X k).2 (listG X.segs k).seconds _ m0 m1 m2 m3 (by omega) (by omega)).mono ?_
            rintro e' w5 ⟨rfl, hb5⟩
            have HL5 := Lib.hid (HL4.out.below hb5)
            have HW5 := Lib.hid (HW4.out.trans (hb5.mono HW4.out.size))
            clear hb5 q0 q1 s2 hs r1 r2
            have q0 := HL5.out.c0
            have q1 := HL5.out.c1
            have f0 := HL5.out.f0
            have f1 := HL5.out.f1
            have HL6 := Lib.hid (HL5.out.begin (later (begins X k).1 (begins X k).2 (listG X.segs k).seconds).1 (later (begins X k).1 (begins X k).2 (listG X.segs k).seconds).2)
            go_wp2_with fail
            go_roundw
            case rel =>
              refine ⟨k + 1, by omega, by go_num, Lib.hid (fun j hj => ?_), Lib.hid (HL6.out.congr fun i hi => ?_)⟩
              · by_cases e : j = k
                · rw [e]; exact F4.out
                · exact Hn.out j (by omega)
              · by_cases e : i = k
                · rw [if_pos e, if_pos (by omega), e]
                · rw [if_neg e]
                  by_cases e2 : i < k
                  · rw [if_pos e2, if_pos (by omega)]
                  · rw [if_neg e2, if_neg (by omega)]
            case measure => simp [intOf]; omega
          · have d4 : ((sRule T X k).2 != 0) = true := by simpa using h4
            have F4 := Lib.hid (show sErr T X k = (sRule T X k).2 by unfold sErr; rw [if_neg (fun hh => hh Hm.out)])
            have F5 := Lib.hid (F1.out.trans ((fst_hit hlt Hn.out (by rw [F4.out]; exact h4)).1.trans F4.out))
            have F6 := Lib.hid h4
            clear h4
            go_wp2_with fail
            go_ret2
            exact ⟨HW3.out, .inl ⟨by rw [F5.out]; exact F6.out, by rw [F5.out]; rfl⟩⟩
        · have d2 : (errMoment (begins X k).1 (begins X k).2 != 0) = true := by simpa using h2
          have F2 := Lib.hid (show sErr T X k = errMoment (begins X k).1 (begins X k).2 by unfold sErr; rw [if_pos h2])
          have F3 := Lib.hid (F1.out.trans ((fst_hit hlt Hn.out (by rw [F2.out]; exact h2)).1.trans F2.out))
          have F4 := Lib.hid h2
          clear h2
          go_wp2_with fail
          refine (moment_any _ _ _).mono ?_
          rintro e' w2 ⟨rfl, hb2⟩
          have HW2 := Lib.hid ((HW.out.alloc (by omega) _).trans (hb2.mono (by simp; omega)))
          clear hb2 c0 c1 c2 q0 q1
          go_wp2_with fail
          go_ret2
          exact ⟨HW2.out, .inl ⟨by rw [F3.out]; exact F4.out, by rw [F3.out]; rfl⟩⟩
      · have e5 : k = X.segs.length := by omega
        have F2 := Lib.hid (show rulesErr T X = 0 by rw [F1.out]; exact fst_none (by rw [← e5]; exact Hn.out))
        have HA := Lib.hid (show ArrI wr (some ⟨w1.heap.size, 0, none⟩) (rulesL T X) (rulesL T X).length from row_arr (ti := 3) (by rw [rulesL_length]; exact HL.out.row) (fun i hi => by rw [rulesL_length] at hi; rw [if_pos (by omega), rulesL_at hi]) (by rw [rulesL_length]; omega))
        clear e5
        go_wp2
        go_ret2
        exact ⟨HW.out, .inr ⟨F2.out, some ⟨w1.heap.size, 0, none⟩, (rulesL T X).length, (by rw [rulesL_length]; rfl), HA.out⟩⟩
  · have d1 : ((checkTrip' T X).2 != 0) = true := by simpa using h1
    have F1 := Lib.hid (show rulesErr T X = (checkTrip' T X).2 by unfold rulesErr; rw [if_pos h1])
    have F2 := Lib.hid h1
    clear h1 BT BX
    go_enter Try.func20, Try.ntmps20
    go_wp2_with fail
    refine (checkTrip_any T X _ _ _ (hT0.keep ((Keep.alloc _ _).trans (Keep.alloc _ _))) (hX0.keep ((Keep.alloc _ _).trans (Keep.alloc _ _)))).mono ?_
    rintro e' w1 ⟨rfl, hb1⟩
    have HW1 := Lib.hid ((((Below.refl _ _).alloc (Nat.le_refl _) _).alloc (by simp) _).trans (hb1.mono (by simp; omega)) : Below w.heap.size w w1)
    clear hb1
    go_wp2_with fail
    go_ret2
    exact ⟨HW1.out, .inl ⟨by rw [F1.out]; exact F2.out, by rw [F1.out]; rfl⟩⟩
end Go.Proofs.Ytbehabaoeicgeaa

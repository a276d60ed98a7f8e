/- The rules of a list that hold at a place. -/
import Derived.Test.YtbehabaoeicgeaaW6b
import Derived.Test.YtbehabaoeicgeaaOwn
import Derived.Test.YtbehabaoeicgeaaFs2
import Derived.Test.YtbehabaoeicgeaaWQ
namespace Go.Proofs.Ytbehabaoeicgeaa
open Go.RowKit Fs

theorem Try.infoInt' : (Try.prog.info? 3).map (fun i => (i.zero, i.size, i.bytes)) = some (some (.int .i64 0), 1, 8) := by kernel_rfl
theorem own_below {w w' : World} {base : Nat} {e : TypeId} {size : Nat} {v : Value} {n : Nat} {xs : List Value} (h : w.ownsRow base e size v n xs) (hb : Below w.heap.size w w') : w'.ownsRow base e size v n xs := by
  obtain ⟨h0, h1⟩ := h
  refine ⟨h0, ?_⟩
  rcases h1 with h1 | ⟨g, cap, cur, hv, hg, hh, hr⟩
  · exact .inl h1
  · refine .inr ⟨g, cap, cur, hv, hg, ?_, hr⟩
    have hlt : g < w.heap.size := by
      rcases Nat.lt_or_ge g w.heap.size with hlt | hge
      · exact hlt
      · rw [Array.getElem?_eq_none hge] at hh; cases hh
    rw [hb.block g hlt]
    exact hh

set_option maxHeartbeats 1600000 in
set_option maxRecDepth 100000 in
theorem rulesThere_any (T : Tar) (v : Value) (l : List Int) (A : Option Addr) (c : Nat) (zz d t : Int) (w : World) (hT : RdTar w v T) (hl : ArrI w A l c) (hr0 : Hid (∀ k, k < l.length → 0 ≤ listI l k ∧ listI l k < T.rules.length)) (hn : l.length ≤ 1000000) :
    Calls Try.prog 29 #[v, .slice A l.length c, .agg #[.int .i64 zz, .int .i64 d, .int .i64 t]] w fun e w' => ∃ A' c', e = .returned (.slice A' (rThere T l zz t).length c') ∧ ArrI w' A' (rThere T l zz t) c' ∧ Below w.heap.size w w' := by
  obtain ⟨z, h, r, e, f, zc, hc, rc, ec, fc, a, rfl, m⟩ := hT
  have hr := m.rules
  have b1 := hr.le.1
  have b2 := hr.le.2
  have b3 := hl.le.1
  have b4 := hl.le.2
  clear m
  obtain ⟨i0', hi, hz0, hz1, hz2⟩ := info_parts Try.infoInt'
  have BT := Lib.hid ((BoxT.new w T z h r e f zc hc rc ec fc 28).keep (Keep.alloc _ (.cells #[.int .i64 zz, .int .i64 d, .int .i64 t] 53)))
  go_enter Try.func29, Try.ntmps29
  go_wp2_with fail
  go_loopw [7, 12] (fun s u wr => ∃ k : Nat, k ≤ l.length ∧ u = .int .i64 k ∧ Hid (wr.ownsRow (w.heap.size + 1 + 1) 3 1 s (thereTo T l zz t k).length (intVals (thereTo T l zz t k))) ∧ Hid (Below (w.heap.size + 1 + 1) ((w.alloc (.cells #[.string T.name, .int .i64 T.unit, .int .i64 T.step, .slice z T.zones.length zc, .slice h T.hols.length hc, .slice r T.rules.length rc, .slice e T.extras.length ec, .slice f T.fixed.length fc] 28)).alloc (.cells #[.int .i64 zz, .int .i64 d, .int .i64 t] 53)) wr)) (fun _ u _ => l.length - (intOf u).toNat)
  case atStart => exact ⟨0, Nat.zero_le _, rfl, World.ownsRow_nil _ _ _ _, Below.refl _ _⟩
  case round =>
    obtain ⟨k, hk, rfl, HO, HB⟩ := hrel
    by_cases hlt : k < l.length
    · have hkw : Keep w wr := Keep.upto ((Keep.alloc _ _).trans (Keep.alloc _ _)) (by omega) HB.out
      have hrr := hr.keep hkw
      have hlr := hl.keep hkw
      obtain ⟨n, hnn⟩ : ∃ n : Nat, listI l k = n := ⟨(listI l k).toNat, by have := (hr0.out k hlt).1; omega⟩
      have hn1 : n < T.rules.length := by have := (hr0.out k hlt).2; omega
      obtain ⟨bl, ol, rfl, lc⟩ := hlr.at_ hlt
      rw [hnn] at lc
      obtain ⟨b, o, rfl, q⟩ := hrr.at_ hn1
      obtain ⟨c0, c1, c2, c3, c4, c5, c6, c7, c8, c9⟩ := q
      have HZ := Lib.hid (hrr.2 n hn1).1
      have HN := Lib.hid hnn
      clear hnn hkw
      have i0 : (0 : Int) ≤ (n : Int) := by omega
      have i1 : (n : Int) < (T.rules.length : Int) := by omega
      have t5 : wr.cell? ⟨w.heap.size, 5, none⟩ = some (.slice (some ⟨b, o, none⟩) T.rules.length rc) := (HB.out.cell (p := ⟨w.heap.size, 5, none⟩) (by simp; omega)).trans BT.out.c5
      have p0 : wr.cell? ⟨w.heap.size + 1, 0, none⟩ = some (.int .i64 zz) := (HB.out.cell (p := ⟨w.heap.size + 1, 0, none⟩) (by simp)).trans (cellNew1 _ _ _ _ _)
      have p2 : wr.cell? ⟨w.heap.size + 1, 2, none⟩ = some (.int .i64 t) := (HB.out.cell (p := ⟨w.heap.size + 1, 2, none⟩) (by simp)).trans (cellNew1 _ _ _ _ _)
      have hws : w.heap.size + 1 + 1 ≤ wr.heap.size := by have := HB.out.size; simp at this; omega
      have HBB : Hid (Below wr.heap.size wr wr.drew) := Lib.hid (Below.refl _ _).drew
      obtain ⟨C, Ci, Co⟩ : ∃ C : World → Prop, Hid (∀ w', C w' → (w'.cell? ⟨w.heap.size, 5, none⟩ = some (.slice (some ⟨b, o, none⟩) T.rules.length rc) ∧ w'.cell? ⟨b, o + n * 10, none⟩ = some (.string (listR T.rules n).name) ∧ w'.cell? ⟨b, o + n * 10 + 1, none⟩ = some (.int .i64 (listR T.rules n).lo) ∧ w'.cell? ⟨b, o + n * 10 + 2, none⟩ = some (.int .i64 (listR T.rules n).hi) ∧ w'.cell? ⟨b, o + n * 10 + 3, none⟩ = some (.slice (a.z n) (listR T.rules n).zones.length (a.zc n)) ∧ w'.cell? ⟨b, o + n * 10 + 4, none⟩ = some (.slice (a.d n) (listR T.rules n).days.length (a.dc n)) ∧ w'.cell? ⟨b, o + n * 10 + 5, none⟩ = some (.int .i64 (listR T.rules n).beg) ∧ w'.cell? ⟨b, o + n * 10 + 6, none⟩ = some (.int .i64 (listR T.rules n).fin) ∧ w'.cell? ⟨b, o + n * 10 + 7, none⟩ = some (.int .i64 (listR T.rules n).start) ∧ w'.cell? ⟨b, o + n * 10 + 8, none⟩ = some (.int .i64 (listR T.rules n).metre) ∧ w'.cell? ⟨b, o + n * 10 + 9, none⟩ = some (.int .i64 (listR T.rules n).second) ∧ w'.cell? ⟨w.heap.size + 1, 0, none⟩ = some (.int .i64 zz) ∧ w'.cell? ⟨w.heap.size + 1, 2, none⟩ = some (.int .i64 t) ∧ Hid (ArrI w' (a.z n) (listR T.rules n).zones (a.zc n)) ∧ Hid (Below wr.heap.size wr w'))) ∧ Hid (∀ w', (w'.cell? ⟨w.heap.size, 5, none⟩ = some (.slice (some ⟨b, o, none⟩) T.rules.length rc) ∧ w'.cell? ⟨b, o + n * 10, none⟩ = some (.string (listR T.rules n).name) ∧ w'.cell? ⟨b, o + n * 10 + 1, none⟩ = some (.int .i64 (listR T.rules n).lo) ∧ w'.cell? ⟨b, o + n * 10 + 2, none⟩ = some (.int .i64 (listR T.rules n).hi) ∧ w'.cell? ⟨b, o + n * 10 + 3, none⟩ = some (.slice (a.z n) (listR T.rules n).zones.length (a.zc n)) ∧ w'.cell? ⟨b, o + n * 10 + 4, none⟩ = some (.slice (a.d n) (listR T.rules n).days.length (a.dc n)) ∧ w'.cell? ⟨b, o + n * 10 + 5, none⟩ = some (.int .i64 (listR T.rules n).beg) ∧ w'.cell? ⟨b, o + n * 10 + 6, none⟩ = some (.int .i64 (listR T.rules n).fin) ∧ w'.cell? ⟨b, o + n * 10 + 7, none⟩ = some (.int .i64 (listR T.rules n).start) ∧ w'.cell? ⟨b, o + n * 10 + 8, none⟩ = some (.int .i64 (listR T.rules n).metre) ∧ w'.cell? ⟨b, o + n * 10 + 9, none⟩ = some (.int .i64 (listR T.rules n).second) ∧ w'.cell? ⟨w.heap.size + 1, 0, none⟩ = some (.int .i64 zz) ∧ w'.cell? ⟨w.heap.size + 1, 2, none⟩ = some (.int .i64 t) ∧ Hid (ArrI w' (a.z n) (listR T.rules n).zones (a.zc n)) ∧ Hid (Below wr.heap.size wr w')) → C w') := ⟨_, Lib.hid (fun _ h => h), Lib.hid (fun _ h => h)⟩
      have hC0 : C wr.drew := Co.out _ ⟨t5, c0, c1, c2, c3, c4, c5, c6, c7, c8, c9, p0, p2, HZ, HBB⟩
      clear HBB c0 c1 c2 c3 c4 c6 c7 c8 c9 p0 p2 HZ c5
      cases hx : inHours (listR T.rules n) t with
      | true =>
        have X1 := Lib.hid hx
        clear hx
        cases hy : (listR T.rules n).zones.contains zz with
        | true =>
          have X2 := Lib.hid hy
          clear hy
          go_wp2_with fail
          refine quietC (C := C) (by kernel_rfl) (by kernel_rfl) hC0 ?_
          clear t5
          repeat (first
            | go_big_quiet_skip
            | (go_big_quiet_want; go_big_quiet_op; go_big_quiet_on)
            | (refine quiet_yes (by rfl) ?_
               apply Exists.intro
               refine ⟨fun w' hC => ?_, ?_⟩
               · obtain ⟨t5, c0, c1, c2, c3, c4, c5, c6, c7, c8, c9, p0, p2, hz, hbb⟩ := Ci.out _ hC
                 go_simp
                 first
                   | done
                   | rfl
                   | (go_at_call 44
                      refine (inHours_any (listR T.rules n) _ _ _ _ _ _).mono ?_
                      rintro e' w1 ⟨rfl, hb1⟩
                      rw [X1.out]
                      exact ⟨rfl, Co.out _ ⟨Keep.below hb1 _ _ t5, Keep.below hb1 _ _ c0, Keep.below hb1 _ _ c1, Keep.below hb1 _ _ c2, Keep.below hb1 _ _ c3, Keep.below hb1 _ _ c4, Keep.below hb1 _ _ c5, Keep.below hb1 _ _ c6, Keep.below hb1 _ _ c7, Keep.below hb1 _ _ c8, Keep.below hb1 _ _ c9, Keep.below hb1 _ _ p0, Keep.below hb1 _ _ p2, Lib.hid (ArrI.keep (Keep.below hb1) hz.out), Lib.hid (Below.trans hbb.out (hb1.mono hbb.out.size))⟩⟩)
                   | (go_at_call 45
                      refine (contains_any (listR T.rules n).zones _ _ _ _ hz.out).mono ?_
                      rintro e' w1 ⟨rfl, rfl⟩
                      rw [X2.out]
                      exact ⟨rfl, hC⟩)
               simp only [Act.put, List.setIfInBounds_toArray, List.set_cons_zero, List.set_cons_succ]))
          refine wpQuiet_nil ?_
          intro w1 hC1
          obtain ⟨-, -, -, -, -, -, -, -, -, -, -, -, -, -, hbb⟩ := Ci.out _ hC1
          have HO1 := Lib.hid (own_below HO.out hbb.out)
          have HB1 := Lib.hid (HB.out.trans (hbb.out.mono hws))
          have hs1 : wr.heap.size ≤ w1.heap.size := hbb.out.size
          have F := Lib.hid (thereTo_yes (T := T) (l := l) (z := zz) (t := t) (n := k) (by rw [HN.out]; unfold there; simp only [Int.toNat_natCast]; rw [X1.out, X2.out]; rfl))
          have hle := thereTo_le T l zz t k
          go_wp2_with (at_builtin; refine wpList_append_own _ rfl (.tmp 36) (.tmp 38) 23 rfl (w.heap.size + 1 + 1) 3 i0' (.int .i64 0) 1 8 Try.underlying23 hi hz0 hz1 hz2 rfl (by decide) _ _ _ rfl (HO1.out.alloc _) ⟨w1.heap.size, 0, none⟩ 1 1 [.int .i64 (n : Int)] rfl rfl ?c1 ?c2 ?c3 ?c4 ?c5 ?_)
          case c1 => exact news0 _ _ _
          case c2 => exact oneInt _
          case c3 => unfold maxLen; omega
          case c4 => omega
          case c5 => simp; omega
          intro v2 w2 hown2 hg2 _
          have HB2 := Lib.hid ((HB1.out.alloc (by omega) _).grown hg2 (by simp; omega) (fun j hj => (HO1.out.lt j hj).1))
          have HO2 : Hid (w2.ownsRow (w.heap.size + 1 + 1) 3 1 v2 (thereTo T l zz t (k + 1)).length (intVals (thereTo T l zz t (k + 1)))) := by
            rw [F.out, HN.out, intVals_snoc, List.length_append]
            exact hown2
          clear hown2 hg2
          go_wp2
          go_roundw
          case rel => exact ⟨k + 1, by omega, by go_num, HO2, HB2⟩
          case measure => simp [intOf]; omega
        | false =>
          have X2 := Lib.hid hy
          clear hy
          go_wp2_with fail
          refine quietC (C := C) (by kernel_rfl) (by kernel_rfl) hC0 ?_
          clear t5
          repeat (first
            | go_big_quiet_skip
            | (go_big_quiet_want; go_big_quiet_op; go_big_quiet_on)
            | (refine quiet_yes (by rfl) ?_
               apply Exists.intro
               refine ⟨fun w' hC => ?_, ?_⟩
               · obtain ⟨t5, c0, c1, c2, c3, c4, c5, c6, c7, c8, c9, p0, p2, hz, hbb⟩ := Ci.out _ hC
                 go_simp
                 first
                   | done
                   | rfl
                   | (go_at_call 44
                      refine (inHours_any (listR T.rules n) _ _ _ _ _ _).mono ?_
                      rintro e' w1 ⟨rfl, hb1⟩
                      rw [X1.out]
                      exact ⟨rfl, Co.out _ ⟨Keep.below hb1 _ _ t5, Keep.below hb1 _ _ c0, Keep.below hb1 _ _ c1, Keep.below hb1 _ _ c2, Keep.below hb1 _ _ c3, Keep.below hb1 _ _ c4, Keep.below hb1 _ _ c5, Keep.below hb1 _ _ c6, Keep.below hb1 _ _ c7, Keep.below hb1 _ _ c8, Keep.below hb1 _ _ c9, Keep.below hb1 _ _ p0, Keep.below hb1 _ _ p2, Lib.hid (ArrI.keep (Keep.below hb1) hz.out), Lib.hid (Below.trans hbb.out (hb1.mono hbb.out.size))⟩⟩)
                   | (go_at_call 45
                      refine (contains_any (listR T.rules n).zones _ _ _ _ hz.out).mono ?_
                      rintro e' w1 ⟨rfl, rfl⟩
                      rw [X2.out]
                      exact ⟨rfl, hC⟩)
               simp only [Act.put, List.setIfInBounds_toArray, List.set_cons_zero, List.set_cons_succ]))
          refine wpQuiet_nil ?_
          intro w1 hC1
          obtain ⟨-, -, -, -, -, -, -, -, -, -, -, -, -, -, hbb⟩ := Ci.out _ hC1
          have HO1 := Lib.hid (own_below HO.out hbb.out)
          have HB1 := Lib.hid (HB.out.trans (hbb.out.mono hws))
          have F := Lib.hid (thereTo_no (T := T) (l := l) (z := zz) (t := t) (n := k) (by rw [HN.out]; unfold there; simp only [Int.toNat_natCast]; rw [X1.out, X2.out]; rfl))
          go_wp2
          go_roundw
          case rel => exact ⟨k + 1, by omega, by go_num, by rw [F.out]; exact HO1, HB1⟩
          case measure => simp [intOf]; omega
      | false =>
        have X1 := Lib.hid hx
        clear hx
        have F := Lib.hid (thereTo_no (T := T) (l := l) (z := zz) (t := t) (n := k) (by rw [HN.out]; unfold there; simp only [Int.toNat_natCast]; rw [X1.out]; rfl))
        go_wp2_with fail
        refine quietC (C := C) (by kernel_rfl) (by kernel_rfl) hC0 ?_
        clear t5
        repeat (first
          | go_big_quiet_skip
          | (go_big_quiet_want; go_big_quiet_op; go_big_quiet_on)
          | (refine quiet_yes (by rfl) ?_
             apply Exists.intro
             refine ⟨fun w' hC => ?_, ?_⟩
             · obtain ⟨t5, c0, c1, c2, c3, c4, c5, c6, c7, c8, c9, p0, p2, hz, hbb⟩ := Ci.out _ hC
               go_simp
               first
                 | done
                 | rfl
                 | (go_at_call 44
                    refine (inHours_any (listR T.rules n) _ _ _ _ _ _).mono ?_
                    rintro e' w1 ⟨rfl, hb1⟩
                    rw [X1.out]
                    exact ⟨rfl, Co.out _ ⟨Keep.below hb1 _ _ t5, Keep.below hb1 _ _ c0, Keep.below hb1 _ _ c1, Keep.below hb1 _ _ c2, Keep.below hb1 _ _ c3, Keep.below hb1 _ _ c4, Keep.below hb1 _ _ c5, Keep.below hb1 _ _ c6, Keep.below hb1 _ _ c7, Keep.below hb1 _ _ c8, Keep.below hb1 _ _ c9, Keep.below hb1 _ _ p0, Keep.below hb1 _ _ p2, Lib.hid (ArrI.keep (Keep.below hb1) hz.out), Lib.hid (Below.trans hbb.out (hb1.mono hbb.out.size))⟩⟩)
             simp only [Act.put, List.setIfInBounds_toArray, List.set_cons_zero, List.set_cons_succ]))
        refine wpQuiet_nil ?_
        intro w1 hC1
        obtain ⟨-, -, -, -, -, -, -, -, -, -, -, -, -, -, hbb⟩ := Ci.out _ hC1
        have HO1 := Lib.hid (own_below HO.out hbb.out)
        have HB1 := Lib.hid (HB.out.trans (hbb.out.mono hws))
        go_wp2
        go_roundw
        case rel => exact ⟨k + 1, by omega, by go_num, by rw [F.out]; exact HO1, HB1⟩
        case measure => simp [intOf]; omega
    · have e5 : k = l.length := by omega
      have HO' : Hid (wr.ownsRow (w.heap.size + 1 + 1) 3 1 u7 (rThere T l zz t).length (intVals (rThere T l zz t))) := by unfold rThere; rw [← e5]; exact HO
      clear e5
      have HW := Lib.hid ((((Below.refl _ _).alloc (Nat.le_refl _) _).alloc (by simp) _).trans (HB.out.mono (by omega)) : Below w.heap.size w wr)
      go_wp2
      obtain ⟨A', c', hv, ha⟩ := own_arr HO'.out
      subst hv
      go_ret
      exact ⟨A', c', rfl, ha, HW.out⟩
end Go.Proofs.Ytbehabaoeicgeaa

/- Proofs: the reference's BestFor. Conditions: the things are right. -/
import Derived.Test.YtfjdnbnalihjiaaGreatDoorG17
import Derived.BigRegion
import Derived.Deep.CutBlock
namespace Go.Proofs.YtfjdnbnalihjiaaGreatDoor
open Go.RowKit Fs

theorem ThgAt.drew {w : World} {b o : Nat} {x : Thg} {p : Option Addr} {pc : Nat} (m : ThgAt w b o x p pc) : ThgAt w.drew b o x p pc := ⟨m.c0, m.c1, m.c2, m.c3⟩
theorem Fs.candTo_in {l : List Thg} {x : Thg} : ∀ n, ∀ j, j < (candTo l x n).length → 0 ≤ listI (candTo l x n) j ∧ listI (candTo l x n) j < n
  | 0, j, hj => absurd hj (Nat.not_lt_zero _)
  | n + 1, j, hj => by
    unfold candTo at hj ⊢
    by_cases h : canBe (lThg l n) x = true
    · rw [if_pos h] at hj ⊢
      rw [List.length_append, List.length_singleton] at hj
      by_cases e : j < (candTo l x n).length
      · have := candTo_in n j e
        rw [show listI (candTo l x n ++ [(n : Int)]) j = listI (candTo l x n) j by unfold listI; rw [List.getD_eq_getElem?_getD, List.getD_eq_getElem?_getD, List.getElem?_append_left e]]
        omega
      · obtain rfl : j = (candTo l x n).length := by omega
        rw [show listI (candTo l x n ++ [(n : Int)]) (candTo l x n).length = n by unfold listI; rw [List.getD_eq_getElem?_getD, List.getElem?_append_right (Nat.le_refl _), Nat.sub_self]; rfl]
        omega
    · rw [if_neg h] at hj ⊢
      have := candTo_in n j hj
      omega
theorem Fs.cands_in {l : List Thg} {x : Thg} {j : Nat} (hj : j < (cands l x).length) : ∃ i : Nat, i < l.length ∧ listI (cands l x) j = i := by
  have := candTo_in (l := l) (x := x) l.length j hj
  exact ⟨(listI (cands l x) j).toNat, by unfold cands; omega, by unfold cands; omega⟩
theorem Fs.bst_in {l : List Thg} {x : Thg} : ∀ {k : Nat}, k < (cands l x).length → ∃ i : Nat, i < l.length ∧ bstTo l x (cands l x) k = i
  | 0, h => cands_in h
  | k + 1, h => by
    rw [bstTo]
    split
    · exact cands_in h
    · exact bst_in (by omega)
set_option linter.unusedSimpArgs false in
set_option maxHeartbeats 12800000 in
set_option maxRecDepth 100000 in
theorem rBestFor_any (l : List Thg) (x : Thg) (A : Option Addr) (c : Nat) (a : GA) (v : Value) (w : World) (h : ArrTh w A l c a) (hv : RdThg w v x) (hk : ∀ i, i < l.length → ThgOk (lThg l i)) (hx : ThgOk x) (hl : l.length ≤ 1000) :
    Calls Tryz.prog 37 #[.slice A l.length c, v] w fun e w' => e = .returned (.tuple #[.int .i64 (best l x), .bool (decide ((cands l x).length ≠ 0))]) ∧ Below w.heap.size w w' := by
  obtain ⟨p, pc, rfl, m⟩ := hv
  have b1 := h.le.1
  have b2 := h.le.2
  have BX := Lib.hid (ThgAt.new w x p pc 26)
  have HA := Lib.hid h
  have M := Lib.hid m
  have HK := Lib.hid hk
  have HX := Lib.hid hx
  clear h m hk hx
  go_enter Tryz.func37, Tryz.ntmps37
  go_upto_region 1 with fail
  generalize hwb : w.alloc _ = wb at *
  have HW : Hid (Below w.heap.size w wb) := by rw [← hwb]; exact Lib.hid ((Below.refl _ _).alloc (Nat.le_refl _) _)
  clear hwb
  obtain ⟨q0, q1, q2, q3⟩ := BX.out
  go_wp2_with fail
  refine (rCandidates_any l x A c a _ _ (HA.out.keep (Keep.below HW.out)) ⟨_, _, rfl, M.out.keep (Keep.below HW.out)⟩ HK.out HX.out hl).mono ?_
  rintro e' w1 ⟨⟨A1, c1, rfl, h1⟩, hb1⟩
  have H1 := Lib.hid h1
  have hc1 := h1.le.1
  have hc2 := h1.le.2
  replace HW := Lib.hid (HW.out.trans (hb1.mono HW.out.size))
  replace BX := Lib.hid (BX.out.keep (Keep.below hb1))
  clear hb1 h1 q0 q1 q2 q3
  by_cases h0 : (cands l x).length = 0
  · have F := Lib.hid (show best l x = 0 from if_pos h0)
    have G := Lib.hid (show decide ((cands l x).length ≠ 0) = false from decide_eq_false (fun hh => hh h0))
    have e1 : (((cands l x).length : Int) == 0) = true := by rw [h0]; rfl
    clear h0
    go_wp2_with fail
    go_ret2
    exact ⟨by rw [F.out, G.out]; rfl, HW.out⟩
  · have F := Lib.hid (show best l x = bstTo l x (cands l x) ((cands l x).length - 1) from if_neg h0)
    have G := Lib.hid (show decide ((cands l x).length ≠ 0) = true from decide_eq_true h0)
    have e1 : (((cands l x).length : Int) == 0) = false := by simpa using h0
    have hpos : 0 < (cands l x).length := by omega
    have hpi : (0 : Int) < ((cands l x).length : Int) := by omega
    clear h0
    obtain ⟨g1, o1, e1', z0⟩ := H1.out.at_ (k := 0) hpos
    subst e1'
    have Z0 : w1.cell? ⟨g1, o1, none⟩ = some (.int .i64 (bstTo l x (cands l x) 0)) := by simpa [bstTo] using z0
    clear z0
    go_wp2_with fail
    go_loopw [7, 8] (fun b i wr => ∃ k : Nat, 1 ≤ k ∧ k ≤ (cands l x).length ∧ i = .int .i64 k ∧ b = .int .i64 (bstTo l x (cands l x) (k - 1)) ∧ Hid (Below w1.heap.size w1 wr)) (fun _ i _ => (cands l x).length - (intOf i).toNat)
    case atStart => exact ⟨1, Nat.le_refl _, hpos, rfl, rfl, Lib.hid (Below.refl _ _)⟩
    case round =>
      clear Z0
      obtain ⟨k, hk1, hk, rfl, rfl, HB⟩ := hrel
      by_cases hlt : k < (cands l x).length
      · have hkn : (k : Int) < ((cands l x).length : Int) := by omega
        have d1 : decide ((k : Int) < ((cands l x).length : Int)) = true := decide_eq_true hkn
        obtain ⟨I, hI, eI⟩ := cands_in hlt
        obtain ⟨b', hb', eB⟩ := bst_in (l := l) (x := x) (k := k - 1) (by omega)
        have HW2 := Lib.hid (HW.out.trans (HB.out.mono HW.out.size))
        obtain ⟨g1', o1', e2', z1⟩ := (H1.out.keep (Keep.below HB.out)).at_ hlt
        obtain ⟨rfl, rfl⟩ : g1 = g1' ∧ o1 = o1' := by simpa using e2'
        clear e2'
        obtain ⟨g, o, rfl, ⟨i0, i1, i2, i3⟩, ⟨j0, j1, j2, j3⟩⟩ := (HA.out.keep (Keep.below HW2.out)).two hI hb'
        have EI := Lib.hid eI
        have EB := Lib.hid eB
        rw [eI] at z1
        rw [eB]
        clear eI eB
        have hIn : (I : Int) < (l.length : Int) := by omega
        have hbn : (b' : Int) < (l.length : Int) := by omega
        go_wp2_with fail
        go_cut [9, 10] from 28 to 38 (fun s t wx => ∃ g3 g4 : Nat, s = .pointer (some ⟨g3, 0, none⟩) ∧ t = .pointer (some ⟨g4, 0, none⟩) ∧ Hid (ThgAt wx g3 0 (lThg l I) (a.p I) (a.pc I)) ∧ Hid (ThgAt wx g4 0 (lThg l b') (a.p b') (a.pc b')) ∧ Hid (Below wr.heap.size wr wx))
        case first =>
          have ia0 := fun Z => Keep.alloc wr Z _ _ i0
          have ib0 := fun Z Y => Keep.alloc (wr.alloc Z) Y _ _ (ia0 Z)
          have ia1 := fun Z => Keep.alloc wr Z _ _ i1
          have ib1 := fun Z Y => Keep.alloc (wr.alloc Z) Y _ _ (ia1 Z)
          have ia2 := fun Z => Keep.alloc wr Z _ _ i2
          have ib2 := fun Z Y => Keep.alloc (wr.alloc Z) Y _ _ (ia2 Z)
          have ia3 := fun Z => Keep.alloc wr Z _ _ i3
          have ib3 := fun Z Y => Keep.alloc (wr.alloc Z) Y _ _ (ia3 Z)
          have ja0 := fun Z => Keep.alloc wr Z _ _ j0
          have jb0 := fun Z Y => Keep.alloc (wr.alloc Z) Y _ _ (ja0 Z)
          have ja1 := fun Z => Keep.alloc wr Z _ _ j1
          have jb1 := fun Z Y => Keep.alloc (wr.alloc Z) Y _ _ (ja1 Z)
          have ja2 := fun Z => Keep.alloc wr Z _ _ j2
          have jb2 := fun Z Y => Keep.alloc (wr.alloc Z) Y _ _ (ja2 Z)
          have ja3 := fun Z => Keep.alloc wr Z _ _ j3
          have jb3 := fun Z Y => Keep.alloc (wr.alloc Z) Y _ _ (ja3 Z)
          have za := fun Z => Keep.alloc wr Z _ _ z1
          have zb := fun Z Y => Keep.alloc (wr.alloc Z) Y _ _ (za Z)
          have hgl : g < wr.heap.size := World.block_lt_of_cell? wr _ i0
          have hg1 : (g = wr.heap.size) = False := eq_false (by omega)
          have hg2 : (wr.heap.size = g) = False := eq_false (by omega)
          have hg3 : (g = wr.heap.size + 1) = False := eq_false (by omega)
          have hg4 : (wr.heap.size + 1 = g) = False := eq_false (by omega)
          clear hgl
          go_region
          all_goals
            go_wp2_with fail
            go_meet
            first
              | exact ⟨_, _, rfl, rfl, Lib.hid (((ThgAt.new _ _ _ _ _).keep (Keep.alloc _ _)).drew), Lib.hid (ThgAt.drew ⟨cellNew1 _ _ _ _ 0, cellNew1 _ _ _ _ 1, cellNew1 _ _ _ _ 2, cellNew1 _ _ _ _ 3⟩), Lib.hid ((((Below.refl _ _).alloc (Nat.le_refl _) _).alloc (by simp) _).drew)⟩
              | exact ⟨_, _, rfl, rfl, Lib.hid (ThgAt.drew ⟨cellNew1 _ _ _ _ 0, cellNew1 _ _ _ _ 1, cellNew1 _ _ _ _ 2, cellNew1 _ _ _ _ 3⟩), Lib.hid (((ThgAt.new _ _ _ _ _).keep (Keep.alloc _ _)).drew), Lib.hid ((((Below.refl _ _).alloc (Nat.le_refl _) _).alloc (by simp) _).drew)⟩
        case rest =>
          obtain ⟨g3, g4, rfl, rfl, T3, T4, HC⟩ := hcut
          have HT := Lib.hid (HW2.out.trans (HC.out.mono HW2.out.size))
          have HBC := Lib.hid (HB.out.trans (HC.out.mono HB.out.size))
          clear z1 i0 i1 i2 i3 j0 j1 j2 j3
          obtain ⟨q0, q1, q2, q3⟩ := BX.out.keep (Keep.below HBC.out)
          obtain ⟨a0, a1, a2, a3⟩ := T3.out
          obtain ⟨e0, e1q, e2q, e3⟩ := T4.out
          have hm1 := (HK.out I hI).marks
          have hm2 := (HK.out b' hb').marks
          have hm3 := HX.out.marks
          have hd1 := (HK.out I hI).day0
          have hd2 := (HK.out I hI).day1
          have hd3 := (HK.out b' hb').day0
          have hd4 := (HK.out b' hb').day1
          have hd5 := HX.out.day0
          have hd6 := HX.out.day1
          have ix : ∀ (u v : Int) (w : World), (Instr.index 42 (.agg #[.int .i64 u, .int .i64 v]) (.int .i64 0)).run Tryz.prog w = .ok (.int .i64 u) w := fun _ _ _ => by kernel_rfl
          go_wp2_with fail
          obtain ⟨C, Ci, Co⟩ := classOf wc
          refine quietC (C := C) (by kernel_rfl) (by kernel_rfl) (Co.out _ (Below.refl _ _).drew) ?_
          repeat (first
            | go_big_quiet_skip
            | (go_big_quiet_want; go_big_quiet_op; go_big_quiet_on)
            | (refine quiet_yes (by rfl) ?_
               apply Exists.intro
               refine ⟨fun w' hC => ?_, ?_⟩
               · have hbb := Ci.out _ hC
                 have zz0 := Keep.below hbb _ _ q0
                 have zz1 := Keep.below hbb _ _ q1
                 have zz2 := Keep.below hbb _ _ q2
                 have zz3 := Keep.below hbb _ _ q3
                 have zz4 := Keep.below hbb _ _ a0
                 have zz5 := Keep.below hbb _ _ a1
                 have zz6 := Keep.below hbb _ _ a2
                 have zz7 := Keep.below hbb _ _ a3
                 have zz8 := Keep.below hbb _ _ e0
                 have zz9 := Keep.below hbb _ _ e1q
                 have zz10 := Keep.below hbb _ _ e2q
                 have zz11 := Keep.below hbb _ _ e3
                 go_simp
                 first
                   | done
                   | rfl
                   | (go_at_call 29
                      have k1 := (HA.out.keep (Keep.below (HT.out.trans (hbb.mono HT.out.size)))).2 I hI
                      have k2 := (HA.out.keep (Keep.below (HT.out.trans (hbb.mono HT.out.size)))).2 b' hb'
                      have k3 := M.out.keep (Keep.below (HT.out.trans (hbb.mono HT.out.size)))
                      refine (rAgreement_any _ _ _ _ _ _ _ (by with_reducible assumption) (by with_reducible assumption) (by omega) (by omega)).mono ?_
                      rintro e' w1 ⟨rfl, hb1⟩
                      exact ⟨rfl, Co.out _ (hbb.trans (hb1.mono hbb.size))⟩)
               simp only [Act.put, List.setIfInBounds_toArray, List.set_cons_zero, List.set_cons_succ]))
          refine wpQuiet_nil ?_
          intro wz hC1
          have hz := Ci.out _ hC1
          have HT9 := Lib.hid (HT.out.trans (hz.mono HT.out.size))
          have HB9 := Lib.hid (HBC.out.trans (hz.mono HBC.out.size))
          have nq0 := Keep.below hz _ _ q0
          have nq1 := Keep.below hz _ _ q1
          have nq2 := Keep.below hz _ _ q2
          have nq3 := Keep.below hz _ _ q3
          have na0 := Keep.below hz _ _ a0
          have na1 := Keep.below hz _ _ a1
          have na2 := Keep.below hz _ _ a2
          have na3 := Keep.below hz _ _ a3
          have ne0 := Keep.below hz _ _ e0
          have ne1q := Keep.below hz _ _ e1q
          have ne2q := Keep.below hz _ _ e2q
          have ne3 := Keep.below hz _ _ e3
          clear q0 q1 q2 q3 a0 a1 a2 a3 e0 e1q e2q e3 HT HBC hC1 hz Ci Co C
          obtain ⟨u, hu⟩ : ∃ u, agrees (lThg l I).marks x.marks = u := ⟨_, rfl⟩
          obtain ⟨v, hv⟩ : ∃ v, agrees (lThg l b').marks x.marks = v := ⟨_, rfl⟩
          obtain ⟨su, hsu⟩ : ∃ s, size ((lThg l I).day - x.day) = s := ⟨_, rfl⟩
          obtain ⟨sv, hsv⟩ : ∃ s, size ((lThg l b').day - x.day) = s := ⟨_, rfl⟩
          have BT := Lib.hid (show better l x I b' = (decide (v < u) || (decide (u = v) && decide (su < sv))) by unfold better; rw [hu, hv, hsu, hsv])
          have HSU := Lib.hid hsu
          have HSV := Lib.hid hsv
          rw [hu, hv]
          clear hu hv hsu hsv
          have hw1 : IntKind.i64.wrap ((lThg l I).day - x.day) = (lThg l I).day - x.day := by rw [IntKind.wrap_i64]; omega
          have hw2 : IntKind.i64.wrap ((lThg l b').day - x.day) = (lThg l b').day - x.day := by rw [IntKind.wrap_i64]; omega
          have HST := Lib.hid (show bstTo l x (cands l x) k = if better l x I b' = true then (I : Int) else (b' : Int) by
            obtain ⟨k', rfl⟩ : ∃ k', k = k' + 1 := ⟨k - 1, by omega⟩
            rw [bstTo, EI.out, show bstTo l x (cands l x) k' = b' from EB.out, Int.toNat_natCast, Int.toNat_natCast])
          by_cases h1 : v < u
          · have BB := Lib.hid (show better l x I b' = true by rw [BT.out, decide_eq_true h1]; rfl)
            have c1 : decide (v < u) = true := decide_eq_true h1
            have c2 : decide (u > v) = true := c1
            clear h1
            go_wp2_with fail
            obtain ⟨C, Ci, Co⟩ := classOf wz
            refine quietC (C := C) (by kernel_rfl) (by kernel_rfl) (Co.out _ (Below.refl _ _).drew) ?_
            repeat (first
              | go_big_quiet_skip
              | (go_big_quiet_want; go_big_quiet_op; go_big_quiet_on)
              | (refine quiet_yes (by rfl) ?_
                 apply Exists.intro
                 refine ⟨fun w' hC => ?_, ?_⟩
                 · have hbb := Ci.out _ hC
                   have zz0 := Keep.below hbb _ _ nq0
                   have zz1 := Keep.below hbb _ _ nq1
                   have zz2 := Keep.below hbb _ _ nq2
                   have zz3 := Keep.below hbb _ _ nq3
                   have zz4 := Keep.below hbb _ _ na0
                   have zz5 := Keep.below hbb _ _ na1
                   have zz6 := Keep.below hbb _ _ na2
                   have zz7 := Keep.below hbb _ _ na3
                   have zz8 := Keep.below hbb _ _ ne0
                   have zz9 := Keep.below hbb _ _ ne1q
                   have zz10 := Keep.below hbb _ _ ne2q
                   have zz11 := Keep.below hbb _ _ ne3
                   go_simp
                   first
                     | done
                     | rfl
                     | (go_at_call 92
                        refine (bSize_any _ _ (by omega) (by omega)).mono ?_
                        rintro e' w1 ⟨rfl, rfl⟩
                        first
                          | rw [HSU.out]
                          | rw [HSV.out]
                        exact ⟨rfl, hC⟩)
                 simp only [Act.put, List.setIfInBounds_toArray, List.set_cons_zero, List.set_cons_succ]))
            refine wpQuiet_nil ?_
            intro wy hC1
            have hz := Ci.out _ hC1
            have HB8 := Lib.hid (HB9.out.trans (hz.mono HB9.out.size))
            clear hC1 Ci Co C hz
            have F2 := Lib.hid (show bstTo l x (cands l x) k = I by rw [HST.out, if_pos BB.out])
            obtain ⟨g9, o9, e9, z9⟩ := (H1.out.keep (Keep.below HB8.out)).at_ hlt
            obtain ⟨rfl, rfl⟩ : g1 = g9 ∧ o1 = o9 := by simpa using e9
            clear e9
            rw [EI.out] at z9
            go_wp2_with fail
            go_roundw
            case rel => exact ⟨k + 1, by omega, by omega, by go_num, by rw [Nat.add_sub_cancel, F2.out], HB8⟩
            case measure => simp [intOf]; omega
          · have c1 : decide (v < u) = false := decide_eq_false h1
            have c2 : decide (u > v) = false := c1
            by_cases h2 : u = v
            · have c3 : (u == v) = true := by simpa using h2
              have c4 : decide (u = v) = true := decide_eq_true h2
              clear h1 h2
              by_cases h3 : su < sv
              · have c5 : decide (su < sv) = true := decide_eq_true h3
                have BB := Lib.hid (show better l x I b' = true by rw [BT.out, c1, c4, c5]; rfl)
                clear h3
                go_wp2_with fail
                obtain ⟨C, Ci, Co⟩ := classOf wz
                refine quietC (C := C) (by kernel_rfl) (by kernel_rfl) (Co.out _ (Below.refl _ _).drew) ?_
                repeat (first
                  | go_big_quiet_skip
                  | (go_big_quiet_want; go_big_quiet_op; go_big_quiet_on)
                  | (refine quiet_yes (by rfl) ?_
                     apply Exists.intro
                     refine ⟨fun w' hC => ?_, ?_⟩
                     · have hbb := Ci.out _ hC
                       have zz0 := Keep.below hbb _ _ nq0
                       have zz1 := Keep.below hbb _ _ nq1
                       have zz2 := Keep.below hbb _ _ nq2
                       have zz3 := Keep.below hbb _ _ nq3
                       have zz4 := Keep.below hbb _ _ na0
                       have zz5 := Keep.below hbb _ _ na1
                       have zz6 := Keep.below hbb _ _ na2
                       have zz7 := Keep.below hbb _ _ na3
                       have zz8 := Keep.below hbb _ _ ne0
                       have zz9 := Keep.below hbb _ _ ne1q
                       have zz10 := Keep.below hbb _ _ ne2q
                       have zz11 := Keep.below hbb _ _ ne3
                       go_simp
                       first
                         | done
                         | rfl
                         | (go_at_call 92
                            refine (bSize_any _ _ (by omega) (by omega)).mono ?_
                            rintro e' w1 ⟨rfl, rfl⟩
                            first
                              | rw [HSU.out]
                              | rw [HSV.out]
                            exact ⟨rfl, hC⟩)
                     simp only [Act.put, List.setIfInBounds_toArray, List.set_cons_zero, List.set_cons_succ]))
                refine wpQuiet_nil ?_
                intro wy hC1
                have hz := Ci.out _ hC1
                have HB8 := Lib.hid (HB9.out.trans (hz.mono HB9.out.size))
                clear hC1 Ci Co C hz
                have F2 := Lib.hid (show bstTo l x (cands l x) k = I by rw [HST.out, if_pos BB.out])
                obtain ⟨g9, o9, e9, z9⟩ := (H1.out.keep (Keep.below HB8.out)).at_ hlt
                obtain ⟨rfl, rfl⟩ : g1 = g9 ∧ o1 = o9 := by simpa using e9
                clear e9
                rw [EI.out] at z9
                go_wp2_with fail
                go_roundw
                case rel => exact ⟨k + 1, by omega, by omega, by go_num, by rw [Nat.add_sub_cancel, F2.out], HB8⟩
                case measure => simp [intOf]; omega
              · have c5 : decide (su < sv) = false := decide_eq_false h3
                have BB := Lib.hid (show better l x I b' = false by rw [BT.out, c1, c4, c5]; rfl)
                clear h3
                go_wp2_with fail
                obtain ⟨C, Ci, Co⟩ := classOf wz
                refine quietC (C := C) (by kernel_rfl) (by kernel_rfl) (Co.out _ (Below.refl _ _).drew) ?_
                repeat (first
                  | go_big_quiet_skip
                  | (go_big_quiet_want; go_big_quiet_op; go_big_quiet_on)
                  | (refine quiet_yes (by rfl) ?_
                     apply Exists.intro
                     refine ⟨fun w' hC => ?_, ?_⟩
                     · have hbb := Ci.out _ hC
                       have zz0 := Keep.below hbb _ _ nq0
                       have zz1 := Keep.below hbb _ _ nq1
                       have zz2 := Keep.below hbb _ _ nq2
                       have zz3 := Keep.below hbb _ _ nq3
                       have zz4 := Keep.below hbb _ _ na0
                       have zz5 := Keep.below hbb _ _ na1
                       have zz6 := Keep.below hbb _ _ na2
                       have zz7 := Keep.below hbb _ _ na3
                       have zz8 := Keep.below hbb _ _ ne0
                       have zz9 := Keep.below hbb _ _ ne1q
                       have zz10 := Keep.below hbb _ _ ne2q
                       have zz11 := Keep.below hbb _ _ ne3
                       go_simp
                       first
                         | done
                         | rfl
                         | (go_at_call 92
                            refine (bSize_any _ _ (by omega) (by omega)).mono ?_
                            rintro e' w1 ⟨rfl, rfl⟩
                            first
                              | rw [HSU.out]
                              | rw [HSV.out]
                            exact ⟨rfl, hC⟩)
                     simp only [Act.put, List.setIfInBounds_toArray, List.set_cons_zero, List.set_cons_succ]))
                refine wpQuiet_nil ?_
                intro wy hC1
                have hz := Ci.out _ hC1
                have HB8 := Lib.hid (HB9.out.trans (hz.mono HB9.out.size))
                clear hC1 Ci Co C hz
                have F2 := Lib.hid (show bstTo l x (cands l x) k = b' by rw [HST.out, if_neg (by rw [BB.out]; decide)])
                go_wp2_with fail
                go_roundw
                case rel => exact ⟨k + 1, by omega, by omega, by go_num, by rw [Nat.add_sub_cancel, F2.out], HB8⟩
                case measure => simp [intOf]; omega
            · have c3 : (u == v) = false := by simpa using h2
              have BB := Lib.hid (show better l x I b' = false by rw [BT.out, c1, decide_eq_false h2]; rfl)
              clear h1 h2
              go_wp2_with fail
              obtain ⟨C, Ci, Co⟩ := classOf wz
              refine quietC (C := C) (by kernel_rfl) (by kernel_rfl) (Co.out _ (Below.refl _ _).drew) ?_
              repeat (first
                | go_big_quiet_skip
                | (go_big_quiet_want; go_big_quiet_op; go_big_quiet_on)
                | (refine quiet_yes (by rfl) ?_
                   apply Exists.intro
                   refine ⟨fun w' hC => ?_, ?_⟩
                   · have hbb := Ci.out _ hC
                     have zz0 := Keep.below hbb _ _ nq0
                     have zz1 := Keep.below hbb _ _ nq1
                     have zz2 := Keep.below hbb _ _ nq2
                     have zz3 := Keep.below hbb _ _ nq3
                     have zz4 := Keep.below hbb _ _ na0
                     have zz5 := Keep.below hbb _ _ na1
                     have zz6 := Keep.below hbb _ _ na2
                     have zz7 := Keep.below hbb _ _ na3
                     have zz8 := Keep.below hbb _ _ ne0
                     have zz9 := Keep.below hbb _ _ ne1q
                     have zz10 := Keep.below hbb _ _ ne2q
                     have zz11 := Keep.below hbb _ _ ne3
                     go_simp
                     first
                       | done
                       | rfl
                       | (go_at_call 92
                          refine (bSize_any _ _ (by omega) (by omega)).mono ?_
                          rintro e' w1 ⟨rfl, rfl⟩
                          first
                            | rw [HSU.out]
                            | rw [HSV.out]
                          exact ⟨rfl, hC⟩)
                   simp only [Act.put, List.setIfInBounds_toArray, List.set_cons_zero, List.set_cons_succ]))
              refine wpQuiet_nil ?_
              intro wy hC1
              have hz := Ci.out _ hC1
              have HB8 := Lib.hid (HB9.out.trans (hz.mono HB9.out.size))
              clear hC1 Ci Co C hz
              have F2 := Lib.hid (show bstTo l x (cands l x) k = b' by rw [HST.out, if_neg (by rw [BB.out]; decide)])
              go_wp2_with fail
              go_roundw
              case rel => exact ⟨k + 1, by omega, by omega, by go_num, by rw [Nat.add_sub_cancel, F2.out], HB8⟩
              case measure => simp [intOf]; omega
      · have F3 := Lib.hid (show best l x = bstTo l x (cands l x) (k - 1) by rw [F.out]; congr 1; omega)
        have d1 : decide ((k : Int) < ((cands l x).length : Int)) = false := decide_eq_false (by omega)
        have HT := Lib.hid (HW.out.trans (HB.out.mono HW.out.size))
        have d2 : decide (k < (cands l x).length) = false := decide_eq_false hlt
        go_wp2_with fail
        go_ret2
        exact ⟨by rw [F3.out, G.out]; rfl, HT.out⟩
end Go.Proofs.YtfjdnbnalihjiaaGreatDoor

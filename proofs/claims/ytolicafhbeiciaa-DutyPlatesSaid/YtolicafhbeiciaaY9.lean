/- Plates. No condition. -/
import Derived.Test.YtolicafhbeiciaaY7
import Derived.Test.YtolicafhbeiciaaX11
import Derived.Test.YtolicafhbeiciaaY2
import Derived.Test.YtolicafhbeiciaaV1
import Derived.Test.YtolicafhbeiciaaT8
import Derived.Test.YtolicafhbeiciaaT10
import Derived.Test.YtolicafhbeiciaaX7
namespace Go.Proofs.Ytolicafhbeiciaa
open Go.RowKit Fs

theorem ArrI.offB {w : World} {g : Nat} {l : List Int} {c : Nat} (h : ArrI w (some ⟨g, 0, none⟩) l c) {p : Addr} (hp : p.block ≠ g) (v : Value) : ArrI (w.setCell p v) (some ⟨g, 0, none⟩) l c := by
  refine ⟨h.1, h.2.1, fun hn => ?_⟩
  obtain ⟨b, o, h1, h2⟩ := h.2.2 hn
  refine ⟨b, o, h1, fun i j hi hj => ?_⟩
  have h3 := h2 i j hi hj
  simp only [Option.some.injEq, Addr.mk.injEq] at h1
  rw [World.cell?_setCell_other _ _ _ _ (fun e => hp (by rw [e]; exact h1.1.symm))]
  exact h3
theorem ArrI.firsts {w : World} {B : Option Addr} {l : List Int} {c : Nat} (h : ArrI w B l c) {k : Nat} (hk : k ≤ l.length) : ArrI w B (l.take k) c := by
  have hl : (l.take k).length = k := by rw [List.length_take]; omega
  have h1 := h.1
  refine ⟨by rw [hl]; omega, h.2.1, fun hn => ?_⟩
  rw [hl] at hn
  obtain ⟨b, o, h2, h3⟩ := h.2.2 (by omega)
  refine ⟨b, o, h2, fun i j hi hj => ?_⟩
  rw [hl] at hi
  have h4 := h3 i j (by omega) hj
  have h5 : listI (l.take k) i = listI l i := by
    unfold listI
    rw [List.getD_eq_getElem?_getD, List.getD_eq_getElem?_getD, List.getElem?_take_of_lt hi]
  simp only [h5]
  exact h4
theorem TreeAt.offB {w : World} {g : Nat} {u v : Value} (m : TreeAt w g u v) {p : Addr} (hp : p.block ≠ g) (x : Value) : TreeAt (w.setCell p x) g u v :=
  ⟨(World.cell?_setCell_other _ _ _ _ (fun e => hp (by rw [e]))).trans m.c0, (World.cell?_setCell_other _ _ _ _ (fun e => hp (by rw [e]))).trans m.c1, (World.frozen?_setCell _ _ _ _).trans m.f0, (World.frozen?_setCell _ _ _ _).trans m.f1⟩
theorem TreeAt.put1 {w : World} {g : Nat} {u v : Value} (m : TreeAt w g u v) (x : Value) : TreeAt (w.setCell ⟨g, 1, none⟩ x) g u x :=
  ⟨(World.cell?_setCell_other _ _ _ _ (by simp)).trans m.c0, World.cell?_setCell_same _ _ _ m.c1, (World.frozen?_setCell _ _ _ _).trans m.f0, (World.frozen?_setCell _ _ _ _).trans m.f1⟩
theorem firsts_at {O : List Nat} {k j : Nat} (hj : j < k) : (O.take k).getD j 0 = O.getD j 0 := by
  rw [List.getD_eq_getElem?_getD, List.getD_eq_getElem?_getD, List.getElem?_take_of_lt hj]
theorem free_firsts {l : List WRec} {P : List Int} {O : List Nat} {u k C p : Nat} (h : Free l P (O.take k) u k C p) : Free l P O u k C p :=
  ⟨h.le, fun j hj => by have := h.no j hj; rw [firsts_at hj] at this; exact this, fun q hq => by
    obtain ⟨j, hj, h1, h2⟩ := h.low q hq
    rw [firsts_at hj] at h1 h2
    exact ⟨j, hj, h1, h2⟩⟩
theorem xFree_any (l : List WRec) (P : List Int) (O : List Nat) (A : Option Addr) (c gp go k C : Nat) (t : Int) (w : World) (h : ArrW w A l c) (hG : RowV w gp 3 (intVals P ++ [])) (hB : ArrI w (some ⟨go, 0, none⟩) (O.map Int.ofNat) l.length)
    (hO : Begun l O) (hU : UsesOk l) (hk : k < O.length) (g : Greedy l P O k C t) :
    Calls Try.prog 122 #[.slice A l.length c, .slice (some ⟨gp, 0, none⟩) l.length l.length, .slice (some ⟨go, 0, none⟩) k l.length, .int .i64 (O.getD k 0 : Nat)] w fun e w' => (∃ p : Nat, e = .returned (.int .i64 p) ∧ Free l P O (O.getD k 0) k C p) ∧ Below w.heap.size w w' := by
  have hl := begun_len hO
  have h14 := hU.len
  have hkl : (O.take k).length = k := by rw [List.length_take]; omega
  have e1 : (O.map Int.ofNat).take k = (O.take k).map Int.ofNat := by rw [List.map_take]
  have hB2 := hB.firsts (k := k) (by rw [List.length_map]; omega)
  rw [e1] at hB2
  have hG2 := hG.arr (c := l.length) (by rw [g.len]; exact Nat.le_refl _) (by unfold maxLen; omega)
  have key := xFreePlate_any l P (O.take k) A (some ⟨gp, 0, none⟩) (some ⟨go, 0, none⟩) c l.length l.length (O.getD k 0) C w h hG2 hB2 g.len (begun_lt hO hk)
    (fun j hj => by rw [hkl] at hj; rw [firsts_at hj]; exact begun_lt hO (by omega)) (by have := g.le; omega) (fun j hj => by rw [hkl] at hj; rw [firsts_at hj]; exact g.rng j hj) h14
  rw [hkl, g.len] at key
  refine key.mono ?_
  rintro e' w' ⟨⟨p, rfl, hf⟩, hb⟩
  exact ⟨⟨p, rfl, free_firsts hf⟩, hb⟩
set_option linter.unusedSimpArgs false in
set_option maxHeartbeats 12800000 in
set_option maxRecDepth 100000 in
theorem xPlates_any (l : List WRec) (A : Option Addr) (c : Nat) (w : World) (h : ArrW w A l c) :
    Calls Try.prog 64 #[.slice A l.length c] w fun e w' => (∃ P A' c' t, e = .returned (.tuple #[.agg #[.slice A' P.length c', .int .i64 t], .int .i64 (usesErr l)]) ∧ ArrI w' A' P c' ∧ PlatesIs l P t) ∧ Below w.heap.size w w' := by
  obtain ⟨i0, hi, hz0, hz1, hz2⟩ := info_parts Try.infoNum
  have b1 := h.le.1
  have b2 := h.le.2
  have HA := Lib.hid h
  have HT0 := Lib.hid (TreeAt.new w (.slice none 0 0) (.int .i64 0) 103)
  have hbx := Lib.hid ((Below.refl w.heap.size w).alloc (Nat.le_refl _) (.cells #[.slice none 0 0, .int .i64 0] 103))
  clear h
  go_enter Try.func64, Try.ntmps64
  go_upto_region 1 with fail
  generalize hwb : w.alloc _ = wb at *
  obtain ⟨r, hr⟩ : ∃ r, r = w.heap.size := ⟨_, rfl⟩
  have HRE := Lib.hid hr
  rw [← hr] at HT0
  clear hwb
  have hrw : w.heap.size ≤ r := by omega
  go_wp2_with fail
  refine (xUsesErr_any l A c wb (HA.out.keep (Keep.below hbx.out))).mono ?_
  rintro e' w1 ⟨rfl, hb1⟩
  have HB1 := Lib.hid (hbx.out.trans (hb1.mono hbx.out.size))
  have HT1 := Lib.hid (HT0.out.keep hb1)
  have hr1 : r < w1.heap.size := HT1.out.lt
  clear hb1 HT0 hbx
  by_cases he : usesErr l = 0
  · have HE := Lib.hid he
    have HU := Lib.hid (uses_ok he)
    have h14 := HU.out.len
    rw [he]
    clear he
    rw [← hr]
    clear hr
    go_upto_region 5 with (at_make; refine wpList_make_full _ rfl (.tmp 18) (.tmp 18) 92 rfl _ 3 i0 (.int .i64 0) 1 Try.underlying92 hi hz0 hz1 .i64 .i64 l.length l.length l.length rfl rfl rfl rfl (by rw [hz2]; omega) (by unfold maxLen; omega) (Nat.le_refl _) ?_)
    intro w5 hown hg2
    have HB2 : Hid (Below w1.heap.size w1 w5) := Lib.hid ⟨hg2.os, hg2.tape, hg2.output, hg2.size, fun k hk => hg2.block k hk (by simp)⟩
    have HR2 : Hid (RowV w5 w1.heap.size 3 (intVals (List.replicate l.length 0) ++ [])) := Lib.hid (by
      have := (RowV.of_own hown).1
      rw [toList_madeCells_one] at this
      rw [List.append_nil]
      unfold intVals
      rw [List.map_replicate]
      exact this)
    obtain ⟨gp, hgp⟩ : ∃ gp, gp = w1.heap.size := ⟨_, rfl⟩
    rw [← hgp] at HR2 ⊢
    have hrg : r < gp := by omega
    have HT2 := Lib.hid (HT1.out.keep HB2.out)
    have HB3 := Lib.hid (HB1.out.trans (HB2.out.mono HB1.out.size))
    have hgw : gp < w5.heap.size := HR2.out.lt
    clear hown hg2 HT1 HB1 HB2 hgp hr1
    have HR3 := Lib.hid (HR2.out.alloc (.cells #[.slice (some ⟨gp, 0, none⟩) l.length l.length, .int .i64 0] 103))
    have HT3 := Lib.hid (HT2.out.alloc (.cells #[.slice (some ⟨gp, 0, none⟩) l.length l.length, .int .i64 0] 103))
    have HP3 := Lib.hid (TreeAt.new w5 (.slice (some ⟨gp, 0, none⟩) l.length l.length) (.int .i64 0) 103)
    have HB4 := Lib.hid (HB3.out.alloc HB3.out.size (.cells #[.slice (some ⟨gp, 0, none⟩) l.length l.length, .int .i64 0] 103))
    go_upto_region 5 with fail
    obtain ⟨p, hp⟩ : ∃ p, p = w5.heap.size := ⟨_, rfl⟩
    rw [← hp] at HP3 hgw ⊢
    clear HR2 HT2 HB3 hp
    generalize hwb : w5.alloc _ = w6 at *
    clear hwb w5
    have hpw : p < w6.heap.size := HP3.out.lt
    go_wp2_with fail
    refine (xByBeginning_any l A c w6 (HA.out.keep (Keep.below HB4.out)) h14).mono ?_
    rintro e' w7 ⟨⟨go, O, rfl, hgo, hOA, hO⟩, hb7⟩
    have HO := Lib.hid hO
    have HOA := Lib.hid hOA
    have HR7 := Lib.hid (HR3.out.keep hb7)
    have HT7 := Lib.hid (HT3.out.keep hb7)
    have HP7 := Lib.hid (HP3.out.keep hb7)
    have HB7 := Lib.hid (HB4.out.trans (hb7.mono HB4.out.size))
    have hpo : p < go := by omega
    have hlO := begun_len hO
    have HG0 := Lib.hid (greedy_zero l O)
    clear hO hOA HR3 HT3 HP3 HB4 hb7 hgo hpw
    go_wp2_with fail
    go_loopw [6, 25] (fun u s wr => ∃ (k C : Nat) (P : List Int) (t : Int), k ≤ l.length ∧ u = .int .i64 C ∧ s = .int .i64 k ∧ Hid (Greedy l P O k C t) ∧ Hid (RowV wr gp 3 (intVals P ++ [])) ∧ Hid (TreeAt wr p (.slice (some ⟨gp, 0, none⟩) l.length l.length) (.int .i64 t)) ∧ Hid (TreeAt wr r (.slice none 0 0) (.int .i64 0)) ∧ Hid (ArrI wr (some ⟨go, 0, none⟩) (O.map Int.ofNat) l.length) ∧ Hid (Below w.heap.size w wr)) (fun _ s _ => l.length - (intOf s).toNat)
    case atStart => exact ⟨0, 0, _, 0, Nat.zero_le _, rfl, rfl, HG0, HR7, HP7, HT7, HOA, HB7⟩
    case round =>
      obtain ⟨k, C, P, t, hk, rfl, rfl, HGR, HR, HP, HT, HOO, HB⟩ := hrel
      by_cases hlt : k < l.length
      · have hkn : (k : Int) < (l.length : Int) := by omega
        have hkO : k < O.length := by omega
        have HKO := Lib.hid hkO
        obtain ⟨x0, o0, e0, q0⟩ := HOO.out.at_ (k := k) (by rw [List.length_map]; exact hkO)
        obtain ⟨rfl, rfl⟩ : go = x0 ∧ 0 = o0 := by simpa using e0
        rw [Nat.zero_add] at q0
        obtain ⟨u, hu⟩ : ∃ u, u = O.getD k 0 := ⟨_, rfl⟩
        have HUE := Lib.hid hu
        have ej : listI (O.map Int.ofNat) k = (u : Int) := by
          rw [hu]; unfold listI
          rw [List.getD_eq_getElem?_getD, List.getD_eq_getElem?_getD, List.getElem?_map, List.getElem?_eq_getElem hkO]
          rfl
        rw [ej] at q0
        have hul : u < l.length := by rw [hu]; exact begun_lt HO.out hkO
        have hun : (u : Int) < (l.length : Int) := by omega
        obtain ⟨p0, p1, pf0, pf1⟩ := HP.out
        clear e0 hu ej hkO
        go_upto_region 10 with fail
        go_wp2_with fail
        have HBd : Hid (Below wr.heap.size wr wr.drew) := Lib.hid (Below.refl _ _).drew
        have MK : Hid (∀ w', Below wr.heap.size wr w' → w'.cell? ⟨p, 0, none⟩ = some (.slice (some ⟨gp, 0, none⟩) l.length l.length) ∧ Hid (Below wr.heap.size wr w')) :=
          Lib.hid fun w' hw => ⟨Keep.below hw _ _ p0, Lib.hid hw⟩
        have KA : Hid (∀ w', Below wr.heap.size wr w' → ArrW w' A l c) := Lib.hid fun w' hw => HA.out.keep (Keep.below (HB.out.trans (hw.mono HB.out.size)))
        have KR : Hid (∀ w', Below wr.heap.size wr w' → RowV w' gp 3 (intVals P ++ [])) := Lib.hid fun w' hw => HR.out.keep hw
        have KO : Hid (∀ w', Below wr.heap.size wr w' → ArrI w' (some ⟨go, 0, none⟩) (O.map Int.ofNat) l.length) := Lib.hid fun w' hw => HOO.out.keep (Keep.below hw)
        refine wp_region_held_drew (S := fun w' => w'.cell? ⟨p, 0, none⟩ = some (.slice (some ⟨gp, 0, none⟩) l.length l.length) ∧ Hid (Below wr.heap.size wr w')) (by kernel_rfl) (MK.out _ HBd.out) (fun hHeld => ?_)
        refine wpAnyH_take (i := 0) (v := ?val0x19) rfl (by kernel_rfl) (by kernel_rfl) (by kernel_rfl) (fun _ _ _ h => h) (Or.inl ⟨by rfl, fun w9 hS9 => ?yields0x19⟩) (by assumption) ?later0x19
        case yields0x19 =>
          dsimp only at hS9
          go_simp
          try with_reducible rfl
        try simp only [Act.put, List.getElem_toArray, List.getElem_cons_succ, List.getElem_cons_zero, List.setIfInBounds_toArray, List.set_cons_zero, List.set_cons_succ]
        refine wpAnyH_take (i := 1) (v := ?val1x20) rfl (by kernel_rfl) (by kernel_rfl) (by kernel_rfl) (fun _ _ _ h => h) (Or.inl ⟨by rfl, fun w9 hS9 => ?yields1x20⟩) (by assumption) ?later1x20
        case yields1x20 =>
          dsimp only at hS9
          go_simp
          try with_reducible rfl
        try simp only [Act.put, List.getElem_toArray, List.getElem_cons_succ, List.getElem_cons_zero, List.setIfInBounds_toArray, List.set_cons_zero, List.set_cons_succ]
        refine wpAnyH_take (i := 2) (v := ?val2x21) rfl (by kernel_rfl) (by kernel_rfl) (by kernel_rfl) (fun _ _ _ h => h) (Or.inl ⟨by rfl, fun w9 hS9 => ?yields2x21⟩) (by assumption) ?later2x21
        case yields2x21 =>
          dsimp only at hS9
          go_simp
          try with_reducible rfl
        try simp only [Act.put, List.getElem_toArray, List.getElem_cons_succ, List.getElem_cons_zero, List.setIfInBounds_toArray, List.set_cons_zero, List.set_cons_succ]
        refine wpAnyH_take (i := 3) (v := ?val3x22) rfl (by kernel_rfl) (by kernel_rfl) (by kernel_rfl) (fun _ _ _ h => h) (Or.inl ⟨by rfl, fun w9 hS9 => ?yields3x22⟩) (by assumption) ?later3x22
        case yields3x22 =>
          dsimp only at hS9
          go_simp
          try with_reducible rfl
        try simp only [Act.put, List.getElem_toArray, List.getElem_cons_succ, List.getElem_cons_zero, List.setIfInBounds_toArray, List.set_cons_zero, List.set_cons_succ]
        refine wpAnyH_take (i := 4) (v := ?val4x23) rfl (by kernel_rfl) (by kernel_rfl) (by kernel_rfl) (fun _ _ _ h => h) (Or.inl ⟨by rfl, fun w9 hS9 => ?yields4x23⟩) (by assumption) ?later4x23
        case yields4x23 =>
          dsimp only at hS9
          go_simp
          try with_reducible rfl
        try simp only [Act.put, List.getElem_toArray, List.getElem_cons_succ, List.getElem_cons_zero, List.setIfInBounds_toArray, List.set_cons_zero, List.set_cons_succ]
        refine wpAnyH_take (i := 5) (v := ?val5x24) rfl (by kernel_rfl) (by kernel_rfl) (by kernel_rfl) (fun _ _ _ h => h) (Or.inl ⟨by rfl, fun w9 hS9 => ?yields5x24⟩) (by assumption) ?later5x24
        case yields5x24 =>
          dsimp only at hS9
          go_simp
          try with_reducible rfl
        try simp only [Act.put, List.getElem_toArray, List.getElem_cons_succ, List.getElem_cons_zero, List.setIfInBounds_toArray, List.set_cons_zero, List.set_cons_succ]
        refine wpAnyH_take (i := 6) (v := ?val6x25) rfl (by kernel_rfl) (by kernel_rfl) (by kernel_rfl) (fun _ _ _ h => h) (Or.inl ⟨by rfl, fun w9 hS9 => ?yields6x25⟩) (by assumption) ?later6x25
        case yields6x25 =>
          dsimp only at hS9
          go_simp
          try with_reducible rfl
        try simp only [Act.put, List.getElem_toArray, List.getElem_cons_succ, List.getElem_cons_zero, List.setIfInBounds_toArray, List.set_cons_zero, List.set_cons_succ]
        refine wpAnyH_ready (rs := [7]) (by kernel_rfl) (by simp) ?_
        refine AllReadyH.cons rfl (fun K hK => ?_) AllReadyH.nil
        go_simp
        go_at_call 122
        go_split_ands
        refine ((show Calls Try.prog 122 #[.slice A l.length c, .slice (some ⟨gp, 0, none⟩) l.length l.length, .slice (some ⟨go, 0, none⟩) k l.length, .int .i64 u] _ _ from by rw [HUE.out]; exact xFree_any l P O A c gp go k C t _ (KA.out _ (Hid.out (by assumption))) (KR.out _ (Hid.out (by assumption))) (KO.out _ (Hid.out (by assumption))) HO.out HU.out HKO.out HGR.out)).mono ?_
        rintro e' w9 ⟨⟨q, rfl, hq⟩, hb1⟩
        have HQ := Lib.hid hq
        clear hq
        go_wp2_with fail
        refine hK.out _ _ ?_ (fun hHeld => ?_)
        · (try dsimp only)
          (go_split_ands; exact MK.out _ (Below.trans (Hid.out (by assumption)) (hb1.mono (Hid.out (by assumption) : Below wr.heap.size wr _).size)))
        clear hK K
        try simp only [Act.put, List.getElem_toArray, List.getElem_cons_succ, List.getElem_cons_zero, List.setIfInBounds_toArray, List.set_cons_zero, List.set_cons_succ]
        refine wpAnyH_take (i := 8) (v := ?val8x26) rfl (by kernel_rfl) (by kernel_rfl) (by kernel_rfl) (fun _ _ _ h => h) (Or.inl ⟨by rfl, fun w9 hS9 => ?yields8x26⟩) (by assumption) ?later8x26
        case yields8x26 =>
          dsimp only at hS9
          go_simp
          try with_reducible rfl
        try simp only [Act.put, List.getElem_toArray, List.getElem_cons_succ, List.getElem_cons_zero, List.setIfInBounds_toArray, List.set_cons_zero, List.set_cons_succ]
        refine wpAnyH_done (by kernel_rfl) ?_ _
        obtain ⟨-, HB9⟩ := hHeld
        clear HBd MK
        have hgw2 : w.heap.size ≤ gp := by omega
        have hpw2 : w.heap.size ≤ p := by omega
        have HR9 := Lib.hid (HR.out.keep HB9.out)
        have HP9 := Lib.hid (HP.out.keep HB9.out)
        have HT9 := Lib.hid (HT.out.keep HB9.out)
        have HO9 := Lib.hid (HOO.out.keep (Keep.below HB9.out))
        have HB10 := Lib.hid (HB.out.trans (HB9.out.mono HB.out.size))
        have huP : u < P.length := by rw [HGR.out.len]; exact hul
        have c9 := HR9.out.at_ huP
        have f9 := HR9.out.frozen u
        have HR10 := Lib.hid (HR9.out.put huP (q : Int))
        have HP10 := Lib.hid (HP9.out.offB (p := ⟨gp, u, none⟩) (show gp ≠ p by omega) (.int .i64 (q : Int)))
        have HT10 := Lib.hid (HT9.out.offB (p := ⟨gp, u, none⟩) (show gp ≠ r by omega) (.int .i64 (q : Int)))
        have HO10 := Lib.hid (HO9.out.offB (p := ⟨gp, u, none⟩) (show gp ≠ go by omega) (.int .i64 (q : Int)))
        have HB11 := Lib.hid (HB10.out.setCell (p := ⟨gp, u, none⟩) hgw2 (.int .i64 (q : Int)))
        obtain ⟨x0, x1, y0, y1⟩ := HP9.out
        have hCk := HGR.out.le
        have hCw : IntKind.i64.wrap ((C : Int) + 1) = (C : Int) + 1 := by rw [IntKind.wrap_i64]; omega
        clear p0 p1 pf0 pf1 q0 HR9 HT9 HO9 HB9 HR HT HOO HB HB10 KA KR KO
        go_upto_region 12 with fail
        generalize hwz : w9.setCell _ _ = wz at *
        clear hwz c9 f9 x0 x1 y0 y1
        by_cases hqC : q = C
        · have HG2 := Lib.hid (greedy_new HO.out HU.out HKO.out HGR.out HQ.out hqC)
          rw [← HUE.out] at HG2
          subst hqC
          obtain ⟨b, o, hAe, q0, q1, q2⟩ := (HA.out.keep (Keep.below HB11.out)).at_ hul
          have HAE := Lib.hid hAe
          obtain ⟨x0, x1, y0, y1⟩ := HP10.out
          have HR12 := Lib.hid (HR10.out.far (p := ⟨p, 1, none⟩) (show p ≠ gp by omega) (.int .i64 (listW l u).beg))
          have HP12 := Lib.hid (HP10.out.put1 (.int .i64 (listW l u).beg))
          have HT12 := Lib.hid (HT10.out.offB (p := ⟨p, 1, none⟩) (show p ≠ r by omega) (.int .i64 (listW l u).beg))
          have HO12 := Lib.hid (HO10.out.offB (p := ⟨p, 1, none⟩) (show p ≠ go by omega) (.int .i64 (listW l u).beg))
          have HB12 := Lib.hid (HB11.out.setCell (p := ⟨p, 1, none⟩) hpw2 (.int .i64 (listW l u).beg))
          clear HR10 HP10 HT10 HO10 HB11 q0 q2
          rw [hAe]
          clear hAe
          go_wp2_with fail
          rw [← HAE.out]
          go_roundw
          case rel => exact ⟨k + 1, q + 1, _, _, by omega, by go_num, by go_num, HG2, HR12, HP12, HT12, HO12, HB12⟩
          case measure => simp [intOf]; omega
        · have HG2 := Lib.hid (greedy_old HO.out HKO.out HGR.out HQ.out hqC)
          rw [← HUE.out] at HG2
          have e1 : ((q : Int) == (C : Int)) = false := by rw [beq_eq_false_iff_ne]; omega
          clear hqC
          go_wp2_with fail
          go_roundw
          case rel => exact ⟨k + 1, C, _, _, by omega, rfl, by go_num, HG2, HR10, HP10, HT10, HO10, HB11⟩
          case measure => simp [intOf]; omega
      · obtain rfl : k = l.length := by omega
        have HPE : Hid (PlatesIs l P t) := Lib.hid (greedy_end HO.out HU.out (by rw [hlO]; exact HGR.out))
        have hPl := HGR.out.len
        obtain ⟨x0, x1, -, -⟩ := HP.out
        obtain ⟨t0, t1, f0, f1⟩ := HT.out
        obtain ⟨s0, s1, -, -⟩ := HT.out.set (.slice (some ⟨gp, 0, none⟩) l.length l.length) (.int .i64 t)
        go_wp2_with fail
        refine bodyPost_ret (v := .tuple #[.agg #[.slice (some ⟨gp, 0, none⟩) l.length l.length, .int .i64 t], .int .i64 0]) (by simp [results, Try.results64, go_sem, s0, s1]) rfl ⟨⟨P, some ⟨gp, 0, none⟩, l.length, t, by rw [HE.out, hPl], ?_, HPE.out⟩, ?_⟩
        · exact ((HR.out.far (p := ⟨r, 0, none⟩) (show r ≠ gp by omega) _).far (p := ⟨r, 1, none⟩) (show r ≠ gp by omega) _).arr (by omega) (by unfold maxLen; omega)
        · exact (HB.out.setCell (p := ⟨r, 0, none⟩) hrw _).setCell (p := ⟨r, 1, none⟩) hrw _
  · have e1 : (usesErr l == 0) = false := by simpa using he
    have e2 : (usesErr l != 0) = true := by simpa using he
    have HNE := Lib.hid he
    clear he
    rw [← hr]
    clear hr
    obtain ⟨t0, t1, f0, f1⟩ := HT1.out
    obtain ⟨s0, s1, -, -⟩ := HT1.out.set (.slice none 0 0) (.int .i64 0)
    go_wp2_with fail
    refine bodyPost_ret (v := .tuple #[.agg #[.slice none 0 0, .int .i64 0], .int .i64 (usesErr l)]) (by simp [results, Try.results64, go_sem, s0, s1]) rfl ⟨⟨[], none, 0, 0, rfl, ⟨by simp, by decide, fun hh => absurd hh (by simp)⟩, ⟨fun _ => ⟨rfl, rfl⟩, fun h => absurd h HNE.out⟩⟩, ?_⟩
    exact (HB1.out.setCell (p := ⟨r, 0, none⟩) hrw _).setCell (p := ⟨r, 1, none⟩) hrw _
end Go.Proofs.Ytolicafhbeiciaa
/- Contracts of Plates and CheckPlates. No condition. -/
namespace Go.Proofs.Ytolicafhbeiciaa

end Go.Proofs.Ytolicafhbeiciaa
/- The reference's CopyPlates. Condition: at most a million plates. -/
namespace Go.Proofs.Ytolicafhbeiciaa
open Go.RowKit Fs

set_option linter.unusedSimpArgs false in
set_option maxHeartbeats 12800000 in
set_option maxRecDepth 100000 in
theorem rCopyPlates_any (P : List Int) (x : Int) (B : Option Addr) (cp : Nat) (w : World) (h : ArrI w B P cp) (hn : P.length ≤ 1000000) :
    Calls Try.prog 67 #[.agg #[.slice B P.length cp, .int .i64 x]] w fun e w' => (∃ A' c', e = .returned (.agg #[.slice A' P.length c', .int .i64 x]) ∧ ArrI w' A' P c') ∧ Below w.heap.size w w' := by
  have b1 := h.le.1
  have b2 := h.le.2
  have HP := Lib.hid h
  clear h
  have BP := Lib.hid ((show PlatesIn (w.alloc (.cells #[.slice B P.length cp, .int .i64 x] 103)) w.heap.size B P.length cp x from ⟨cellNew _ _ _ 0, cellNew _ _ _ 1⟩).keep (Keep.alloc _ (.cells #[.slice none 0 0, .int .i64 0] 103)))
  have BO := Lib.hid (show TreeAt ((w.alloc (.cells #[.slice B P.length cp, .int .i64 x] 103)).alloc (.cells #[.slice none 0 0, .int .i64 0] 103)) (w.heap.size + 1) (.slice none 0 0) (.int .i64 0) from by
    have := TreeAt.new (w.alloc (.cells #[.slice B P.length cp, .int .i64 x] 103)) (.slice none 0 0) (.int .i64 0) 103
    simpa using this)
  go_enter Try.func67, Try.ntmps67
  go_upto_region 1 with fail
  generalize hwb : (w.alloc _).alloc _ = wb at *
  have HW : Hid (Below w.heap.size w wb) := by rw [← hwb]; exact Lib.hid (((Below.refl _ _).alloc (Nat.le_refl _) _).alloc (by simp) _)
  have HWS : Hid (w.heap.size + 2 = wb.heap.size) := by rw [← hwb]; exact Lib.hid (by simp)
  clear hwb
  obtain ⟨c0, c1⟩ := BP.out
  have HBd : Hid (Below wb.heap.size wb wb.drew) := Lib.hid (Below.refl _ _).drew
  have MK : Hid (∀ w', Below wb.heap.size wb w' → w'.cell? ⟨w.heap.size, 0, none⟩ = some (.slice B P.length cp) ∧ w'.cell? ⟨w.heap.size, 1, none⟩ = some (.int .i64 x) ∧ Hid (Below wb.heap.size wb w')) :=
    Lib.hid fun w' hw => ⟨Keep.below hw _ _ c0, Keep.below hw _ _ c1, Lib.hid hw⟩
  have KP : Hid (∀ w', Below wb.heap.size wb w' → ArrI w' B P cp) := Lib.hid fun w' hw => (HP.out.keep (Keep.below (HW.out.trans (hw.mono HW.out.size))))
  refine heldPeel (S := fun w' => w'.cell? ⟨w.heap.size, 0, none⟩ = some (.slice B P.length cp) ∧ w'.cell? ⟨w.heap.size, 1, none⟩ = some (.int .i64 x) ∧ Hid (Below wb.heap.size wb w')) (l := [_, _, _, _, _, _]) (by kernel_rfl) (by kernel_rfl) (MK.out _ HBd.out) (fun hHeld => ?_)
  refine wpAnyH_take (i := 0) (v := ?val0x1) rfl (by kernel_rfl) (by kernel_rfl) (by kernel_rfl) (fun _ _ _ h => h) (Or.inl ⟨by rfl, fun w9 hS9 => ?yields0x1⟩) (by assumption) ?later0x1
  case yields0x1 =>
    dsimp only at hS9
    go_simp
    try with_reducible rfl
  try simp only [Act.put, List.getElem_toArray, List.getElem_cons_succ, List.getElem_cons_zero, List.setIfInBounds_toArray, List.set_cons_zero, List.set_cons_succ]
  refine wpAnyH_take (i := 1) (v := ?val1x2) rfl (by kernel_rfl) (by kernel_rfl) (by kernel_rfl) (fun _ _ _ h => h) (Or.inl ⟨by rfl, fun w9 hS9 => ?yields1x2⟩) (by assumption) ?later1x2
  case yields1x2 =>
    dsimp only at hS9
    go_simp
    try with_reducible rfl
  try simp only [Act.put, List.getElem_toArray, List.getElem_cons_succ, List.getElem_cons_zero, List.setIfInBounds_toArray, List.set_cons_zero, List.set_cons_succ]
  refine wpAnyH_take (i := 3) (v := ?val3x3) rfl (by kernel_rfl) (by kernel_rfl) (by kernel_rfl) (fun _ _ _ h => h) (Or.inl ⟨by rfl, fun w9 hS9 => ?yields3x3⟩) (by assumption) ?later3x3
  case yields3x3 =>
    dsimp only at hS9
    go_simp
    try with_reducible rfl
  try simp only [Act.put, List.getElem_toArray, List.getElem_cons_succ, List.getElem_cons_zero, List.setIfInBounds_toArray, List.set_cons_zero, List.set_cons_succ]
  refine wpAnyH_take (i := 4) (v := ?val4x4) rfl (by kernel_rfl) (by kernel_rfl) (by kernel_rfl) (fun _ _ _ h => h) (Or.inl ⟨by rfl, fun w9 hS9 => ?yields4x4⟩) (by assumption) ?later4x4
  case yields4x4 =>
    dsimp only at hS9
    go_simp
    try with_reducible rfl
  try simp only [Act.put, List.getElem_toArray, List.getElem_cons_succ, List.getElem_cons_zero, List.setIfInBounds_toArray, List.set_cons_zero, List.set_cons_succ]
  refine wpAnyH_ready (rs := [2]) (by kernel_rfl) (by simp) ?_
  refine AllReadyH.cons rfl (fun K hK => ?_) AllReadyH.nil
  go_simp
  go_at_call 58
  go_split_ands
  refine (copyInts_any P B cp _ (KP.out _ (Hid.out (by assumption))) hn).mono ?_
  rintro e' wz5 ⟨A5, c5, rfl, h5, ha, hb1⟩
  have H5 := Lib.hid h5
  have HA5 := Lib.hid ha
  clear h5 ha
  go_wp2_with fail
  refine hK.out _ _ ?_ (fun hHeld => ?_)
  · (try dsimp only)
    (go_split_ands; exact MK.out _ (Below.trans (Hid.out (by assumption)) (hb1.mono (Hid.out (by assumption) : Below wb.heap.size wb _).size)))
  clear hK K
  try simp only [Act.put, List.getElem_toArray, List.getElem_cons_succ, List.getElem_cons_zero, List.setIfInBounds_toArray, List.set_cons_zero, List.set_cons_succ]
  refine wpAnyH_take (i := 5) (v := ?val5x5) rfl (by kernel_rfl) (by kernel_rfl) (by kernel_rfl) (fun _ _ _ h => h) (Or.inl ⟨by rfl, fun w9 hS9 => ?yields5x5⟩) (by assumption) ?later5x5
  case yields5x5 =>
    dsimp only at hS9
    go_simp
    try with_reducible rfl
  try simp only [Act.put, List.getElem_toArray, List.getElem_cons_succ, List.getElem_cons_zero, List.setIfInBounds_toArray, List.set_cons_zero, List.set_cons_succ]
  refine wpAnyH_done (by kernel_rfl) ?_ _
  unfold Peeled
  dsimp only
  have hbb := hHeld.2.2.out
  clear hHeld
  obtain ⟨o0, o1, f0, f1⟩ := BO.out.keep hbb
  have HX := Lib.hid (HW.out.trans (hbb.mono HW.out.size))
  have hlt : w.heap.size + 1 < wb.drew.heap.size := by show w.heap.size + 1 < wb.heap.size; have := HWS.out; omega
  have HF := Lib.hid (Arr.far (Arr.far H5.out HA5.out (p := ⟨w.heap.size + 1, 0, none⟩) hlt (.slice A5 P.length c5)) HA5.out (p := ⟨w.heap.size + 1, 1, none⟩) hlt (.int .i64 x))
  clear c0 c1 hbb MK KP HBd H5 HA5
  go_wp2_with fail
  refine bodyPost_ret (v := .agg #[.slice A5 P.length c5, .int .i64 x]) (by simp [results, Try.results67, go_sem, o0, o1]) rfl ⟨⟨A5, c5, rfl, HF.out⟩, ?_⟩
  exact (HX.out.setCell (p := ⟨w.heap.size + 1, 0, none⟩) (by simp) _).setCell (p := ⟨w.heap.size + 1, 1, none⟩) (by simp) _
end Go.Proofs.Ytolicafhbeiciaa
/- The law of plates: as specified; in the opposite order there are as many; any plates that are accepted are no fewer. No condition. -/
namespace Go.Proofs.Ytolicafhbeiciaa
open Go.RowKit Fs

theorem Fs.rev_drop {l : List WRec} {k : Nat} (h : k < l.length) : (l.drop k).reverse = (l.drop (k + 1)).reverse ++ [listW l k] := by
  rw [drop_w h, List.reverse_cons]
set_option linter.unusedSimpArgs false in
set_option maxHeartbeats 12800000 in
set_option maxRecDepth 100000 in
theorem lawPlates_any (l : List WRec) (P : List Int) (x : Int) (A B : Option Addr) (c cp : Nat) (w : World) (h : ArrW w A l c) (hP : ArrI w B P cp) :
    Calls Try.prog 14 #[.slice A l.length c, .agg #[.slice B P.length cp, .int .i64 x]] w fun e w' => e = .returned (.bool true) ∧ Below w.heap.size w w' := by
  obtain ⟨i0, hi, hz0, hz1, hz2⟩ := info_parts Try.infoDUse
  have HINF := Lib.hid (And.intro hi (And.intro hz0 (And.intro hz1 hz2)))
  clear hi hz0 hz1 hz2
  have b1 := h.le.1
  have b2 := h.le.2
  have b3 := hP.le.1
  have b4 := hP.le.2
  have HA := Lib.hid h
  have HP := Lib.hid hP
  clear h hP
  have BP := Lib.hid (show PlatesIn (w.alloc (.cells #[.slice B P.length cp, .int .i64 x] 103)) w.heap.size B P.length cp x from ⟨cellNew _ _ _ 0, cellNew _ _ _ 1⟩)
  go_enter Try.func14, Try.ntmps14
  go_upto_region 1 with fail
  generalize hwb : w.alloc _ = wb at *
  have HW : Hid (Below w.heap.size w wb) := by rw [← hwb]; exact Lib.hid ((Below.refl _ _).alloc (Nat.le_refl _) _)
  clear hwb
  obtain ⟨c0, c1⟩ := BP.out
  go_wp2_with fail
  refine (lawAwake_any _).mono ?_
  rintro e' w1 ⟨rfl, hb1⟩
  replace HW := Lib.hid (HW.out.trans (hb1.mono HW.out.size))
  replace BP := Lib.hid (BP.out.keep (Keep.below hb1))
  clear c0 c1
  clear hb1
  go_wp2_with fail
  refine (lawUses_any l A c _ (HA.out.keep (Keep.below HW.out))).mono ?_
  rintro e' wA ⟨rfl, rfl⟩
  cases hf : fewUses l with
  | false =>
    go_wp2_with fail
    go_ret
    exact ⟨rfl, HW.out⟩
  | true =>
    have hl := (fewUses_is hf).1
    clear hf
    obtain ⟨c0, c1⟩ := BP.out
    by_cases hs : P.length ≤ 16
    · have s1 : decide ((P.length : Int) > 16) = false := decide_eq_false (by omega)
      have s2 : decide (16 < (P.length : Int)) = false := decide_eq_false (by omega)
      have s3 : decide (16 < P.length) = false := decide_eq_false (by omega)
      have HS := Lib.hid hs
      clear hs
      go_wp2_with fail
      refine (rCopyUses_any l A c _ (HA.out.keep (Keep.below HW.out)) (by omega)).mono ?_
      rintro e' w5 ⟨⟨A5, c5, rfl, h5⟩, hb1⟩
      replace HW := Lib.hid (HW.out.trans (hb1.mono HW.out.size))
      replace BP := Lib.hid (BP.out.keep (Keep.below hb1))
      have H5 := Lib.hid h5
      clear h5
      clear hb1
      go_wp2_with fail
      refine (xPlates_any l A5 c5 _ H5.out).mono ?_
      rintro e' w6 ⟨⟨Q, A7, c7, t, rfl, h7, hq⟩, hb1⟩
      replace HW := Lib.hid (HW.out.trans (hb1.mono HW.out.size))
      replace BP := Lib.hid (BP.out.keep (Keep.below hb1))
      have H7 := Lib.hid h7
      have HQ := Lib.hid hq
      have q1 := h7.le.1
      have q2 := h7.le.2
      clear h7 hq H5
      clear hb1
      clear c0 c1
      have HO := Lib.hid (TreeAt.new w6 (.slice A7 Q.length c7) (.int .i64 t) 103)
      have hb8 : Below w6.heap.size w6 (w6.alloc (.cells #[.slice A7 Q.length c7, .int .i64 t] 103)) := (Below.refl _ _).alloc (Nat.le_refl _) _
      replace HW := Lib.hid (HW.out.trans (hb8.mono HW.out.size))
      replace BP := Lib.hid (BP.out.keep (Keep.below hb8))
      replace H7 := Lib.hid (H7.out.keep (Keep.below hb8))
      clear hb8
      obtain ⟨gk, hgk⟩ : ∃ gk, gk = w6.heap.size := ⟨_, rfl⟩
      rw [← hgk] at HO
      obtain ⟨c0, c1⟩ := BP.out
      obtain ⟨o0, o1, -, -⟩ := HO.out
      go_wp2_with fail
      rw [← hgk]
      generalize hwC : w6.alloc _ = wC at *
      clear hwC hgk
      have HBd : Hid (Below wC.heap.size wC wC.drew) := Lib.hid (Below.refl _ _).drew
      have MK : Hid (∀ w', Below wC.heap.size wC w' → w'.cell? ⟨w.heap.size, 0, none⟩ = some (.slice B P.length cp) ∧ w'.cell? ⟨w.heap.size, 1, none⟩ = some (.int .i64 x) ∧ Hid (Below wC.heap.size wC w')) :=
        Lib.hid fun w' hw => ⟨Keep.below hw _ _ c0, Keep.below hw _ _ c1, Lib.hid hw⟩
      have KA : Hid (∀ w', Below wC.heap.size wC w' → ArrW w' A l c) := Lib.hid fun w' hw => (HA.out.keep (Keep.below (HW.out.trans (hw.mono HW.out.size))))
      have KP : Hid (∀ w', Below wC.heap.size wC w' → ArrI w' B P cp) := Lib.hid fun w' hw => (HP.out.keep (Keep.below (HW.out.trans (hw.mono HW.out.size))))
      refine wp_region_held_drew (S := fun w' => w'.cell? ⟨w.heap.size, 0, none⟩ = some (.slice B P.length cp) ∧ w'.cell? ⟨w.heap.size, 1, none⟩ = some (.int .i64 x) ∧ Hid (Below wC.heap.size wC w')) (by kernel_rfl) (MK.out _ HBd.out) (fun hHeld => ?_)
      refine wpAnyH_take (i := 0) (v := ?val0x1) rfl (by kernel_rfl) (by kernel_rfl) (by kernel_rfl) (fun _ _ _ h => h) (Or.inl ⟨by rfl, fun w9 hS9 => ?yields0x1⟩) (by assumption) ?later0x1
      case yields0x1 =>
        dsimp only at hS9
        go_simp
        try with_reducible rfl
      try simp only [Act.put, List.getElem_toArray, List.getElem_cons_succ, List.getElem_cons_zero, List.setIfInBounds_toArray, List.set_cons_zero, List.set_cons_succ]
      refine wpAnyH_take (i := 2) (v := ?val2x2) rfl (by kernel_rfl) (by kernel_rfl) (by kernel_rfl) (fun _ _ _ h => h) (Or.inl ⟨by rfl, fun w9 hS9 => ?yields2x2⟩) (by assumption) ?later2x2
      case yields2x2 =>
        dsimp only at hS9
        go_simp
        try with_reducible rfl
      try simp only [Act.put, List.getElem_toArray, List.getElem_cons_succ, List.getElem_cons_zero, List.setIfInBounds_toArray, List.set_cons_zero, List.set_cons_succ]
      refine wpAnyH_ready (rs := [1]) (by kernel_rfl) (by simp) ?_
      refine AllReadyH.cons rfl (fun K hK => ?_) AllReadyH.nil
      go_simp
      go_at_call 65
      go_split_ands
      refine (rCopyUses_any l A c _ (KA.out _ (Hid.out (by assumption))) (by omega)).mono ?_
      rintro e' wz5 ⟨⟨A5, c5, rfl, h5⟩, hb1⟩
      have H5 := Lib.hid h5
      clear h5
      go_wp2_with fail
      refine hK.out _ _ ?_ (fun hHeld => ?_)
      · (try dsimp only)
        (go_split_ands; exact MK.out _ (Below.trans (Hid.out (by assumption)) (hb1.mono (Hid.out (by assumption) : Below wC.heap.size wC _).size)))
      clear hK K
      try simp only [Act.put, List.getElem_toArray, List.getElem_cons_succ, List.getElem_cons_zero, List.setIfInBounds_toArray, List.set_cons_zero, List.set_cons_succ]
      refine wpAnyH_ready (rs := [3]) (by kernel_rfl) (by simp) ?_
      refine AllReadyH.cons rfl (fun K hK => ?_) AllReadyH.nil
      go_simp
      go_at_call 67
      go_split_ands
      refine (rCopyPlates_any P x B cp _ (KP.out _ (Hid.out (by assumption))) (by have := HS.out; omega)).mono ?_
      rintro e' wz6 ⟨⟨A6, c6, rfl, h6⟩, hb1⟩
      have H6 := Lib.hid h6
      replace H5 := Lib.hid (H5.out.keep (Keep.below hb1))
      clear h6
      go_wp2_with fail
      refine hK.out _ _ ?_ (fun hHeld => ?_)
      · (try dsimp only)
        (go_split_ands; exact MK.out _ (Below.trans (Hid.out (by assumption)) (hb1.mono (Hid.out (by assumption) : Below wC.heap.size wC _).size)))
      clear hK K
      try simp only [Act.put, List.getElem_toArray, List.getElem_cons_succ, List.getElem_cons_zero, List.setIfInBounds_toArray, List.set_cons_zero, List.set_cons_succ]
      refine wpAnyH_ready (rs := [4]) (by kernel_rfl) (by simp) ?_
      refine AllReadyH.cons rfl (fun K hK => ?_) AllReadyH.nil
      go_simp
      go_at_call 66
      go_split_ands
      refine (xCheckPlates_any l A5 c5 P A6 c6 x _ H5.out H6.out).mono ?_
      rintro e' wz7 ⟨rfl, hb1⟩
      clear H5 H6
      go_wp2_with fail
      refine hK.out _ _ ?_ (fun hHeld => ?_)
      · (try dsimp only)
        (go_split_ands; exact MK.out _ (Below.trans (Hid.out (by assumption)) (hb1.mono (Hid.out (by assumption) : Below wC.heap.size wC _).size)))
      clear hK K
      try simp only [Act.put, List.getElem_toArray, List.getElem_cons_succ, List.getElem_cons_zero, List.setIfInBounds_toArray, List.set_cons_zero, List.set_cons_succ]
      refine wpAnyH_take (i := 5) (v := ?val5x3) rfl (by kernel_rfl) (by kernel_rfl) (by kernel_rfl) (fun _ _ _ h => h) (Or.inl ⟨by rfl, fun w9 hS9 => ?yields5x3⟩) (by assumption) ?later5x3
      case yields5x3 =>
        dsimp only at hS9
        go_simp
        try with_reducible rfl
      try simp only [Act.put, List.getElem_toArray, List.getElem_cons_succ, List.getElem_cons_zero, List.setIfInBounds_toArray, List.set_cons_zero, List.set_cons_succ]
      refine wpAnyH_take (i := 6) (v := ?val6x4) rfl (by kernel_rfl) (by kernel_rfl) (by kernel_rfl) (fun _ _ _ h => h) (Or.inl ⟨by rfl, fun w9 hS9 => ?yields6x4⟩) (by assumption) ?later6x4
      case yields6x4 =>
        dsimp only at hS9
        go_simp
        try with_reducible rfl
      try simp only [Act.put, List.getElem_toArray, List.getElem_cons_succ, List.getElem_cons_zero, List.setIfInBounds_toArray, List.set_cons_zero, List.set_cons_succ]
      refine wpAnyH_take (i := 7) (v := ?val7x5) rfl (by kernel_rfl) (by kernel_rfl) (by kernel_rfl) (fun _ _ _ h => h) (Or.inl ⟨by rfl, fun w9 hS9 => ?yields7x5⟩) (by assumption) ?later7x5
      case yields7x5 =>
        dsimp only at hS9
        go_simp
        try with_reducible rfl
      try simp only [Act.put, List.getElem_toArray, List.getElem_cons_succ, List.getElem_cons_zero, List.setIfInBounds_toArray, List.set_cons_zero, List.set_cons_succ]
      refine wpAnyH_take (i := 8) (v := ?val8x6) rfl (by kernel_rfl) (by kernel_rfl) (by kernel_rfl) (fun _ _ _ h => h) (Or.inl ⟨by rfl, fun w9 hS9 => ?yields8x6⟩) (by assumption) ?later8x6
      case yields8x6 =>
        dsimp only at hS9
        go_simp
        try with_reducible rfl
      try simp only [Act.put, List.getElem_toArray, List.getElem_cons_succ, List.getElem_cons_zero, List.setIfInBounds_toArray, List.set_cons_zero, List.set_cons_succ]
      refine wpAnyH_take (i := 9) (v := ?val9x7) rfl (by kernel_rfl) (by kernel_rfl) (by kernel_rfl) (fun _ _ _ h => h) (Or.inl ⟨by rfl, fun w9 hS9 => ?yields9x7⟩) (by assumption) ?later9x7
      case yields9x7 =>
        dsimp only at hS9
        go_simp
        try with_reducible rfl
      try simp only [Act.put, List.getElem_toArray, List.getElem_cons_succ, List.getElem_cons_zero, List.setIfInBounds_toArray, List.set_cons_zero, List.set_cons_succ]
      refine wpAnyH_done (by kernel_rfl) ?_ _
      obtain ⟨-, -, HB⟩ := hHeld
      clear HBd MK
      clear KA KP
      replace HW := Lib.hid (HW.out.trans (HB.out.mono HW.out.size))
      replace BP := Lib.hid (BP.out.keep (Keep.below HB.out))
      replace H7 := Lib.hid (H7.out.keep (Keep.below HB.out))
      replace HO := Lib.hid (HO.out.keep HB.out)
      clear HB
      clear c0 c1 o0 o1
      obtain ⟨wD, hwD⟩ : ∃ wz, wz = wz7 := ⟨_, rfl⟩
      subst hwD
      go_wp2_with fail
      refine (rUsesErr_any l A c _ (HA.out.keep (Keep.below HW.out))).mono ?_
      rintro e' w8 ⟨rfl, hb1⟩
      replace HW := Lib.hid (HW.out.trans (hb1.mono HW.out.size))
      replace BP := Lib.hid (BP.out.keep (Keep.below hb1))
      replace H7 := Lib.hid (H7.out.keep (Keep.below hb1))
      replace HO := Lib.hid (HO.out.keep hb1)
      clear hb1
      by_cases he : usesErr l = 0
      · have HE := Lib.hid (uses_ok he)
        have HSM := Lib.hid (uses_small HE.out)
        have HUR := Lib.hid (uses_zero (uses_rev HE.out))
        have HGD := Lib.hid (HQ.out.good he)
        rw [he, plates_out he]
        clear he HQ
        obtain ⟨c0, c1⟩ := BP.out
        go_wp2_with fail
        refine (rCheckPlates_any l P x A B c cp _ (HA.out.keep (Keep.below HW.out)) (HP.out.keep (Keep.below HW.out)) HSM.out).mono ?_
        rintro e' w9 ⟨rfl, hb1⟩
        replace HW := Lib.hid (HW.out.trans (hb1.mono HW.out.size))
        replace BP := Lib.hid (BP.out.keep (Keep.below hb1))
        replace H7 := Lib.hid (H7.out.keep (Keep.below hb1))
        replace HO := Lib.hid (HO.out.keep hb1)
        clear c0 c1
        clear hb1
        go_wp2_with fail
        refine (rMost_any l A c _ (HA.out.keep (Keep.below HW.out)) HSM.out).mono ?_
        rintro e' wd ⟨rfl, hb1⟩
        replace HW := Lib.hid (HW.out.trans (hb1.mono HW.out.size))
        replace BP := Lib.hid (BP.out.keep (Keep.below hb1))
        replace H7 := Lib.hid (H7.out.keep (Keep.below hb1))
        replace HO := Lib.hid (HO.out.keep hb1)
        clear hb1
        obtain ⟨o0, o1, -, -⟩ := HO.out
        go_wp2_with fail
        refine (rCheckPlates_any l Q t A A7 c c7 _ (HA.out.keep (Keep.below HW.out)) H7.out HSM.out).mono ?_
        rintro e' we ⟨rfl, hb1⟩
        replace HW := Lib.hid (HW.out.trans (hb1.mono HW.out.size))
        replace BP := Lib.hid (BP.out.keep (Keep.below hb1))
        replace H7 := Lib.hid (H7.out.keep (Keep.below hb1))
        replace HO := Lib.hid (HO.out.keep hb1)
        rw [HGD.out]
        clear o0 o1
        clear hb1
        clear H7
        have HEN := Lib.hid (fun hh => plates_enough (l := l) (P := P) (t := x) hh)
        obtain ⟨n, hn⟩ : ∃ n, n = (checkPlates l P x).1 := ⟨_, rfl⟩
        obtain ⟨z, hz⟩ : ∃ z, z = (checkPlates l P x).2 := ⟨_, rfl⟩
        obtain ⟨m, hm⟩ : ∃ m, m = mostTo l l.length := ⟨_, rfl⟩
        have HM := Lib.hid hm
        rw [← hn, ← hz, ← hm] at HEN
        rw [← hn, ← hz, ← hm]
        clear hn hz hm HGD
        by_cases hz : z = 0
        · have hnm := HEN.out hz
          have y1 : (z == 0) = true := by simpa using hz
          have y2 : decide (n < m) = false := decide_eq_false (by omega)
          have HZZ := Lib.hid hz
          clear hz hnm HEN
          go_wp2_with fail
          go_loopw [15, 16] (fun v s wr => ∃ q : Nat, q ≤ l.length ∧ s = .int .i64 ((q : Int) - 1) ∧ Hid (wr.ownsRow we.heap.size 113 3 v (l.drop q).reverse.length (recFlat (l.drop q).reverse)) ∧ Hid (Below we.heap.size we wr)) (fun _ s _ => (intOf s + 1).toNat)
          case atStart => exact ⟨l.length, Nat.le_refl _, rfl, Lib.hid (by rw [List.drop_length]; exact World.ownsRow_nil _ _ _ _), Lib.hid (Below.refl _ _)⟩
          case round =>
            obtain ⟨q, hq, rfl, HO2, HX⟩ := hrel
            rcases Nat.eq_zero_or_pos q with hq0 | hq0
            · subst hq0
              have d1 : decide (((0 : Nat) : Int) - 1 ≥ 0) = false := by decide
              have d2 : decide (0 ≤ ((0 : Nat) : Int) - 1) = false := by decide
              rw [List.drop_zero] at HO2
              have hmr := most_rev l
              rw [← HM.out] at hmr
              have hur := HUR.out
              obtain ⟨V, hV⟩ : ∃ V, V = l.reverse := ⟨_, rfl⟩
              rw [← hV] at HO2 hmr hur
              have HMR := Lib.hid hmr
              have HVR := Lib.hid hur
              clear hV hmr hur HUR HM
              obtain ⟨A8, c8, rfl, h8⟩ := own_recs HO2.out
              have H8 := Lib.hid h8
              have e1 := h8.le.1
              have e2 := h8.le.2
              replace HW := Lib.hid (HW.out.trans (HX.out.mono HW.out.size))
              clear h8 HO2 HX
              go_wp2_with fail
              refine (xPlates_any V A8 c8 _ H8.out).mono ?_
              rintro e' wg ⟨⟨Q2, A9, c9, t2, rfl, h9, hq9⟩, hb1⟩
              have H9 := Lib.hid (h9.keep (Keep.alloc wg (.cells #[.slice A9 Q2.length c9, .int .i64 t2] 103)))
              replace H8 := Lib.hid ((H8.out.keep (Keep.below hb1)).keep (Keep.alloc wg (.cells #[.slice A9 Q2.length c9, .int .i64 t2] 103)))
              have HO9 := Lib.hid (TreeAt.new wg (.slice A9 Q2.length c9) (.int .i64 t2) 103)
              have g1 := h9.le.1
              have g2 := h9.le.2
              rw [HVR.out]
              have HGD := Lib.hid (hq9.good HVR.out)
              replace HW := Lib.hid ((HW.out.trans (hb1.mono HW.out.size)).alloc (HW.out.trans (hb1.mono HW.out.size)).size (.cells #[.slice A9 Q2.length c9, .int .i64 t2] 103))
              clear h9 hq9 hb1
              obtain ⟨z0, z1, -, -⟩ := HO9.out
              go_wp2_with fail
              refine (xCheckPlates_any V A8 c8 Q2 A9 c9 t2 _ H8.out H9.out).mono ?_
              rintro e' wh ⟨rfl, hb1⟩
              rw [plates_out HVR.out, HGD.out, HMR.out]
              replace HW := Lib.hid (HW.out.trans (hb1.mono HW.out.size))
              clear z0 z1 hb1
              go_wp2_with fail
              go_ret
              exact ⟨rfl, HW.out⟩
            · obtain ⟨k, rfl⟩ : ∃ k, q = k + 1 := ⟨q - 1, by omega⟩
              have hk1 : (((k + 1 : Nat) : Int) - 1) = (k : Int) := by omega
              rw [hk1]
              have hkl : k < l.length := by omega
              have hkn : (k : Int) < (l.length : Int) := by omega
              have d1 : decide ((k : Int) ≥ 0) = true := decide_eq_true (by omega)
              have d2 : decide (0 ≤ (k : Int)) = true := decide_eq_true (by omega)
              obtain ⟨b8, o8, rfl, r⟩ := (HA.out.keep (Keep.below (HW.out.trans (HX.out.mono HW.out.size)))).at_ (k := k) hkl
              obtain ⟨r0, r1, r2⟩ := r
              have hw1 : IntKind.i64.wrap ((k : Int) - 1) = (k : Int) - 1 := by rw [IntKind.wrap_i64]; omega
              have HLN := Lib.hid (show (l.drop (k + 1)).reverse.length ≤ 16 by rw [List.length_reverse, List.length_drop]; omega)
              have HRV := Lib.hid (rev_drop hkl)
              obtain ⟨out, hout⟩ : ∃ out, out = (l.drop (k + 1)).reverse := ⟨_, rfl⟩
              rw [← hout] at HO2 HLN HRV
              clear hout
              obtain ⟨hi, hz0, hz1, hz2⟩ := HINF.out
              have hln := HLN.out
              clear hk1 hq hq0
              go_wp2_with (at_builtin; generalize hgen : wpList _ _ _ _ _ _ = GG)
              rw [← hgen]
              clear hgen GG
              refine wpList_append_own _ rfl (.tmp 122) (.tmp 127) 101 rfl we.heap.size 113 i0 _ 3 32 Try.underlying101 hi hz0 hz1 hz2 rfl (by decide) _ _ _ rfl (HO2.out.alloc _) ⟨_, 0, none⟩ 1 1 [.string (listW l k).who, .int .i64 (listW l k).beg, .int .i64 (listW l k).fin] rfl rfl ?c1 ?c2 ?c3 ?c4 ?c5 ?_
              case c1 => exact World.news_of_block (heap_alloc_new _ _)
              case c2 => exact recOne _
              case c3 => unfold maxLen; omega
              case c4 => omega
              case c5 => have := HX.out.size; simp; omega
              intro v9 w9 ho9 hg9 _
              go_wp2_with fail
              go_roundw
              case rel =>
                refine ⟨k, by omega, rfl, Lib.hid ?_, Lib.hid ?_⟩
                · rw [HRV.out, recFlat_more, List.length_append, List.length_singleton]
                  exact ho9
                · exact (HX.out.alloc HX.out.size _).grown hg9 (by have := HX.out.size; simp; omega) (fun j hj => (HO2.out.lt j hj).1)
              case measure => simp [intOf]
        · have y1 : (z == 0) = false := by simpa using hz
          clear hz HEN
          go_wp2_with fail
          go_loopw [15, 16] (fun v s wr => ∃ q : Nat, q ≤ l.length ∧ s = .int .i64 ((q : Int) - 1) ∧ Hid (wr.ownsRow we.heap.size 113 3 v (l.drop q).reverse.length (recFlat (l.drop q).reverse)) ∧ Hid (Below we.heap.size we wr)) (fun _ s _ => (intOf s + 1).toNat)
          case atStart => exact ⟨l.length, Nat.le_refl _, rfl, Lib.hid (by rw [List.drop_length]; exact World.ownsRow_nil _ _ _ _), Lib.hid (Below.refl _ _)⟩
          case round =>
            obtain ⟨q, hq, rfl, HO2, HX⟩ := hrel
            rcases Nat.eq_zero_or_pos q with hq0 | hq0
            · subst hq0
              have d1 : decide (((0 : Nat) : Int) - 1 ≥ 0) = false := by decide
              have d2 : decide (0 ≤ ((0 : Nat) : Int) - 1) = false := by decide
              rw [List.drop_zero] at HO2
              have hmr := most_rev l
              rw [← HM.out] at hmr
              have hur := HUR.out
              obtain ⟨V, hV⟩ : ∃ V, V = l.reverse := ⟨_, rfl⟩
              rw [← hV] at HO2 hmr hur
              have HMR := Lib.hid hmr
              have HVR := Lib.hid hur
              clear hV hmr hur HUR HM
              obtain ⟨A8, c8, rfl, h8⟩ := own_recs HO2.out
              have H8 := Lib.hid h8
              have e1 := h8.le.1
              have e2 := h8.le.2
              replace HW := Lib.hid (HW.out.trans (HX.out.mono HW.out.size))
              clear h8 HO2 HX
              go_wp2_with fail
              refine (xPlates_any V A8 c8 _ H8.out).mono ?_
              rintro e' wg ⟨⟨Q2, A9, c9, t2, rfl, h9, hq9⟩, hb1⟩
              have H9 := Lib.hid (h9.keep (Keep.alloc wg (.cells #[.slice A9 Q2.length c9, .int .i64 t2] 103)))
              replace H8 := Lib.hid ((H8.out.keep (Keep.below hb1)).keep (Keep.alloc wg (.cells #[.slice A9 Q2.length c9, .int .i64 t2] 103)))
              have HO9 := Lib.hid (TreeAt.new wg (.slice A9 Q2.length c9) (.int .i64 t2) 103)
              have g1 := h9.le.1
              have g2 := h9.le.2
              rw [HVR.out]
              have HGD := Lib.hid (hq9.good HVR.out)
              replace HW := Lib.hid ((HW.out.trans (hb1.mono HW.out.size)).alloc (HW.out.trans (hb1.mono HW.out.size)).size (.cells #[.slice A9 Q2.length c9, .int .i64 t2] 103))
              clear h9 hq9 hb1
              obtain ⟨z0, z1, -, -⟩ := HO9.out
              go_wp2_with fail
              refine (xCheckPlates_any V A8 c8 Q2 A9 c9 t2 _ H8.out H9.out).mono ?_
              rintro e' wh ⟨rfl, hb1⟩
              rw [plates_out HVR.out, HGD.out, HMR.out]
              replace HW := Lib.hid (HW.out.trans (hb1.mono HW.out.size))
              clear z0 z1 hb1
              go_wp2_with fail
              go_ret
              exact ⟨rfl, HW.out⟩
            · obtain ⟨k, rfl⟩ : ∃ k, q = k + 1 := ⟨q - 1, by omega⟩
              have hk1 : (((k + 1 : Nat) : Int) - 1) = (k : Int) := by omega
              rw [hk1]
              have hkl : k < l.length := by omega
              have hkn : (k : Int) < (l.length : Int) := by omega
              have d1 : decide ((k : Int) ≥ 0) = true := decide_eq_true (by omega)
              have d2 : decide (0 ≤ (k : Int)) = true := decide_eq_true (by omega)
              obtain ⟨b8, o8, rfl, r⟩ := (HA.out.keep (Keep.below (HW.out.trans (HX.out.mono HW.out.size)))).at_ (k := k) hkl
              obtain ⟨r0, r1, r2⟩ := r
              have hw1 : IntKind.i64.wrap ((k : Int) - 1) = (k : Int) - 1 := by rw [IntKind.wrap_i64]; omega
              have HLN := Lib.hid (show (l.drop (k + 1)).reverse.length ≤ 16 by rw [List.length_reverse, List.length_drop]; omega)
              have HRV := Lib.hid (rev_drop hkl)
              obtain ⟨out, hout⟩ : ∃ out, out = (l.drop (k + 1)).reverse := ⟨_, rfl⟩
              rw [← hout] at HO2 HLN HRV
              clear hout
              obtain ⟨hi, hz0, hz1, hz2⟩ := HINF.out
              have hln := HLN.out
              clear hk1 hq hq0
              go_wp2_with (at_builtin; generalize hgen : wpList _ _ _ _ _ _ = GG)
              rw [← hgen]
              clear hgen GG
              refine wpList_append_own _ rfl (.tmp 122) (.tmp 127) 101 rfl we.heap.size 113 i0 _ 3 32 Try.underlying101 hi hz0 hz1 hz2 rfl (by decide) _ _ _ rfl (HO2.out.alloc _) ⟨_, 0, none⟩ 1 1 [.string (listW l k).who, .int .i64 (listW l k).beg, .int .i64 (listW l k).fin] rfl rfl ?e1 ?e2 ?e3 ?e4 ?e5 ?_
              case e1 => exact World.news_of_block (heap_alloc_new _ _)
              case e2 => exact recOne _
              case e3 => unfold maxLen; omega
              case e4 => omega
              case e5 => have := HX.out.size; simp; omega
              intro v9 w9 ho9 hg9 _
              go_wp2_with fail
              go_roundw
              case rel =>
                refine ⟨k, by omega, rfl, Lib.hid ?_, Lib.hid ?_⟩
                · rw [HRV.out, recFlat_more, List.length_append, List.length_singleton]
                  exact ho9
                · exact (HX.out.alloc HX.out.size _).grown hg9 (by have := HX.out.size; simp; omega) (fun j hj => (HO2.out.lt j hj).1)
              case measure => simp [intOf]
      · have y1 : (usesErr l == 0) = false := by simpa using he
        have y2 : (usesErr l != 0) = true := by simpa using he
        obtain ⟨hQ, rfl⟩ := HQ.out.bad he
        subst hQ
        rw [plates_outbad he]
        clear he HQ H7 q1 q2
        obtain ⟨o0, o1, -, -⟩ := HO.out
        go_wp2_with fail
        go_ret
        exact ⟨rfl, HW.out⟩
    · have s1 : decide ((P.length : Int) > 16) = true := decide_eq_true (by omega)
      have s2 : decide (16 < (P.length : Int)) = true := decide_eq_true (by omega)
      have s3 : decide (16 < P.length) = true := decide_eq_true (by omega)
      clear hs
      go_wp2_with fail
      go_ret
      exact ⟨rfl, HW.out⟩
end Go.Proofs.Ytolicafhbeiciaa

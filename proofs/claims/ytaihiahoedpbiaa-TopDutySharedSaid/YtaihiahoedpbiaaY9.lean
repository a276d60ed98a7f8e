/- Plates. No condition. -/
import Derived.Test.YtaihiahoedpbiaaY6
import Derived.Test.YtaihiahoedpbiaaX11
import Derived.Test.YtaihiahoedpbiaaY2
import Derived.Test.YtaihiahoedpbiaaMem
import Derived.Test.YtaihiahoedpbiaaProg
import Derived.Deep.Slices
import Derived.Deep.Frames
import Derived.Deep.Modes
import Derived.ProofKit
import Derived.Carry
import Derived.OpenShut
namespace Go.Proofs.Ytaihiahoedpbiaa
open Go.RowKit Fs

theorem ArrI.offB {w : World} {g : Nat} {l : List Int} {c : Nat} (h : ArrI w (some ⟨g, 0, none⟩) l c) {p : Addr} (hp : p.block ≠ g) (v : Value) : ArrI (w.setCell p v) (some ⟨g, 0, none⟩) l c := by
  refine ⟨h.1, h.2.1, fun hn => ?_⟩
  obtain ⟨b, o, h1, h2⟩ := h.2.2 hn
  refine ⟨b, o, h1, fun i j hi hj => ?_⟩
  have h3 := h2 i j hi hj
  simp only [Option.some.injEq, Addr.mk.injEq] at h1
  rw [World.cell?_setCell_other _ _ _ _ (fun e => hp (by rw [e]; exact h1.1.symm))]
  exact h3
theorem ArrI.firsts {w : World} {B : Option Addr} {l : List Int} {c : Nat} (h : ArrI w B l c) {k : Nat} (hk : k ≤ l.length) : ArrI w B (l.take k) c := by
  have hl : (l.take k).length = k := by rw [List.length_take]; omega
  have h1 := h.1
  refine ⟨by rw [hl]; omega, h.2.1, fun hn => ?_⟩
  rw [hl] at hn
  obtain ⟨b, o, h2, h3⟩ := h.2.2 (by omega)
  refine ⟨b, o, h2, fun i j hi hj => ?_⟩
  rw [hl] at hi
  have h4 := h3 i j (by omega) hj
  have h5 : listI (l.take k) i = listI l i := by
    unfold listI
    rw [List.getD_eq_getElem?_getD, List.getD_eq_getElem?_getD, List.getElem?_take_of_lt hi]
  simp only [h5]
  exact h4
theorem TreeAt.offB {w : World} {g : Nat} {u v : Value} (m : TreeAt w g u v) {p : Addr} (hp : p.block ≠ g) (x : Value) : TreeAt (w.setCell p x) g u v :=
  ⟨(World.cell?_setCell_other _ _ _ _ (fun e => hp (by rw [e]))).trans m.c0, (World.cell?_setCell_other _ _ _ _ (fun e => hp (by rw [e]))).trans m.c1, (World.frozen?_setCell _ _ _ _).trans m.f0, (World.frozen?_setCell _ _ _ _).trans m.f1⟩
theorem TreeAt.put1 {w : World} {g : Nat} {u v : Value} (m : TreeAt w g u v) (x : Value) : TreeAt (w.setCell ⟨g, 1, none⟩ x) g u x :=
  ⟨(World.cell?_setCell_other _ _ _ _ (by simp)).trans m.c0, World.cell?_setCell_same _ _ _ m.c1, (World.frozen?_setCell _ _ _ _).trans m.f0, (World.frozen?_setCell _ _ _ _).trans m.f1⟩
theorem firsts_at {O : List Nat} {k j : Nat} (hj : j < k) : (O.take k).getD j 0 = O.getD j 0 := by
  rw [List.getD_eq_getElem?_getD, List.getD_eq_getElem?_getD, List.getElem?_take_of_lt hj]
theorem free_firsts {l : List WRec} {P : List Int} {O : List Nat} {u k C p : Nat} (h : Free l P (O.take k) u k C p) : Free l P O u k C p :=
  ⟨h.le, fun j hj => by have := h.no j hj; rw [firsts_at hj] at this; exact this, fun q hq => by
    obtain ⟨j, hj, h1, h2⟩ := h.low q hq
    rw [firsts_at hj] at h1 h2
    exact ⟨j, hj, h1, h2⟩⟩
theorem xFree_any (l : List WRec) (P : List Int) (O : List Nat) (A : Option Addr) (c gp go k C : Nat) (t : Int) (w : World) (h : ArrW w A l c) (hG : RowV w gp 3 (intVals P ++ [])) (hB : ArrI w (some ⟨go, 0, none⟩) (O.map Int.ofNat) l.length)
    (hO : Begun l O) (hU : UsesOk l) (hk : k < O.length) (g : Greedy l P O k C t) :
    Calls Try.prog 122 #[.slice A l.length c, .slice (some ⟨gp, 0, none⟩) l.length l.length, .slice (some ⟨go, 0, none⟩) k l.length, .int .i64 (O.getD k 0 : Nat)] w fun e w' => (∃ p : Nat, e = .returned (.int .i64 p) ∧ Free l P O (O.getD k 0) k C p) ∧ Below w.heap.size w w' := by
  have hl := begun_len hO
  have h14 := hU.len
  have hkl : (O.take k).length = k := by rw [List.length_take]; omega
  have e1 : (O.map Int.ofNat).take k = (O.take k).map Int.ofNat := by rw [List.map_take]
  have hB2 := hB.firsts (k := k) (by rw [List.length_map]; omega)
  rw [e1] at hB2
  have hG2 := hG.arr (c := l.length) (by rw [g.len]; exact Nat.le_refl _) (by unfold maxLen; omega)
  have key := xFreePlate_any l P (O.take k) A (some ⟨gp, 0, none⟩) (some ⟨go, 0, none⟩) c l.length l.length (O.getD k 0) C w h hG2 hB2 g.len (begun_lt hO hk)
    (fun j hj => by rw [hkl] at hj; rw [firsts_at hj]; exact begun_lt hO (by omega)) (by have := g.le; omega) (fun j hj => by rw [hkl] at hj; rw [firsts_at hj]; exact g.rng j hj) h14
  rw [hkl, g.len] at key
  refine key.mono ?_
  rintro e' w' ⟨⟨p, rfl, hf⟩, hb⟩
  exact ⟨⟨p, rfl, free_firsts hf⟩, hb⟩
set_option linter.unusedSimpArgs false in
set_option maxHeartbeats 12800000 in
set_option maxRecDepth 100000 in
theorem xPlates_any (l : List WRec) (A : Option Addr) (c : Nat) (w : World) (h : ArrW w A l c) :
    Calls Try.prog 64 #[.slice A l.length c] w fun e w' => (∃ P A' c' t, e = .returned (.tuple #[.agg #[.slice A' P.length c', .int .i64 t], .int .i64 (usesErr l)]) ∧ ArrI w' A' P c' ∧ PlatesIs l P t) ∧ Below w.heap.size w w' := by
  obtain ⟨i0, hi, hz0, hz1, hz2⟩ := info_parts Try.infoNum
  have b1 := h.le.1
  have b2 := h.le.2
  have HA := Lib.hid h
  have HT0 := Lib.hid (TreeAt.new w (.slice none 0 0) (.int .i64 0) 103)
  have hbx := Lib.hid ((Below.refl w.heap.size w).alloc (Nat.le_refl _) (.cells #[.slice none 0 0, .int .i64 0] 103))
  clear h
  go_enter Try.func64, Try.ntmps64
  go_upto_region 1 with fail
  generalize hwb : w.alloc _ = wb at *
  obtain ⟨r, hr⟩ : ∃ r, r = w.heap.size := ⟨_, rfl⟩
  have HRE := Lib.hid hr
  rw [← hr] at HT0
  clear hwb
  have hrw : w.heap.size ≤ r := by omega
  go_wp2_with fail
  refine (xUsesErr_any l A c wb (HA.out.keep (Keep.below hbx.out))).mono ?_
  rintro e' w1 ⟨rfl, hb1⟩
  have HB1 := Lib.hid (hbx.out.trans (hb1.mono hbx.out.size))
  have HT1 := Lib.hid (HT0.out.keep hb1)
  have hr1 : r < w1.heap.size := HT1.out.lt
  clear hb1 HT0 hbx
  by_cases he : usesErr l = 0
  · have HE := Lib.hid he
    have HU := Lib.hid (uses_ok he)
    have h14 := HU.out.len
    rw [he]
    clear he
    rw [← hr]
    clear hr
    go_upto_region 5 with (at_make; refine wpList_make_full _ rfl (.tmp 18) (.tmp 18) 92 rfl _ 3 i0 (.int .i64 0) 1 Try.underlying92 hi hz0 hz1 .i64 .i64 l.length l.length l.length rfl rfl rfl rfl (by rw [hz2]; omega) (by unfold maxLen; omega) (Nat.le_refl _) ?_)
    intro w5 hown hg2
    have HB2 : Hid (Below w1.heap.size w1 w5) := Lib.hid ⟨hg2.os, hg2.tape, hg2.output, hg2.size, fun k hk => hg2.block k hk (by simp)⟩
    have HR2 : Hid (RowV w5 w1.heap.size 3 (intVals (List.replicate l.length 0) ++ [])) := Lib.hid (by
      have := (RowV.of_own hown).1
      rw [toList_madeCells_one] at this
      rw [List.append_nil]
      unfold intVals
      rw [List.map_replicate]
      exact this)
    obtain ⟨gp, hgp⟩ : ∃ gp, gp = w1.heap.size := ⟨_, rfl⟩
    rw [← hgp] at HR2 ⊢
    have hrg : r < gp := by omega
    have HT2 := Lib.hid (HT1.out.keep HB2.out)
    have HB3 := Lib.hid (HB1.out.trans (HB2.out.mono HB1.out.size))
    have hgw : gp < w5.heap.size := HR2.out.lt
    clear hown hg2 HT1 HB1 HB2 hgp hr1
    have HR3 := Lib.hid (HR2.out.alloc (.cells #[.slice (some ⟨gp, 0, none⟩) l.length l.length, .int .i64 0] 103))
    have HT3 := Lib.hid (HT2.out.alloc (.cells #[.slice (some ⟨gp, 0, none⟩) l.length l.length, .int .i64 0] 103))
    have HP3 := Lib.hid (TreeAt.new w5 (.slice (some ⟨gp, 0, none⟩) l.length l.length) (.int .i64 0) 103)
    have HB4 := Lib.hid (HB3.out.alloc HB3.out.size (.cells #[.slice (some ⟨gp, 0, none⟩) l.length l.length, .int .i64 0] 103))
    go_upto_region 5 with fail
    obtain ⟨p, hp⟩ : ∃ p, p = w5.heap.size := ⟨_, rfl⟩
    rw [← hp] at HP3 hgw ⊢
    clear HR2 HT2 HB3 hp
    generalize hwb : w5.alloc _ = w6 at *
    clear hwb w5
    have hpw : p < w6.heap.size := HP3.out.lt
    go_wp2_with fail
    refine (xByBeginning_any l A c w6 (HA.out.keep (Keep.below HB4.out)) h14).mono ?_
    rintro e' w7 ⟨⟨go, O, rfl, hgo, hOA, hO⟩, hb7⟩
    have HO := Lib.hid hO
    have HOA := Lib.hid hOA
    have HR7 := Lib.hid (HR3.out.keep hb7)
    have HT7 := Lib.hid (HT3.out.keep hb7)
    have HP7 := Lib.hid (HP3.out.keep hb7)
    have HB7 := Lib.hid (HB4.out.trans (hb7.mono HB4.out.size))
    have hpo : p < go := by omega
    have hlO := begun_len hO
    have HG0 := Lib.hid (greedy_zero l O)
    clear hO hOA HR3 HT3 HP3 HB4 hb7 hgo hpw
    go_wp2_with fail
    go_loopw [6, 25] (fun u s wr => ∃ (k C : Nat) (P : List Int) (t : Int), k ≤ l.length ∧ u = .int .i64 C ∧ s = .int .i64 k ∧ Hid (Greedy l P O k C t) ∧ Hid (RowV wr gp 3 (intVals P ++ [])) ∧ Hid (TreeAt wr p (.slice (some ⟨gp, 0, none⟩) l.length l.length) (.int .i64 t)) ∧ Hid (TreeAt wr r (.slice none 0 0) (.int .i64 0)) ∧ Hid (ArrI wr (some ⟨go, 0, none⟩) (O.map Int.ofNat) l.length) ∧ Hid (Below w.heap.size w wr)) (fun _ s _ => l.length - (intOf s).toNat)
    case atStart => exact ⟨0, 0, _, 0, Nat.zero_le _, rfl, rfl, HG0, HR7, HP7, HT7, HOA, HB7⟩
    case round =>
      obtain ⟨k, C, P, t, hk, rfl, rfl, HGR, HR, HP, HT, HOO, HB⟩ := hrel
      by_cases hlt : k < l.length
      · have hkn : (k : Int) < (l.length : Int) := by omega
        have hkO : k < O.length := by omega
        have HKO := Lib.hid hkO
        obtain ⟨x0, o0, e0, q0⟩ := HOO.out.at_ (k := k) (by rw [List.length_map]; exact hkO)
        obtain ⟨rfl, rfl⟩ : go = x0 ∧ 0 = o0 := by simpa using e0
        rw [Nat.zero_add] at q0
        obtain ⟨u, hu⟩ : ∃ u, u = O.getD k 0 := ⟨_, rfl⟩
        have HUE := Lib.hid hu
        have ej : listI (O.map Int.ofNat) k = (u : Int) := by
          rw [hu]; unfold listI
          rw [List.getD_eq_getElem?_getD, List.getD_eq_getElem?_getD, List.getElem?_map, List.getElem?_eq_getElem hkO]
          rfl
        rw [ej] at q0
        have hul : u < l.length := by rw [hu]; exact begun_lt HO.out hkO
        have hun : (u : Int) < (l.length : Int) := by omega
        obtain ⟨p0, p1, pf0, pf1⟩ := HP.out
        clear e0 hu ej hkO
        go_upto_region 10 with fail
        go_wp2_with fail
        have HBd : Hid (Below wr.heap.size wr wr.drew) := Lib.hid (Below.refl _ _).drew
        have MK : Hid (∀ w', Below wr.heap.size wr w' → w'.cell? ⟨p, 0, none⟩ = some (.slice (some ⟨gp, 0, none⟩) l.length l.length) ∧ Hid (Below wr.heap.size wr w')) :=
          Lib.hid fun w' hw => ⟨Keep.below hw _ _ p0, Lib.hid hw⟩
        have KA : Hid (∀ w', Below wr.heap.size wr w' → ArrW w' A l c) := Lib.hid fun w' hw => HA.out.keep (Keep.below (HB.out.trans (hw.mono HB.out.size)))
        have KR : Hid (∀ w', Below wr.heap.size wr w' → RowV w' gp 3 (intVals P ++ [])) := Lib.hid fun w' hw => HR.out.keep hw
        have KO : Hid (∀ w', Below wr.heap.size wr w' → ArrI w' (some ⟨go, 0, none⟩) (O.map Int.ofNat) l.length) := Lib.hid fun w' hw => HOO.out.keep (Keep.below hw)
        refine wp_region_held_drew (S := fun w' => w'.cell? ⟨p, 0, none⟩ = some (.slice (some ⟨gp, 0, none⟩) l.length l.length) ∧ Hid (Below wr.heap.size wr w')) (by kernel_rfl) (MK.out _ HBd.out) (fun hHeld => ?_)
        refine wpAnyH_take (i := 0) (v := ?val0x19) rfl (by kernel_rfl) (by kernel_rfl) (by kernel_rfl) (fun _ _ _ h => h) (Or.inl ⟨by rfl, fun w9 hS9 => ?yields0x19⟩) (by assumption) ?later0x19
        case yields0x19 =>
          dsimp only at hS9
          go_simp
          try with_reducible rfl
        try simp only [Act.put, List.getElem_toArray, List.getElem_cons_succ, List.getElem_cons_zero, List.setIfInBounds_toArray, List.set_cons_zero, List.set_cons_succ]
        refine wpAnyH_take (i := 1) (v := ?val1x20) rfl (by kernel_rfl) (by kernel_rfl) (by kernel_rfl) (fun _ _ _ h => h) (Or.inl ⟨by rfl, fun w9 hS9 => ?yields1x20⟩) (by assumption) ?later1x20
        case yields1x20 =>
          dsimp only at hS9
          go_simp
          try with_reducible rfl
        try simp only [Act.put, List.getElem_toArray, List.getElem_cons_succ, List.getElem_cons_zero, List.setIfInBounds_toArray, List.set_cons_zero, List.set_cons_succ]
        refine wpAnyH_take (i := 2) (v := ?val2x21) rfl (by kernel_rfl) (by kernel_rfl) (by kernel_rfl) (fun _ _ _ h => h) (Or.inl ⟨by rfl, fun w9 hS9 => ?yields2x21⟩) (by assumption) ?later2x21
        case yields2x21 =>
          dsimp only at hS9
          go_simp
          try with_reducible rfl
        try simp only [Act.put, List.getElem_toArray, List.getElem_cons_succ, List.getElem_cons_zero, List.setIfInBounds_toArray, List.set_cons_zero, List.set_cons_succ]
        refine wpAnyH_take (i := 3) (v := ?val3x22) rfl (by kernel_rfl) (by kernel_rfl) (by kernel_rfl) (fun _ _ _ h => h) (Or.inl ⟨by rfl, fun w9 hS9 => ?yields3x22⟩) (by assumption) ?later3x22
        case yields3x22 =>
          dsimp only at hS9
          go_simp
          try with_reducible rfl
        try simp only [Act.put, List.getElem_toArray, List.getElem_cons_succ, List.getElem_cons_zero, List.setIfInBounds_toArray, List.set_cons_zero, List.set_cons_succ]
        refine wpAnyH_take (i := 4) (v := ?val4x23) rfl (by kernel_rfl) (by kernel_rfl) (by kernel_rfl) (fun _ _ _ h => h) (Or.inl ⟨by rfl, fun w9 hS9 => ?yields4x23⟩) (by assumption) ?later4x23
        case yields4x23 =>
          dsimp only at hS9
          go_simp
          try with_reducible rfl
        try simp only [Act.put, List.getElem_toArray, List.getElem_cons_succ, List.getElem_cons_zero, List.setIfInBounds_toArray, List.set_cons_zero, List.set_cons_succ]
        refine wpAnyH_take (i := 5) (v := ?val5x24) rfl (by kernel_rfl) (by kernel_rfl) (by kernel_rfl) (fun _ _ _ h => h) (Or.inl ⟨by rfl, fun w9 hS9 => ?yields5x24⟩) (by assumption) ?later5x24
        case yields5x24 =>
          dsimp only at hS9
          go_simp
          try with_reducible rfl
        try simp only [Act.put, List.getElem_toArray, List.getElem_cons_succ, List.getElem_cons_zero, List.setIfInBounds_toArray, List.set_cons_zero, List.set_cons_succ]
        refine wpAnyH_take (i := 6) (v := ?val6x25) rfl (by kernel_rfl) (by kernel_rfl) (by kernel_rfl) (fun _ _ _ h => h) (Or.inl ⟨by rfl, fun w9 hS9 => ?yields6x25⟩) (by assumption) ?later6x25
        case yields6x25 =>
          dsimp only at hS9
          go_simp
          try with_reducible rfl
        try simp only [Act.put, List.getElem_toArray, List.getElem_cons_succ, List.getElem_cons_zero, List.setIfInBounds_toArray, List.set_cons_zero, List.set_cons_succ]
        refine wpAnyH_ready (rs := [7]) (by kernel_rfl) (by simp) ?_
        refine AllReadyH.cons rfl (fun K hK => ?_) AllReadyH.nil
        go_simp
        go_at_call 122
        go_split_ands
        refine ((show Calls Try.prog 122 #[.slice A l.length c, .slice (some ⟨gp, 0, none⟩) l.length l.length, .slice (some ⟨go, 0, none⟩) k l.length, .int .i64 u] _ _ from by rw [HUE.out]; exact xFree_any l P O A c gp go k C t _ (KA.out _ (Hid.out (by assumption))) (KR.out _ (Hid.out (by assumption))) (KO.out _ (Hid.out (by assumption))) HO.out HU.out HKO.out HGR.out)).mono ?_
        rintro e' w9 ⟨⟨q, rfl, hq⟩, hb1⟩
        have HQ := Lib.hid hq
        clear hq
        go_wp2_with fail
        refine hK.out _ _ ?_ (fun hHeld => ?_)
        · (try dsimp only)
          (go_split_ands; exact MK.out _ (Below.trans (Hid.out (by assumption)) (hb1.mono (Hid.out (by assumption) : Below wr.heap.size wr _).size)))
        clear hK K
        try simp only [Act.put, List.getElem_toArray, List.getElem_cons_succ, List.getElem_cons_zero, List.setIfInBounds_toArray, List.set_cons_zero, List.set_cons_succ]
        refine wpAnyH_take (i := 8) (v := ?val8x26) rfl (by kernel_rfl) (by kernel_rfl) (by kernel_rfl) (fun _ _ _ h => h) (Or.inl ⟨by rfl, fun w9 hS9 => ?yields8x26⟩) (by assumption) ?later8x26
        case yields8x26 =>
          dsimp only at hS9
          go_simp
          try with_reducible rfl
        try simp only [Act.put, List.getElem_toArray, List.getElem_cons_succ, List.getElem_cons_zero, List.setIfInBounds_toArray, List.set_cons_zero, List.set_cons_succ]
        refine wpAnyH_done (by kernel_rfl) ?_ _
        obtain ⟨-, HB9⟩ := hHeld
        clear HBd MK
        have hgw2 : w.heap.size ≤ gp := by omega
        have hpw2 : w.heap.size ≤ p := by omega
        have HR9 := Lib.hid (HR.out.keep HB9.out)
        have HP9 := Lib.hid (HP.out.keep HB9.out)
        have HT9 := Lib.hid (HT.out.keep HB9.out)
        have HO9 := Lib.hid (HOO.out.keep (Keep.below HB9.out))
        have HB10 := Lib.hid (HB.out.trans (HB9.out.mono HB.out.size))
        have huP : u < P.length := by rw [HGR.out.len]; exact hul
        have c9 := HR9.out.at_ huP
        have f9 := HR9.out.frozen u
        have HR10 := Lib.hid (HR9.out.put huP (q : Int))
        have HP10 := Lib.hid (HP9.out.offB (p := ⟨gp, u, none⟩) (show gp ≠ p by omega) (.int .i64 (q : Int)))
        have HT10 := Lib.hid (HT9.out.offB (p := ⟨gp, u, none⟩) (show gp ≠ r by omega) (.int .i64 (q : Int)))
        have HO10 := Lib.hid (HO9.out.offB (p := ⟨gp, u, none⟩) (show gp ≠ go by omega) (.int .i64 (q : Int)))
        have HB11 := Lib.hid (HB10.out.setCell (p := ⟨gp, u, none⟩) hgw2 (.int .i64 (q : Int)))
        obtain ⟨x0, x1, y0, y1⟩ := HP9.out
        have hCk := HGR.out.le
        have hCw : IntKind.i64.wrap ((C : Int) + 1) = (C : Int) + 1 := by rw [IntKind.wrap_i64]; omega
        clear p0 p1 pf0 pf1 q0 HR9 HT9 HO9 HB9 HR HT HOO HB HB10 KA KR KO
        go_upto_region 12 with fail
        generalize hwz : w9.setCell _ _ = wz at *
        clear hwz c9 f9 x0 x1 y0 y1
        by_cases hqC : q = C
        · have HG2 := Lib.hid (greedy_new HO.out HU.out HKO.out HGR.out HQ.out hqC)
          rw [← HUE.out] at HG2
          subst hqC
          obtain ⟨b, o, hAe, q0, q1, q2⟩ := (HA.out.keep (Keep.below HB11.out)).at_ hul
          have HAE := Lib.hid hAe
          obtain ⟨x0, x1, y0, y1⟩ := HP10.out
          have HR12 := Lib.hid (HR10.out.far (p := ⟨p, 1, none⟩) (show p ≠ gp by omega) (.int .i64 (listW l u).beg))
          have HP12 := Lib.hid (HP10.out.put1 (.int .i64 (listW l u).beg))
          have HT12 := Lib.hid (HT10.out.offB (p := ⟨p, 1, none⟩) (show p ≠ r by omega) (.int .i64 (listW l u).beg))
          have HO12 := Lib.hid (HO10.out.offB (p := ⟨p, 1, none⟩) (show p ≠ go by omega) (.int .i64 (listW l u).beg))
          have HB12 := Lib.hid (HB11.out.setCell (p := ⟨p, 1, none⟩) hpw2 (.int .i64 (listW l u).beg))
          clear HR10 HP10 HT10 HO10 HB11 q0 q2
          rw [hAe]
          clear hAe
          go_wp2_with fail
          rw [← HAE.out]
          go_roundw
          case rel => exact ⟨k + 1, q + 1, _, _, by omega, by go_num, by go_num, HG2, HR12, HP12, HT12, HO12, HB12⟩
          case measure => simp [intOf]; omega
        · have HG2 := Lib.hid (greedy_old HO.out HKO.out HGR.out HQ.out hqC)
          rw [← HUE.out] at HG2
          have e1 : ((q : Int) == (C : Int)) = false := by rw [beq_eq_false_iff_ne]; omega
          clear hqC
          go_wp2_with fail
          go_roundw
          case rel => exact ⟨k + 1, C, _, _, by omega, rfl, by go_num, HG2, HR10, HP10, HT10, HO10, HB11⟩
          case measure => simp [intOf]; omega
      · obtain rfl : k = l.length := by omega
        have HPE : Hid (PlatesIs l P t) := Lib.hid (greedy_end HO.out HU.out (by rw [hlO]; exact HGR.out))
        have hPl := HGR.out.len
        obtain ⟨x0, x1, -, -⟩ := HP.out
        obtain ⟨t0, t1, f0, f1⟩ := HT.out
        obtain ⟨s0, s1, -, -⟩ := HT.out.set (.slice (some ⟨gp, 0, none⟩) l.length l.length) (.int .i64 t)
        go_wp2_with fail
        refine bodyPost_ret (v := .tuple #[.agg #[.slice (some ⟨gp, 0, none⟩) l.length l.length, .int .i64 t], .int .i64 0]) (by simp [results, Try.results64, go_sem, s0, s1]) rfl ⟨⟨P, some ⟨gp, 0, none⟩, l.length, t, by rw [HE.out, hPl], ?_, HPE.out⟩, ?_⟩
        · exact ((HR.out.far (p := ⟨r, 0, none⟩) (show r ≠ gp by omega) _).far (p := ⟨r, 1, none⟩) (show r ≠ gp by omega) _).arr (by omega) (by unfold maxLen; omega)
        · exact (HB.out.setCell (p := ⟨r, 0, none⟩) hrw _).setCell (p := ⟨r, 1, none⟩) hrw _
  · have e1 : (usesErr l == 0) = false := by simpa using he
    have e2 : (usesErr l != 0) = true := by simpa using he
    have HNE := Lib.hid he
    clear he
    rw [← hr]
    clear hr
    obtain ⟨t0, t1, f0, f1⟩ := HT1.out
    obtain ⟨s0, s1, -, -⟩ := HT1.out.set (.slice none 0 0) (.int .i64 0)
    go_wp2_with fail
    refine bodyPost_ret (v := .tuple #[.agg #[.slice none 0 0, .int .i64 0], .int .i64 (usesErr l)]) (by simp [results, Try.results64, go_sem, s0, s1]) rfl ⟨⟨[], none, 0, 0, rfl, ⟨by simp, by decide, fun hh => absurd hh (by simp)⟩, ⟨fun _ => ⟨rfl, rfl⟩, fun h => absurd h HNE.out⟩⟩, ?_⟩
    exact (HB1.out.setCell (p := ⟨r, 0, none⟩) hrw _).setCell (p := ⟨r, 1, none⟩) hrw _
end Go.Proofs.Ytaihiahoedpbiaa
/- Contracts of Plates and CheckPlates. No condition. -/
namespace Go.Proofs.Ytaihiahoedpbiaa

end Go.Proofs.Ytaihiahoedpbiaa
/- Arguments as they come read as a net and an examination. No condition. -/
namespace Go.Proofs.Ytaihiahoedpbiaa
open Go.ChangeShapes Go.WideShapes Go.RowKit Go.Deep Fs

theorem Try.cellsInt : Try.prog.cellsOf 3 = 1 := by kernel_rfl
theorem Try.cellsText : Try.prog.cellsOf 9 = 1 := by kernel_rfl
theorem Try.cellsTexts : Try.prog.cellsOf 85 = 1 := by kernel_rfl
theorem Try.cellsInts : Try.prog.cellsOf 92 = 1 := by kernel_rfl
theorem Try.cellsRange : Try.prog.cellsOf 52 = 2 := by kernel_rfl
section
variable {H : Type} {enc : TypeId × Value → H} {P : Program} {w : World} {base : Nat} {spare : Nat → Bool} {held : Bool}
/-- A field's cells, and that they are read. -/
theorem fieldCells {t : TypeId} {fs : Array Field} {fuel : Nat} {cs : List Value} {x : DataW H × List MemPlace} (ht : P.underlying t = some (.struct fs)) (h : DataW.trod enc P w base spare held fuel t cs = some x) (j : Nat) (f : Field) (hj : fs[j]? = some f) :
    ∃ y n, DataW.trod enc P w base spare held n f.type ((cs.drop f.offset).take (P.cellsOf f.type)) = some y := by
  obtain ⟨xs, n, -, -, -, hl, hg⟩ := DataW.trod_struct ht h
  have hlt : j < xs.length := by
    rw [hl]
    rcases Nat.lt_or_ge j fs.size with h | h
    · exact h
    · rw [Array.getElem?_eq_none h] at hj; cases hj
  exact ⟨xs[j], n, by rw [hg j f hj, List.getElem?_eq_getElem hlt]⟩
theorem fieldOne {t : TypeId} {fs : Array Field} {fuel : Nat} {cs : List Value} {x : DataW H × List MemPlace} (ht : P.underlying t = some (.struct fs)) (h : DataW.trod enc P w base spare held fuel t cs = some x) (j : Nat) (f : Field) (hj : fs[j]? = some f) (h1 : P.cellsOf f.type = 1) (ho : f.offset < cs.length) :
    ∃ v y n, cs[f.offset]? = some v ∧ DataW.trod enc P w base spare held n f.type [v] = some y := by
  obtain ⟨y, n, hy⟩ := fieldCells ht h j f hj
  rw [h1, List.drop_eq_getElem_cons ho] at hy
  exact ⟨cs[f.offset], y, n, List.getElem?_eq_getElem ho, hy⟩
theorem structLen {t : TypeId} {fs : Array Field} {fuel : Nat} {cs : List Value} {x : DataW H × List MemPlace} (ht : P.underlying t = some (.struct fs)) (h : DataW.trod enc P w base spare held fuel t cs = some x) : cs.length = P.cellsOf t := by
  obtain ⟨xs, n, -, -, hl, -, -⟩ := DataW.trod_struct ht h
  exact hl
/-- A slice whose elements are read reads as a row. -/
theorem openArr {α : Type} (d0 : α) (cell : α → Nat → Value) (R : α → Prop) {t e : TypeId} {size fuel : Nat} {v : Value} {x : DataW H × List MemPlace} (ht : P.underlying t = some (.slice e)) (hC : P.cellsOf e = size) (hs : 0 < size)
    (he : ∀ n cs y, DataW.trod enc P w base spare held n e cs = some y → ∃ u, R u ∧ ∀ j, j < size → cs[j]? = some (cell u j)) (h : DataW.trod enc P w base spare held fuel t [v] = some x) :
    ∃ (l : List α) (A : Option Addr) (c : Nat), v = .slice A l.length c ∧ Arr w A l.length c size (fun i j => cell (l.getD i d0) j) ∧ ∀ i, i < l.length → R (l.getD i d0) := by
  rcases open_slice ht h with ⟨hcs, -⟩ | ⟨a, len, cap, m, n, D, Pl, hcs, -, hl, hm, hmm, -, hi⟩
  · injection hcs with hcs
    exact ⟨[], none, 0, hcs, ⟨Nat.le_refl _, by omega, fun hh => absurd hh (Nat.lt_irrefl 0)⟩, fun i hi => absurd hi (Nat.not_lt_zero _)⟩
  · injection hcs with hcs
    have hlm : len ≤ m := by rw [hmm]; split <;> omega
    have hel : ∀ i : Nat, ∃ u, i < len → R u ∧ ∀ j, j < size → w.cell? ((a.add (i * size)).add j) = some (cell u j) := by
      intro i
      by_cases hil : i < len
      · obtain ⟨cs', hc, ht'⟩ := hi i (by omega)
        rw [hC] at hc
        obtain ⟨u, hR, hu⟩ := he _ _ _ ht'
        obtain ⟨-, -, hat⟩ := World.cells?_some hc
        exact ⟨u, fun _ => ⟨hR, fun j hj => (hat j hj).trans (hu j hj)⟩⟩
      · exact ⟨d0, fun h => absurd h hil⟩
    obtain ⟨f, hf⟩ := Classical.axiomOfChoice hel
    have hlen : ((List.range len).map f).length = len := by simp
    have hget : ∀ i, i < len → ((List.range len).map f).getD i d0 = f i := fun i hi => by
      rw [List.getD_eq_getElem?_getD, List.getElem?_map, List.getElem?_range hi]
      rfl
    refine ⟨(List.range len).map f, some a, cap, by rw [hlen]; exact hcs, ⟨by omega, by unfold maxLen at hm; omega, fun hp => ?_⟩, fun i hi => by rw [hlen] at hi; rw [hget i hi]; exact (hf i hi).1⟩
    rw [hlen] at hp
    obtain ⟨ab, ao, asp⟩ := a
    have has : asp = none := by simpa [Addr.add] using World.cell?_spot ((hf 0 hp).2 0 hs)
    subst has
    refine ⟨ab, ao, rfl, fun i j hi hj => ?_⟩
    rw [hlen] at hi
    show w.cell? _ = some (cell (((List.range len).map f).getD i d0) j)
    rw [hget i hi]
    have := (hf i hi).2 j hj
    rwa [add_plain, add_plain] at this
end

section
variable {H : Type} {enc : TypeId × Value → H} {w : World} {base : Nat} {spare : Nat → Bool} {held : Bool}
theorem openInts {fuel : Nat} {v : Value} {x : DataW H × List MemPlace} (h : DataW.trod enc Try.prog w base spare held fuel 92 [v] = some x) : ∃ l A c, v = .slice A (List.length l) c ∧ ArrI w A l c := by
  obtain ⟨l, A, c, hv, ha, -⟩ := openArr (0 : Int) (fun x _ => .int .i64 x) (fun _ => True) Try.underlying92 Try.cellsInt (by decide) (fun n cs y hy => by
    obtain ⟨k, hk, -⟩ := DataW.trod_int Try.underlying3 hy
    exact ⟨k, trivial, fun j hj => by
      have : j = 0 := by omega
      subst this; rw [hk]; rfl⟩) h
  exact ⟨l, A, c, hv, ha⟩
theorem openTexts {fuel : Nat} {v : Value} {x : DataW H × List MemPlace} (h : DataW.trod enc Try.prog w base spare held fuel 85 [v] = some x) : ∃ l A c, v = .slice A (List.length l) c ∧ ArrS w A l c := by
  obtain ⟨l, A, c, hv, ha, -⟩ := openArr ByteArray.empty (fun x _ => .string x) (fun _ => True) Try.underlying85 Try.cellsText (by decide) (fun n cs y hy => by
    obtain ⟨k, hk, -⟩ := DataW.trod_string Try.underlying9 hy
    exact ⟨k, trivial, fun j hj => by
      have : j = 0 := by omega
      subst this; rw [hk]; rfl⟩) h
  exact ⟨l, A, c, hv, ha⟩
theorem fieldInt {t : TypeId} {fs : Array Field} {fuel : Nat} {cs : List Value} {x : DataW H × List MemPlace} (ht : Try.prog.underlying t = some (.struct fs)) (h : DataW.trod enc Try.prog w base spare held fuel t cs = some x) (j : Nat) (f : Field) (hj : fs[j]? = some f) (hf : f.type = 3) (ho : f.offset < cs.length) : ∃ k, cs[f.offset]? = some (.int .i64 k) := by
  obtain ⟨v, y, n, h1, h2⟩ := fieldOne ht h j f hj (by rw [hf]; exact Try.cellsInt) ho
  rw [hf] at h2
  obtain ⟨k, hk, -⟩ := DataW.trod_int Try.underlying3 h2
  injection hk with hk
  exact ⟨k, by rw [h1, hk]⟩
theorem fieldText {t : TypeId} {fs : Array Field} {fuel : Nat} {cs : List Value} {x : DataW H × List MemPlace} (ht : Try.prog.underlying t = some (.struct fs)) (h : DataW.trod enc Try.prog w base spare held fuel t cs = some x) (j : Nat) (f : Field) (hj : fs[j]? = some f) (hf : f.type = 9) (ho : f.offset < cs.length) : ∃ k, cs[f.offset]? = some (.string k) := by
  obtain ⟨v, y, n, h1, h2⟩ := fieldOne ht h j f hj (by rw [hf]; exact Try.cellsText) ho
  rw [hf] at h2
  obtain ⟨k, hk, -⟩ := DataW.trod_string Try.underlying9 h2
  injection hk with hk
  exact ⟨k, by rw [h1, hk]⟩
theorem fieldInts {t : TypeId} {fs : Array Field} {fuel : Nat} {cs : List Value} {x : DataW H × List MemPlace} (ht : Try.prog.underlying t = some (.struct fs)) (h : DataW.trod enc Try.prog w base spare held fuel t cs = some x) (j : Nat) (f : Field) (hj : fs[j]? = some f) (hf : f.type = 92) (ho : f.offset < cs.length) : ∃ l A c, cs[f.offset]? = some (.slice A (List.length l) c) ∧ ArrI w A l c := by
  obtain ⟨v, y, n, h1, h2⟩ := fieldOne ht h j f hj (by rw [hf]; exact Try.cellsInts) ho
  rw [hf] at h2
  obtain ⟨l, A, c, hv, ha⟩ := openInts h2
  exact ⟨l, A, c, by rw [h1, hv], ha⟩
end

section
variable {H : Type} {enc : TypeId × Value → H} {w : World} {base : Nat} {spare : Nat → Bool} {held : Bool}
/-- A road and where its points lie. -/
abbrev RdX := Rd × Option Addr × Nat
def rdX0 : RdX := (d0, none, 0)
end
end Go.Proofs.Ytaihiahoedpbiaa
/- Arguments as they come read as a way, a trip, two numbers. No condition. -/
namespace Go.Proofs.Ytaihiahoedpbiaa
open Go.ChangeShapes Go.WideShapes Go.RowKit Go.Deep Fs

theorem Try.cellsPair : Try.prog.cellsOf 37 = 2 := by kernel_rfl
theorem okWide_array {P : Program} {w : World} {r : Reach} {base n : Nat} {t e : TypeId} {v : Value} (ht : P.underlying t = some (.array n e)) (h : Value.okWide P w r base t v) : ∃ cs, v = .agg cs ∧ cs.size = P.cellsOf t := by
  simp only [Value.okWide, ht] at h
  obtain ⟨cs, h1, h2, _⟩ := h
  exact ⟨cs, h1, h2⟩
section
variable {H : Type} {enc : TypeId × Value → H} {w : World} {base : Nat} {spare : Nat → Bool} {held : Bool}
set_option maxRecDepth 100000 in
theorem openWay {r : Reach} {b0 : Nat} {v : Value} {d : DataW H} {p : List MemPlace} (hv : Value.okWide Try.prog w r b0 92 v) (h : DataW.Trod enc Try.prog w base spare held 92 v d p) : ∃ (l : List Int) (A : Option Addr) (c : Nat), v = .slice A l.length c ∧ ArrI w A l c := by
  obtain ⟨a, n, c, rfl⟩ := okWide_slice Try.underlying92 hv
  obtain ⟨fuel, hf⟩ := h
  exact openInts (by simpa [Value.cells] using hf)
set_option maxRecDepth 100000 in
theorem openPair {r : Reach} {b0 : Nat} {v : Value} {d : DataW H} {p : List MemPlace} (hv : Value.okWide Try.prog w r b0 37 v) (h : DataW.Trod enc Try.prog w base spare held 37 v d p) : ∃ x y : Int, v = .agg #[.int .i64 x, .int .i64 y] := by
  obtain ⟨cs, rfl, hsz⟩ := okWide_array Try.underlying37 hv
  obtain ⟨l⟩ := cs
  match l, hsz.trans Try.cellsPair with
  | [v0, v1], _ =>
    obtain ⟨fuel, hf⟩ := h
    have hy : DataW.trod enc Try.prog w base spare held fuel 37 [v0, v1] = some (d, p) := by simpa [Value.cells] using hf
    obtain ⟨xs, m, -, -, -, hl, hg⟩ := DataW.trod_array Try.underlying37 hy
    have h0 := hg 0 (by decide)
    have h1 := hg 1 (by decide)
    rw [Try.cellsInt, List.getElem?_eq_getElem (by omega)] at h0 h1
    obtain ⟨a0, g0, -⟩ := DataW.trod_int Try.underlying3 h0
    obtain ⟨a1, g1, -⟩ := DataW.trod_int Try.underlying3 h1
    have e0 : [v0] = [.int .i64 a0] := g0
    have e1 : [v1] = [.int .i64 a1] := g1
    injection e0 with e0; injection e1 with e1
    subst e0; subst e1
    exact ⟨a0, a1, rfl⟩
end
end Go.Proofs.Ytaihiahoedpbiaa

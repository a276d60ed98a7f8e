/- Which items can be which claims: rows of answers. Condition: the things are right. -/
import Derived.Test.YtfjdnbnalihjiaaGreatDoorK6
import Derived.Test.YtfjdnbnalihjiaaGreatDoorT12
import Derived.Test.YtfjdnbnalihjiaaGreatDoorRP
import Derived.Test.YtfjdnbnalihjiaaGreatDoorG13
namespace Go.Proofs.YtfjdnbnalihjiaaGreatDoor
open Go.RowKit Fs

theorem RowV.setQ {w : World} {g : Nat} {t : TypeId} {l : List Value} (h : RowV w g t l) (i : Nat) (v : Value) : RowV (w.setCell ⟨g, i, none⟩ v) g t (l.set i v) := by
  unfold RowV
  rw [heap_setCell_same w g i l.toArray t v h]
  simp
theorem RowV.keepQ {w w' : World} {g : Nat} {t : TypeId} {l : List Value} (h : RowV w g t l) (hb : Below w.heap.size w w') : RowV w' g t l := h.below hb h.lt
/-- A row of n that is filled up to k. -/
def rowQ (f : Nat → Value) (z : Value) (n k : Nat) : List Value := (List.range n).map fun i => if i < k then f i else z
theorem rowQ_zero (f : Nat → Value) (z : Value) (n : Nat) : rowQ f z n 0 = List.replicate n z := by
  unfold rowQ
  apply List.ext_getElem
  · simp
  · intro i h1 h2
    simp
theorem rowQ_set {f : Nat → Value} {z v : Value} {n k : Nat} : (rowQ f z n k).set k v = rowQ (fun i => if i = k then v else f i) z n (k + 1) := by
  unfold rowQ
  apply List.ext_getElem
  · simp
  · intro i h1 h2
    rw [List.getElem_set]
    simp only [List.getElem_map, List.getElem_range]
    by_cases e : k = i
    · subst e; simp
    · rw [if_neg e]
      have e' : ¬ i = k := fun h => e h.symm
      by_cases h : i < k
      · rw [if_pos h, if_pos (show i < k + 1 by omega), if_neg e']
      · rw [if_neg h, if_neg (show ¬ i < k + 1 by omega)]
theorem rowQ_fun {f f' : Nat → Value} {z : Value} {n k : Nat} (h : ∀ i, i < k → f i = f' i) : rowQ f z n k = rowQ f' z n k := by
  unfold rowQ
  apply List.map_congr_left
  intro i _
  by_cases e : i < k
  · rw [if_pos e, if_pos e, h i e]
  · rw [if_neg e, if_neg e]
theorem rowQ_at {f : Nat → Value} {z : Value} {n k i : Nat} (hi : i < n) : (rowQ f z n k)[i]? = some (if i < k then f i else z) := by
  unfold rowQ
  rw [List.getElem?_map, List.getElem?_range hi]
  rfl
theorem RowV.farQ {w : World} {g : Nat} {t : TypeId} {l : List Value} (h : RowV w g t l) {p : Addr} (hp : g ≠ p.block) (v : Value) : RowV (w.setCell p v) g t l := by
  unfold RowV
  rw [heap_setCell_other w p g v hp]
  exact h
theorem ThgAt.farQ {w : World} {b o : Nat} {x : Thg} {p : Option Addr} {pc : Nat} (m : ThgAt w b o x p pc) {q : Addr} (hq : q.block ≠ b) (v : Value) : ThgAt (w.setCell q v) b o x p pc :=
  ⟨(World.cell?_setCell_far _ _ _ _ hq).trans m.c0, (World.cell?_setCell_far _ _ _ _ hq).trans m.c1, (World.cell?_setCell_far _ _ _ _ hq).trans m.c2, (World.cell?_setCell_far _ _ _ _ hq).trans m.c3⟩
theorem ThgAt.belowQ {B : Nat} {w w' : World} {b o : Nat} {x : Thg} {p : Option Addr} {pc : Nat} (m : ThgAt w b o x p pc) (h : Below B w w') (hb : b < B) : ThgAt w' b o x p pc :=
  ⟨(h.cell (p := ⟨b, o, none⟩) hb).trans m.c0, (h.cell (p := ⟨b, o + 1, none⟩) hb).trans m.c1, (h.cell (p := ⟨b, o + 2, none⟩) hb).trans m.c2, (h.cell (p := ⟨b, o + 3, none⟩) hb).trans m.c3⟩
def sliceAt (m : Nat) (g : Nat) : Value := .slice (some ⟨g, 0, none⟩) m m
def canV (l d : List Thg) (i j : Nat) : Value := .bool (canBe (lThg l i) (lThg d j))
theorem Tryz.infoRows : (Tryz.prog.info? 142).map (fun i => (i.zero, i.size, i.bytes)) = some (some (.slice none 0 0), 1, 24) := by kernel_rfl
theorem Tryz.infoBools : (Tryz.prog.info? 4).map (fun i => (i.zero, i.size, i.bytes)) = some (some (.bool false), 1, 1) := by kernel_rfl
/-- Rows of answers at g. -/
structure CanRows (w : World) (l d : List Thg) (g : Nat) (gs : Nat → Nat) (B : Nat) : Prop where
  out : RowV w g 142 (rowQ (fun i => sliceAt d.length (gs i)) (.slice none 0 0) l.length l.length)
  row : ∀ i, i < l.length → RowV w (gs i) 4 (rowQ (canV l d i) (.bool false) d.length d.length)
  ge : B ≤ g
  ges : ∀ i, i < l.length → B ≤ gs i
theorem CanRows.keep {w w' : World} {l d : List Thg} {g : Nat} {gs : Nat → Nat} {B : Nat} (h : CanRows w l d g gs B) (hb : Below w.heap.size w w') : CanRows w' l d g gs B := ⟨h.out.keepQ hb, fun i hi => (h.row i hi).keepQ hb, h.ge, h.ges⟩
set_option linter.unusedSimpArgs false in
set_option maxHeartbeats 12800000 in
set_option maxRecDepth 100000 in
theorem xPossible_any (l d : List Thg) (A B : Option Addr) (c e : Nat) (a b : GA) (w : World) (h : ArrTh w A l c a) (h2 : ArrTh w B d e b) (hp : pairErr l d = 0) :
    Calls Tryz.prog 98 #[.slice A l.length c, .slice B d.length e] w fun x w' => (∃ g gs, x = .returned (.slice (some ⟨g, 0, none⟩) l.length l.length) ∧ CanRows w' l d g gs w.heap.size) ∧ Below w.heap.size w w' := by
  obtain ⟨i0, hi, hz0, hz1, hz2⟩ := info_parts Tryz.infoBools
  obtain ⟨j0, hj, jz0, jz1, jz2⟩ := info_parts Tryz.infoRows
  obtain ⟨hpl, hpd⟩ := two_zero hp
  have O1 := Lib.hid (thgs_ok hpl)
  have O2 := Lib.hid (thgs_ok hpd)
  have hl12 := O1.out.1
  have hd12 := O2.out.1
  have HA := Lib.hid h
  have HB := Lib.hid h2
  have bl := h.le
  have bd := h2.le
  clear h h2 hp hpl hpd
  obtain ⟨n, hn⟩ : ∃ n, n = l.length := ⟨_, rfl⟩
  obtain ⟨m, hm⟩ : ∃ m, m = d.length := ⟨_, rfl⟩
  rw [← hn] at hl12 bl ⊢
  rw [← hm] at hd12 bd ⊢
  have HN := Lib.hid hn
  have HM := Lib.hid hm
  clear hn hm
  go_enter Tryz.func98, Tryz.ntmps98
  go_wp2_with (at_make; refine wpList_make_full _ rfl (.tmp 11) (.tmp 11) 140 rfl _ 142 j0 (.slice none 0 0) 1 Tryz.underlying140 hj jz0 jz1 .i64 .i64 n n n rfl rfl rfl rfl (by rw [jz2]; omega) (by unfold maxLen; omega) (Nat.le_refl _) ?_)
  intro w1 hown hg1
  have HB1 : Hid (Below w.heap.size w w1) := Lib.hid ⟨hg1.os, hg1.tape, hg1.output, hg1.size, fun k hk => hg1.block k hk (by simp)⟩
  have HR1 : Hid (RowV w1 w.heap.size 142 (rowQ (fun i => sliceAt m ((fun _ => 0) i)) (.slice none 0 0) n 0)) := Lib.hid (by
    have := (RowV.of_own hown).1
    rw [toList_madeCells_one] at this
    rw [rowQ_zero]
    exact this)
  clear hown hg1
  obtain ⟨g0, hg0⟩ : ∃ g, g = w.heap.size := ⟨_, rfl⟩
  rw [← hg0] at HR1
  have HG0 := Lib.hid hg0
  go_wp2_with fail
  rw [← hg0]
  clear hg0
  go_loopw [15] (fun i wr => ∃ (k : Nat) (gs : Nat → Nat), k ≤ n ∧ i = .int .i64 k ∧ Hid (RowV wr g0 142 (rowQ (fun i => sliceAt m (gs i)) (.slice none 0 0) n k)) ∧ Hid (∀ i, i < k → RowV wr (gs i) 4 (rowQ (canV l d i) (.bool false) m m) ∧ w.heap.size ≤ gs i) ∧ Hid (Below w.heap.size w wr)) (fun i _ => n - (intOf i).toNat)
  case atStart => exact ⟨0, _, Nat.zero_le _, rfl, HR1, Lib.hid (fun i hi => absurd hi (Nat.not_lt_zero _)), HB1⟩
  case round =>
    obtain ⟨k, gs, hk, rfl, HR, HG, HX⟩ := hrel
    by_cases hlt : k < n
    · have hkn : (k : Int) < (n : Int) := by omega
      have hkl : k < l.length := by rw [← HN.out]; exact hlt
      have HKL := Lib.hid hkl
      obtain ⟨bb, o, rfl, ⟨q0, q1, q2, q3⟩, qm⟩ := (HA.out.keep (Keep.below HX.out)).at_ hkl
      have hgx0 : g0 < wr.heap.size := HR.out.lt
      have TX := Lib.hid (ThgAt.new wr (lThg l k) (a.p k) (a.pc k) 24)
      have QM := Lib.hid (qm.keep (Keep.alloc wr (.cells #[.string (lThg l k).name, .int .i64 (lThg l k).day, .string (lThg l k).who, .slice (a.p k) (lThg l k).marks.length (a.pc k)] 24)))
      replace HR := Lib.hid (HR.out.keepQ ((Below.refl _ _).alloc (Nat.le_refl _) (.cells #[.string (lThg l k).name, .int .i64 (lThg l k).day, .string (lThg l k).who, .slice (a.p k) (lThg l k).marks.length (a.pc k)] 24)))
      replace HG := Lib.hid (fun i (hi : i < k) => (show RowV (wr.alloc (.cells #[.string (lThg l k).name, .int .i64 (lThg l k).day, .string (lThg l k).who, .slice (a.p k) (lThg l k).marks.length (a.pc k)] 24)) (gs i) 4 (rowQ (canV l d i) (.bool false) m m) ∧ w.heap.size ≤ gs i from ⟨(HG.out i hi).1.keepQ ((Below.refl _ _).alloc (Nat.le_refl _) (.cells #[.string (lThg l k).name, .int .i64 (lThg l k).day, .string (lThg l k).who, .slice (a.p k) (lThg l k).marks.length (a.pc k)] 24)), (HG.out i hi).2⟩))
      replace HX := Lib.hid (HX.out.alloc HX.out.size (.cells #[.string (lThg l k).name, .int .i64 (lThg l k).day, .string (lThg l k).who, .slice (a.p k) (lThg l k).marks.length (a.pc k)] 24))
      clear qm hkl
      go_upto_region 5 with fail
      obtain ⟨gx, hgx⟩ : ∃ g, g = wr.heap.size := ⟨_, rfl⟩
      rw [← hgx] at TX hgx0
      rw [← hgx]
      generalize wr.alloc _ = wc at *
      clear q0 q1 q2 q3 hgx
      have s0 := (HR.out.cell k).trans (rowQ_at hlt)
      rw [if_neg (Nat.lt_irrefl _)] at s0
      have f0 := HR.out.frozen k
      go_wp2_with (at_make; refine wpList_make_full _ rfl (.tmp 23) (.tmp 23) 142 rfl _ 4 i0 (.bool false) 1 Tryz.underlying142 hi hz0 hz1 .i64 .i64 m m m rfl rfl rfl rfl (by rw [hz2]; omega) (by unfold maxLen; omega) (Nat.le_refl _) ?_)
      intro w2 hown hg1
      have hb2 : Below wc.heap.size wc w2 := ⟨hg1.os, hg1.tape, hg1.output, hg1.size, fun k hk => hg1.block k hk (by simp)⟩
      obtain ⟨gi, hgi⟩ : ∃ g, g = wc.heap.size := ⟨_, rfl⟩
      have HI0 : RowV w2 gi 4 (rowQ (canV l d k) (.bool false) m 0) := by
        have := (RowV.of_own hown).1
        rw [toList_madeCells_one] at this
        rw [rowQ_zero, hgi]
        exact this
      have HGI := Lib.hid (show g0 < gi ∧ gx < gi ∧ w.heap.size ≤ gi ∧ (∀ i, i < k → gs i < gi) from ⟨by rw [hgi]; exact HR.out.lt, by rw [hgi]; exact World.block_lt_of_cell? wc _ TX.out.c0, by rw [hgi]; exact HX.out.size, fun i hi => by rw [hgi]; exact (HG.out i hi).1.lt⟩)
      have hne : gi ≠ g0 := fun e => by have := HGI.out.1; omega
      have c0 := Keep.below hb2 _ _ s0
      have cf := (HR.out.keepQ hb2).frozen k
      obtain ⟨wA, hwA⟩ : ∃ wA, wA = w2.setCell ⟨g0, k, none⟩ (.slice (some ⟨gi, 0, none⟩) m m) := ⟨_, rfl⟩
      have R0 := (HR.out.keepQ hb2).setQ k (sliceAt m gi)
      rw [rowQ_set] at R0
      have R1 := Lib.hid (show RowV wA g0 142 (rowQ (fun i => sliceAt m ((fun i => if i = k then gi else gs i) i)) (.slice none 0 0) n (k + 1)) by
        rw [rowQ_fun (f' := fun i => if i = k then sliceAt m gi else sliceAt m (gs i)) (fun i _ => by by_cases e : i = k <;> simp [e]), hwA]; exact R0)
      have I1 := Lib.hid (show RowV wA gi 4 (rowQ (canV l d k) (.bool false) m 0) by rw [hwA]; exact HI0.farQ hne _)
      have G1 := Lib.hid (show ∀ i, i < k → RowV wA (gs i) 4 (rowQ (canV l d i) (.bool false) m m) ∧ w.heap.size ≤ gs i from fun i hi => ⟨by
        have h0 := (HG.out i hi).1
        have h1 := HR.out
        have h2 : gs i ≠ g0 := fun e => by
          rw [e] at h0
          unfold RowV at h0 h1
          rw [h0] at h1
          injection h1 with h1
          injection h1 with _ h1 _
          exact absurd h1 (by decide)
        rw [hwA]; exact (h0.keepQ hb2).farQ h2 _, (HG.out i hi).2⟩)
      have TA := Lib.hid (show ThgAt wA gx 0 (lThg l k) (a.p k) (a.pc k) by rw [hwA]; exact ThgAt.farQ (TX.out.keep (Keep.below hb2)) (by show g0 ≠ gx; omega) _)
      have HXA := Lib.hid (show Below w.heap.size w wA by rw [hwA]; exact (HX.out.trans (hb2.mono HX.out.size)).setCell (p := ⟨g0, k, none⟩) (by show _ ≤ g0; rw [HG0.out]; exact Nat.le_refl _) _)
      have HWA := Lib.hid hwA
      rw [← hgi]
      clear s0 f0 hown hg1 hb2 hgi HI0 hne R0 hwA hgx0 HR HG HX TX
      go_wp2_with fail
      rw [← HWA.out]
      clear c0 cf HWA
      go_loopw [28] (fun i wi => ∃ j : Nat, j ≤ m ∧ i = .int .i64 j ∧ Hid (RowV wi gi 4 (rowQ (canV l d k) (.bool false) m j)) ∧ Hid (Below gi wA wi)) (fun i _ => m - (intOf i).toNat)
      case atStart => exact ⟨0, Nat.zero_le _, rfl, I1, Lib.hid (Below.refl _ _)⟩
      case round =>
        obtain ⟨j, hj2, rfl, RI, HBI⟩ := hrel
        have HXI := Lib.hid (HXA.out.trans (HBI.out.mono HGI.out.2.2.1))
        by_cases hlj : j < m
        · have hjn : (j : Int) < (m : Int) := by omega
          have hjl : j < d.length := by rw [← HM.out]; exact hlj
          have HJL := Lib.hid hjl
          obtain ⟨b2, o2, rfl, ⟨r0, r1, r2, r3⟩, rm⟩ := (HB.out.keep (Keep.below HXI.out)).at_ hjl
          have TY := Lib.hid (ThgAt.new wr (lThg d j) (b.p j) (b.pc j) 26)
          have MI := Lib.hid (((HA.out.keep (Keep.below HXI.out)).2 k HKL.out).keep (Keep.alloc wr (.cells #[.string (lThg d j).name, .int .i64 (lThg d j).day, .string (lThg d j).who, .slice (b.p j) (lThg d j).marks.length (b.pc j)] 26)))
          have MJ := Lib.hid (rm.keep (Keep.alloc wr (.cells #[.string (lThg d j).name, .int .i64 (lThg d j).day, .string (lThg d j).who, .slice (b.p j) (lThg d j).marks.length (b.pc j)] 26)))
          have hgw : gi < wr.heap.size := RI.out.lt
          replace RI := Lib.hid (RI.out.keepQ ((Below.refl _ _).alloc (Nat.le_refl _) (.cells #[.string (lThg d j).name, .int .i64 (lThg d j).day, .string (lThg d j).who, .slice (b.p j) (lThg d j).marks.length (b.pc j)] 26)))
          replace HBI := Lib.hid (HBI.out.alloc (Nat.le_of_lt hgw) (.cells #[.string (lThg d j).name, .int .i64 (lThg d j).day, .string (lThg d j).who, .slice (b.p j) (lThg d j).marks.length (b.pc j)] 26))
          clear rm hjl
          go_upto_region 9 with fail
          obtain ⟨gy, hgy⟩ : ∃ g, g = wr.heap.size := ⟨_, rfl⟩
          rw [← hgy] at TY
          rw [← hgy]
          generalize wr.alloc _ = wy at *
          clear r0 r1 r2 r3 hgy hgw
          obtain ⟨q0, q1, q2, q3⟩ := TA.out.belowQ HBI.out HGI.out.2.1
          obtain ⟨r0, r1, r2, r3⟩ := TY.out
          have z0 : wy.cell? ⟨g0, k, none⟩ = some (.slice (some ⟨gi, 0, none⟩) m m) := (HBI.out.cell (p := ⟨g0, k, none⟩) HGI.out.1).trans ((R1.out.cell k).trans ((rowQ_at hlt).trans (by rw [if_pos (Nat.lt_succ_self k), if_pos rfl]; rfl)))
          go_wp2_with fail
          have HBd : Hid (Below wy.heap.size wy wy.drew) := Lib.hid (Below.refl _ _).drew
          have MK : Hid (∀ w', Below wy.heap.size wy w' → w'.cell? ⟨g0, k, none⟩ = some (.slice (some ⟨gi, 0, none⟩) m m) ∧ w'.cell? ⟨gx, 0, none⟩ = some (.string (lThg l k).name) ∧ w'.cell? ⟨gx, 1, none⟩ = some (.int .i64 (lThg l k).day) ∧ w'.cell? ⟨gx, 2, none⟩ = some (.string (lThg l k).who) ∧ w'.cell? ⟨gx, 3, none⟩ = some (.slice (a.p k) (lThg l k).marks.length (a.pc k)) ∧ w'.cell? ⟨gy, 0, none⟩ = some (.string (lThg d j).name) ∧ w'.cell? ⟨gy, 1, none⟩ = some (.int .i64 (lThg d j).day) ∧ w'.cell? ⟨gy, 2, none⟩ = some (.string (lThg d j).who) ∧ w'.cell? ⟨gy, 3, none⟩ = some (.slice (b.p j) (lThg d j).marks.length (b.pc j)) ∧ Hid (Below wy.heap.size wy w')) :=
            Lib.hid fun w' hw => ⟨Keep.below hw _ _ z0, Keep.below hw _ _ q0, Keep.below hw _ _ q1, Keep.below hw _ _ q2, Keep.below hw _ _ q3, Keep.below hw _ _ r0, Keep.below hw _ _ r1, Keep.below hw _ _ r2, Keep.below hw _ _ r3, Lib.hid hw⟩
          have KQ : Hid (∀ w', Below wy.heap.size wy w' → ArrMk w' (a.p k) (lThg l k).marks (a.pc k)) := Lib.hid fun w' hw => (MI.out.keep (Keep.below hw))
          have KR : Hid (∀ w', Below wy.heap.size wy w' → ArrMk w' (b.p j) (lThg d j).marks (b.pc j)) := Lib.hid fun w' hw => (MJ.out.keep (Keep.below hw))
          refine heldPeel (S := fun w' => w'.cell? ⟨g0, k, none⟩ = some (.slice (some ⟨gi, 0, none⟩) m m) ∧ w'.cell? ⟨gx, 0, none⟩ = some (.string (lThg l k).name) ∧ w'.cell? ⟨gx, 1, none⟩ = some (.int .i64 (lThg l k).day) ∧ w'.cell? ⟨gx, 2, none⟩ = some (.string (lThg l k).who) ∧ w'.cell? ⟨gx, 3, none⟩ = some (.slice (a.p k) (lThg l k).marks.length (a.pc k)) ∧ w'.cell? ⟨gy, 0, none⟩ = some (.string (lThg d j).name) ∧ w'.cell? ⟨gy, 1, none⟩ = some (.int .i64 (lThg d j).day) ∧ w'.cell? ⟨gy, 2, none⟩ = some (.string (lThg d j).who) ∧ w'.cell? ⟨gy, 3, none⟩ = some (.slice (b.p j) (lThg d j).marks.length (b.pc j)) ∧ Hid (Below wy.heap.size wy w')) (l := [_, _, _, _, _, _, _, _, _]) (by kernel_rfl) (by kernel_rfl) (MK.out _ HBd.out) (fun hHeld => ?_)
          refine wpAnyH_take (i := 0) (v := ?val0x7) rfl (by kernel_rfl) (by kernel_rfl) (by kernel_rfl) (fun _ _ _ h => h) (Or.inl ⟨by rfl, fun w9 hS9 => ?yields0x7⟩) (by assumption) ?later0x7
          case yields0x7 =>
            dsimp only at hS9
            go_simp
            try with_reducible rfl
          try simp only [Act.put, List.getElem_toArray, List.getElem_cons_succ, List.getElem_cons_zero, List.setIfInBounds_toArray, List.set_cons_zero, List.set_cons_succ]
          refine wpAnyH_take (i := 1) (v := ?val1x8) rfl (by kernel_rfl) (by kernel_rfl) (by kernel_rfl) (fun _ _ _ h => h) (Or.inl ⟨by rfl, fun w9 hS9 => ?yields1x8⟩) (by assumption) ?later1x8
          case yields1x8 =>
            dsimp only at hS9
            go_simp
            try with_reducible rfl
          try simp only [Act.put, List.getElem_toArray, List.getElem_cons_succ, List.getElem_cons_zero, List.setIfInBounds_toArray, List.set_cons_zero, List.set_cons_succ]
          refine wpAnyH_take (i := 2) (v := ?val2x9) rfl (by kernel_rfl) (by kernel_rfl) (by kernel_rfl) (fun _ _ _ h => h) (Or.inl ⟨by rfl, fun w9 hS9 => ?yields2x9⟩) (by assumption) ?later2x9
          case yields2x9 =>
            dsimp only at hS9
            go_simp
            try with_reducible rfl
          try simp only [Act.put, List.getElem_toArray, List.getElem_cons_succ, List.getElem_cons_zero, List.setIfInBounds_toArray, List.set_cons_zero, List.set_cons_succ]
          refine wpAnyH_take (i := 3) (v := ?val3x10) rfl (by kernel_rfl) (by kernel_rfl) (by kernel_rfl) (fun _ _ _ h => h) (Or.inl ⟨by rfl, fun w9 hS9 => ?yields3x10⟩) (by assumption) ?later3x10
          case yields3x10 =>
            dsimp only at hS9
            go_simp
            try with_reducible rfl
          try simp only [Act.put, List.getElem_toArray, List.getElem_cons_succ, List.getElem_cons_zero, List.setIfInBounds_toArray, List.set_cons_zero, List.set_cons_succ]
          refine wpAnyH_take (i := 4) (v := ?val4x11) rfl (by kernel_rfl) (by kernel_rfl) (by kernel_rfl) (fun _ _ _ h => h) (Or.inl ⟨by rfl, fun w9 hS9 => ?yields4x11⟩) (by assumption) ?later4x11
          case yields4x11 =>
            dsimp only at hS9
            go_simp
            try with_reducible rfl
          try simp only [Act.put, List.getElem_toArray, List.getElem_cons_succ, List.getElem_cons_zero, List.setIfInBounds_toArray, List.set_cons_zero, List.set_cons_succ]
          refine wpAnyH_take (i := 5) (v := ?val5x12) rfl (by kernel_rfl) (by kernel_rfl) (by kernel_rfl) (fun _ _ _ h => h) (Or.inl ⟨by rfl, fun w9 hS9 => ?yields5x12⟩) (by assumption) ?later5x12
          case yields5x12 =>
            dsimp only at hS9
            go_simp
            try with_reducible rfl
          try simp only [Act.put, List.getElem_toArray, List.getElem_cons_succ, List.getElem_cons_zero, List.setIfInBounds_toArray, List.set_cons_zero, List.set_cons_succ]
          refine wpAnyH_take (i := 6) (v := ?val6x13) rfl (by kernel_rfl) (by kernel_rfl) (by kernel_rfl) (fun _ _ _ h => h) (Or.inl ⟨by rfl, fun w9 hS9 => ?yields6x13⟩) (by assumption) ?later6x13
          case yields6x13 =>
            dsimp only at hS9
            go_simp
            try with_reducible rfl
          try simp only [Act.put, List.getElem_toArray, List.getElem_cons_succ, List.getElem_cons_zero, List.setIfInBounds_toArray, List.set_cons_zero, List.set_cons_succ]
          refine wpAnyH_ready (rs := [7]) (by kernel_rfl) (by simp) ?_
          refine AllReadyH.cons rfl (fun K hK => ?_) AllReadyH.nil
          go_simp
          go_at_call 90
          go_split_ands
          refine (xCanBe0_any (lThg l k) (lThg d j) _ _ _ ⟨_, _, rfl, KQ.out _ (Hid.out (by assumption))⟩ ⟨_, _, rfl, KR.out _ (Hid.out (by assumption))⟩ (O1.out.2 k HKL.out).1 (O2.out.2 j HJL.out).1).mono ?_
          rintro e' w8 ⟨rfl, hb1⟩
          go_wp2_with fail
          refine hK.out _ _ ?_ (fun hHeld => ?_)
          · (try dsimp only)
            (go_split_ands; exact MK.out _ (Below.trans (Hid.out (by assumption)) (hb1.mono (Hid.out (by assumption) : Below wy.heap.size wy _).size)))
          clear hK K
          try simp only [Act.put, List.getElem_toArray, List.getElem_cons_succ, List.getElem_cons_zero, List.setIfInBounds_toArray, List.set_cons_zero, List.set_cons_succ]
          refine wpAnyH_take (i := 8) (v := ?val8x14) rfl (by kernel_rfl) (by kernel_rfl) (by kernel_rfl) (fun _ _ _ h => h) (Or.inl ⟨by rfl, fun w9 hS9 => ?yields8x14⟩) (by assumption) ?later8x14
          case yields8x14 =>
            dsimp only at hS9
            go_simp
            try with_reducible rfl
          try simp only [Act.put, List.getElem_toArray, List.getElem_cons_succ, List.getElem_cons_zero, List.setIfInBounds_toArray, List.set_cons_zero, List.set_cons_succ]
          refine wpAnyH_done (by kernel_rfl) ?_ _
          unfold Peeled
          dsimp only
          obtain ⟨-, -, -, -, -, -, -, -, -, HB2⟩ := hHeld
          have R5 := RI.out.keepQ HB2.out
          have y0 := (R5.cell j).trans (rowQ_at hlj)
          rw [if_neg (Nat.lt_irrefl _)] at y0
          have yf := R5.frozen j
          have R6 := R5.setQ j (canV l d k j)
          rw [rowQ_set, rowQ_fun (f' := canV l d k) (fun i _ => by by_cases e : i = j <;> simp [e])] at R6
          have HR6 := Lib.hid R6
          have HB6 := Lib.hid ((HBI.out.trans (HB2.out.mono (by have := HBI.out.size; have := RI.out.lt; omega))).setCell (p := ⟨gi, j, none⟩) (Nat.le_refl _) (canV l d k j))
          clear MK HBd KQ KR q0 q1 q2 q3 r0 r1 r2 r3 z0 R5 R6
          go_wp2_with fail
          go_roundw
          case rel => exact ⟨j + 1, by omega, by go_num, HR6, HB6⟩
          case measure => simp [intOf]; omega
        · obtain rfl : j = m := by omega
          have R9 := Lib.hid (R1.out.below HBI.out HGI.out.1)
          have G9 := Lib.hid (show ∀ i, i < k + 1 → RowV wr ((fun i => if i = k then gi else gs i) i) 4 (rowQ (canV l d i) (.bool false) j j) ∧ w.heap.size ≤ ((fun i => if i = k then gi else gs i) i) from fun i hi => by
            by_cases e : i = k
            · subst e
              simp only [if_pos]
              exact ⟨RI.out, HGI.out.2.2.1⟩
            · simp only [if_neg e]
              exact ⟨(G1.out i (by omega)).1.below HBI.out (HGI.out.2.2.2 i (by omega)), (G1.out i (by omega)).2⟩)
          go_wp2_with fail
          go_roundw
          case rel => exact ⟨k + 1, _, by omega, by go_num, R9, G9, HXI⟩
          case measure => simp [intOf]; omega
    · obtain rfl : k = n := by omega
      have CR := Lib.hid (show CanRows wr l d g0 gs w.heap.size from ⟨by rw [← HN.out, ← HM.out]; exact HR.out, fun i hi => by rw [← HM.out]; exact (HG.out i (by rw [HN.out]; exact hi)).1, by rw [HG0.out]; exact Nat.le_refl _, fun i hi => (HG.out i (by rw [HN.out]; exact hi)).2⟩)
      go_wp2_with fail
      go_ret
      exact ⟨⟨g0, gs, rfl, CR.out⟩, HX.out⟩
end Go.Proofs.YtfjdnbnalihjiaaGreatDoor
/- Pairs and covers: their first error. No condition. -/
namespace Go.Proofs.YtfjdnbnalihjiaaGreatDoor
open Go.RowKit Fs

theorem gints3New (w : World) (x y z : Int) (ty : TypeId) : ArrI (w.alloc (.cells #[.int .i64 x, .int .i64 y, .int .i64 z] ty)) (some ⟨w.heap.size, 0, none⟩) [x, y, z] 3 := by
  refine ⟨Nat.le_refl _, by decide, fun _ => ⟨_, _, rfl, fun i j hi hj => ?_⟩⟩
  have hj0 : j = 0 := by omega
  subst hj0
  match i, hi with
  | 0, _ => exact cellNew w _ _ 0
  | 1, _ => exact cellNew w _ _ 1
  | 2, _ => exact cellNew w _ _ 2
theorem Fs.nums_short {l : List Int} {n : Nat} (h : numsErr l n = 0) : l.length ≤ n := by
  have hz : ∀ k, k < l.length → numAt l n k = 0 := fun k hk => fst_zero h k hk
  have hb : ∀ k, k < l.length → (k : Int) ≤ listI l k ∧ listI l k ≤ n - 1 := by
    intro k
    induction k with
    | zero =>
      intro hk
      have h0 := hz 0 hk
      unfold numAt at h0
      by_cases h1 : within (listI l 0) 0 ((n : Int) - 1) = false
      · rw [if_pos h1] at h0; exact absurd h0 (by decide)
      have := Fs.within_iff.1 (show within (listI l 0) 0 ((n : Int) - 1) = true by simpa using h1)
      exact ⟨by omega, by omega⟩
    | succ k ih =>
      intro hk
      have h0 := hz (k + 1) hk
      unfold numAt at h0
      by_cases h1 : within (listI l (k + 1)) 0 ((n : Int) - 1) = false
      · rw [if_pos h1] at h0; exact absurd h0 (by decide)
      rw [if_neg h1] at h0
      have h2 : ¬ (0 < k + 1 ∧ listI l (k + 1) ≤ listI l (k + 1 - 1)) := fun hh => by rw [if_pos hh] at h0; exact absurd h0 (by decide)
      have := Fs.within_iff.1 (show within (listI l (k + 1)) 0 ((n : Int) - 1) = true by simpa using h1)
      have h3 := (ih (by omega)).1
      have h4 : ¬ listI l (k + 1) ≤ listI l k := fun hh => h2 ⟨by omega, hh⟩
      exact ⟨by omega, by omega⟩
  by_cases h0 : l.length = 0
  · omega
  · have := hb (l.length - 1) (by omega)
    omega
set_option maxHeartbeats 400000 in
theorem xIndexI_any (l : List Int) (A : Option Addr) (c : Nat) (x : Int) (w : World) (h : ArrI w A l c) :
    Calls Tryz.prog 138 #[.slice A l.length c, .int .i64 x] w fun e w' => e = .returned (.int .i64 (indexOf l x)) ∧ w = w' := by
  have b1 := h.le.1
  have b2 := h.le.2
  go_enter Tryz.func138, Tryz.ntmps138
  go_wp2
  go_loop [8] (fun i => ∃ k : Nat, k ≤ l.length ∧ i = .int .i64 k ∧ (∀ j, j < k → listI l j ≠ x)) (fun i => l.length - (intOf i).toNat)
  case atStart => exact ⟨0, Nat.zero_le _, rfl, fun j hj => absurd hj (Nat.not_lt_zero _)⟩
  case round =>
    obtain ⟨k, hk, rfl, hn⟩ := hrel
    have Hn := Lib.hid hn
    clear hn
    by_cases hlt : k < l.length
    · obtain ⟨b, o, rfl, hc⟩ := h.at_ hlt
      by_cases hx : x = listI l k
      · have hx' : (x == listI l k) = true := by simpa using hx
        have F := Lib.hid (indexOf_hit hlt Hn.out hx.symm)
        clear hx
        go_wp2
        go_ret
        exact ⟨ret_int F.out.symm, rfl⟩
      · have hx' : (x == listI l k) = false := by simpa using hx
        have F : Hid (∀ j, j < k + 1 → listI l j ≠ x) := fun j hj => by
          by_cases e : j = k
          · subst e; exact fun h => hx h.symm
          · exact Hn.out j (by omega)
        clear hx
        go_wp2
        go_round
        case rel => exact ⟨k + 1, by omega, by go_num, F.out⟩
        case measure => simp [intOf]; omega
    · have F := Lib.hid (indexOf_none (l := l) (x := x) fun j hj => Hn.out j (by omega))
      go_wp2
      go_ret
      exact ⟨ret_int F.out.symm, rfl⟩
set_option maxHeartbeats 400000 in
theorem xContainsI_any (l : List Int) (A : Option Addr) (c : Nat) (x : Int) (w : World) (h : ArrI w A l c) :
    Calls Tryz.prog 99 #[.slice A l.length c, .int .i64 x] w fun e w' => e = .returned (.bool (l.contains x)) ∧ w = w' := by
  go_enter Tryz.func99, Tryz.ntmps99
  go_wp2_with (go_at_call 138; refine (xIndexI_any l _ _ _ _ h).mono ?_; rintro e w' ⟨rfl, rfl⟩)
  go_ret
  exact ⟨ret_bool (indexOf_ge l x), rfl⟩
set_option linter.unusedSimpArgs false in
set_option maxHeartbeats 12800000 in
set_option maxRecDepth 100000 in
theorem xCheckPairs_any (l d : List Thg) (p : List (Int × Int)) (A B P : Option Addr) (c e pc : Nat) (a b : GA) (w : World) (h : ArrTh w A l c a) (h2 : ArrTh w B d e b) (h3 : ArrPr w P p pc) :
    Calls Tryz.prog 45 #[.slice A l.length c, .slice B d.length e, .slice P p.length pc] w fun x w' => x = .returned (.tuple #[.int .i64 (prOut l d p), .int .i64 (pairsErr l d p)]) ∧ Below w.heap.size w w' := by
  have b1 := h.le.1
  have b2 := h.le.2
  have b3 := h3.le_
  have KK := Lib.hid (((Keep.alloc w (.cells #[.slice A l.length c] 48)).trans (Keep.alloc _ (.cells #[.slice B d.length e] 50))).trans (Keep.alloc _ (.cells #[.slice P p.length pc] 68)))
  have HA := Lib.hid (h.keep KK.out)
  have HB := Lib.hid (h2.keep KK.out)
  have HP := Lib.hid (h3.keep KK.out)
  have HS := Lib.hid (Keep.alloc _ (.cells #[.slice P p.length pc] 68) _ _ (Keep.alloc _ (.cells #[.slice B d.length e] 50) _ _ (cellNew w #[.slice A l.length c] 48 0)))
  have HS2 := Lib.hid (Keep.alloc _ (.cells #[.slice P p.length pc] 68) _ _ (cellNew1 w (.cells #[.slice A l.length c] 48) #[.slice B d.length e] 50 0))
  have HS3 := Lib.hid (show (((w.alloc (.cells #[.slice A l.length c] 48)).alloc (.cells #[.slice B d.length e] 50)).alloc (.cells #[.slice P p.length pc] 68)).cell? ⟨w.heap.size + 1 + 1, 0, none⟩ = some (.slice P p.length pc) by
    have hh := cellNew1 (w.alloc (.cells #[.slice A l.length c] 48)) (.cells #[.slice B d.length e] 50) #[.slice P p.length pc] 68 0
    rw [show (w.alloc (.cells #[.slice A l.length c] 48)).heap.size = w.heap.size + 1 from by simp] at hh
    exact hh)
  have HW := Lib.hid ((((Below.refl w.heap.size w).alloc (Nat.le_refl _) (.cells #[.slice A l.length c] 48)).alloc (by simp) (.cells #[.slice B d.length e] 50)).alloc (by simp; omega) (.cells #[.slice P p.length pc] 68))
  clear h h2 h3 KK
  go_enter Tryz.func45, Tryz.ntmps45
  go_upto_region 1 with fail
  obtain ⟨wb, hwb⟩ : ∃ wb, wb = ((w.alloc (.cells #[.slice A l.length c] 48)).alloc (.cells #[.slice B d.length e] 50)).alloc (.cells #[.slice P p.length pc] 68) := ⟨_, rfl⟩
  rw [← hwb] at HA HB HP HS HS2 HS3 HW
  rw [← hwb]
  clear hwb
  have q0 := HS.out
  have q1 := HS2.out
  go_wp2_with fail
  refine (xBothErr_any l d A B c e a b _ HA.out HB.out).mono ?_
  rintro e' w1 ⟨rfl, hb1⟩
  replace HA := Lib.hid (HA.out.keep (Keep.below hb1))
  replace HB := Lib.hid (HB.out.keep (Keep.below hb1))
  replace HP := Lib.hid (HP.out.keep (Keep.below hb1))
  replace HS := Lib.hid (Keep.below hb1 _ _ HS.out)
  replace HS2 := Lib.hid (Keep.below hb1 _ _ HS2.out)
  replace HS3 := Lib.hid (Keep.below hb1 _ _ HS3.out)
  replace HW := Lib.hid (HW.out.trans (hb1.mono HW.out.size))
  clear hb1 q0 q1
  by_cases he : pairErr l d = 0
  · have HE := Lib.hid he
    obtain ⟨E, hE⟩ : ∃ E, E = gmanyErr p.length 12 (pairAt l d p) := ⟨_, rfl⟩
    have F := Lib.hid (show pairsErr l d p = E by rw [hE]; unfold pairsErr gmanyErr; rw [if_neg (fun hh => hh he)])
    have HLS := Lib.hid (xListS_any 95 (.pointer (some ⟨w.heap.size, 0, none⟩)) (.pointer (some ⟨w.heap.size + 1, 0, none⟩)) (.pointer (some ⟨w.heap.size + 1 + 1, 0, none⟩)) p.length 12 (pairAt l d p) (fun _ _ => True) w1.heap.size w1 trivial (by omega) (by omega) (fun args w => by kernel_rfl)
      (fun w' hb i hi _ _ => (xPairs1_any l d p A B P c e pc i _ _ _ a b w' (HA.out.keep (Keep.below hb)) (HB.out.keep (Keep.below hb)) (HP.out.keep (Keep.below hb)) hi HE.out (Keep.below hb _ _ HS.out) (Keep.below hb _ _ HS2.out) (Keep.below hb _ _ HS3.out)).mono (fun _ _ hh => ⟨hh.1, hh.2.mono hb.size, fun _ => trivial⟩)))
    rw [← hE] at HLS
    clear hE
    have q2 := HS3.out
    rw [he]
    clear he
    go_wp2_with fail
    refine HLS.out.mono ?_
    rintro e' w3 ⟨rfl, hb1⟩
    replace HS3 := Lib.hid (Keep.below hb1 _ _ HS3.out)
    replace HW := Lib.hid (HW.out.trans (hb1.mono HW.out.size))
    clear hb1 q2
    have q2 := HS3.out
    by_cases he : E = 0
    · have G := Lib.hid (show prOut l d p = p.length from if_pos (F.out.trans he))
      have F0 := Lib.hid (F.out.trans he)
      rw [he]
      clear he
      go_wp2_with fail
      go_ret2
      exact ⟨by rw [G.out, F0.out]; rfl, HW.out⟩
    · have G := Lib.hid (show prOut l d p = 0 from if_neg (by rw [F.out]; exact he))
      have e2 : (E != 0) = true := by simpa using he
      have e3 : (E == 0) = false := by simpa using he
      clear he
      go_wp2_with fail
      go_ret2
      exact ⟨by rw [G.out, F.out]; rfl, HW.out⟩
  · have F := Lib.hid (show pairsErr l d p = pairErr l d from if_pos he)
    have G := Lib.hid (show prOut l d p = 0 from if_neg (by rw [F.out]; exact he))
    have e2 : (pairErr l d != 0) = true := by simpa using he
    have e3 : (pairErr l d == 0) = false := by simpa using he
    clear he
    go_wp2_with fail
    go_ret2
    exact ⟨by rw [G.out, F.out]; rfl, HW.out⟩
/-- Item i and claim k can be one, and neither is in the cover. -/
def Fs.Bare_ (l d : List Thg) (s t : List Int) (i k : Nat) : Prop := canBe (lThg l i) (lThg d k) = true ∧ (i : Int) ∉ s ∧ (k : Int) ∉ t
theorem Fs.coverBare_ {l d : List Thg} {s t : List Int} (h0 : pairErr l d = 0) (h1 : numsErr s l.length = 0) (h2 : numsErr t d.length = 0) {i k : Nat} (hi : i < l.length) (hk : k < d.length) (h : Bare_ l d s t i k) : coverErr l d s t = 20 := by
  unfold coverErr
  rw [if_neg (fun hh => hh h0), if_neg (fun hh => hh h1), if_neg (fun hh => hh h2), if_pos ⟨i, k, hi, hk, h.1, h.2.1, h.2.2⟩]
theorem Fs.coverFine_ {l d : List Thg} {s t : List Int} (h0 : pairErr l d = 0) (h1 : numsErr s l.length = 0) (h2 : numsErr t d.length = 0) (h : ∀ i, i < l.length → ∀ k, k < d.length → ¬ Bare_ l d s t i k) : coverErr l d s t = 0 := by
  unfold coverErr
  rw [if_neg (fun hh => hh h0), if_neg (fun hh => hh h1), if_neg (fun hh => hh h2), if_neg (fun ⟨i, k, hi, hk, h3⟩ => h i hi k hk h3)]
set_option linter.unusedSimpArgs false in
set_option maxHeartbeats 12800000 in
set_option maxRecDepth 100000 in
theorem xCheckCover_any (l d : List Thg) (s t : List Int) (A B S T : Option Addr) (c e sc tc : Nat) (a b : GA) (w : World) (h : ArrTh w A l c a) (h2 : ArrTh w B d e b) (h3 : ArrI w S s sc) (h4 : ArrI w T t tc) :
    Calls Tryz.prog 47 #[.slice A l.length c, .slice B d.length e, .agg #[.slice S s.length sc, .slice T t.length tc]] w fun x w' => x = .returned (.tuple #[.int .i64 (cvOut l d s t), .int .i64 (coverErr l d s t)]) ∧ Below w.heap.size w w' := by
  have b1 := h.le.1
  have b2 := h.le.2
  have b3 := h2.le.1
  have b4 := h2.le.2
  have HW := Lib.hid ((Below.refl w.heap.size w).alloc (Nat.le_refl _) (.cells #[.slice S s.length sc, .slice T t.length tc] 70))
  have HA := Lib.hid (h.keep (Keep.below HW.out))
  have HB0 := Lib.hid (h2.keep (Keep.below HW.out))
  have HS := Lib.hid (h3.keep (Keep.below HW.out))
  have HT := Lib.hid (h4.keep (Keep.below HW.out))
  have q0 := cellNew w #[.slice S s.length sc, .slice T t.length tc] 70 0
  have q1 := cellNew w #[.slice S s.length sc, .slice T t.length tc] 70 1
  obtain ⟨E, hE⟩ : ∃ E, E = fst (listI [pairErr l d, numsErr s l.length, numsErr t d.length]) 3 := ⟨_, rfl⟩
  have HE := Lib.hid hE
  clear h h2 h3 h4 hE
  go_enter Tryz.func47, Tryz.ntmps47
  go_upto_region 1 with fail
  obtain ⟨g, hg⟩ : ∃ g, g = w.heap.size := ⟨_, rfl⟩
  obtain ⟨wb, hwb⟩ : ∃ wb, wb = w.alloc (.cells #[.slice S s.length sc, .slice T t.length tc] 70) := ⟨_, rfl⟩
  rw [← hg, ← hwb] at q0 q1
  rw [← hwb] at HA HB0 HS HT HW
  rw [← hwb]
  try rw [← hg]
  clear hwb hg
  go_wp2_with fail
  go_wp2_with fail
  have HBd : Hid (Below wb.heap.size wb wb.drew) := Lib.hid (Below.refl _ _).drew
  have MK : Hid (∀ w', Below wb.heap.size wb w' → w'.cell? ⟨g, 0, none⟩ = some (.slice S s.length sc) ∧ w'.cell? ⟨g, 1, none⟩ = some (.slice T t.length tc) ∧ Hid (Below wb.heap.size wb w')) :=
    Lib.hid fun w' hw => ⟨Keep.below hw _ _ q0, Keep.below hw _ _ q1, Lib.hid hw⟩
  have KX : Hid (∀ w', Below wb.heap.size wb w' → ArrTh w' A l c a ∧ ArrTh w' B d e b ∧ ArrI w' S s sc ∧ ArrI w' T t tc) := Lib.hid fun w' hw => ⟨HA.out.keep (Keep.below hw), HB0.out.keep (Keep.below hw), HS.out.keep (Keep.below hw), HT.out.keep (Keep.below hw)⟩
  refine wp_region_held_drew (S := fun w' => w'.cell? ⟨g, 0, none⟩ = some (.slice S s.length sc) ∧ w'.cell? ⟨g, 1, none⟩ = some (.slice T t.length tc) ∧ Hid (Below wb.heap.size wb w')) (by kernel_rfl) (MK.out _ HBd.out) (fun hHeld => ?_)
  refine wpAnyH_take (i := 0) (v := ?val0x7) rfl (by kernel_rfl) (by kernel_rfl) (by kernel_rfl) (fun _ _ _ h => h) (Or.inl ⟨by rfl, fun w9 hS9 => ?yields0x7⟩) (by assumption) ?later0x7
  case yields0x7 =>
    dsimp only at hS9
    go_simp
    try with_reducible rfl
  try simp only [Act.put, List.getElem_toArray, List.getElem_cons_succ, List.getElem_cons_zero, List.setIfInBounds_toArray, List.set_cons_zero, List.set_cons_succ]
  refine wpAnyH_take (i := 1) (v := ?val1x8) rfl (by kernel_rfl) (by kernel_rfl) (by kernel_rfl) (fun _ _ _ h => h) (Or.inl ⟨by rfl, fun w9 hS9 => ?yields1x8⟩) (by assumption) ?later1x8
  case yields1x8 =>
    dsimp only at hS9
    go_simp
    try with_reducible rfl
  try simp only [Act.put, List.getElem_toArray, List.getElem_cons_succ, List.getElem_cons_zero, List.setIfInBounds_toArray, List.set_cons_zero, List.set_cons_succ]
  refine wpAnyH_take (i := 3) (v := ?val3x9) rfl (by kernel_rfl) (by kernel_rfl) (by kernel_rfl) (fun _ _ _ h => h) (Or.inl ⟨by rfl, fun w9 hS9 => ?yields3x9⟩) (by assumption) ?later3x9
  case yields3x9 =>
    dsimp only at hS9
    go_simp
    try with_reducible rfl
  try simp only [Act.put, List.getElem_toArray, List.getElem_cons_succ, List.getElem_cons_zero, List.setIfInBounds_toArray, List.set_cons_zero, List.set_cons_succ]
  refine wpAnyH_take (i := 4) (v := ?val4x10) rfl (by kernel_rfl) (by kernel_rfl) (by kernel_rfl) (fun _ _ _ h => h) (Or.inl ⟨by rfl, fun w9 hS9 => ?yields4x10⟩) (by assumption) ?later4x10
  case yields4x10 =>
    dsimp only at hS9
    go_simp
    try with_reducible rfl
  try simp only [Act.put, List.getElem_toArray, List.getElem_cons_succ, List.getElem_cons_zero, List.setIfInBounds_toArray, List.set_cons_zero, List.set_cons_succ]
  refine wpAnyH_take (i := 5) (v := ?val5x11) rfl (by kernel_rfl) (by kernel_rfl) (by kernel_rfl) (fun _ _ _ h => h) (Or.inl ⟨by rfl, fun w9 hS9 => ?yields5x11⟩) (by assumption) ?later5x11
  case yields5x11 =>
    dsimp only at hS9
    go_simp
    try with_reducible rfl
  try simp only [Act.put, List.getElem_toArray, List.getElem_cons_succ, List.getElem_cons_zero, List.setIfInBounds_toArray, List.set_cons_zero, List.set_cons_succ]
  refine wpAnyH_take (i := 6) (v := ?val6x12) rfl (by kernel_rfl) (by kernel_rfl) (by kernel_rfl) (fun _ _ _ h => h) (Or.inl ⟨by rfl, fun w9 hS9 => ?yields6x12⟩) (by assumption) ?later6x12
  case yields6x12 =>
    dsimp only at hS9
    go_simp
    try with_reducible rfl
  try simp only [Act.put, List.getElem_toArray, List.getElem_cons_succ, List.getElem_cons_zero, List.setIfInBounds_toArray, List.set_cons_zero, List.set_cons_succ]
  refine wpAnyH_take (i := 8) (v := ?val8x13) rfl (by kernel_rfl) (by kernel_rfl) (by kernel_rfl) (fun _ _ _ h => h) (Or.inl ⟨by rfl, fun w9 hS9 => ?yields8x13⟩) (by assumption) ?later8x13
  case yields8x13 =>
    dsimp only at hS9
    go_simp
    try with_reducible rfl
  try simp only [Act.put, List.getElem_toArray, List.getElem_cons_succ, List.getElem_cons_zero, List.setIfInBounds_toArray, List.set_cons_zero, List.set_cons_succ]
  refine wpAnyH_take (i := 9) (v := ?val9x14) rfl (by kernel_rfl) (by kernel_rfl) (by kernel_rfl) (fun _ _ _ h => h) (Or.inl ⟨by rfl, fun w9 hS9 => ?yields9x14⟩) (by assumption) ?later9x14
  case yields9x14 =>
    dsimp only at hS9
    go_simp
    try with_reducible rfl
  try simp only [Act.put, List.getElem_toArray, List.getElem_cons_succ, List.getElem_cons_zero, List.setIfInBounds_toArray, List.set_cons_zero, List.set_cons_succ]
  refine wpAnyH_take (i := 10) (v := ?val10x15) rfl (by kernel_rfl) (by kernel_rfl) (by kernel_rfl) (fun _ _ _ h => h) (Or.inl ⟨by rfl, fun w9 hS9 => ?yields10x15⟩) (by assumption) ?later10x15
  case yields10x15 =>
    dsimp only at hS9
    go_simp
    try with_reducible rfl
  try simp only [Act.put, List.getElem_toArray, List.getElem_cons_succ, List.getElem_cons_zero, List.setIfInBounds_toArray, List.set_cons_zero, List.set_cons_succ]
  refine wpAnyH_take (i := 11) (v := ?val11x16) rfl (by kernel_rfl) (by kernel_rfl) (by kernel_rfl) (fun _ _ _ h => h) (Or.inl ⟨by rfl, fun w9 hS9 => ?yields11x16⟩) (by assumption) ?later11x16
  case yields11x16 =>
    dsimp only at hS9
    go_simp
    try with_reducible rfl
  try simp only [Act.put, List.getElem_toArray, List.getElem_cons_succ, List.getElem_cons_zero, List.setIfInBounds_toArray, List.set_cons_zero, List.set_cons_succ]
  refine wpAnyH_ready (rs := [2]) (by kernel_rfl) (by simp) ?_
  refine AllReadyH.cons rfl (fun K hK => ?_) AllReadyH.nil
  go_simp
  go_at_call 93
  go_split_ands
  refine (xBothErr_any l d A B c e a b _ (KX.out _ (Hid.out (by assumption))).1 (KX.out _ (Hid.out (by assumption))).2.1).mono ?_
  rintro e' w5 ⟨rfl, hb1⟩
  go_wp2_with fail
  refine hK.out _ _ ?_ (fun hHeld => ?_)
  · (try dsimp only)
    (go_split_ands; exact MK.out _ (Below.trans (Hid.out (by assumption)) (hb1.mono (Hid.out (by assumption) : Below wb.heap.size wb _).size)))
  clear hK K
  try simp only [Act.put, List.getElem_toArray, List.getElem_cons_succ, List.getElem_cons_zero, List.setIfInBounds_toArray, List.set_cons_zero, List.set_cons_succ]
  refine wpAnyH_ready (rs := [7]) (by kernel_rfl) (by simp) ?_
  refine AllReadyH.cons rfl (fun K hK => ?_) AllReadyH.nil
  go_simp
  go_at_call 97
  go_split_ands
  refine (xNums_any s S sc l.length _ (KX.out _ (Hid.out (by assumption))).2.2.1 (by omega)).mono ?_
  rintro e' w6 ⟨rfl, hb1⟩
  go_wp2_with fail
  refine hK.out _ _ ?_ (fun hHeld => ?_)
  · (try dsimp only)
    (go_split_ands; exact MK.out _ (Below.trans (Hid.out (by assumption)) (hb1.mono (Hid.out (by assumption) : Below wb.heap.size wb _).size)))
  clear hK K
  try simp only [Act.put, List.getElem_toArray, List.getElem_cons_succ, List.getElem_cons_zero, List.setIfInBounds_toArray, List.set_cons_zero, List.set_cons_succ]
  refine wpAnyH_ready (rs := [12]) (by kernel_rfl) (by simp) ?_
  refine AllReadyH.cons rfl (fun K hK => ?_) AllReadyH.nil
  go_simp
  go_at_call 97
  go_split_ands
  refine (xNums_any t T tc d.length _ (KX.out _ (Hid.out (by assumption))).2.2.2 (by omega)).mono ?_
  rintro e' w7 ⟨rfl, hb1⟩
  go_wp2_with fail
  refine hK.out _ _ ?_ (fun hHeld => ?_)
  · (try dsimp only)
    (go_split_ands; exact MK.out _ (Below.trans (Hid.out (by assumption)) (hb1.mono (Hid.out (by assumption) : Below wb.heap.size wb _).size)))
  clear hK K
  try simp only [Act.put, List.getElem_toArray, List.getElem_cons_succ, List.getElem_cons_zero, List.setIfInBounds_toArray, List.set_cons_zero, List.set_cons_succ]
  refine wpAnyH_ready (rs := [13]) (by kernel_rfl) (by simp) ?_
  refine AllReadyH.cons rfl (fun K hK => ?_) AllReadyH.nil
  go_simp
  refine hK.out _ _ ?_ (fun hHeld => ?_)
  · (try dsimp only)
    (go_split_ands; exact MK.out _ (Below.alloc (Hid.out (by assumption)) (Hid.out (by assumption) : Below wb.heap.size wb _).size _))
  clear hK K
  try simp only [Act.put, List.getElem_toArray, List.getElem_cons_succ, List.getElem_cons_zero, List.setIfInBounds_toArray, List.set_cons_zero, List.set_cons_succ]
  refine wpAnyH_ready (rs := [14]) (by kernel_rfl) (by simp) ?_
  refine AllReadyH.cons rfl (fun K hK => ?_) AllReadyH.nil
  go_simp
  go_at_call 82
  go_split_ands
  refine (xFirst_any [pairErr l d, numsErr s l.length, numsErr t d.length] _ _ _ (by first | exact gints3New _ _ _ _ _ | exact (gints3New _ _ _ _ _).keep (Keep.drew _))).mono ?_
  rintro e' wx9 ⟨rfl, rfl⟩
  go_wp2_with fail
  refine hK.out _ _ ?_ (fun hHeld => ?_)
  · (try dsimp only)
    (go_split_ands; exact MK.out _ (Hid.out (by assumption)))
  clear hK K
  try simp only [Act.put, List.getElem_toArray, List.getElem_cons_succ, List.getElem_cons_zero, List.setIfInBounds_toArray, List.set_cons_zero, List.set_cons_succ]
  refine wpAnyH_take (i := 15) (v := ?val15x17) rfl (by kernel_rfl) (by kernel_rfl) (by kernel_rfl) (fun _ _ _ h => h) (Or.inl ⟨by rfl, fun w9 hS9 => ?yields15x17⟩) (by assumption) ?later15x17
  case yields15x17 =>
    dsimp only at hS9
    go_simp
    try with_reducible rfl
  try simp only [Act.put, List.getElem_toArray, List.getElem_cons_succ, List.getElem_cons_zero, List.setIfInBounds_toArray, List.set_cons_zero, List.set_cons_succ]
  refine wpAnyH_done (by kernel_rfl) ?_ _
  obtain ⟨-, -, HB⟩ := hHeld
  clear HBd MK
  rw [← HE.out]
  replace HW := Lib.hid (HW.out.trans (HB.out.mono HW.out.size))
  replace HA := Lib.hid (HA.out.keep (Keep.below HB.out))
  replace HB0 := Lib.hid (HB0.out.keep (Keep.below HB.out))
  replace HS := Lib.hid (HS.out.keep (Keep.below HB.out))
  replace HT := Lib.hid (HT.out.keep (Keep.below HB.out))
  have Q0 := Lib.hid (Keep.below HB.out _ _ q0)
  have Q1 := Lib.hid (Keep.below HB.out _ _ q1)
  clear KX HB q0 q1
  by_cases he : E = 0
  · have HZ : pairErr l d = 0 ∧ numsErr s l.length = 0 ∧ numsErr t d.length = 0 := by
      have h1 := HE.out.symm.trans he
      rw [gfst_three] at h1
      by_cases h2 : pairErr l d = 0
      · rw [if_neg (fun hh => hh h2)] at h1
        by_cases h3 : numsErr s l.length = 0
        · rw [if_neg (fun hh => hh h3)] at h1; exact ⟨h2, h3, h1⟩
        · rw [if_pos h3] at h1; exact absurd h1 h3
      · rw [if_pos h2] at h1; exact absurd h1 h2
    have HZ0 := Lib.hid HZ.1
    have HZ1 := Lib.hid HZ.2.1
    have HZ2 := Lib.hid HZ.2.2
    have hsl := nums_short HZ.2.1
    have htl := nums_short HZ.2.2
    obtain ⟨hpl, hpd⟩ := two_zero HZ.1
    have hl12 := (thgs_ok hpl).1
    have hd12 := (thgs_ok hpd).1
    have hws : IntKind.i64.wrap ((s.length : Int) + (t.length : Int)) = (s.length : Int) + (t.length : Int) := by rw [IntKind.wrap_i64]; omega
    rw [he]
    clear he hpl hpd HZ hsl htl
    go_wp2_with fail
    refine (xPossible_any l d A B c e a b _ HA.out HB0.out HZ0.out).mono ?_
    rintro e' w8 ⟨⟨gr, gs, rfl, HC⟩, hb1⟩
    have HC := Lib.hid HC
    replace HW := Lib.hid (HW.out.trans (hb1.mono HW.out.size))
    replace HS := Lib.hid (HS.out.keep (Keep.below hb1))
    replace HT := Lib.hid (HT.out.keep (Keep.below hb1))
    replace Q0 := Lib.hid (Keep.below hb1 _ _ Q0.out)
    replace Q1 := Lib.hid (Keep.below hb1 _ _ Q1.out)
    clear hb1
    go_wp2_with fail
    go_loopw [35] (fun i wr => ∃ k : Nat, k ≤ l.length ∧ i = .int .i64 k ∧ Hid (∀ i, i < k → ∀ j, j < d.length → ¬ Bare_ l d s t i j) ∧ Hid (Below w8.heap.size w8 wr)) (fun i _ => l.length - (intOf i).toNat)
    case atStart => exact ⟨0, Nat.zero_le _, rfl, Lib.hid fun j hj => absurd hj (Nat.not_lt_zero _), Lib.hid (Below.refl _ _)⟩
    case round =>
      obtain ⟨k, hk, rfl, Hn, HB⟩ := hrel
      by_cases hlt : k < l.length
      · have hkn : (k : Int) < (l.length : Int) := by omega
        have hC := HC.out.keep HB.out
        have s0 : wr.cell? ⟨gr, k, none⟩ = some (.slice (some ⟨gs k, 0, none⟩) d.length d.length) := by
          have := (hC.out.cell k).trans (rowQ_at hlt)
          rw [if_pos hlt] at this
          exact this
        obtain ⟨wx, hwx⟩ : ∃ wz, wz = wr := ⟨_, rfl⟩
        subst hwx
        have HR := Lib.hid (hC.row k hlt)
        clear hC
        go_wp2_with fail
        go_loopw [42] (fun i wr => ∃ j : Nat, j ≤ d.length ∧ i = .int .i64 j ∧ Hid (∀ q, q < j → ¬ Bare_ l d s t k q) ∧ Hid (Below wx.heap.size wx wr)) (fun i _ => d.length - (intOf i).toNat)
        case atStart => exact ⟨0, Nat.zero_le _, rfl, Lib.hid fun j hj => absurd hj (Nat.not_lt_zero _), Lib.hid (Below.refl _ _)⟩
        case round =>
          obtain ⟨j, hj, rfl, Hj, HB3⟩ := hrel
          by_cases hjd : j < d.length
          · have hjn : (j : Int) < (d.length : Int) := by omega
            have HBX := Lib.hid (HB.out.trans (HB3.out.mono HB.out.size))
            have s1 : wr.cell? ⟨gs k, j, none⟩ = some (.bool (canBe (lThg l k) (lThg d j))) := by
              have := ((HR.out.keepQ HB3.out).cell j).trans (rowQ_at hjd)
              rw [if_pos hjd] at this
              exact this
            have q0 := Keep.below HBX.out _ _ Q0.out
            have q1 := Keep.below HBX.out _ _ Q1.out
            cases hcb : canBe (lThg l k) (lThg d j) with
            | false =>
              have F := Lib.hid (show ¬ Bare_ l d s t k j from fun hh => by have := hh.1; rw [hcb] at this; cases this)
              rw [hcb] at s1
              clear hcb
              go_wp2_with fail
              go_roundw
              case rel =>
                exact ⟨j + 1, by omega, by go_num, Lib.hid fun q hq => by
                  by_cases e : q = j
                  · subst e; exact F.out
                  · exact Hj.out q (by omega), HB3⟩
              case measure => simp [intOf]; omega
            | true =>
              have CB := Lib.hid hcb
              rw [hcb] at s1
              clear hcb
              cases hm1 : s.contains (k : Int) with
              | true =>
                have F := Lib.hid (show ¬ Bare_ l d s t k j from fun hh => hh.2.1 (by simpa using hm1))
                have M1 := Lib.hid hm1
                clear hm1
                go_wp2_with fail
                refine (xContainsI_any s _ _ _ _ (HS.out.keep (Keep.below HBX.out))).mono ?_
                rintro e' wy ⟨rfl, rfl⟩
                rw [M1.out]
                go_wp2_with fail
                go_roundw
                case rel =>
                  exact ⟨j + 1, by omega, by go_num, Lib.hid fun q hq => by
                    by_cases e : q = j
                    · subst e; exact F.out
                    · exact Hj.out q (by omega), HB3⟩
                case measure => simp [intOf]; omega
              | false =>
                have M1 := Lib.hid hm1
                clear hm1
                cases hm2 : t.contains (j : Int) with
                | true =>
                  have F := Lib.hid (show ¬ Bare_ l d s t k j from fun hh => hh.2.2 (by simpa using hm2))
                  have M2 := Lib.hid hm2
                  clear hm2
                  go_wp2_with fail
                  refine (xContainsI_any s _ _ _ _ (HS.out.keep (Keep.below HBX.out))).mono ?_
                  rintro e' wy ⟨rfl, rfl⟩
                  rw [M1.out]
                  go_wp2_with fail
                  refine (xContainsI_any t _ _ _ _ (HT.out.keep (Keep.below HBX.out))).mono ?_
                  rintro e' wy ⟨rfl, rfl⟩
                  rw [M2.out]
                  go_wp2_with fail
                  go_roundw
                  case rel =>
                    exact ⟨j + 1, by omega, by go_num, Lib.hid fun q hq => by
                      by_cases e : q = j
                      · subst e; exact F.out
                      · exact Hj.out q (by omega), HB3⟩
                  case measure => simp [intOf]; omega
                | false =>
                  have F := Lib.hid (coverBare_ (s := s) (t := t) HZ0.out HZ1.out HZ2.out hlt hjd ⟨CB.out, by have := M1.out; simpa using this, by simpa using hm2⟩)
                  have G := Lib.hid (show cvOut l d s t = 0 from if_neg (by rw [F.out]; decide))
                  have M2 := Lib.hid hm2
                  clear hm2
                  go_wp2_with fail
                  refine (xContainsI_any s _ _ _ _ (HS.out.keep (Keep.below HBX.out))).mono ?_
                  rintro e' wy ⟨rfl, rfl⟩
                  rw [M1.out]
                  go_wp2_with fail
                  refine (xContainsI_any t _ _ _ _ (HT.out.keep (Keep.below HBX.out))).mono ?_
                  rintro e' wy ⟨rfl, rfl⟩
                  rw [M2.out]
                  go_wp2_with fail
                  go_ret2
                  exact ⟨by rw [G.out, F.out]; rfl, HW.out.trans (HBX.out.mono HW.out.size)⟩
          · go_wp2_with fail
            go_roundw
            case rel =>
              exact ⟨k + 1, by omega, by go_num, Lib.hid fun i hi => by
                by_cases e : i = k
                · subst e; exact fun j' hj' => Hj.out j' (by omega)
                · exact Hn.out i (by omega), Lib.hid (HB.out.trans (HB3.out.mono HB.out.size))⟩
            case measure => simp [intOf]; omega
      · obtain rfl : k = l.length := by omega
        have F := Lib.hid (coverFine_ HZ0.out HZ1.out HZ2.out Hn.out)
        have G := Lib.hid (show cvOut l d s t = s.length + t.length from if_pos F.out)
        have q0 := Keep.below HB.out _ _ Q0.out
        have q1 := Keep.below HB.out _ _ Q1.out
        clear hlt hk
        go_wp2_with fail
        go_ret2
        exact ⟨by rw [G.out, F.out]; rfl, HW.out.trans (HB.out.mono HW.out.size)⟩
  · have F := Lib.hid (show coverErr l d s t = E by
      have hh := HE.out
      rw [gfst_three] at hh
      by_cases h2 : pairErr l d = 0
      · rw [if_neg (fun q => q h2)] at hh
        by_cases h3 : numsErr s l.length = 0
        · rw [if_neg (fun q => q h3)] at hh
          have h4 : numsErr t d.length ≠ 0 := fun q => he (hh.trans q)
          unfold coverErr
          rw [if_neg (fun q => q h2), if_neg (fun q => q h3), if_pos h4, hh]
        · rw [if_pos h3] at hh
          unfold coverErr
          rw [if_neg (fun q => q h2), if_pos h3, hh]
      · rw [if_pos h2] at hh
        unfold coverErr
        rw [if_pos h2, hh])
    have G := Lib.hid (show cvOut l d s t = 0 from if_neg (by rw [F.out]; exact he))
    have e2 : (E != 0) = true := by simpa using he
    have e3 : (E == 0) = false := by simpa using he
    clear he
    go_wp2_with fail
    go_ret2
    exact ⟨by rw [G.out, F.out]; rfl, HW.out⟩
end Go.Proofs.YtfjdnbnalihjiaaGreatDoor

/- Lists of labels: what is wrong with them, and whether they prove. Conditions: the net can be read, or is right; at most ten lists. -/
import Derived.Test.YtbilomkoijomiaaT47
namespace Go.Proofs.Ytbilomkoijomiaa
open Go.RowKit Fs

def Fs.LabFit (N : Net) (ls : List (List Int)) : Prop := ∀ i, i < ls.length → (listL ls i).length = N.places.length
def Fs.LabIn (l : List Int) : Prop := ∀ j, j < l.length → within (listI l j) (-1) 1000000000000000 = true
instance (N : Net) (ls : List (List Int)) : Decidable (LabFit N ls) := inferInstanceAs (Decidable (∀ i, i < ls.length → _))
instance (l : List Int) : Decidable (LabIn l) := inferInstanceAs (Decidable (∀ i, i < l.length → _))
def Fs.labErr (N : Net) (ls : List (List Int)) : Int := if LabFit N ls then (if LabIn (flatTo ls ls.length) then 0 else 2) else 10

set_option maxHeartbeats 1600000 in
set_option maxRecDepth 100000 in
theorem labErr_any (N : Net) (v : Value) (ls : List (List Int)) (A : Option Addr) (c : Nat) (a : DA) (w : World) (hN : RdNet w v N) (h : ArrL w A ls c a) (hn : ls.length ≤ 10) (hl : ∀ i, i < ls.length → (listL ls i).length ≤ 100000) :
    Calls Try.prog 85 #[v, .slice A ls.length c] w fun e w' => e = .returned (.int .i64 (labErr N ls)) ∧ Below w.heap.size w w' := by
  obtain ⟨P, R, pc, rc, ar, rfl, m⟩ := hN
  have pb1 := m.places.le.1
  have pb2 := m.places.le.2
  clear m
  have b1 := h.1.1
  have b2 := h.1.2.1
  have HH := Lib.hid h
  have HL := Lib.hid hl
  clear h hl
  have BN := Lib.hid (BoxN.new w N P R pc rc 25)
  go_enter Try.func85, Try.ntmps85
  go_upto_region 1 with fail
  generalize hwb : w.alloc _ = wb at *
  have HW : Hid (Below w.heap.size w wb) := by rw [← hwb]; exact Lib.hid ((Below.refl _ _).alloc (Nat.le_refl _) _)
  clear hwb
  obtain ⟨n0, n1⟩ := BN.out
  have HB := Lib.hid (HH.out.keep (Keep.below HW.out))
  go_wp2_with fail
  go_loop [11] (fun i => ∃ k : Nat, k ≤ ls.length ∧ i = .int .i64 k ∧ Hid (∀ j, j < k → (listL ls j).length = N.places.length)) (fun i => ls.length - (intOf i).toNat)
  case atStart => exact ⟨0, Nat.zero_le _, rfl, Lib.hid (fun j hj => absurd hj (Nat.not_lt_zero _))⟩
  case round =>
    obtain ⟨k, hk, rfl, Hn⟩ := hrel
    by_cases hlt : k < ls.length
    · obtain ⟨b, o, hAe, hc⟩ := HB.out.at_ hlt
      have h1 := (HB.out.2 k hlt).le
      have h2 := h1.1
      have h3 := h1.2
      subst hAe
      clear h1
      have hkn : (k : Int) < (ls.length : Int) := by omega
      by_cases he : (listL ls k).length = N.places.length
      · have F : Hid (∀ j, j < k + 1 → (listL ls j).length = N.places.length) := Lib.hid fun j hj => by
          by_cases e : j = k
          · subst e; exact he
          · exact Hn.out j (by omega)
        have e1 : (((listL ls k).length : Int) == (N.places.length : Int)) = true := by rw [he]; simp
        have e2 : (((listL ls k).length : Int) != (N.places.length : Int)) = false := by rw [he]; simp
        clear he
        go_wp2_with fail
        go_round
        case rel => exact ⟨k + 1, by omega, by go_num, F⟩
        case measure => simp [intOf]; omega
      · have F := Lib.hid (show labErr N ls = 10 from if_neg (fun h => he (h k hlt)))
        have he' : ¬ ((listL ls k).length : Int) = (N.places.length : Int) := by omega
        have e1 : (((listL ls k).length : Int) == (N.places.length : Int)) = false := by simpa using he'
        have e2 : (((listL ls k).length : Int) != (N.places.length : Int)) = true := by simpa using he'
        clear he'
        clear he
        go_wp2_with fail
        go_ret
        exact ⟨ret_int F.out.symm, HW.out⟩
    · obtain rfl : k = ls.length := by omega
      have F1 := Lib.hid (show labErr N ls = if LabIn (flatTo ls ls.length) then 0 else 2 from if_pos (fun j hj => Hn.out j (by omega)))
      clear hlt hk Hn
      go_wp2_with fail
      refine (concatI_any ls A c a _ HB.out hn HL.out).mono ?_
      rintro e' w1 ⟨A1, c1, rfl, ha, hb1⟩
      have q1 := ha.le.1
      have q2 := ha.le.2
      have HA := Lib.hid ha
      have HX := Lib.hid (HW.out.trans (hb1.mono HW.out.size))
      clear ha hb1 n0 n1
      go_wp2_with fail
      generalize flatTo ls ls.length = l at *
      go_loop [25] (fun i => ∃ k : Nat, k ≤ l.length ∧ i = .int .i64 k ∧ Hid (∀ j, j < k → within (listI l j) (-1) 1000000000000000 = true)) (fun i => l.length - (intOf i).toNat)
      case atStart => exact ⟨0, Nat.zero_le _, rfl, Lib.hid (fun j hj => absurd hj (Nat.not_lt_zero _))⟩
      case round =>
        obtain ⟨k, hk, rfl, Hn⟩ := hrel
        by_cases hlt : k < l.length
        · obtain ⟨b, o, rfl, hc⟩ := HA.out.at_ hlt
          have hkn : (k : Int) < (l.length : Int) := by omega
          cases hp : within (listI l k) (-1) 1000000000000000 with
          | true =>
            have F : Hid (∀ j, j < k + 1 → within (listI l j) (-1) 1000000000000000 = true) := Lib.hid fun j hj => by
              by_cases e : j = k
              · subst e; exact hp
              · exact Hn.out j (by omega)
            have Z := Lib.hid hp
            clear hp
            go_wp2_with (go_at_call 86; refine (within_any _ _ _ _).mono ?_; rintro e w' ⟨rfl, rfl⟩; rw [Z.out])
            go_round
            case rel => exact ⟨k + 1, by omega, by go_num, F⟩
            case measure => simp [intOf]; omega
          | false =>
            have F := Lib.hid (F1.out.trans (if_neg (fun h => by have := h k hlt; rw [hp] at this; cases this)))
            have Z := Lib.hid hp
            clear hp
            go_wp2_with (go_at_call 86; refine (within_any _ _ _ _).mono ?_; rintro e w' ⟨rfl, rfl⟩; rw [Z.out])
            go_ret
            exact ⟨ret_int F.out.symm, HX.out⟩
        · obtain rfl : k = l.length := by omega
          have F := Lib.hid (F1.out.trans (if_pos (fun j hj => Hn.out j (by omega))))
          clear hlt hk Hn
          go_wp2_with fail
          go_ret
          exact ⟨ret_int F.out.symm, HX.out⟩

/-- Labels prove that no way leads to less. -/
def Fs.Proof (N : Net) (nx : Nat → Int → Int) (l : List Int) (k : Nat) : Prop :=
  ∀ i, i < k → listI l (listD N.roads i).src.toNat = -1 ∨ (listI l (listD N.roads i).dst.toNat ≠ -1 ∧ listI l (listD N.roads i).dst.toNat ≤ nx i (listI l (listD N.roads i).src.toNat))
instance (N : Net) (nx : Nat → Int → Int) (l : List Int) (k : Nat) : Decidable (Proof N nx l k) := inferInstanceAs (Decidable (∀ i, i < k → _))

set_option maxHeartbeats 3200000 in
set_option maxRecDepth 100000 in
theorem prove_any (N : Net) (nx : Nat → Int → Int) (v f : Value) (l : List Int) (A : Option Addr) (c : Nat) (w : World) (hN : RdNet w v N) (hE : netErr N = 0) (hf : StepV N nx f w) (h : ArrI w A l c) (hl : l.length = N.places.length) (hi : LabIn l) :
    Calls Try.prog 87 #[v, .slice A l.length c, f] w fun e w' => e = .returned (.bool (decide (Proof N nx l N.roads.length))) ∧ Below w.heap.size w w' := by
  obtain ⟨K, gf, rfl, hcall0, hstep0⟩ := hf
  have HCALL := Lib.hid hcall0
  have HSTEP := Lib.hid hstep0
  clear hcall0 hstep0
  obtain ⟨P, R, pc, rc, ar, rfl, m⟩ := hN
  have M := Lib.hid m
  have rb1 := m.roads.le.1
  have rb2 := m.roads.le.2
  clear m
  have b1 := h.le.1
  have b2 := h.le.2
  have HA := Lib.hid h
  have HJ := Lib.hid (net_joined hE)
  have HI := Lib.hid hi
  have HL := Lib.hid hl
  clear h hi hl
  have BN := Lib.hid (BoxN.new w N P R pc rc 25)
  go_enter Try.func87, Try.ntmps87
  go_upto_region 1 with fail
  generalize hwb : w.alloc _ = wb at *
  have HW : Hid (Below w.heap.size w wb) := by rw [← hwb]; exact Lib.hid ((Below.refl _ _).alloc (Nat.le_refl _) _)
  clear hwb
  obtain ⟨n0, n1⟩ := BN.out
  go_wp2_with fail
  clear n0 n1
  go_loopw [12] (fun i wr => ∃ k : Nat, k ≤ N.roads.length ∧ i = .int .i64 k ∧ Hid (Proof N nx l k) ∧ Hid (Below wb.heap.size wb wr)) (fun i _ => N.roads.length - (intOf i).toNat)
  case atStart => exact ⟨0, Nat.zero_le _, rfl, Lib.hid (fun j hj => absurd hj (Nat.not_lt_zero _)), Lib.hid (Below.refl _ _)⟩
  case round =>
    obtain ⟨k, hk, rfl, HG, HBk⟩ := hrel
    by_cases hlt : k < N.roads.length
    · have hkn : (k : Int) < (N.roads.length : Int) := by omega
      have HX := Lib.hid (HW.out.trans (HBk.out.mono HW.out.size))
      have hrr := M.out.roads.keep (Keep.below HX.out)
      obtain ⟨rb, ro, hRa, qq⟩ := hrr.at_ hlt
      subst hRa
      obtain ⟨x0, x1, x2, x3, x4⟩ := qq
      have BX := Lib.hid (BoxD.new wr (listD N.roads k) (ar.p k) (ar.pc k) 45)
      obtain ⟨⟨j0, s1⟩, j1, d1⟩ := HJ.out k hlt
      obtain ⟨s, hs1⟩ : ∃ s : Nat, (listD N.roads k).src = s := ⟨_, (Int.toNat_of_nonneg j0).symm⟩
      obtain ⟨d, hd1⟩ : ∃ d : Nat, (listD N.roads k).dst = d := ⟨_, (Int.toNat_of_nonneg j1).symm⟩
      have HSD := Lib.hid (And.intro hs1 hd1)
      have sl : s < l.length := by have := HL.out; omega
      have dl : d < l.length := by have := HL.out; omega
      have HSN := Lib.hid (show (listD N.roads k).src.toNat = s ∧ (listD N.roads k).dst.toNat = d by omega)
      have hR1 := HI.out s sl
      have hR1 := Fs.within_iff.1 hR1
      have hR2 := HI.out d dl
      have hR2 := Fs.within_iff.1 hR2
      clear hrr hs1 hd1 j0 j1 s1 d1
      go_upto_region 4 with fail
      generalize hw6 : wr.alloc _ = w6 at *
      have hB6 : Below wr.heap.size wr w6 := by rw [← hw6]; exact (Below.refl _ _).alloc (Nat.le_refl _) _
      clear hw6 x0 x1 x2 x3 x4
      have HB6 := Lib.hid (HBk.out.trans (hB6.mono HBk.out.size))
      have HX6 := Lib.hid (HX.out.trans (hB6.mono HX.out.size))
      clear hB6
      obtain ⟨x0, x1, x2, x3, x4⟩ := BX.out
      rw [HSD.out.1] at x1
      rw [HSD.out.2] at x2
      have sn : (s : Int) < (l.length : Int) := by omega
      have dn : (d : Int) < (l.length : Int) := by omega
      obtain ⟨lb, lo, hAe, ls⟩ := (HA.out.keep (Keep.below HX6.out)).at_ sl
      have HAe := Lib.hid hAe
      have ld := (HA.out.keep (Keep.below HX6.out))
      rw [hAe] at ld
      have ld := ld.cells dl
      subst hAe
      by_cases hz : listI l s = -1
      · have F : Hid (Proof N nx l (k + 1)) := Lib.hid fun i hi => by
          by_cases e : i = k
          · subst e; left; rw [HSN.out.1]; exact hz
          · exact HG.out i (by omega)
        have e1 : (listI l s == -1) = true := by simpa using hz
        clear hz
        go_wp2_with fail
        go_roundw
        case rel => exact ⟨k + 1, by omega, by go_num, F, HB6⟩
        case measure => simp [intOf]; omega
      · have e1 : (listI l s == -1) = false := by simpa using hz
        have HZ := Lib.hid hz
        by_cases hy : listI l d = -1
        · have F := Lib.hid (show decide (Proof N nx l N.roads.length) = false from decide_eq_false (fun h => by
            rcases h k hlt with h1 | h1
            · rw [HSN.out.1] at h1; exact hz h1
            · rw [HSN.out.2] at h1; exact h1.1 hy))
          have e2 : (listI l d == -1) = true := by simpa using hy
          clear hy hz
          go_wp2_with fail
          go_quiet (fail)
          go_wp2_with fail
          go_ret
          exact ⟨ret_bool F.out.symm, bdrewN HX6.out _⟩
        · have e2 : (listI l d == -1) = false := by simpa using hy
          have HSQ := Lib.hid (fun (w' : World) (hb : Below w6.heap.size w6 w') => HSTEP.out w' (HX6.out.trans (hb.mono HX6.out.size)) k (listI l s) hlt (by omega) (by omega))
          have hcall := HCALL.out
          have HY := Lib.hid hy
          clear hy hz
          go_wp2_with fail
          obtain ⟨C, Ci, Co⟩ := classOf w6
          refine quietC (C := C) (by kernel_rfl) (by kernel_rfl) (Co.out _ (Below.refl _ _).drew) ?_
          repeat (first
            | go_big_quiet_skip
            | (go_big_quiet_want; go_big_quiet_op; go_big_quiet_on)
            | (refine quiet_yes (by rfl) ?_
               apply Exists.intro
               refine ⟨fun w' hC => ?_, ?_⟩
               · have hbb := Ci.out _ hC
                 have y0 := Keep.below hbb _ _ x0
                 have y1 := Keep.below hbb _ _ x1
                 have y2 := Keep.below hbb _ _ x2
                 have y3 := Keep.below hbb _ _ x3
                 have y4 := Keep.below hbb _ _ x4
                 have y5 := Keep.below hbb _ _ ls
                 have y6 := Keep.below hbb _ _ ld
                 go_simp
                 first
                   | done
                   | rfl
                   | (refine (HSQ.out w' hbb).mono ?_
                      rintro e' w1 ⟨rfl, hb1⟩
                      exact ⟨rfl, Co.out _ (hbb.trans (hb1.mono hbb.size))⟩)
               simp only [Act.put, List.setIfInBounds_toArray, List.set_cons_zero, List.set_cons_succ]))
          refine wpQuiet_nil ?_
          intro w7 hC7
          have hb7 := Ci.out _ hC7
          replace HB6 := Lib.hid (HB6.out.trans (hb7.mono HB6.out.size))
          replace HX6 := Lib.hid (HX6.out.trans (hb7.mono HX6.out.size))
          clear hb7 hC7 Ci Co C ls ld x0 x1 x2 x3 x4
          by_cases hg : listI l d ≤ nx k (listI l s)
          · have F : Hid (Proof N nx l (k + 1)) := Lib.hid fun i hi => by
              by_cases e : i = k
              · subst e; right; rw [HSN.out.1, HSN.out.2]; exact ⟨HY.out, hg⟩
              · exact HG.out i (by omega)
            have e3 : decide (listI l d > nx k (listI l s)) = false := decide_eq_false (by omega)
            have e4 : decide (nx k (listI l s) < listI l d) = false := decide_eq_false (by omega)
            go_wp2_with fail
            go_roundw
            case rel => exact ⟨k + 1, by omega, by go_num, F, HB6⟩
            case measure => simp [intOf]; omega
          · have F := Lib.hid (show decide (Proof N nx l N.roads.length) = false from decide_eq_false (fun h => by
              rcases h k hlt with h1 | h1
              · rw [HSN.out.1] at h1; exact HZ.out h1
              · rw [HSN.out.1, HSN.out.2] at h1; exact hg h1.2))
            have e3 : decide (listI l d > nx k (listI l s)) = true := decide_eq_true (by omega)
            have e4 : decide (nx k (listI l s) < listI l d) = true := decide_eq_true (by omega)
            go_wp2_with fail
            go_ret
            exact ⟨ret_bool F.out.symm, HX6.out⟩
    · obtain rfl : k = N.roads.length := by omega
      have F := Lib.hid (show decide (Proof N nx l N.roads.length) = true from decide_eq_true HG.out)
      clear hlt hk
      go_wp2_with fail
      go_ret
      exact ⟨ret_bool F.out.symm, HW.out.trans (HBk.out.mono HW.out.size)⟩
end Go.Proofs.Ytbilomkoijomiaa

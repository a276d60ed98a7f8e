/- The error of an examination, and what a row of roads comes to. Condition: the roads lie in the net. -/
import Derived.Test.YtbilomkoijomiaaT20
namespace Go.Proofs.Ytbilomkoijomiaa
open Go.RowKit Fs

/-- Why an examination over the places l that allows m in a thousand more is refused, or nought. -/
def Fs.examErr (N : Net) (l : List Int) (m : Int) : Int := if l.length < 2 then 10 else if 200 < l.length then 8 else if placesErr N l = 0 then (if within m 0 1000 then 0 else 2) else placesErr N l
/-- The two cells of an examination. -/
structure ExamAt (w : World) (g : Nat) (A : Option Addr) (n c : Nat) (m : Int) : Prop where
  c0 : w.cell? ⟨g, 0, none⟩ = some (.slice A n c)
  c1 : w.cell? ⟨g, 1, none⟩ = some (.int .i64 m)
theorem ExamAt.keep {w w' : World} (k : Keep w w') {g : Nat} {A : Option Addr} {n c : Nat} {m : Int} (h : ExamAt w g A n c m) : ExamAt w' g A n c m := ⟨k _ _ h.c0, k _ _ h.c1⟩
theorem ExamAt.new1 (w : World) (B : Obj) (A : Option Addr) (n c : Nat) (m : Int) (ty : TypeId) : ExamAt ((w.alloc B).alloc (.cells #[.slice A n c, .int .i64 m] ty)) (w.heap.size + 1) A n c m := ⟨cellNew1 _ _ _ _ 0, cellNew1 _ _ _ _ 1⟩
abbrev examV (A : Option Addr) (n c : Nat) (m : Int) : Value := .agg #[.slice A n c, .int .i64 m]

set_option maxHeartbeats 1600000 in
set_option maxRecDepth 100000 in
theorem examErr_any (N : Net) (v : Value) (l : List Int) (A : Option Addr) (c : Nat) (m : Int) (w : World) (hN : RdNet w v N) (h : ArrI w A l c) :
    Calls Try.prog 107 #[v, examV A l.length c m] w fun e w' => e = .returned (.int .i64 (examErr N l m)) ∧ Below w.heap.size w w' := by
  have hN0 := Lib.hid hN
  obtain ⟨P, R, pc, rc, ar, rfl, mm⟩ := hN
  clear mm
  have b1 := h.le.1
  have b2 := h.le.2
  have HA := Lib.hid h
  clear h
  have BN := Lib.hid ((BoxN.new w N P R pc rc 25).keep (Keep.alloc _ (.cells #[.slice A l.length c, .int .i64 m] 103)))
  have BT := Lib.hid (ExamAt.new1 w (.cells #[.slice P N.places.length pc, .slice R N.roads.length rc] 25) A l.length c m 103)
  go_enter Try.func107, Try.ntmps107
  go_upto_region 1 with fail
  generalize hwb : (w.alloc _).alloc _ = wb at *
  have HW : Hid (Below w.heap.size w wb) := by rw [← hwb]; exact Lib.hid (((Below.refl _ _).alloc (Nat.le_refl _) _).alloc (by simp) _)
  clear hwb
  obtain ⟨n0, n1⟩ := BN.out
  obtain ⟨c0, c1⟩ := BT.out
  by_cases h1 : l.length < 2
  · have F := Lib.hid (show examErr N l m = 10 from if_pos h1)
    have e1 : decide ((l.length : Int) < 2) = true := by simp; omega
    clear h1
    go_wp2_with fail
    go_ret
    exact ⟨ret_int F.out.symm, HW.out⟩
  · have F1 := Lib.hid (show examErr N l m = _ from if_neg h1)
    have e1 : decide ((l.length : Int) < 2) = false := by simp; omega
    clear h1
    by_cases h2 : 200 < l.length
    · have F := Lib.hid (F1.out.trans (if_pos h2))
      have e2 : decide ((l.length : Int) > 200) = true := by simp; omega
      clear h2 F1
      go_wp2_with fail
      go_ret
      exact ⟨ret_int F.out.symm, HW.out⟩
    · have F2 := Lib.hid (F1.out.trans (if_neg h2))
      have e2 : decide ((l.length : Int) > 200) = false := by simp; omega
      clear h2 F1
      by_cases h3 : placesErr N l = 0
      · have F3 := Lib.hid (F2.out.trans (if_pos h3))
        have HZ := Lib.hid h3
        clear h3 F2
        cases hw : within m 0 1000 with
        | true =>
          have F := Lib.hid (F3.out.trans (by rw [hw]))
          have HWI := Lib.hid hw
          clear hw F3
          go_wp2_with (first
            | (go_at_call 80; refine (placesErr_any N _ l _ _ _ (hN0.out.keep (Keep.below HW.out)) (HA.out.keep (Keep.below HW.out))).mono ?_; rintro e' w1 ⟨rfl, hb1⟩; rw [HZ.out]; have c1' := Keep.below hb1 _ _ c1)
            | (go_at_call 86; refine (within_any _ _ _ _).mono ?_; rintro e' w2 ⟨rfl, rfl⟩; rw [HWI.out]))
          go_ret
          exact ⟨ret_int F.out.symm, HW.out.trans (hb1.mono HW.out.size)⟩
        | false =>
          have F := Lib.hid (F3.out.trans (by rw [hw]))
          have HWI := Lib.hid hw
          clear hw F3
          go_wp2_with (first
            | (go_at_call 80; refine (placesErr_any N _ l _ _ _ (hN0.out.keep (Keep.below HW.out)) (HA.out.keep (Keep.below HW.out))).mono ?_; rintro e' w1 ⟨rfl, hb1⟩; rw [HZ.out]; have c1' := Keep.below hb1 _ _ c1)
            | (go_at_call 86; refine (within_any _ _ _ _).mono ?_; rintro e' w2 ⟨rfl, rfl⟩; rw [HWI.out]))
          go_ret
          exact ⟨ret_int F.out.symm, HW.out.trans (hb1.mono HW.out.size)⟩
      · have F := Lib.hid (F2.out.trans (if_neg h3))
        have e3 : (placesErr N l == 0) = false := by simpa using h3
        have e3' : (placesErr N l != 0) = true := by simpa using h3
        clear h3 F2
        go_wp2_with (go_at_call 80; refine (placesErr_any N _ l _ _ _ (hN0.out.keep (Keep.below HW.out)) (HA.out.keep (Keep.below HW.out))).mono ?_; rintro e' w1 ⟨rfl, hb1⟩)
        go_ret
        exact ⟨ret_int F.out.symm, HW.out.trans (hb1.mono HW.out.size)⟩

/-- The label at the end of a row of roads. -/
def Fs.alongTo (nx : Nat → Int → Int) : Nat → List Int → Int → Int
  | 0, _, x => x
  | k + 1, l, x => nx (listI l k).toNat (alongTo nx k l x)
theorem Fs.alongTo_le {N : Net} {nx : Nat → Int → Int} (hx : Small N nx) {l : List Int} {x : Int} (hl : ∀ j, j < l.length → 0 ≤ listI l j ∧ listI l j < N.roads.length) (h0 : 0 ≤ x) : ∀ k, k ≤ l.length → 0 ≤ alongTo nx k l x ∧ alongTo nx k l x ≤ x + 100000 * k
  | 0, _ => ⟨h0, by unfold alongTo; omega⟩
  | k + 1, hk => by
    have ih := alongTo_le hx hl h0 k (by omega)
    have hr := hl k (by omega)
    have h := hx (listI l k).toNat (alongTo nx k l x) (by omega) ih.1
    unfold alongTo
    omega
set_option maxHeartbeats 1600000 in
set_option maxRecDepth 100000 in
theorem along_any (N : Net) (nx : Nat → Int → Int) (f : Value) (x : Int) (l : List Int) (A : Option Addr) (c : Nat) (w : World) (hf : StepV N nx f w) (hx : Small N nx) (h : ArrI w A l c) (hl : ∀ j, j < l.length → 0 ≤ listI l j ∧ listI l j < N.roads.length) (h0 : 0 ≤ x) (h1 : x ≤ 1000000) (hn : l.length ≤ 1000000) :
    Calls Try.prog 78 #[f, .int .i64 x, .slice A l.length c] w fun e w' => e = .returned (.int .i64 (alongTo nx l.length l x)) ∧ Below w.heap.size w w' := by
  obtain ⟨K, gf, rfl, hcall0, hstep0⟩ := hf
  have HCALL := Lib.hid hcall0
  have HSTEP := Lib.hid hstep0
  have HLL := Lib.hid hl
  have HLE := Lib.hid (alongTo_le hx hl h0)
  clear hcall0 hstep0 hl
  have b1 := h.le.1
  have b2 := h.le.2
  have HA := Lib.hid h
  clear h
  go_enter Try.func78, Try.ntmps78
  go_wp2_with fail
  go_loopw [1, 11] (fun u i wr => ∃ k : Nat, k ≤ l.length ∧ i = .int .i64 k ∧ u = .int .i64 (alongTo nx k l x) ∧ Hid (Below w.heap.size w wr)) (fun _ i _ => l.length - (intOf i).toNat)
  case atStart => exact ⟨0, Nat.zero_le _, rfl, rfl, Lib.hid (Below.refl _ _)⟩
  case round =>
    obtain ⟨k, hk, rfl, rfl, HB⟩ := hrel
    by_cases hlt : k < l.length
    · obtain ⟨b, o, hAe, hc⟩ := (HA.out.keep (Keep.below HB.out)).at_ hlt
      subst hAe
      have hr := HLL.out k hlt
      have hle := HLE.out k hk
      obtain ⟨r, hr1⟩ : ∃ r : Nat, listI l k = r := ⟨_, (Int.toNat_of_nonneg hr.1).symm⟩
      have hrl : r < N.roads.length := by omega
      have F := Lib.hid (show alongTo nx (k + 1) l x = nx r (alongTo nx k l x) from by show nx (listI l k).toNat _ = _; rw [hr1]; rfl)
      have hcall := HCALL.out
      rw [hr1] at hc
      clear hr hr1
      go_wp2_with fail
      refine (HSTEP.out wr HB.out r (alongTo nx k l x) hrl hle.1 (by omega)).mono ?_
      rintro e w2 ⟨rfl, hb2⟩
      rw [← F.out]
      go_wp2_with fail
      go_roundw
      case rel => exact ⟨k + 1, by omega, by go_num, rfl, Lib.hid (HB.out.trans (hb2.mono HB.out.size))⟩
      case measure => simp [intOf]; omega
    · obtain rfl : k = l.length := by omega
      clear hlt
      go_wp2_with fail
      go_ret
      exact ⟨rfl, HB.out⟩
end Go.Proofs.Ytbilomkoijomiaa

/- The law of one car and many drivers. Condition: the bytes are such. -/
import Derived.Test.YtaihiahoedpbiaaE22
import Derived.Test.YtaihiahoedpbiaaE7
import Derived.Test.YtaihiahoedpbiaaX15c
import Derived.Test.YtaihiahoedpbiaaY9
import Derived.Test.YtaihiahoedpbiaaVD
namespace Go.Proofs.Ytaihiahoedpbiaa
open Go.RowKit Fs

def Fs.sixth (m : Nat) : ByteArray := listS [⟨#[97]⟩, ⟨#[98]⟩, ⟨#[99]⟩, ⟨#[100]⟩, ⟨#[101]⟩, ⟨#[102]⟩] m
def Fs.nmAt (N : List Int) (i : Nat) : ByteArray := sixth ((listI N i).tmod 6).toNat
theorem six_cell {w : World} {g : Nat} (h : ∀ m, m < 6 → w.cell? ⟨g, m, none⟩ = (#[.string ⟨#[97]⟩, .string ⟨#[98]⟩, .string ⟨#[99]⟩, .string ⟨#[100]⟩, .string ⟨#[101]⟩, .string ⟨#[102]⟩] : Array Value)[m]?) {m : Nat} (hm : m < 6) : w.cell? ⟨g, m, none⟩ = some (.string (sixth m)) := by
  rw [h m hm]
  match m, hm with
  | 0, _ => rfl
  | 1, _ => rfl
  | 2, _ => rfl
  | 3, _ => rfl
  | 4, _ => rfl
  | 5, _ => rfl
theorem six_name {m : Nat} (hm : m < 6) : isName (sixth m) = true := by
  match m, hm with
  | 0, _ => decide
  | 1, _ => decide
  | 2, _ => decide
  | 3, _ => decide
  | 4, _ => decide
  | 5, _ => decide
structure Fs.HandedOk' (l : List WRec) (D : List ByteArray) (k : Nat) : Prop where
  pos : 0 < k → 0 < D.length
  first : 0 < k → listS D 0 = (listW l 0).who
  last : 0 < k → listS D (D.length - 1) = (listW l (k - 1)).who
  next : ∀ i, 0 < i → i < D.length → listS D i ≠ listS D (i - 1)
/-- As uses_right, where only the names below the length are told. -/
theorem uses_right' {l : List WRec} {nm : Nat → ByteArray} (h : Right l) (hl : l.length ≤ 14) (hn : ∀ i, i < l.length → isName (nm i) = true) : UsesOk (usesTo l nm l.length) := by
  have e := usesTo_len l nm l.length
  have key := uses_right (nm := fun i => if i < l.length then nm i else sixth 0) h hl (fun i => by
    by_cases hi : i < l.length
    · simp only [if_pos hi]; exact hn i hi
    · simp only [if_neg hi]; exact six_name (by decide))
  have e2 : ∀ k, k ≤ l.length → usesTo l (fun i => if i < l.length then nm i else sixth 0) k = usesTo l nm k := by
    intro k
    induction k with
    | zero => intro _; rfl
    | succ k ih => intro hk; rw [usesTo, usesTo, ih (by omega), if_pos (show k < l.length by omega)]
  rw [e2 _ (Nat.le_refl _)] at key
  exact key
theorem mod_six (x : Int) (h0 : 0 ≤ x) : ∃ m : Nat, x.tmod 6 = (m : Int) ∧ m < 6 := by
  have h1 : x.tmod 6 < 6 := Int.tmod_lt_of_pos _ (by decide)
  have h2 : 0 ≤ x.tmod 6 := Int.tmod_nonneg _ h0
  exact ⟨(x.tmod 6).toNat, by omega, by omega⟩
set_option linter.unusedSimpArgs false in
set_option maxHeartbeats 12800000 in
set_option maxRecDepth 100000 in
theorem lawShared_any (l : List WRec) (N : List Int) (A B : Option Addr) (c cn : Nat) (w : World) (h : ArrW w A l c) (hN : ArrU w B N cn) (hN2 : ∀ i, i < N.length → 0 ≤ listI N i ∧ listI N i ≤ 255) :
    Calls Try.prog 16 #[.slice A l.length c, .slice B N.length cn] w fun e w' => e = .returned (.bool true) ∧ Below w.heap.size w w' := by
  obtain ⟨i0, hi, hz0, hz1, hz2⟩ := info_parts Try.infoDUse
  have HINF := Lib.hid (And.intro hi (And.intro hz0 (And.intro hz1 hz2)))
  clear hi hz0 hz1 hz2
  have b1 := h.le.1
  have b2 := h.le.2
  have b3 := hN.le.1
  have b4 := hN.le.2
  have HA := Lib.hid h
  have HNA := Lib.hid hN
  have HN2 := Lib.hid hN2
  clear h hN hN2
  go_enter Try.func16, Try.ntmps16
  go_wp2_with fail
  refine (lawDutied_any _).mono ?_
  rintro e' w1 ⟨rfl, hb1⟩
  have HW := Lib.hid hb1
  clear hb1
  by_cases h10 : l.length ≤ 10
  · have d1 : decide ((l.length : Int) > 10) = false := decide_eq_false (by omega)
    have d2 : decide (10 < (l.length : Int)) = false := decide_eq_false (by omega)
    have d3 : decide (10 < l.length) = false := decide_eq_false (by omega)
    by_cases hnl : l.length ≤ N.length
    · have d4 : decide ((N.length : Int) < (l.length : Int)) = false := decide_eq_false (by omega)
      have d5 : decide (N.length < l.length) = false := decide_eq_false (by omega)
      have HNL := Lib.hid hnl
      clear hnl
      go_wp2_with fail
      refine (rCarErr_any l A c _ (HA.out.keep (Keep.below HW.out))).mono ?_
      rintro e' w2 ⟨rfl, hb1⟩
      replace HW := Lib.hid (HW.out.trans (hb1.mono HW.out.size))
      clear hb1
      by_cases he : recsErr false l = 0
      · have HE := Lib.hid he
        have HRT := Lib.hid (recs_right he)
        rw [he]
        clear he
        clear d1 d2 d3 d4 d5
        have HS0 := Lib.hid (fun m (_ : m < 6) => cellNew w2 #[.string ⟨#[97]⟩, .string ⟨#[98]⟩, .string ⟨#[99]⟩, .string ⟨#[100]⟩, .string ⟨#[101]⟩, .string ⟨#[102]⟩] 9 m)
        have HBw := Lib.hid (HW.out.alloc HW.out.size (.cells #[.string ⟨#[97]⟩, .string ⟨#[98]⟩, .string ⟨#[99]⟩, .string ⟨#[100]⟩, .string ⟨#[101]⟩, .string ⟨#[102]⟩] 9))
        go_upto_region 6 with fail
        generalize hgs : w2.heap.size = gs at *
        generalize hwL : w2.alloc _ = wL at *
        clear hwL hgs HW w2
        have HW := HBw
        clear HBw
        go_wp2_with fail
        go_loopw [6, 7] (fun v s wr => ∃ k : Nat, k ≤ l.length ∧ s = .int .i64 k ∧ Hid (wr.ownsRow wL.heap.size 113 3 v (usesTo l (nmAt N) k).length (recFlat (usesTo l (nmAt N) k))) ∧ Hid (Below wL.heap.size wL wr)) (fun _ s _ => l.length - (intOf s).toNat)
        case atStart => exact ⟨0, Nat.zero_le _, rfl, Lib.hid (World.ownsRow_nil _ _ _ _), Lib.hid (Below.refl _ _)⟩
        case round =>
          obtain ⟨k, hk, rfl, HO, HX⟩ := hrel
          by_cases hlt : k < l.length
          · have hkn : (k : Int) < (l.length : Int) := by omega
            have hkN : (k : Int) < (N.length : Int) := by have := HNL.out; omega
            obtain ⟨b, o, rfl, q0, q1, q2⟩ := (HA.out.keep (Keep.below HW.out)).at_ hlt
            obtain ⟨bn, on, rfl, z1⟩ := (HNA.out.keep (Keep.below HW.out)).at_ (k := k) (by omega)
            obtain ⟨y0, y1⟩ := HN2.out k (by omega)
            obtain ⟨m, hm, hm6⟩ := mod_six _ y0
            have z0 := six_cell HS0.out hm6
            have HM := Lib.hid hm
            have hmn : (m : Int) < 6 := by omega
            have hxw : IntKind.i64.wrap (listI N k) = listI N k := by rw [IntKind.wrap_i64]; omega
            have hmw : IntKind.i64.wrap (m : Int) = (m : Int) := by rw [IntKind.wrap_i64]; omega
            have hlu : (usesTo l (nmAt N) k).length = k := usesTo_len _ _ _
            obtain ⟨hi, hz0, hz1, hz2⟩ := HINF.out
            clear q0
            go_upto_region 10 with fail
            go_wp2_with fail
            have HBd : Hid (Below wL.heap.size wL wr.drew) := Lib.hid HX.out.drew
            have MK : Hid (∀ w', Below wL.heap.size wL w' → w'.cell? ⟨gs, m, none⟩ = some (.string (sixth m)) ∧ w'.cell? ⟨bn, on + k, none⟩ = some (.int .u8 (listI N k)) ∧ w'.cell? ⟨b, o + k * 3 + 1, none⟩ = some (.int .i64 (listW l k).beg) ∧ w'.cell? ⟨b, o + k * 3 + 2, none⟩ = some (.int .i64 (listW l k).fin) ∧ Hid (Below wL.heap.size wL w')) :=
              Lib.hid fun w' hw => ⟨Keep.below hw _ _ z0, Keep.below hw _ _ z1, Keep.below hw _ _ q1, Keep.below hw _ _ q2, Lib.hid hw⟩
            refine wp_region_held_drew (S := fun w' => w'.cell? ⟨gs, m, none⟩ = some (.string (sixth m)) ∧ w'.cell? ⟨bn, on + k, none⟩ = some (.int .u8 (listI N k)) ∧ w'.cell? ⟨b, o + k * 3 + 1, none⟩ = some (.int .i64 (listW l k).beg) ∧ w'.cell? ⟨b, o + k * 3 + 2, none⟩ = some (.int .i64 (listW l k).fin) ∧ Hid (Below wL.heap.size wL w')) (by kernel_rfl) (MK.out _ HBd.out) (fun hHeld => ?_)
            refine wpAnyH_take (i := 0) (v := ?val0x19) rfl (by kernel_rfl) (by kernel_rfl) (by kernel_rfl) (fun _ _ _ h => h) (Or.inl ⟨by rfl, fun w9 hS9 => ?yields0x19⟩) (by assumption) ?later0x19
            case yields0x19 =>
              dsimp only at hS9
              go_simp
              try with_reducible rfl
            try simp only [Act.put, List.getElem_toArray, List.getElem_cons_succ, List.getElem_cons_zero, List.setIfInBounds_toArray, List.set_cons_zero, List.set_cons_succ]
            refine wpAnyH_take (i := 1) (v := ?val1x20) rfl (by kernel_rfl) (by kernel_rfl) (by kernel_rfl) (fun _ _ _ h => h) (Or.inl ⟨by rfl, fun w9 hS9 => ?yields1x20⟩) (by assumption) ?later1x20
            case yields1x20 =>
              dsimp only at hS9
              go_simp
              try with_reducible rfl
            try simp only [Act.put, List.getElem_toArray, List.getElem_cons_succ, List.getElem_cons_zero, List.setIfInBounds_toArray, List.set_cons_zero, List.set_cons_succ]
            refine wpAnyH_take (i := 2) (v := ?val2x21) rfl (by kernel_rfl) (by kernel_rfl) (by kernel_rfl) (fun _ _ _ h => h) (Or.inl ⟨by rfl, fun w9 hS9 => ?yields2x21⟩) (by assumption) ?later2x21
            case yields2x21 =>
              dsimp only at hS9
              go_simp
              try with_reducible rfl
            try simp only [Act.put, List.getElem_toArray, List.getElem_cons_succ, List.getElem_cons_zero, List.setIfInBounds_toArray, List.set_cons_zero, List.set_cons_succ]
            refine wpAnyH_take (i := 3) (v := ?val3x22) rfl (by kernel_rfl) (by kernel_rfl) (by kernel_rfl) (fun _ _ _ h => h) (Or.inl ⟨by rfl, fun w9 hS9 => ?yields3x22⟩) (by assumption) ?later3x22
            case yields3x22 =>
              dsimp only at hS9
              go_simp
              try with_reducible rfl
            try simp only [Act.put, List.getElem_toArray, List.getElem_cons_succ, List.getElem_cons_zero, List.setIfInBounds_toArray, List.set_cons_zero, List.set_cons_succ]
            refine wpAnyH_take (i := 4) (v := ?val4x23) rfl (by kernel_rfl) (by kernel_rfl) (by kernel_rfl) (fun _ _ _ h => h) (Or.inl ⟨by rfl, fun w9 hS9 => ?yields4x23⟩) (by assumption) ?later4x23
            case yields4x23 =>
              dsimp only at hS9
              go_simp
              try with_reducible rfl
            try simp only [Act.put, List.getElem_toArray, List.getElem_cons_succ, List.getElem_cons_zero, List.setIfInBounds_toArray, List.set_cons_zero, List.set_cons_succ]
            refine wpAnyH_take (i := 5) (v := ?val5x24) rfl (by kernel_rfl) (by kernel_rfl) (by kernel_rfl) (fun _ _ _ h => h) (Or.inl ⟨by rfl, fun w9 hS9 => ?yields5x24⟩) (by assumption) ?later5x24
            case yields5x24 =>
              dsimp only at hS9
              go_simp
              try with_reducible rfl
            try simp only [Act.put, List.getElem_toArray, List.getElem_cons_succ, List.getElem_cons_zero, List.setIfInBounds_toArray, List.set_cons_zero, List.set_cons_succ]
            refine wpAnyH_take (i := 6) (v := ?val6x25) rfl (by kernel_rfl) (by kernel_rfl) (by kernel_rfl) (fun _ _ _ h => h) (Or.inl ⟨by rfl, fun w9 hS9 => ?yields6x25⟩) (by assumption) ?later6x25
            case yields6x25 =>
              dsimp only at hS9
              go_simp
              try with_reducible rfl
            try simp only [Act.put, List.getElem_toArray, List.getElem_cons_succ, List.getElem_cons_zero, List.setIfInBounds_toArray, List.set_cons_zero, List.set_cons_succ]
            refine wpAnyH_take (i := 7) (v := ?val7x26) rfl (by kernel_rfl) (by kernel_rfl) (by kernel_rfl) (fun _ _ _ h => h) (Or.inl ⟨by rfl, fun w9 hS9 => ?yields7x26⟩) (by assumption) ?later7x26
            case yields7x26 =>
              dsimp only at hS9
              go_simp
              try with_reducible rfl
            try simp only [Act.put, List.getElem_toArray, List.getElem_cons_succ, List.getElem_cons_zero, List.setIfInBounds_toArray, List.set_cons_zero, List.set_cons_succ]
            refine wpAnyH_take (i := 8) (v := ?val8x27) rfl (by kernel_rfl) (by kernel_rfl) (by kernel_rfl) (fun _ _ _ h => h) (Or.inl ⟨by rfl, fun w9 hS9 => ?yields8x27⟩) (by assumption) ?later8x27
            case yields8x27 =>
              dsimp only at hS9
              go_simp
              try with_reducible rfl
            try simp only [Act.put, List.getElem_toArray, List.getElem_cons_succ, List.getElem_cons_zero, List.setIfInBounds_toArray, List.set_cons_zero, List.set_cons_succ]
            refine wpAnyH_take (i := 9) (v := ?val9x28) rfl (by kernel_rfl) (by kernel_rfl) (by kernel_rfl) (fun _ _ _ h => h) (Or.inl ⟨by rfl, fun w9 hS9 => ?yields9x28⟩) (by assumption) ?later9x28
            case yields9x28 =>
              dsimp only at hS9
              go_simp
              try with_reducible rfl
            try simp only [Act.put, List.getElem_toArray, List.getElem_cons_succ, List.getElem_cons_zero, List.setIfInBounds_toArray, List.set_cons_zero, List.set_cons_succ]
            refine wpAnyH_take (i := 10) (v := ?val10x29) rfl (by kernel_rfl) (by kernel_rfl) (by kernel_rfl) (fun _ _ _ h => h) (Or.inl ⟨by rfl, fun w9 hS9 => ?yields10x29⟩) (by assumption) ?later10x29
            case yields10x29 =>
              dsimp only at hS9
              go_simp
              try with_reducible rfl
            try simp only [Act.put, List.getElem_toArray, List.getElem_cons_succ, List.getElem_cons_zero, List.setIfInBounds_toArray, List.set_cons_zero, List.set_cons_succ]
            refine wpAnyH_take (i := 11) (v := ?val11x30) rfl (by kernel_rfl) (by kernel_rfl) (by kernel_rfl) (fun _ _ _ h => h) (Or.inl ⟨by rfl, fun w9 hS9 => ?yields11x30⟩) (by assumption) ?later11x30
            case yields11x30 =>
              dsimp only at hS9
              go_simp
              try with_reducible rfl
            try simp only [Act.put, List.getElem_toArray, List.getElem_cons_succ, List.getElem_cons_zero, List.setIfInBounds_toArray, List.set_cons_zero, List.set_cons_succ]
            refine wpAnyH_take (i := 12) (v := ?val12x31) rfl (by kernel_rfl) (by kernel_rfl) (by kernel_rfl) (fun _ _ _ h => h) (Or.inl ⟨by rfl, fun w9 hS9 => ?yields12x31⟩) (by assumption) ?later12x31
            case yields12x31 =>
              dsimp only at hS9
              go_simp
              try with_reducible rfl
            try simp only [Act.put, List.getElem_toArray, List.getElem_cons_succ, List.getElem_cons_zero, List.setIfInBounds_toArray, List.set_cons_zero, List.set_cons_succ]
            refine wpAnyH_take (i := 13) (v := ?val13x32) rfl (by kernel_rfl) (by kernel_rfl) (by kernel_rfl) (fun _ _ _ h => h) (Or.inl ⟨by rfl, fun w9 hS9 => ?yields13x32⟩) (by assumption) ?later13x32
            case yields13x32 =>
              dsimp only at hS9
              go_simp
              try with_reducible rfl
            try simp only [Act.put, List.getElem_toArray, List.getElem_cons_succ, List.getElem_cons_zero, List.setIfInBounds_toArray, List.set_cons_zero, List.set_cons_succ]
            refine wpAnyH_take (i := 14) (v := ?val14x33) rfl (by kernel_rfl) (by kernel_rfl) (by kernel_rfl) (fun _ _ _ h => h) (Or.inl ⟨by rfl, fun w9 hS9 => ?yields14x33⟩) (by assumption) ?later14x33
            case yields14x33 =>
              dsimp only at hS9
              go_simp
              try with_reducible rfl
            try simp only [Act.put, List.getElem_toArray, List.getElem_cons_succ, List.getElem_cons_zero, List.setIfInBounds_toArray, List.set_cons_zero, List.set_cons_succ]
            refine wpAnyH_take (i := 15) (v := ?val15x34) rfl (by kernel_rfl) (by kernel_rfl) (by kernel_rfl) (fun _ _ _ h => h) (Or.inl ⟨by rfl, fun w9 hS9 => ?yields15x34⟩) (by assumption) ?later15x34
            case yields15x34 =>
              dsimp only at hS9
              go_simp
              try with_reducible rfl
            try simp only [Act.put, List.getElem_toArray, List.getElem_cons_succ, List.getElem_cons_zero, List.setIfInBounds_toArray, List.set_cons_zero, List.set_cons_succ]
            refine wpAnyH_take (i := 16) (v := ?val16x35) rfl (by kernel_rfl) (by kernel_rfl) (by kernel_rfl) (fun _ _ _ h => h) (Or.inl ⟨by rfl, fun w9 hS9 => ?yields16x35⟩) (by assumption) ?later16x35
            case yields16x35 =>
              dsimp only at hS9
              go_simp
              try with_reducible rfl
            try simp only [Act.put, List.getElem_toArray, List.getElem_cons_succ, List.getElem_cons_zero, List.setIfInBounds_toArray, List.set_cons_zero, List.set_cons_succ]
            refine wpAnyH_take (i := 17) (v := ?val17x36) rfl (by kernel_rfl) (by kernel_rfl) (by kernel_rfl) (fun _ _ _ h => h) (Or.inl ⟨by rfl, fun w9 hS9 => ?yields17x36⟩) (by assumption) ?later17x36
            case yields17x36 =>
              dsimp only at hS9
              go_simp
              try with_reducible rfl
            try simp only [Act.put, List.getElem_toArray, List.getElem_cons_succ, List.getElem_cons_zero, List.setIfInBounds_toArray, List.set_cons_zero, List.set_cons_succ]
            refine wpAnyH_take (i := 18) (v := ?val18x37) rfl (by kernel_rfl) (by kernel_rfl) (by kernel_rfl) (fun _ _ _ h => h) (Or.inl ⟨by rfl, fun w9 hS9 => ?yields18x37⟩) (by assumption) ?later18x37
            case yields18x37 =>
              dsimp only at hS9
              go_simp
              try with_reducible rfl
            try simp only [Act.put, List.getElem_toArray, List.getElem_cons_succ, List.getElem_cons_zero, List.setIfInBounds_toArray, List.set_cons_zero, List.set_cons_succ]
            refine wpAnyH_take (i := 19) (v := ?val19x38) rfl (by kernel_rfl) (by kernel_rfl) (by kernel_rfl) (fun _ _ _ h => h) (Or.inl ⟨by rfl, fun w9 hS9 => ?yields19x38⟩) (by assumption) ?later19x38
            case yields19x38 =>
              dsimp only at hS9
              go_simp
              try with_reducible rfl
            try simp only [Act.put, List.getElem_toArray, List.getElem_cons_succ, List.getElem_cons_zero, List.setIfInBounds_toArray, List.set_cons_zero, List.set_cons_succ]
            refine wpAnyH_take (i := 20) (v := ?val20x39) rfl (by kernel_rfl) (by kernel_rfl) (by kernel_rfl) (fun _ _ _ h => h) (Or.inl ⟨by rfl, fun w9 hS9 => ?yields20x39⟩) (by assumption) ?later20x39
            case yields20x39 =>
              dsimp only at hS9
              go_simp
              try with_reducible rfl
            try simp only [Act.put, List.getElem_toArray, List.getElem_cons_succ, List.getElem_cons_zero, List.setIfInBounds_toArray, List.set_cons_zero, List.set_cons_succ]
            have HO1 := Lib.hid (below_of_own HO.out (Below.refl wr.heap.size wr).drew)
            have HLN := Lib.hid hlu
            generalize hyy : World.drew wr = y0 at *
            clear hyy
            refine wpAnyH_ready (rs := [21]) (by kernel_rfl) (by simp) ?_
            refine AllReadyH.cons rfl (fun K hK => ?_) AllReadyH.nil
            go_simp
            obtain ⟨-, -, -, -, HBX⟩ := hHeld
            have HL := Lib.hid (heap_alloc_new y0 (.cells #[.string (sixth m), .int .i64 (listW l k).beg, .int .i64 (listW l k).fin] 113))
            have HO2 := Lib.hid (below_of_own HO1.out ((Below.refl y0.heap.size y0).alloc (Nat.le_refl _) (.cells #[.string (sixth m), .int .i64 (listW l k).beg, .int .i64 (listW l k).fin] 113)))
            refine hK.out _ _ (MK.out _ (HBX.out.alloc HBX.out.size _)) (fun hHeld => ?_)
            try simp only [Act.put, List.getElem_toArray, List.getElem_cons_succ, List.getElem_cons_zero, List.setIfInBounds_toArray, List.set_cons_zero, List.set_cons_succ]
            clear HBX hK K HO1
            generalize hgu : y0.heap.size = gu at *
            generalize hyy : World.alloc y0 _ = y1 at *
            clear hyy hgu
            refine wpAnyH_ready (rs := [22]) (by kernel_rfl) (by simp) ?_
            refine AllReadyH.cons rfl (fun K hK => ?_) AllReadyH.nil
            obtain ⟨-, -, -, -, HBX⟩ := hHeld
            refine step_append_lies _ rfl (.tmp 39) (.tmp 60) 101 rfl wL.heap.size 113 i0 _ 3 32 Try.underlying101 hi hz0 hz1 hz2 rfl (by decide) _ (usesTo l (nmAt N) k).length _ rfl HO2.out ⟨gu, 0, none⟩ 1 1 [.string (sixth m), .int .i64 (listW l k).beg, .int .i64 (listW l k).fin] rfl rfl (World.news_of_block HL.out) (recOne ⟨sixth m, (listW l k).beg, (listW l k).fin⟩) (by decide) (by rw [HLN.out]; unfold maxLen; omega) (by rw [HLN.out]; omega) HBX.out.size _ rfl ?_
            rintro g9 c9 y9 ho9 hg9 - -
            have hb9 := (Below.refl _ _).grown hg9 HBX.out.size (fun k hk => (HO2.out.lt k hk).1)
            have HO9 := Lib.hid ho9
            have HB9 := Lib.hid (HBX.out.trans hb9)
            refine hK.out _ _ (MK.out _ HB9.out) (fun hHeld => ?_)
            try simp only [Act.put, List.getElem_toArray, List.getElem_cons_succ, List.getElem_cons_zero, List.setIfInBounds_toArray, List.set_cons_zero, List.set_cons_succ]
            clear ho9 hb9 hg9 HBX hK K hHeld
            have hHeld := MK.out _ HB9.out
            refine wpAnyH_take (i := 23) (v := ?val23x40) rfl (by kernel_rfl) (by kernel_rfl) (by kernel_rfl) (fun _ _ _ h => h) (Or.inl ⟨by rfl, fun w9 hS9 => ?yields23x40⟩) (by assumption) ?later23x40
            case yields23x40 =>
              dsimp only at hS9
              go_simp
              try with_reducible rfl
            try simp only [Act.put, List.getElem_toArray, List.getElem_cons_succ, List.getElem_cons_zero, List.setIfInBounds_toArray, List.set_cons_zero, List.set_cons_succ]
            refine wpAnyH_done (by kernel_rfl) ?_ _
            clear hHeld HBd MK
            have HUS := Lib.hid (show usesTo l (nmAt N) (k + 1) = usesTo l (nmAt N) k ++ [⟨sixth m, (listW l k).beg, (listW l k).fin⟩] by
              rw [usesTo]; unfold nmAt; rw [HM.out, Int.toNat_natCast])
            clear z0 z1 q1 q2 hi hz0 hz1 hz2 HO HX HO2 HL
            go_wp2_with fail
            go_roundw
            case rel =>
              refine ⟨k + 1, by omega, by go_num, Lib.hid ?_, HB9⟩
              rw [HUS.out, recFlat_more, List.length_append, List.length_singleton]
              have h9 := HO9.out
              rw [hlu] at h9 ⊢
              exact h9
            case measure => simp [intOf]; omega
          · obtain rfl : k = l.length := by omega
            obtain ⟨A8, c8, rfl, h8⟩ := own_recs HO.out
            have hlu : (usesTo l (nmAt N) l.length).length = l.length := usesTo_len _ _ _
            have HH := Lib.hid (handed_ok l l.length)
            have hnm : ∀ i, i < l.length → isName (nmAt N i) = true := fun i hi => by
              obtain ⟨m, hm, hm6⟩ := mod_six _ (HN2.out i (by have := HNL.out; omega)).1
              unfold nmAt
              rw [hm, Int.toNat_natCast]
              exact six_name hm6
            have HU := Lib.hid (uses_right' HRT.out (by omega) hnm)
            have HM1 := Lib.hid (most_one (nm := nmAt N) HRT.out)
            obtain ⟨U, hU⟩ : ∃ U, U = usesTo l (nmAt N) l.length := ⟨_, rfl⟩
            rw [← hU] at h8 hlu HU HM1
            rw [← hU]
            have H8 := Lib.hid h8
            replace HW := Lib.hid (HW.out.trans (HX.out.mono HW.out.size))
            have u1 := h8.le.1
            have u2 := h8.le.2
            clear hU h8 HO HX hnm
            go_wp2_with fail
            refine (rCopyRecords_any l A c _ (HA.out.keep (Keep.below HW.out)) (by omega)).mono ?_
            rintro e' w3 ⟨v3, rfl, h3, hb1⟩
            replace HW := Lib.hid (HW.out.trans (hb1.mono HW.out.size))
            replace H8 := Lib.hid (H8.out.keep (Keep.below hb1))
            obtain ⟨A3, c3, rfl, h4⟩ := own_recs h3
            have H3 := Lib.hid h4
            clear h3 h4 hb1
            go_wp2_with fail
            refine (xHanded_any l A3 c3 _ H3.out).mono ?_
            rintro e' w4 ⟨⟨A4, c4, rfl, h4⟩, hb1⟩
            replace HW := Lib.hid (HW.out.trans (hb1.mono HW.out.size))
            replace H8 := Lib.hid (H8.out.keep (Keep.below hb1))
            have hD : handedOut l = handedTo l l.length := if_pos HE.out
            rw [hD] at h4 ⊢
            rw [HE.out]
            clear hD
            obtain ⟨D, hDD⟩ : ∃ D, D = handedTo l l.length := ⟨_, rfl⟩
            have HDD := Lib.hid hDD
            rw [← hDD] at h4 ⊢
            have H4 := Lib.hid h4
            have v1 := h4.le.1
            have v2 := h4.le.2
            clear h4 hDD hb1 H3
            have HK := Lib.hid (show HandedOk' l D l.length from by rw [HDD.out]; exact ⟨HH.out.pos, HH.out.first, HH.out.last, HH.out.next⟩)
            have hz : l.length = 0 → D.length = 0 := fun h0 => by rw [HDD.out, h0]; rfl
            clear HH HDD
            go_upto_region 12 with fail
            by_cases hl0 : l.length = 0
            · have d1 : decide ((l.length : Int) > 0) = false := decide_eq_false (by omega)
              have d2 : decide (0 < (l.length : Int)) = false := decide_eq_false (by omega)
              have d3 : decide (0 < l.length) = false := decide_eq_false (by omega)
              have HL0 := Lib.hid hl0
              clear hl0
              go_wp2_with fail
              go_quiet (fail)
              go_wp2_with fail
              go_loopw [10] (fun s wr => ∃ i : Nat, 1 ≤ i ∧ s = .int .i64 i ∧ Hid (Below w4.heap.size w4 wr)) (fun s _ => D.length - (intOf s).toNat)
              case atStart => exact ⟨1, Nat.le_refl _, rfl, Lib.hid (bdrewN (Below.refl _ _) _)⟩
              case round =>
                obtain ⟨i, hi1, rfl, HX⟩ := hrel
                by_cases hid : i < D.length
                · exact absurd hid (by have := hz HL0.out; omega)
                · have hin : decide ((i : Int) < (D.length : Int)) = false := decide_eq_false (by omega)
                  have HW5 := Lib.hid (HW.out.trans (HX.out.mono HW.out.size))
                  replace H8 := Lib.hid (H8.out.keep (Keep.below HX.out))
                  have hx := fun w9 hh => xPlates_any U A8 c8 w9 hh
                  rw [hlu] at hx
                  have HPX := Lib.hid hx
                  clear hx
                  have hx2 := fun w9 (Q : List Int) A7 c7 t hh h7 => xCheckPlates_any U A8 c8 Q A7 c7 t w9 hh h7
                  rw [hlu] at hx2
                  have HCX := Lib.hid hx2
                  clear hx2
                  go_wp2_with fail
                  refine (HPX.out _ H8.out).mono ?_
                  rintro e' w6 ⟨⟨Q, A7, c7, t, rfl, h7, hq⟩, hb1⟩
                  have hzU := uses_zero HU.out
                  have hP : platesOut U Q t = (min 1 (l.length : Int), 0) := (plates_out hzU).trans ((hq.good hzU).trans (by rw [HM1.out]))
                  rw [hzU]
                  have HP9 := Lib.hid hP
                  have HW6 := Lib.hid ((HW5.out.trans (hb1.mono HW5.out.size)).alloc (HW5.out.trans (hb1.mono HW5.out.size)).size (.cells #[.slice A7 Q.length c7, .int .i64 t] 103))
                  replace H8 := Lib.hid ((H8.out.keep (Keep.below hb1)).keep (Keep.alloc w6 (.cells #[.slice A7 Q.length c7, .int .i64 t] 103)))
                  have H7 := Lib.hid (h7.keep (Keep.alloc w6 (.cells #[.slice A7 Q.length c7, .int .i64 t] 103)))
                  obtain ⟨o0, o1, -, -⟩ := TreeAt.new w6 (.slice A7 Q.length c7) (.int .i64 t) 103
                  have q1 := h7.le.1
                  have q2 := h7.le.2
                  clear hP hq h7 hb1 hzU
                  go_upto_region 20 with fail
                  generalize hgk : w6.heap.size = gk at *
                  generalize hwz : w6.alloc _ = w7 at *
                  clear hwz hgk
                  go_wp2_with fail
                  refine (HCX.out _ _ _ _ _ H8.out H7.out).mono ?_
                  rintro e' w8 ⟨rfl, hb1⟩
                  rw [HP9.out]
                  have HW7 := Lib.hid (HW6.out.trans (hb1.mono HW6.out.size))
                  clear hb1 o0 o1
                  go_wp2_with fail
                  go_ret
                  exact ⟨by simp, HW7.out⟩
            · have d1 : decide ((l.length : Int) > 0) = true := decide_eq_true (by omega)
              have d2 : decide (0 < (l.length : Int)) = true := decide_eq_true (by omega)
              have d3 : decide (0 < l.length) = true := decide_eq_true (by omega)
              have p0 := HK.out.pos (by omega)
              have e1 : ((D.length : Int) == 0) = false := by rw [beq_eq_false_iff_ne]; omega
              have hdw : IntKind.i64.wrap ((D.length : Int) - 1) = ((D.length - 1 : Nat) : Int) := by rw [IntKind.wrap_i64]; omega
              have hlw : IntKind.i64.wrap ((l.length : Int) - 1) = ((l.length - 1 : Nat) : Int) := by rw [IntKind.wrap_i64]; omega
              have hdn : ((D.length - 1 : Nat) : Int) < (D.length : Int) := by omega
              have hln : ((l.length - 1 : Nat) : Int) < (l.length : Int) := by omega
              have hd0 : (0 : Int) < (D.length : Int) := by omega
              obtain ⟨x9, y9, e4, r0⟩ := H4.out.at_ (k := 0) p0
              obtain ⟨x5, y5, e5, r1⟩ := H4.out.at_ (k := D.length - 1) (by omega)
              obtain rfl := e4
              obtain ⟨rfl, rfl⟩ : x9 = x5 ∧ y9 = y5 := by simpa using e5
              obtain ⟨b, o, rfl, q0, -, -⟩ := (HA.out.keep (Keep.below HW.out)).at_ (k := 0) (by omega)
              obtain ⟨b', o', e6, q1, -, -⟩ := (HA.out.keep (Keep.below HW.out)).at_ (k := l.length - 1) (by omega)
              obtain ⟨rfl, rfl⟩ : b = b' ∧ o = o' := by simpa using e6
              rw [HK.out.first (by omega), Nat.add_zero] at r0
              rw [HK.out.last (by omega)] at r1
              rw [Nat.zero_mul, Nat.add_zero] at q0
              have t1 : ((listW l 0).who.toList == (listW l 0).who.toList) = true := by simp
              have t2 : ((listW l (l.length - 1)).who.toList == (listW l (l.length - 1)).who.toList) = true := by simp
              clear e5 e6
              go_wp2_with fail
              go_quiet (fail)
              go_wp2_with fail
              clear r0 r1 q0 q1 t1 t2 hdw hlw hdn hln hd0 e1 p0
              go_loopw [10] (fun s wr => ∃ i : Nat, 1 ≤ i ∧ s = .int .i64 i ∧ Hid (Below w4.heap.size w4 wr)) (fun s _ => D.length - (intOf s).toNat)
              case atStart => exact ⟨1, Nat.le_refl _, rfl, Lib.hid (bdrewN (Below.refl _ _) _)⟩
              case round =>
                obtain ⟨i, hi1, rfl, HX⟩ := hrel
                by_cases hid : i < D.length
                · have hin : (i : Int) < (D.length : Int) := by omega
                  have hiw : IntKind.i64.wrap ((i : Int) - 1) = ((i - 1 : Nat) : Int) := by rw [IntKind.wrap_i64]; omega
                  have hjn : ((i - 1 : Nat) : Int) < (D.length : Int) := by omega
                  have hne := str_ne (HK.out.next i hi1 hid)
                  obtain ⟨x4, y4, e4, r0⟩ := (H4.out.keep (Keep.below HX.out)).at_ (k := i) hid
                  obtain ⟨x5, y5, e5, r1⟩ := (H4.out.keep (Keep.below HX.out)).at_ (k := i - 1) (by omega)
                  obtain ⟨rfl, rfl⟩ : x9 = x4 ∧ y9 = y4 := by simpa using e4
                  obtain ⟨rfl, rfl⟩ : x9 = x5 ∧ y9 = y5 := by simpa using e5
                  clear e5
                  go_wp2_with fail
                  go_quiet (fail)
                  go_wp2_with fail
                  go_roundw
                  case rel => exact ⟨i + 1, by omega, by go_num, Lib.hid (bdrewN HX.out _)⟩
                  case measure => simp [intOf]; omega
                · have hin : decide ((i : Int) < (D.length : Int)) = false := decide_eq_false (by omega)
                  have HW5 := Lib.hid (HW.out.trans (HX.out.mono HW.out.size))
                  replace H8 := Lib.hid (H8.out.keep (Keep.below HX.out))
                  have hx := fun w9 hh => xPlates_any U A8 c8 w9 hh
                  rw [hlu] at hx
                  have HPX := Lib.hid hx
                  clear hx
                  have hx2 := fun w9 (Q : List Int) A7 c7 t hh h7 => xCheckPlates_any U A8 c8 Q A7 c7 t w9 hh h7
                  rw [hlu] at hx2
                  have HCX := Lib.hid hx2
                  clear hx2
                  go_wp2_with fail
                  refine (HPX.out _ H8.out).mono ?_
                  rintro e' w6 ⟨⟨Q, A7, c7, t, rfl, h7, hq⟩, hb1⟩
                  have hzU := uses_zero HU.out
                  have hP : platesOut U Q t = (min 1 (l.length : Int), 0) := (plates_out hzU).trans ((hq.good hzU).trans (by rw [HM1.out]))
                  rw [hzU]
                  have HP9 := Lib.hid hP
                  have HW6 := Lib.hid ((HW5.out.trans (hb1.mono HW5.out.size)).alloc (HW5.out.trans (hb1.mono HW5.out.size)).size (.cells #[.slice A7 Q.length c7, .int .i64 t] 103))
                  replace H8 := Lib.hid ((H8.out.keep (Keep.below hb1)).keep (Keep.alloc w6 (.cells #[.slice A7 Q.length c7, .int .i64 t] 103)))
                  have H7 := Lib.hid (h7.keep (Keep.alloc w6 (.cells #[.slice A7 Q.length c7, .int .i64 t] 103)))
                  obtain ⟨o0, o1, -, -⟩ := TreeAt.new w6 (.slice A7 Q.length c7) (.int .i64 t) 103
                  have q1 := h7.le.1
                  have q2 := h7.le.2
                  clear hP hq h7 hb1 hzU
                  go_upto_region 20 with fail
                  generalize hgk : w6.heap.size = gk at *
                  generalize hwz : w6.alloc _ = w7 at *
                  clear hwz hgk
                  go_wp2_with fail
                  refine (HCX.out _ _ _ _ _ H8.out H7.out).mono ?_
                  rintro e' w8 ⟨rfl, hb1⟩
                  rw [HP9.out]
                  have HW7 := Lib.hid (HW6.out.trans (hb1.mono HW6.out.size))
                  clear hb1 o0 o1
                  go_wp2_with fail
                  go_ret
                  exact ⟨by simp, HW7.out⟩
      · have e1 : (recsErr false l == 0) = false := by simpa using he
        have e2 : (recsErr false l != 0) = true := by simpa using he
        clear he
        go_wp2_with fail
        go_ret
        exact ⟨rfl, HW.out⟩
    · have d4 : decide ((N.length : Int) < (l.length : Int)) = true := decide_eq_true (by omega)
      have d5 : decide (N.length < l.length) = true := decide_eq_true (by omega)
      clear hnl
      go_wp2_with fail
      go_ret
      exact ⟨rfl, HW.out⟩
  · have d1 : decide ((l.length : Int) > 10) = true := decide_eq_true (by omega)
    have d2 : decide (10 < (l.length : Int)) = true := decide_eq_true (by omega)
    have d3 : decide (10 < l.length) = true := decide_eq_true (by omega)
    clear h10
    go_wp2_with fail
    go_ret
    exact ⟨rfl, HW.out⟩
end Go.Proofs.Ytaihiahoedpbiaa

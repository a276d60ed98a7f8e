/- Names in a list, errors in a list, a list thing by thing, marks and things: what these functions of the program answer. No condition. -/
import Derived.Test.YtfjdnbnalihjiaaGreatDoorG9
import Derived.Deep.RegionHeld3
import Derived.BigQuiet
namespace Go.Proofs.YtfjdnbnalihjiaaGreatDoor
open Go.RowKit Fs

/-- The first number below n of which g holds, or -1. -/
def Fs.posTo (g : Nat → Bool) : Nat → Int
  | 0 => -1
  | n + 1 => if posTo g n = -1 then (if g n = true then (n : Int) else -1) else posTo g n
theorem Fs.posTo_none {g : Nat → Bool} : ∀ {n : Nat}, (∀ j, j < n → g j = false) → posTo g n = -1
  | 0, _ => rfl
  | n + 1, h => by rw [posTo, if_pos (posTo_none fun j hj => h j (by omega)), if_neg (by rw [h n (by omega)]; decide)]
theorem Fs.posTo_hit {g : Nat → Bool} {k : Nat} : ∀ {n : Nat}, k < n → (∀ j, j < k → g j = false) → g k = true → posTo g n = k
  | 0, h, _, _ => by omega
  | n + 1, hk, h0, h1 => by
    by_cases e : k = n
    · subst e; rw [posTo, if_pos (posTo_none h0), if_pos h1]
    · have := posTo_hit (n := n) (by omega) h0 h1
      rw [posTo, if_neg (by rw [this]; omega), this]
def Fs.anyTo (g : Nat → Bool) (n : Nat) : Bool := decide (0 ≤ posTo g n)
theorem Fs.anyTo_iff {g : Nat → Bool} {n : Nat} : anyTo g n = true ↔ ∃ k, k < n ∧ g k = true := by
  constructor
  · intro h
    apply Classical.byContradiction
    intro hn
    have : posTo g n = -1 := posTo_none fun j hj => by
      cases hg : g j with
      | false => rfl
      | true => exact absurd ⟨j, hj, hg⟩ hn
    unfold anyTo at h
    rw [this] at h
    exact absurd h (by decide)
  · intro h
    induction n with
    | zero => obtain ⟨k, hk, _⟩ := h; omega
    | succ n ih =>
      by_cases h2 : ∃ k, k < n ∧ g k = true
      · have h3 : 0 ≤ posTo g n := of_decide_eq_true (ih h2)
        unfold anyTo
        rw [posTo, if_neg (by omega)]
        exact decide_eq_true h3
      · obtain ⟨k, hk, hg⟩ := h
        have hkn : k = n := Classical.byContradiction fun e => h2 ⟨k, by omega, hg⟩
        subst hkn
        unfold anyTo
        have e1 : posTo g k = -1 := posTo_none fun j hj => by
          cases hgj : g j with
          | false => rfl
          | true => exact absurd ⟨j, hj, hgj⟩ h2
        rw [posTo, if_pos e1, if_pos hg]
        exact decide_eq_true (by omega)
theorem Fs.anyTo_false {g : Nat → Bool} {n : Nat} (h : ∀ k, k < n → g k = false) : anyTo g n = false := by
  unfold anyTo; rw [posTo_none h]; decide
set_option linter.unusedSimpArgs false in
set_option maxHeartbeats 12800000 in
set_option maxRecDepth 100000 in
theorem xIndexStr_any (K : Nat) (g : Nat → Bool) (l : List ByteArray) (A : Option Addr) (c : Nat) (w : World) (h : ArrS w A l c) (hcall : ∀ (args : Array Value) (w : World), (callFunc K args).run Tryz.prog w = .ok (.enter K args) w)
    (hf : ∀ w', Below w.heap.size w w' → ∀ i : Nat, i < l.length → Calls Tryz.prog K #[.string (listS l i)] w' fun e w'' => e = .returned (.bool (g i)) ∧ Below w'.heap.size w' w'') :
    Calls Tryz.prog 152 #[.slice A l.length c, .func (.func K) #[] #[]] w fun e w' => e = .returned (.int .i64 (posTo g l.length)) ∧ Below w.heap.size w w' := by
  have b1 := h.le.1
  have b2 := h.le.2
  have HA := Lib.hid h
  have HCALL := Lib.hid hcall
  have HF := Lib.hid hf
  clear hcall hf h
  obtain ⟨n, hn⟩ : ∃ n, n = l.length := ⟨_, rfl⟩
  rw [← hn] at b1 ⊢
  have HN := Lib.hid hn
  clear hn
  go_enter Tryz.func152, Tryz.ntmps152
  go_wp2_with fail
  go_loopw [8] (fun i wr => ∃ k : Nat, k ≤ n ∧ i = .int .i64 k ∧ Hid (∀ j, j < k → g j = false) ∧ Hid (Below w.heap.size w wr)) (fun i _ => n - (intOf i).toNat)
  case atStart => exact ⟨0, Nat.zero_le _, rfl, Lib.hid fun j hj => absurd hj (Nat.not_lt_zero _), Lib.hid (Below.refl _ _)⟩
  case round =>
    obtain ⟨k, hk, rfl, Hn, HB⟩ := hrel
    by_cases hlt : k < n
    · have hkn : (k : Int) < (n : Int) := by omega
      have hkl : k < l.length := by rw [← HN.out]; exact hlt
      have HC := Lib.hid (HF.out wr HB.out k hkl)
      have hcall := HCALL.out
      obtain ⟨b, o, rfl, q0⟩ := (HA.out.keep (Keep.below HB.out)).at_ hkl
      clear hkl
      cases he : g k with
      | false =>
        have HE := Lib.hid he
        have HN2 : Hid (∀ j, j < k + 1 → g j = false) := Lib.hid fun j hj => by
          by_cases e : j = k
          · subst e; exact HE.out
          · exact Hn.out j (by omega)
        clear he
        go_wp2_with fail
        refine HC.out.mono ?_
        rintro e w2 ⟨rfl, hb2⟩
        rw [HE.out]
        go_wp2_with fail
        go_roundw
        case rel => exact ⟨k + 1, by omega, by go_num, HN2, Lib.hid (HB.out.trans (hb2.mono HB.out.size))⟩
        case measure => simp [intOf]; omega
      | true =>
        have HE := Lib.hid he
        have F1 := Lib.hid (posTo_hit hlt Hn.out he)
        clear he
        go_wp2_with fail
        refine HC.out.mono ?_
        rintro e w2 ⟨rfl, hb2⟩
        rw [HE.out]
        go_wp2_with fail
        go_ret
        exact ⟨ret_int F1.out.symm, HB.out.trans (hb2.mono HB.out.size)⟩
    · have F1 := Lib.hid (posTo_none (n := n) fun j hj => Hn.out j (by omega))
      go_wp2_with fail
      go_ret
      exact ⟨ret_int F1.out.symm, HB.out⟩
set_option linter.unusedSimpArgs false in
set_option maxHeartbeats 12800000 in
set_option maxRecDepth 100000 in
theorem xHasStr_any (K : Nat) (g : Nat → Bool) (l : List ByteArray) (A : Option Addr) (c : Nat) (w : World) (h : ArrS w A l c) (hcall : ∀ (args : Array Value) (w : World), (callFunc K args).run Tryz.prog w = .ok (.enter K args) w)
    (hf : ∀ w', Below w.heap.size w w' → ∀ i : Nat, i < l.length → Calls Tryz.prog K #[.string (listS l i)] w' fun e w'' => e = .returned (.bool (g i)) ∧ Below w'.heap.size w' w'') :
    Calls Tryz.prog 126 #[.slice A l.length c, .func (.func K) #[] #[]] w fun e w' => e = .returned (.bool (anyTo g l.length)) ∧ Below w.heap.size w w' := by
  go_enter Tryz.func126, Tryz.ntmps126
  go_wp2_with fail
  refine (xIndexStr_any K  g l A c _ h hcall hf).mono ?_
  rintro e w1 ⟨rfl, hb1⟩
  go_wp2_with fail
  go_ret
  exact ⟨rfl, hb1⟩
set_option linter.unusedSimpArgs false in
set_option maxHeartbeats 12800000 in
set_option maxRecDepth 100000 in
theorem xIndexItem_any (K : Nat) (p5 : Value) (p7 : Value) (g : Nat → Bool) (l : List Thg) (A : Option Addr) (c : Nat) (a : GA) (w : World) (h : ArrTh w A l c a) (hcall : ∀ (args : Array Value) (w : World), (callFunc K args).run Tryz.prog w = .ok (.enter K args) w)
    (hf : ∀ w', Below w.heap.size w w' → ∀ i : Nat, i < l.length → Calls Tryz.prog K #[thgV (lThg l i) (a.p i) (a.pc i), p5, p7] w' fun e w'' => e = .returned (.bool (g i)) ∧ Below w'.heap.size w' w'') :
    Calls Tryz.prog 199 #[.slice A l.length c, .func (.func K) #[] #[p5, p7]] w fun e w' => e = .returned (.int .i64 (posTo g l.length)) ∧ Below w.heap.size w w' := by
  have b1 := h.le.1
  have b2 := h.le.2
  have HA := Lib.hid h
  have HCALL := Lib.hid hcall
  have HF := Lib.hid hf
  clear hcall hf h
  obtain ⟨n, hn⟩ : ∃ n, n = l.length := ⟨_, rfl⟩
  rw [← hn] at b1 ⊢
  have HN := Lib.hid hn
  clear hn
  go_enter Tryz.func199, Tryz.ntmps199
  go_wp2_with fail
  go_loopw [8] (fun i wr => ∃ k : Nat, k ≤ n ∧ i = .int .i64 k ∧ Hid (∀ j, j < k → g j = false) ∧ Hid (Below w.heap.size w wr)) (fun i _ => n - (intOf i).toNat)
  case atStart => exact ⟨0, Nat.zero_le _, rfl, Lib.hid fun j hj => absurd hj (Nat.not_lt_zero _), Lib.hid (Below.refl _ _)⟩
  case round =>
    obtain ⟨k, hk, rfl, Hn, HB⟩ := hrel
    by_cases hlt : k < n
    · have hkn : (k : Int) < (n : Int) := by omega
      have hkl : k < l.length := by rw [← HN.out]; exact hlt
      have HC := Lib.hid (HF.out wr HB.out k hkl)
      have hcall := HCALL.out
      obtain ⟨b, o, rfl, ⟨q0, q1, q2, q3⟩, -⟩ := (HA.out.keep (Keep.below HB.out)).at_ hkl
      clear hkl
      cases he : g k with
      | false =>
        have HE := Lib.hid he
        have HN2 : Hid (∀ j, j < k + 1 → g j = false) := Lib.hid fun j hj => by
          by_cases e : j = k
          · subst e; exact HE.out
          · exact Hn.out j (by omega)
        clear he
        go_wp2_with fail
        refine HC.out.mono ?_
        rintro e w2 ⟨rfl, hb2⟩
        rw [HE.out]
        go_wp2_with fail
        go_roundw
        case rel => exact ⟨k + 1, by omega, by go_num, HN2, Lib.hid (HB.out.trans (hb2.mono HB.out.size))⟩
        case measure => simp [intOf]; omega
      | true =>
        have HE := Lib.hid he
        have F1 := Lib.hid (posTo_hit hlt Hn.out he)
        clear he
        go_wp2_with fail
        refine HC.out.mono ?_
        rintro e w2 ⟨rfl, hb2⟩
        rw [HE.out]
        go_wp2_with fail
        go_ret
        exact ⟨ret_int F1.out.symm, HB.out.trans (hb2.mono HB.out.size)⟩
    · have F1 := Lib.hid (posTo_none (n := n) fun j hj => Hn.out j (by omega))
      go_wp2_with fail
      go_ret
      exact ⟨ret_int F1.out.symm, HB.out⟩
set_option linter.unusedSimpArgs false in
set_option maxHeartbeats 12800000 in
set_option maxRecDepth 100000 in
theorem xHasItem_any (K : Nat) (p5 : Value) (p7 : Value) (g : Nat → Bool) (l : List Thg) (A : Option Addr) (c : Nat) (a : GA) (w : World) (h : ArrTh w A l c a) (hcall : ∀ (args : Array Value) (w : World), (callFunc K args).run Tryz.prog w = .ok (.enter K args) w)
    (hf : ∀ w', Below w.heap.size w w' → ∀ i : Nat, i < l.length → Calls Tryz.prog K #[thgV (lThg l i) (a.p i) (a.pc i), p5, p7] w' fun e w'' => e = .returned (.bool (g i)) ∧ Below w'.heap.size w' w'') :
    Calls Tryz.prog 170 #[.slice A l.length c, .func (.func K) #[] #[p5, p7]] w fun e w' => e = .returned (.bool (anyTo g l.length)) ∧ Below w.heap.size w w' := by
  go_enter Tryz.func170, Tryz.ntmps170
  go_wp2_with fail
  refine (xIndexItem_any K p5 p7 g l A c a _ h hcall hf).mono ?_
  rintro e w1 ⟨rfl, hb1⟩
  go_wp2_with fail
  go_ret
  exact ⟨rfl, hb1⟩
set_option linter.unusedSimpArgs false in
set_option maxHeartbeats 12800000 in
set_option maxRecDepth 100000 in
theorem xIndexClaim_any (K : Nat) (p5 : Value) (p7 : Value) (g : Nat → Bool) (l : List Thg) (A : Option Addr) (c : Nat) (a : GA) (w : World) (h : ArrTh w A l c a) (hcall : ∀ (args : Array Value) (w : World), (callFunc K args).run Tryz.prog w = .ok (.enter K args) w)
    (hf : ∀ w', Below w.heap.size w w' → ∀ i : Nat, i < l.length → Calls Tryz.prog K #[thgV (lThg l i) (a.p i) (a.pc i), p5, p7] w' fun e w'' => e = .returned (.bool (g i)) ∧ Below w'.heap.size w' w'') :
    Calls Tryz.prog 200 #[.slice A l.length c, .func (.func K) #[] #[p5, p7]] w fun e w' => e = .returned (.int .i64 (posTo g l.length)) ∧ Below w.heap.size w w' := by
  have b1 := h.le.1
  have b2 := h.le.2
  have HA := Lib.hid h
  have HCALL := Lib.hid hcall
  have HF := Lib.hid hf
  clear hcall hf h
  obtain ⟨n, hn⟩ : ∃ n, n = l.length := ⟨_, rfl⟩
  rw [← hn] at b1 ⊢
  have HN := Lib.hid hn
  clear hn
  go_enter Tryz.func200, Tryz.ntmps200
  go_wp2_with fail
  go_loopw [8] (fun i wr => ∃ k : Nat, k ≤ n ∧ i = .int .i64 k ∧ Hid (∀ j, j < k → g j = false) ∧ Hid (Below w.heap.size w wr)) (fun i _ => n - (intOf i).toNat)
  case atStart => exact ⟨0, Nat.zero_le _, rfl, Lib.hid fun j hj => absurd hj (Nat.not_lt_zero _), Lib.hid (Below.refl _ _)⟩
  case round =>
    obtain ⟨k, hk, rfl, Hn, HB⟩ := hrel
    by_cases hlt : k < n
    · have hkn : (k : Int) < (n : Int) := by omega
      have hkl : k < l.length := by rw [← HN.out]; exact hlt
      have HC := Lib.hid (HF.out wr HB.out k hkl)
      have hcall := HCALL.out
      obtain ⟨b, o, rfl, ⟨q0, q1, q2, q3⟩, -⟩ := (HA.out.keep (Keep.below HB.out)).at_ hkl
      clear hkl
      cases he : g k with
      | false =>
        have HE := Lib.hid he
        have HN2 : Hid (∀ j, j < k + 1 → g j = false) := Lib.hid fun j hj => by
          by_cases e : j = k
          · subst e; exact HE.out
          · exact Hn.out j (by omega)
        clear he
        go_wp2_with fail
        refine HC.out.mono ?_
        rintro e w2 ⟨rfl, hb2⟩
        rw [HE.out]
        go_wp2_with fail
        go_roundw
        case rel => exact ⟨k + 1, by omega, by go_num, HN2, Lib.hid (HB.out.trans (hb2.mono HB.out.size))⟩
        case measure => simp [intOf]; omega
      | true =>
        have HE := Lib.hid he
        have F1 := Lib.hid (posTo_hit hlt Hn.out he)
        clear he
        go_wp2_with fail
        refine HC.out.mono ?_
        rintro e w2 ⟨rfl, hb2⟩
        rw [HE.out]
        go_wp2_with fail
        go_ret
        exact ⟨ret_int F1.out.symm, HB.out.trans (hb2.mono HB.out.size)⟩
    · have F1 := Lib.hid (posTo_none (n := n) fun j hj => Hn.out j (by omega))
      go_wp2_with fail
      go_ret
      exact ⟨ret_int F1.out.symm, HB.out⟩
set_option linter.unusedSimpArgs false in
set_option maxHeartbeats 12800000 in
set_option maxRecDepth 100000 in
theorem xHasClaim_any (K : Nat) (p5 : Value) (p7 : Value) (g : Nat → Bool) (l : List Thg) (A : Option Addr) (c : Nat) (a : GA) (w : World) (h : ArrTh w A l c a) (hcall : ∀ (args : Array Value) (w : World), (callFunc K args).run Tryz.prog w = .ok (.enter K args) w)
    (hf : ∀ w', Below w.heap.size w w' → ∀ i : Nat, i < l.length → Calls Tryz.prog K #[thgV (lThg l i) (a.p i) (a.pc i), p5, p7] w' fun e w'' => e = .returned (.bool (g i)) ∧ Below w'.heap.size w' w'') :
    Calls Tryz.prog 172 #[.slice A l.length c, .func (.func K) #[] #[p5, p7]] w fun e w' => e = .returned (.bool (anyTo g l.length)) ∧ Below w.heap.size w w' := by
  go_enter Tryz.func172, Tryz.ntmps172
  go_wp2_with fail
  refine (xIndexClaim_any K p5 p7 g l A c a _ h hcall hf).mono ?_
  rintro e w1 ⟨rfl, hb1⟩
  go_wp2_with fail
  go_ret
  exact ⟨rfl, hb1⟩

/-! ### names -/
set_option maxHeartbeats 400000 in
theorem xNotName_any (s : ByteArray) (w : World) : Calls Tryz.prog 127 #[.string s] w fun e w' => e = .returned (.bool (!isName s)) ∧ w = w' := by
  go_enter Tryz.func127, Tryz.ntmps127
  go_wp2_with fail
  refine (isName_any _ _).mono ?_
  rintro e w' ⟨rfl, rfl⟩
  go_wp2_with fail
  go_ret
  exact ⟨rfl, rfl⟩
def Fs.areN (l : List ByteArray) : Bool := !anyTo (fun i => !isName (listS l i)) l.length
theorem Fs.areN_two (a b : ByteArray) : areN [a, b] = (isName a && isName b) := by
  show (!anyTo (fun i => !isName (listS [a, b] i)) 2) = _
  cases ha : isName a with
  | false => rw [anyTo_iff.2 ⟨0, by decide, by show (!isName a) = true; rw [ha]; rfl⟩]; rfl
  | true =>
    cases hb : isName b with
    | false => rw [anyTo_iff.2 ⟨1, by decide, by show (!isName b) = true; rw [hb]; rfl⟩]; rfl
    | true => rw [anyTo_false fun k hk => by match k, hk with
        | 0, _ => show (!isName a) = false; rw [ha]; rfl
        | 1, _ => show (!isName b) = false; rw [hb]; rfl]; rfl
set_option maxHeartbeats 400000 in
theorem xAreNames_any (l : List ByteArray) (A : Option Addr) (c : Nat) (w : World) (h : ArrS w A l c) :
    Calls Tryz.prog 78 #[.slice A l.length c] w fun e w' => e = .returned (.bool (areN l)) ∧ Below w.heap.size w w' := by
  go_enter Tryz.func78, Tryz.ntmps78
  go_wp2_with fail
  refine (xHasStr_any 127 (fun i => !isName (listS l i)) l A c _ h (fun args w => by kernel_rfl) (fun w' hb i hi => (xNotName_any (listS l i) w').mono fun e w2 hh => ⟨hh.1, hh.2 ▸ Below.refl _ _⟩)).mono ?_
  rintro e w1 ⟨rfl, hb1⟩
  go_wp2_with fail
  go_ret
  exact ⟨rfl, hb1⟩
theorem strs2New (w : World) (x y : ByteArray) (ty : TypeId) : ArrS (w.alloc (.cells #[.string x, .string y] ty)) (some ⟨w.heap.size, 0, none⟩) [x, y] 2 := by
  refine ⟨Nat.le_refl _, by decide, fun _ => ⟨_, _, rfl, fun i j hi hj => ?_⟩⟩
  have hj0 : j = 0 := by omega
  subst hj0
  match i, hi with
  | 0, _ => exact cellNew w _ _ 0
  | 1, _ => exact cellNew w _ _ 1
theorem gints2New (w : World) (x y : Int) (ty : TypeId) : ArrI (w.alloc (.cells #[.int .i64 x, .int .i64 y] ty)) (some ⟨w.heap.size, 0, none⟩) [x, y] 2 := by
  refine ⟨Nat.le_refl _, by decide, fun _ => ⟨_, _, rfl, fun i j hi hj => ?_⟩⟩
  have hj0 : j = 0 := by omega
  subst hj0
  match i, hi with
  | 0, _ => exact cellNew w _ _ 0
  | 1, _ => exact cellNew w _ _ 1

/-! ### errors -/
set_option maxHeartbeats 400000 in
theorem xFirst_any (l : List Int) (A : Option Addr) (c : Nat) (w : World) (h : ArrI w A l c) :
    Calls Tryz.prog 82 #[.slice A l.length c] w fun e w' => e = .returned (.int .i64 (fst (listI l) l.length)) ∧ w = w' := by
  have b1 := h.le.1
  have b2 := h.le.2
  go_enter Tryz.func82, Tryz.ntmps82
  go_wp2
  go_loop [7] (fun i => ∃ k : Nat, k ≤ l.length ∧ i = .int .i64 k ∧ Hid (∀ j, j < k → listI l j = 0)) (fun i => l.length - (intOf i).toNat)
  case atStart => exact ⟨0, Nat.zero_le _, rfl, fun j hj => absurd hj (Nat.not_lt_zero _)⟩
  case round =>
    obtain ⟨k, hk, rfl, Hn⟩ := hrel
    by_cases hlt : k < l.length
    · obtain ⟨b, o, rfl, hc⟩ := h.at_ hlt
      by_cases h0 : listI l k = 0
      · have F : Hid (∀ j, j < k + 1 → listI l j = 0) := fun j hj => by
          by_cases e : j = k
          · subst e; exact h0
          · exact Hn.out j (by omega)
        have d0 : (listI l k == 0) = true := by simpa using h0
        clear h0
        go_wp2
        go_round
        case rel => exact ⟨k + 1, by omega, by go_num, F⟩
        case measure => simp [intOf]; omega
      · have F := Lib.hid (fst_hit hlt Hn.out h0).1
        have d0 : (listI l k == 0) = false := by simpa using h0
        clear h0
        go_wp2
        go_ret
        exact ⟨ret_int F.out.symm, rfl⟩
    · have F := Lib.hid (show fst (listI l) l.length = 0 from fst_none fun j hj => Hn.out j (by omega))
      go_wp2
      go_ret
      exact ⟨ret_int F.out.symm, rfl⟩
theorem gfst_two (x y : Int) : fst (listI [x, y]) 2 = if x ≠ 0 then x else y := by
  by_cases hu : x = 0
  · by_cases hv : y = 0
    · rw [if_neg (fun h => h hu), hv]
      exact fst_none fun j hj => by
        match j, hj with
        | 0, _ => exact hu
        | 1, _ => rfl
    · rw [if_neg (fun h => h hu)]
      exact (fst_hit (f := listI [x, y]) (k := 1) (by decide) (fun j hj => by
        match j, hj with
        | 0, _ => exact hu) hv).1
  · rw [if_pos hu]
    exact (fst_hit (f := listI [x, y]) (k := 0) (by decide) (fun j hj => absurd hj (Nat.not_lt_zero _)) hu).1
theorem gfst_three (x y z : Int) : fst (listI [x, y, z]) 3 = if x ≠ 0 then x else if y ≠ 0 then y else z := by
  have e : ∀ u v t : Int, fst (listI [u, v, t]) 3 = (if u ≠ 0 then u else if v ≠ 0 then v else t) := by
    intro u v t
    by_cases hu : u = 0
    · by_cases hv : v = 0
      · by_cases ht : t = 0
        · rw [if_neg (fun h => h hu), if_neg (fun h => h hv), ht]
          exact fst_none fun j hj => by
            match j, hj with
            | 0, _ => exact hu
            | 1, _ => exact hv
            | 2, _ => rfl
        · rw [if_neg (fun h => h hu), if_neg (fun h => h hv)]
          exact (fst_hit (f := listI [u, v, t]) (k := 2) (by decide) (fun j hj => by
            match j, hj with
            | 0, _ => exact hu
            | 1, _ => exact hv) ht).1
      · rw [if_neg (fun h => h hu), if_pos hv]
        exact (fst_hit (f := listI [u, v, t]) (k := 1) (by decide) (fun j hj => by
            match j, hj with
            | 0, _ => exact hu) hv).1
    · rw [if_pos hu]
      exact (fst_hit (f := listI [u, v, t]) (k := 0) (by decide) (fun j hj => absurd hj (Nat.not_lt_zero _)) hu).1
  exact e x y z
def Fs.dayErr (d least : Int) : Int := if within d least 100000 = true then 0 else 2
set_option maxHeartbeats 400000 in
theorem xDayErr_any (d a : Int) (w : World) : Calls Tryz.prog 121 #[.int .i64 d, .int .i64 a] w fun e w' => e = .returned (.int .i64 (dayErr d a)) ∧ w = w' := by
  cases h1 : within d a 100000 with
  | false =>
    have F := Lib.hid (show dayErr d a = 2 by unfold dayErr; rw [h1]; rfl)
    go_enter Tryz.func121, Tryz.ntmps121
    go_wp2_with fail
    refine (within_any _ _ _ _).mono ?_
    rintro e w' ⟨rfl, rfl⟩
    rw [h1]
    go_wp2_with fail
    go_ret
    exact ⟨ret_int F.out.symm, rfl⟩
  | true =>
    have F := Lib.hid (show dayErr d a = 0 by unfold dayErr; rw [h1]; rfl)
    go_enter Tryz.func121, Tryz.ntmps121
    go_wp2_with fail
    refine (within_any _ _ _ _).mono ?_
    rintro e w' ⟨rfl, rfl⟩
    rw [h1]
    go_wp2_with fail
    go_ret
    exact ⟨ret_int F.out.symm, rfl⟩
def Fs.gmanyErr (n most : Nat) (f : Nat → Int) : Int := if most < n then 8 else fst f n
def Fs.gmanyAt (n most : Nat) (f : Nat → Int) : Nat := if most < n then 0 else idx f n
set_option linter.unusedSimpArgs false in
set_option maxHeartbeats 12800000 in
set_option maxRecDepth 100000 in
theorem xListG_any (K : Nat) (p : Value) (n most : Nat) (f : Nat → Int) (w : World) (hn : n ≤ 9223372036854775807) (hm : most ≤ 1000000) (hcall : ∀ (args : Array Value) (w : World), (callFunc K args).run Tryz.prog w = .ok (.enter K args) w)
    (hf : ∀ w', Below w.heap.size w w' → ∀ i : Nat, i < n → Calls Tryz.prog K #[.int .i64 i, p] w' fun e w'' => e = .returned (.int .i64 (f i)) ∧ Below w'.heap.size w' w'') :
    Calls Tryz.prog 76 #[.int .i64 n, .int .i64 most, .func (.func K) #[] #[p]] w fun e w' => e = .returned (.tuple #[.int .i64 (gmanyAt n most f : Nat), .int .i64 (gmanyErr n most f)]) ∧ Below w.heap.size w w' := by
  have HCALL := Lib.hid hcall
  have HF := Lib.hid hf
  clear hcall hf
  go_enter Tryz.func76, Tryz.ntmps76
  by_cases h40 : most < n
  · have G1 := Lib.hid (show gmanyErr n most f = 8 from if_pos h40)
    have G2 := Lib.hid (show gmanyAt n most f = 0 from if_pos h40)
    have d1 : decide ((n : Int) > (most : Int)) = true := decide_eq_true (by omega)
    have d2 : decide ((most : Int) < (n : Int)) = true := decide_eq_true (by omega)
    go_wp2_with fail
    go_ret2
    exact ⟨by rw [G1.out, G2.out]; rfl, Below.refl _ _⟩
  · have G1 := Lib.hid (show gmanyErr n most f = fst f n from if_neg h40)
    have G2 := Lib.hid (show gmanyAt n most f = idx f n from if_neg h40)
    have hnm : n ≤ 1000000 := by omega
    have d1 : decide ((n : Int) > (most : Int)) = false := decide_eq_false (by omega)
    have d2 : decide ((most : Int) < (n : Int)) = false := decide_eq_false (by omega)
    go_wp2_with fail
    go_loopw [14] (fun i wr => ∃ k : Nat, k ≤ n ∧ i = .int .i64 k ∧ Hid (∀ j, j < k → f j = 0) ∧ Hid (Below w.heap.size w wr)) (fun i _ => n - (intOf i).toNat)
    case atStart => exact ⟨0, Nat.zero_le _, rfl, Lib.hid fun j hj => absurd hj (Nat.not_lt_zero _), Lib.hid (Below.refl _ _)⟩
    case round =>
      obtain ⟨k, hk, rfl, Hn, HB⟩ := hrel
      by_cases hlt : k < n
      · have hkn : (k : Int) < (n : Int) := by omega
        have HC := Lib.hid (HF.out wr HB.out k hlt)
        have hcall := HCALL.out
        by_cases he : f k = 0
        · have HE := Lib.hid he
          have HN : Hid (∀ j, j < k + 1 → f j = 0) := Lib.hid fun j hj => by
            by_cases e : j = k
            · subst e; exact HE.out
            · exact Hn.out j (by omega)
          clear he
          go_wp2_with fail
          refine HC.out.mono ?_
          rintro e w2 ⟨rfl, hb2⟩
          rw [HE.out]
          go_wp2_with fail
          go_roundw
          case rel => exact ⟨k + 1, by omega, by go_num, HN, Lib.hid (HB.out.trans (hb2.mono HB.out.size))⟩
          case measure => simp [intOf]; omega
        · obtain ⟨F1, F2⟩ := fst_hit hlt Hn.out he
          have G3 := Lib.hid (G1.out.trans F1)
          have G4 := Lib.hid (G2.out.trans F2)
          have e2 : (f k != 0) = true := by simpa using he
          have e3 : (f k == 0) = false := by simpa using he
          clear F1 F2
          go_wp2_with fail
          refine HC.out.mono ?_
          rintro e w2 ⟨rfl, hb2⟩
          go_wp2_with fail
          go_ret2
          exact ⟨by rw [G3.out, G4.out]; rfl, HB.out.trans (hb2.mono HB.out.size)⟩
      · have G3 := Lib.hid (G1.out.trans (fst_none fun j hj => Hn.out j (by omega)))
        have G4 := Lib.hid (G2.out.trans (idx_none fun j hj => Hn.out j (by omega)))
        go_wp2_with fail
        go_ret2
        exact ⟨by rw [G3.out, G4.out]; rfl, HB.out⟩

set_option linter.unusedSimpArgs false in
set_option maxHeartbeats 12800000 in
set_option maxRecDepth 100000 in
theorem xListGG_any (K : Nat) (p : Value) (q : Value) (n most : Nat) (f : Nat → Int) (w : World) (hn : n ≤ 9223372036854775807) (hm : most ≤ 1000000) (hcall : ∀ (args : Array Value) (w : World), (callFunc K args).run Tryz.prog w = .ok (.enter K args) w)
    (hf : ∀ w', Below w.heap.size w w' → ∀ i : Nat, i < n → Calls Tryz.prog K #[.int .i64 i, p, q] w' fun e w'' => e = .returned (.int .i64 (f i)) ∧ Below w'.heap.size w' w'') :
    Calls Tryz.prog 76 #[.int .i64 n, .int .i64 most, .func (.func K) #[] #[p, q]] w fun e w' => e = .returned (.tuple #[.int .i64 (gmanyAt n most f : Nat), .int .i64 (gmanyErr n most f)]) ∧ Below w.heap.size w w' := by
  have HCALL := Lib.hid hcall
  have HF := Lib.hid hf
  clear hcall hf
  go_enter Tryz.func76, Tryz.ntmps76
  by_cases h40 : most < n
  · have G1 := Lib.hid (show gmanyErr n most f = 8 from if_pos h40)
    have G2 := Lib.hid (show gmanyAt n most f = 0 from if_pos h40)
    have d1 : decide ((n : Int) > (most : Int)) = true := decide_eq_true (by omega)
    have d2 : decide ((most : Int) < (n : Int)) = true := decide_eq_true (by omega)
    go_wp2_with fail
    go_ret2
    exact ⟨by rw [G1.out, G2.out]; rfl, Below.refl _ _⟩
  · have G1 := Lib.hid (show gmanyErr n most f = fst f n from if_neg h40)
    have G2 := Lib.hid (show gmanyAt n most f = idx f n from if_neg h40)
    have hnm : n ≤ 1000000 := by omega
    have d1 : decide ((n : Int) > (most : Int)) = false := decide_eq_false (by omega)
    have d2 : decide ((most : Int) < (n : Int)) = false := decide_eq_false (by omega)
    go_wp2_with fail
    go_loopw [14] (fun i wr => ∃ k : Nat, k ≤ n ∧ i = .int .i64 k ∧ Hid (∀ j, j < k → f j = 0) ∧ Hid (Below w.heap.size w wr)) (fun i _ => n - (intOf i).toNat)
    case atStart => exact ⟨0, Nat.zero_le _, rfl, Lib.hid fun j hj => absurd hj (Nat.not_lt_zero _), Lib.hid (Below.refl _ _)⟩
    case round =>
      obtain ⟨k, hk, rfl, Hn, HB⟩ := hrel
      by_cases hlt : k < n
      · have hkn : (k : Int) < (n : Int) := by omega
        have HC := Lib.hid (HF.out wr HB.out k hlt)
        have hcall := HCALL.out
        by_cases he : f k = 0
        · have HE := Lib.hid he
          have HN : Hid (∀ j, j < k + 1 → f j = 0) := Lib.hid fun j hj => by
            by_cases e : j = k
            · subst e; exact HE.out
            · exact Hn.out j (by omega)
          clear he
          go_wp2_with fail
          refine HC.out.mono ?_
          rintro e w2 ⟨rfl, hb2⟩
          rw [HE.out]
          go_wp2_with fail
          go_roundw
          case rel => exact ⟨k + 1, by omega, by go_num, HN, Lib.hid (HB.out.trans (hb2.mono HB.out.size))⟩
          case measure => simp [intOf]; omega
        · obtain ⟨F1, F2⟩ := fst_hit hlt Hn.out he
          have G3 := Lib.hid (G1.out.trans F1)
          have G4 := Lib.hid (G2.out.trans F2)
          have e2 : (f k != 0) = true := by simpa using he
          have e3 : (f k == 0) = false := by simpa using he
          clear F1 F2
          go_wp2_with fail
          refine HC.out.mono ?_
          rintro e w2 ⟨rfl, hb2⟩
          go_wp2_with fail
          go_ret2
          exact ⟨by rw [G3.out, G4.out]; rfl, HB.out.trans (hb2.mono HB.out.size)⟩
      · have G3 := Lib.hid (G1.out.trans (fst_none fun j hj => Hn.out j (by omega)))
        have G4 := Lib.hid (G2.out.trans (idx_none fun j hj => Hn.out j (by omega)))
        go_wp2_with fail
        go_ret2
        exact ⟨by rw [G3.out, G4.out]; rfl, HB.out⟩

end Go.Proofs.YtfjdnbnalihjiaaGreatDoor

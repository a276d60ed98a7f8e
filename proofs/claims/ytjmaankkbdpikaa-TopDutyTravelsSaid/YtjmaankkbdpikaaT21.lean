/- The error of an examination, and what a row of roads comes to. Condition: the roads lie in the net. -/
import Derived.Test.YtjmaankkbdpikaaT17
namespace Go.Proofs.Ytjmaankkbdpikaa
open Go.RowKit Fs

/-- Why an examination over the places l that allows m in a thousand more is refused, or nought. -/
def Fs.examErr (N : Net) (l : List Int) (m : Int) : Int := if l.length < 2 then 10 else if 200 < l.length then 8 else if placesErr N l = 0 then (if within m 0 1000 then 0 else 2) else placesErr N l
/-- The two cells of an examination. -/
structure ExamAt (w : World) (g : Nat) (A : Option Addr) (n c : Nat) (m : Int) : Prop where
  c0 : w.cell? ⟨g, 0, none⟩ = some (.slice A n c)
  c1 : w.cell? ⟨g, 1, none⟩ = some (.int .i64 m)
theorem ExamAt.keep {w w' : World} (k : Keep w w') {g : Nat} {A : Option Addr} {n c : Nat} {m : Int} (h : ExamAt w g A n c m) : ExamAt w' g A n c m := ⟨k _ _ h.c0, k _ _ h.c1⟩
theorem ExamAt.new1 (w : World) (B : Obj) (A : Option Addr) (n c : Nat) (m : Int) (ty : TypeId) : ExamAt ((w.alloc B).alloc (.cells #[.slice A n c, .int .i64 m] ty)) (w.heap.size + 1) A n c m := ⟨cellNew1 _ _ _ _ 0, cellNew1 _ _ _ _ 1⟩
abbrev examV (A : Option Addr) (n c : Nat) (m : Int) : Value := .agg #[.slice A n c, .int .i64 m]

/-- The label at the end of a row of roads. -/
def Fs.alongTo (nx : Nat → Int → Int) : Nat → List Int → Int → Int
  | 0, _, x => x
  | k + 1, l, x => nx (listI l k).toNat (alongTo nx k l x)
theorem Fs.alongTo_le {N : Net} {nx : Nat → Int → Int} (hx : Small N nx) {l : List Int} {x : Int} (hl : ∀ j, j < l.length → 0 ≤ listI l j ∧ listI l j < N.roads.length) (h0 : 0 ≤ x) : ∀ k, k ≤ l.length → 0 ≤ alongTo nx k l x ∧ alongTo nx k l x ≤ x + 100000 * k
  | 0, _ => ⟨h0, by unfold alongTo; omega⟩
  | k + 1, hk => by
    have ih := alongTo_le hx hl h0 k (by omega)
    have hr := hl k (by omega)
    have h := hx (listI l k).toNat (alongTo nx k l x) (by omega) ih.1
    unfold alongTo
    omega
set_option maxHeartbeats 1600000 in
set_option maxRecDepth 100000 in
theorem along_any (N : Net) (nx : Nat → Int → Int) (f : Value) (x : Int) (l : List Int) (A : Option Addr) (c : Nat) (w : World) (hf : StepV N nx f w) (hx : Small N nx) (h : ArrI w A l c) (hl : ∀ j, j < l.length → 0 ≤ listI l j ∧ listI l j < N.roads.length) (h0 : 0 ≤ x) (h1 : x ≤ 1000000) (hn : l.length ≤ 1000000) :
    Calls Try.prog 57 #[f, .int .i64 x, .slice A l.length c] w fun e w' => e = .returned (.int .i64 (alongTo nx l.length l x)) ∧ Below w.heap.size w w' := by
  obtain ⟨K, gf, rfl, hcall0, hstep0⟩ := hf
  have HCALL := Lib.hid hcall0
  have HSTEP := Lib.hid hstep0
  have HLL := Lib.hid hl
  have HLE := Lib.hid (alongTo_le hx hl h0)
  clear hcall0 hstep0 hl
  have b1 := h.le.1
  have b2 := h.le.2
  have HA := Lib.hid h
  clear h
  go_enter Try.func57, Try.ntmps57
  go_wp2_with fail
  go_loopw [1, 11] (fun u i wr => ∃ k : Nat, k ≤ l.length ∧ i = .int .i64 k ∧ u = .int .i64 (alongTo nx k l x) ∧ Hid (Below w.heap.size w wr)) (fun _ i _ => l.length - (intOf i).toNat)
  case atStart => exact ⟨0, Nat.zero_le _, rfl, rfl, Lib.hid (Below.refl _ _)⟩
  case round =>
    obtain ⟨k, hk, rfl, rfl, HB⟩ := hrel
    by_cases hlt : k < l.length
    · obtain ⟨b, o, hAe, hc⟩ := (HA.out.keep (Keep.below HB.out)).at_ hlt
      subst hAe
      have hr := HLL.out k hlt
      have hle := HLE.out k hk
      obtain ⟨r, hr1⟩ : ∃ r : Nat, listI l k = r := ⟨_, (Int.toNat_of_nonneg hr.1).symm⟩
      have hrl : r < N.roads.length := by omega
      have F := Lib.hid (show alongTo nx (k + 1) l x = nx r (alongTo nx k l x) from by show nx (listI l k).toNat _ = _; rw [hr1]; rfl)
      have hcall := HCALL.out
      rw [hr1] at hc
      clear hr hr1
      go_wp2_with fail
      refine (HSTEP.out wr HB.out r (alongTo nx k l x) hrl hle.1 (by omega)).mono ?_
      rintro e w2 ⟨rfl, hb2⟩
      rw [← F.out]
      go_wp2_with fail
      go_roundw
      case rel => exact ⟨k + 1, by omega, by go_num, rfl, Lib.hid (HB.out.trans (hb2.mono HB.out.size))⟩
      case measure => simp [intOf]; omega
    · obtain rfl : k = l.length := by omega
      clear hlt
      go_wp2_with fail
      go_ret
      exact ⟨rfl, HB.out⟩
end Go.Proofs.Ytjmaankkbdpikaa
/- The roads that an examination tells: from each place to the next one the shortest. Conditions: the net is right, the places are two or more. -/
namespace Go.Proofs.Ytjmaankkbdpikaa
open Go.RowKit Fs

/-- The first shortest of the first k roads from a to b, or -1. -/
def Fs.bestTo (N : Net) (a b : Int) : Nat → Int
  | 0 => -1
  | k + 1 => if (listD N.roads k).src = a ∧ (listD N.roads k).dst = b ∧ (bestTo N a b k = -1 ∨ (listD N.roads k).metres < (listD N.roads (bestTo N a b k).toNat).metres) then k else bestTo N a b k
theorem Fs.bestTo_is (N : Net) (a b : Int) : ∀ k, bestTo N a b k = -1 ∨ ∃ p : Nat, bestTo N a b k = p ∧ p < k ∧ (listD N.roads p).src = a ∧ (listD N.roads p).dst = b
  | 0 => .inl rfl
  | k + 1 => by
    rw [bestTo]
    by_cases h : (listD N.roads k).src = a ∧ (listD N.roads k).dst = b ∧ (bestTo N a b k = -1 ∨ (listD N.roads k).metres < (listD N.roads (bestTo N a b k).toNat).metres)
    · rw [if_pos h]
      exact .inr ⟨k, rfl, Nat.lt_succ_self _, h.1, h.2.1⟩
    · rw [if_neg h]
      rcases bestTo_is N a b k with h1 | ⟨p, h1, h2, h3⟩
      · exact .inl h1
      · exact .inr ⟨p, h1, by omega, h3⟩
theorem Fs.best_take {N : Net} {a b : Int} {k : Nat} (h : (listD N.roads k).src = a ∧ (listD N.roads k).dst = b ∧ (bestTo N a b k = -1 ∨ (listD N.roads k).metres < (listD N.roads (bestTo N a b k).toNat).metres)) : bestTo N a b (k + 1) = k := by rw [bestTo, if_pos h]
theorem Fs.best_leave {N : Net} {a b : Int} {k : Nat} (h : ¬ ((listD N.roads k).src = a ∧ (listD N.roads k).dst = b ∧ (bestTo N a b k = -1 ∨ (listD N.roads k).metres < (listD N.roads (bestTo N a b k).toNat).metres))) : bestTo N a b (k + 1) = bestTo N a b k := by rw [bestTo, if_neg h]
/-- The shortest road from place k of the list to the next one, or -1. -/
def Fs.bestAt (N : Net) (l : List Int) (k : Nat) : Int := bestTo N (listI l k) (listI l (k + 1)) N.roads.length
def Fs.toldTo (N : Net) (l : List Int) : Nat → List Int
  | 0 => []
  | k + 1 => toldTo N l k ++ [bestAt N l k]
theorem Fs.toldTo_len (N : Net) (l : List Int) : ∀ k, (toldTo N l k).length = k
  | 0 => rfl
  | k + 1 => by rw [toldTo, List.length_append, toldTo_len N l k]; rfl
/-- The roads told, or none and why. -/
def Fs.told (N : Net) (l : List Int) : List Int × Int := if ∀ k, k < l.length - 1 → bestAt N l k ≠ -1 then (toldTo N l (l.length - 1), 0) else ([], 23)

theorem arrNil (w : World) : ArrI w none [] 0 := ⟨Nat.le_refl _, by decide, fun h => absurd h (by simp)⟩
theorem ArrI.cells {w : World} {b o : Nat} {l : List Int} {c : Nat} (h : ArrI w (some ⟨b, o, none⟩) l c) {k : Nat} (hk : k < l.length) : w.cell? ⟨b, o + k, none⟩ = some (.int .i64 (listI l k)) := by
  obtain ⟨b', o', e, hc⟩ := h.at_ hk
  injection e with e
  injection e with e1 e2
  subst e1; subst e2
  exact hc
theorem ArrD.cells {w : World} {b o : Nat} {l : List Rd} {c : Nat} {a : DA} (h : ArrD w (some ⟨b, o, none⟩) l c a) {k : Nat} (hk : k < l.length) : RdAt w b (o + k * 5) (listD l k) (a.p k) (a.pc k) := by
  obtain ⟨b', o', e, hc⟩ := h.at_ hk
  injection e with e
  injection e with e1 e2
  subst e1; subst e2
  exact hc

end Go.Proofs.Ytjmaankkbdpikaa

/- The fixed fare from a zone to another one, and the error of a fixed fare. No condition. -/
import Derived.Test.YtbehabaoeicgeaaW5c
import Derived.Test.YtbehabaoeicgeaaW5x
namespace Go.Proofs.Ytbehabaoeicgeaa
open Go.RowKit Fs

theorem find_congr {α : Type} (l : List α) (p q : α → Bool) (h : ∀ x, x ∈ l → p x = q x) : l.find? p = l.find? q := by
  induction l with
  | nil => rfl
  | cons a l ih =>
    rw [List.find?_cons, List.find?_cons, h a (by simp), ih fun x hx => h x (by simp [hx])]
theorem fixIndex_bd (l : List Fix) (a b : Int) : fixIndex l a b = -1 ∨ ∃ k : Nat, k < l.length ∧ fixIndex l a b = k := by
  unfold fixIndex
  cases h : (List.range l.length).find? fun i => fixHit a b (listF l i) with
  | none => exact .inl rfl
  | some k => exact .inr ⟨k, by simpa using List.mem_of_find?_eq_some h, rfl⟩
/-- The fixed fare from a to b, and whether there is one. -/
def fixedFare (T : Tar) (a b : Int) : Int × Bool := if fixIndex T.fixed a b < 0 then (0, false) else ((listF T.fixed (fixIndex T.fixed a b).toNat).amount, true)

set_option maxHeartbeats 400000 in
theorem fixedFare_any (T : Tar) (v : Value) (x y : Int) (w : World) (hT : RdTar w v T) :
    Calls Try.prog 35 #[v, .int .i64 x, .int .i64 y] w fun e w' => e = .returned (.tuple #[.int .i64 (fixedFare T x y).1, .bool (fixedFare T x y).2]) ∧ Below w.heap.size w w' := by
  obtain ⟨z, h, r, e, f, zc, hc, rc, ec, fc, a, rfl, m⟩ := hT
  have hf := m.fixed
  have b1 := hf.le.1
  have b2 := hf.le.2
  clear m
  rcases fixIndex_bd T.fixed x y with hx | ⟨k, hk, hx⟩
  · have F := Lib.hid (show fixedFare T x y = (0, false) by unfold fixedFare; rw [hx]; rfl)
    have X := Lib.hid hx
    clear hx
    go_enter Try.func35, Try.ntmps35
    go_wp2_with fail
    refine (fixIndex_any T.fixed f fc x y _ _ _ (hf.keep (((Keep.alloc _ _).trans (Keep.alloc _ _)).trans (Keep.alloc _ _))) (Keep.alloc _ _ _ _ (cellNew1 _ _ _ _ _)) (cellNew2 _ _ _ _ _ _)).mono ?_
    rintro e w1 ⟨rfl, hb1⟩
    rw [X.out]
    go_wp2_with fail
    go_ret2
    exact ⟨by rw [F.out]; rfl, ((((Below.refl _ _).alloc (Nat.le_refl _) _).alloc (by simp) _).alloc (by simp; omega) _).trans (hb1.mono (by simp; omega))⟩
  · have F := Lib.hid (show fixedFare T x y = ((listF T.fixed k).amount, true) by unfold fixedFare; rw [hx, if_neg (by omega)]; rfl)
    have X := Lib.hid hx
    clear hx
    obtain ⟨b, o, rfl, c0, c1, c2⟩ := hf.at_ hk
    have k2 := Keep.alloc w
    go_enter Try.func35, Try.ntmps35
    go_wp2_with fail
    refine (fixIndex_any T.fixed _ fc x y _ _ _ (hf.keep (((Keep.alloc _ _).trans (Keep.alloc _ _)).trans (Keep.alloc _ _))) (Keep.alloc _ _ _ _ (cellNew1 _ _ _ _ _)) (cellNew2 _ _ _ _ _ _)).mono ?_
    rintro e w1 ⟨rfl, hb1⟩
    rw [X.out]
    have c2' : w1.cell? ⟨b, o + k * 3 + 2, none⟩ = some (.int .i64 (listF T.fixed k).amount) := Keep.below hb1 _ _ ((((Keep.alloc _ _).trans (Keep.alloc _ _)).trans (Keep.alloc _ _)) _ _ c2)
    have hcc := fun (b o : Nat) (h : b < _) => Below.cell hb1 (p := ⟨b, o, none⟩) h
    have HB := Lib.hid hb1
    clear hb1 c0 c1 c2 k2
    go_wp2_with fail
    go_ret2
    exact ⟨by rw [F.out]; rfl, ((((Below.refl _ _).alloc (Nat.le_refl _) _).alloc (by simp) _).alloc (by simp; omega) _).trans (HB.out.mono (by simp; omega))⟩

/-- The fixed fares ahead of fare i, alone. -/
def headFix (T : Tar) (i : Nat) : Tar := { T with fixed := T.fixed.take i }
theorem fixFound (T : Tar) (a b : Int) (i : Nat) (hi : i ≤ T.fixed.length) : (fixedFare (headFix T i) a b).2 = decide (fixAt T a b i < i) := by
  have hl : (T.fixed.take i).length = i := by simp; omega
  have e : ∀ j, j < i → fixHit a b (listF (T.fixed.take i) j) = ((listF T.fixed j).src == a && (listF T.fixed j).dst == b) := fun j hj => by
    have : listF (T.fixed.take i) j = listF T.fixed j := by unfold listF; simp [List.getD_eq_getElem?_getD, hj]
    unfold fixHit
    rw [this]
  unfold fixedFare fixIndex fixAt headFix
  simp only [hl]
  have e2 : (List.range i).find? (fun j => fixHit a b (listF (T.fixed.take i) j)) = (List.range i).find? (fun j => (listF T.fixed j).src == a && (listF T.fixed j).dst == b) := by
    exact find_congr _ _ _ fun j hj => e j (by simpa using hj)
  rw [e2]
  cases h : (List.range i).find? fun j => (listF T.fixed j).src == a && (listF T.fixed j).dst == b with
  | none => simp
  | some k =>
    have hk : k < i := by simpa using List.mem_of_find?_eq_some h
    have : ¬ ((k : Int) < 0) := by omega
    simp [this, hk]
end Go.Proofs.Ytbehabaoeicgeaa

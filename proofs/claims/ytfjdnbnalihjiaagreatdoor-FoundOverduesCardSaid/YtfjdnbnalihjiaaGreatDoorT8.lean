/- The reference's error of a net, and its mark. No condition. -/
import Derived.Test.YtfjdnbnalihjiaaGreatDoorT7
import Derived.Test.YtfjdnbnalihjiaaGreatDoorT6
namespace Go.Proofs.YtfjdnbnalihjiaaGreatDoor
open Go.RowKit Fs

theorem Fs.place_bad {f : Nat → ByteArray} {i : Nat} (h : isName (f i) = false) : errName f i = 4 := by rw [errName_eq, h]; rfl
theorem Fs.place_twice {f : Nat → ByteArray} {i : Nat} (h : isName (f i) = true) (h2 : hasText f i (f i) = true) : errName f i = 5 := by rw [errName_eq, h, h2]; rfl
theorem Fs.place_ok {f : Nat → ByteArray} {i : Nat} (h : isName (f i) = true) (h2 : hasText f i (f i) = false) : errName f i = 0 := by rw [errName_eq, h, h2]; rfl

end Go.Proofs.YtfjdnbnalihjiaaGreatDoor
/- Copies of lists of numbers and of texts; whether a net has few parts. Condition of copies: at most a million elements. -/
namespace Go.Proofs.YtfjdnbnalihjiaaGreatDoor
open Go.RowKit Fs

theorem Tryz.infoInt : (Tryz.prog.info? 3).map (fun i => (i.zero, i.size, i.bytes)) = some (some (.int .i64 0), 1, 8) := by kernel_rfl
theorem Tryz.infoText : (Tryz.prog.info? 9).map (fun i => (i.zero, i.size, i.bytes)) = some (some (.string ⟨#[]⟩), 1, 16) := by kernel_rfl
set_option maxHeartbeats 400000 in
theorem copyInts_any (l : List Int) (A : Option Addr) (c : Nat) (w : World) (h : ArrI w A l c) (hn : l.length ≤ 1000000) :
    Calls Tryz.prog 100 #[.slice A l.length c] w fun e w' => ∃ A' c', e = .returned (.slice A' l.length c') ∧ ArrI w' A' l c' ∧ Above w.heap.size A' ∧ Below w.heap.size w w' := by
  obtain ⟨i0, hi, hz0, hz1, hz2⟩ := info_parts Tryz.infoInt
  go_enter Tryz.func100, Tryz.ntmps100
  go_wp2_with (at_builtin
               refine wpList_copy rfl (.tmp 3) (.tmp 4) 51 rfl 3 i0 (.int .i64 0) 1 8 Tryz.underlying51 hi hz0 hz1 hz2 rfl (by decide) w.heap.size w.heap.size rfl (Nat.le_refl _) (heap_alloc_new _ _) A l.length c _ rfl (Arr.keep (Keep.alloc w _) h) (fun _ _ => rfl) (by unfold maxLen; omega) (by omega) ?_
               intro A1 c1 w1 ha hb)
  go_ret
  exact ⟨A1, c1, rfl, own_arrN ha, own_above ha, ((Below.refl _ _).alloc (Nat.le_refl _) _).trans hb⟩
theorem below_of_own {w w' : World} {base : Nat} {e : TypeId} {size : Nat} {v : Value} {n : Nat} {xs : List Value} (h : w.ownsRow base e size v n xs) (hb : Below w.heap.size w w') : w'.ownsRow base e size v n xs :=
  h.kept (row := none) ⟨hb.os, hb.tape, hb.output, hb.size, fun k hk _ => hb.block k hk⟩ (by cases v.ownBlock <;> simp)

def Fs.fewD (N : Net) : Prop := ∀ j, j < N.roads.length → (listD N.roads j).name.size ≤ 20 ∧ (listD N.roads j).pts.length ≤ 10
def Fs.fewPl (N : Net) : Prop := ∀ j, j < N.places.length → (listS N.places j).size ≤ 20
def Fs.FewN (N : Net) : Prop := (N.places.length ≤ 7 ∨ (20 < N.places.length ∧ N.places.length ≤ 22)) ∧ (N.roads.length ≤ 14 ∨ (60 < N.roads.length ∧ N.roads.length ≤ 62)) ∧ fewPl N ∧ fewD N
open Classical in
noncomputable def Fs.fewN (N : Net) : Bool := decide (FewN N)
theorem fewN_yes {N : Net} (h : FewN N) : fewN N = true := by unfold fewN; simpa using h
theorem fewN_no {N : Net} (h : ¬ FewN N) : fewN N = false := by unfold fewN; simpa using h
theorem fewN_is {N : Net} (h : fewN N = true) : FewN N := by unfold fewN at h; simpa using h

end Go.Proofs.YtfjdnbnalihjiaaGreatDoor

/- From when the week is kept. Condition: the trip is right. -/
import Derived.Test.YtjmaankkbdpikaaX11
import Derived.Test.YtjmaankkbdpikaaD24
import Derived.Shelf.Sort.Plain
import Derived.Ground.Names2Prog
import Derived.Test.YtjmaankkbdpikaaProg
import Derived.Lib.OwnBridge
import Derived.Lib.AppendIntMem
import Derived.Laws.OwnMore
namespace Go.Proofs.Ytjmaankkbdpikaa
open Go.RowKit Fs

theorem xWeekMore_any (R : DRules) (l V : List WRec) (who : ByteArray) (s n : Int) (A : Option Addr) (c : Nat) (w : World) (hV : V = l ++ [⟨who, s, s + n⟩]) (h : ArrW w A V c) (hM : Mild V) (hr : Right l) (hl : 0 < l.length → (listW l (l.length - 1)).fin ≤ s) (hn : 0 ≤ n) (hn' : n ≤ 604800) :
    Calls Try.prog 71 #[bookV R A V.length c] w fun e w' => e = .returned (.bool (decide (R.week < weekly l s n))) ∧ Below w.heap.size w w' := by
  have e := xWeek_any R V A c l.length w h hM (by rw [hV]; simp) (by rw [hV]; simp)
  have e1 : (listW V l.length).fin = s + n := by rw [hV, listW_last]
  have e2 : V.length = l.length + 1 := by rw [hV]; simp
  have e3 : workTo V (s + n - 604800) (s + n) V.length = weekly l s n := by rw [e2, hV]; exact work_more hr hl hn hn'
  rw [e1, e3] at e
  exact e
end Go.Proofs.Ytjmaankkbdpikaa
/- The library's sort of numbers, tied to this program's numbers (laid by the library's own command). -/
namespace Go.Proofs.Ytjmaankkbdpikaa
open Go.Shelf
end Go.Proofs.Ytjmaankkbdpikaa
/- The times of which one is the earliest start, ascending. Condition: the trip is right. -/
namespace Go.Proofs.Ytjmaankkbdpikaa
open Go.RowKit Fs

theorem xPutBelow {w0 w : World} {g : Nat} {d : Array Int} {B : Nat} (h : Below B w0 w) (n : Nat) (hg : B ≤ g) : Below B w0 (Go.Sort.putRow (Value.int .i64) (Go.Sort.ahead w n) g 0 d) := by
  refine ⟨h.os, h.tape, h.output, by unfold Go.Sort.putRow Go.Sort.mapBlock Go.Sort.ahead; simpa using h.size, fun k hk => ?_⟩
  rw [← h.block k hk]
  unfold Go.Sort.putRow Go.Sort.mapBlock Go.Sort.ahead
  simp only [Array.getElem?_modify]
  rw [if_neg (by omega)]
theorem xGrowBelow {w0 w : World} {B : Nat} (h : Below B w0 w) (os : Array Obj) (hB : B ≤ w.heap.size) : Below B w0 (Go.Sort.grow w os) := by
  refine ⟨h.os, h.tape, h.output, by unfold Go.Sort.grow; have := h.size; simp; omega, fun k hk => ?_⟩
  rw [← h.block k hk]
  exact Go.Sort.heap_grow_old w os (by omega)
noncomputable def Fs.sortedI (l : List Int) : List Int := l.mergeSort fun x y => decide (x ≤ y)
theorem Fs.sortedI_len (l : List Int) : (sortedI l).length = l.length := List.length_mergeSort _
theorem Fs.sortedI_mem {l : List Int} {x : Int} : x ∈ sortedI l ↔ x ∈ l := List.mem_mergeSort
theorem Fs.sortedI_up (l : List Int) : ∀ a b, a < b → b < (sortedI l).length → listI (sortedI l) a ≤ listI (sortedI l) b := by
  intro a b hab hb
  have h := List.pairwise_mergeSort (le := fun x y : Int => decide (x ≤ y)) (fun a b c h1 h2 => by simp at *; omega) (fun a b => by simp; omega) l
  have h2 := List.pairwise_iff_getElem.1 h a b (by unfold sortedI at hb; omega) hb hab
  unfold listI sortedI
  rw [List.getD_eq_getElem?_getD, List.getD_eq_getElem?_getD, List.getElem?_eq_getElem (by unfold sortedI at hb; omega), List.getElem?_eq_getElem (by unfold sortedI at hb; exact hb)]
  simpa using h2
def Fs.candL (R : DRules) (l : List WRec) (t : DTrip) (W : Int) : List Int := if 0 < l.length then [t.start, W, lastFin l + R.brk, lastFin l + R.rest] else [t.start, W]
theorem Fs.candL_is (R : DRules) (l : List WRec) (t : DTrip) (W : Int) : Cands R l t W (sortedI (candL R l t W)) := by
  unfold candL
  by_cases h : 0 < l.length
  · rw [if_pos h]
    exact ⟨sortedI_mem.2 (by simp), sortedI_mem.2 (by simp), fun _ => sortedI_mem.2 (by simp), fun _ => sortedI_mem.2 (by simp)⟩
  · rw [if_neg h]
    exact ⟨sortedI_mem.2 (by simp), sortedI_mem.2 (by simp), fun hp => absurd hp h, fun hp => absurd hp h⟩
theorem Try.infoNum : (Try.prog.info? 3).map (fun i => (i.zero, i.size, i.bytes)) = some (some (.int .i64 0), 1, 8) := by kernel_rfl
end Go.Proofs.Ytjmaankkbdpikaa

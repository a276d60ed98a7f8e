/- The reference's CopyMarks hands out a row of its own; beginnings and ends of marks in memory. Condition: there are at most a million marks. -/
import Derived.Test.YtfjdnbnalihjiaaGreatDoorG18
namespace Go.Proofs.YtfjdnbnalihjiaaGreatDoor
open Go.RowKit Fs

set_option maxHeartbeats 400000 in
theorem rCopyMarksO_any (l : List Mrk) (A : Option Addr) (c : Nat) (w : World) (h : ArrMk w A l c) (hn : l.length ≤ 1000000) :
    Calls Tryz.prog 19 #[.slice A l.length c] w fun e w' => ∃ v, e = .returned v ∧ w'.ownsRow w.heap.size 119 2 v l.length (flat l.length 2 fun i j => mrkCells (lMrk l i) j) ∧ Below w.heap.size w w' := by
  obtain ⟨i0, hi, hz0, hz1, hz2⟩ := info_parts Tryz.infoMrk
  go_enter Tryz.func19, Tryz.ntmps19
  go_wp2_with (at_builtin
               refine wpList_copy rfl (.tmp 3) (.tmp 4) 22 rfl 119 i0 (.agg #[.string ⟨#[]⟩, .string ⟨#[]⟩]) 2 32 Tryz.underlying22 hi hz0 hz1 hz2 rfl (by decide) w.heap.size w.heap.size rfl (Nat.le_refl _) (heap_alloc_new _ _) A l.length c _ rfl (Arr.keep (Keep.alloc w _) h) (by intro i j; unfold mrkCells; split <;> rfl) (by unfold maxLen; omega) (by omega) ?_
               intro A1 c1 w1 ha hb)
  go_ret
  exact ⟨_, rfl, ha, ((Below.refl _ _).alloc (Nat.le_refl _) _).trans hb⟩
theorem ArrMk.take {w : World} {A : Option Addr} {l : List Mrk} {c : Nat} (h : ArrMk w A l c) (n : Nat) : ArrMk w A (l.take n) c := by
  have hl : (l.take n).length ≤ l.length := by rw [List.length_take]; omega
  refine ⟨Nat.le_trans hl h.1, h.2.1, fun hp => ?_⟩
  obtain ⟨b, o, e, hc⟩ := h.2.2 (by omega)
  refine ⟨b, o, e, fun i j hi hj => ?_⟩
  show _ = some (mrkCells (lMrk (l.take n) i) j)
  rw [show lMrk (l.take n) i = lMrk l i by
    unfold lMrk
    rw [List.getD_eq_getElem?_getD, List.getD_eq_getElem?_getD, List.getElem?_take_of_lt (by rw [List.length_take] at hi; omega)]]
  exact hc i j (by omega) hj
theorem ArrMk.drop {w : World} {b o : Nat} {l : List Mrk} {c : Nat} (h : ArrMk w (some ⟨b, o, none⟩) l c) (n : Nat) (hn : n ≤ l.length) : ArrMk w (some ⟨b, o + n * 2, none⟩) (l.drop n) (c - n) := by
  have hl : (l.drop n).length = l.length - n := List.length_drop
  have h1 := h.1
  have h2 := h.2.1
  refine ⟨by omega, by omega, fun hp => ⟨b, o + n * 2, rfl, fun i j hi hj => ?_⟩⟩
  obtain ⟨b', o', e, hc⟩ := h.2.2 (by omega)
  obtain ⟨rfl, rfl⟩ : b = b' ∧ o = o' := by simpa using e
  show _ = some (mrkCells (lMrk (l.drop n) i) j)
  rw [show lMrk (l.drop n) i = lMrk l (n + i) by
    unfold lMrk
    rw [List.getD_eq_getElem?_getD, List.getD_eq_getElem?_getD, List.getElem?_drop]]
  have := hc (n + i) j (by omega) hj
  show w.cell? ⟨b, o + n * 2 + i * 2 + j, none⟩ = _
  rw [show o + n * 2 + i * 2 = o + (n + i) * 2 by omega]
  exact this
end Go.Proofs.YtfjdnbnalihjiaaGreatDoor

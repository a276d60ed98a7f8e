/- Candidates: the reference's CanBe, Candidates, Ambiguous; Size. Conditions: the things are right. -/
import Derived.Test.YtfjdnbnalihjiaaDoorG2
namespace Go.Proofs.YtfjdnbnalihjiaaDoor
open Go.RowKit Fs

theorem Tryd.infoIntG : (Tryd.prog.info? 3).map (fun i => (i.zero, i.size, i.bytes)) = some (some (.int .i64 0), 1, 8) := by kernel_rfl
structure Fs.ThgOk (x : Thg) : Prop where
  day0 : 0 ≤ x.day
  day1 : x.day ≤ 100000
  marks : x.marks.length ≤ 8
theorem Fs.thg_ok {x : Thg} (h : thgErr x = 0) : ThgOk x ∧ marksErr x.marks = 0 ∧ isName x.name = true ∧ isName x.who = true := by
  unfold thgErr at h
  by_cases h1 : isName x.name = false ∨ isName x.who = false
  · rw [if_pos h1] at h; exact absurd h (by decide)
  · rw [if_neg h1] at h
    by_cases h2 : isDay x.day = false
    · rw [if_pos h2] at h; exact absurd h (by decide)
    · rw [if_neg h2] at h
      have h3 := Fs.within_iff.1 (show within x.day 0 100000 = true by simpa [isDay] using h2)
      refine ⟨⟨h3.1, h3.2, ?_⟩, h, by simpa using fun e => h1 (Or.inl e), by simpa using fun e => h1 (Or.inr e)⟩
      by_cases h4 : 8 < x.marks.length
      · rw [(marks_long h4).1] at h; exact absurd h (by decide)
      · omega
theorem Fs.thgs_ok {l : List Thg} (h : thgsErr l = 0) : l.length ≤ 12 ∧ ∀ i, i < l.length → thgErr (lThg l i) = 0 ∧ hasText (fun j => (lThg l j).name) i (lThg l i).name = false := by
  unfold thgsErr at h
  by_cases h1 : 12 < l.length
  · rw [if_pos h1] at h; exact absurd h (by decide)
  · rw [if_neg h1] at h
    refine ⟨by omega, fun i hi => ?_⟩
    have h2 := fst_zero h i hi
    unfold thgAt at h2
    by_cases h3 : thgErr (lThg l i) = 0
    · rw [if_neg (fun hh => hh h3)] at h2
      refine ⟨h3, ?_⟩
      cases h4 : hasText (fun j => (lThg l j).name) i (lThg l i).name with
      | false => rfl
      | true => rw [if_pos h4] at h2; exact absurd h2 (by decide)
    · rw [if_pos h3] at h2; exact absurd h2 h3
theorem Fs.candTo_len (l : List Thg) (c : Thg) (k : Nat) : (candTo l c k).length ≤ k := by
  induction k with
  | zero => exact Nat.le_refl _
  | succ k ih =>
    rw [candTo]; split
    · rw [List.length_append, List.length_singleton]; omega
    · omega
theorem Fs.ambTo_len (l c : List Thg) (k : Nat) : (ambTo l c k).length ≤ k := by
  induction k with
  | zero => exact Nat.le_refl _
  | succ k ih =>
    rw [ambTo]; split
    · rw [List.length_append, List.length_singleton]; omega
    · omega
end Go.Proofs.YtfjdnbnalihjiaaDoor

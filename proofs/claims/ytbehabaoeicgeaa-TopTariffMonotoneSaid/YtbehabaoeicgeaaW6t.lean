/- The error of a tariff and its mark, by which list has the first error. No condition. -/
import Derived.Test.YtbehabaoeicgeaaFs
namespace Go.Proofs.Ytbehabaoeicgeaa.Fs

theorem tar_ok {T : Tar} (h : errHead T = 0) (hl : ∀ j, j < 5 → errList T j = 0) : errTar T = 0 ∧ markTar T = (0, 0) := by
  have e := fst_none hl
  unfold errTar markTar
  simp [h, e]
theorem tar_hit {T : Tar} {k : Nat} (h : errHead T = 0) (hk : k < 5) (hl : ∀ j, j < k → errList T j = 0) (hne : errList T k ≠ 0) :
    errTar T = errList T k ∧ markTar T = if listMost k < listLen T k then (0, 0) else ((k : Int) + 1, ((idx (listErr T k) (listLen T k) : Nat) : Int)) := by
  obtain ⟨e1, e2⟩ := fst_hit hk hl hne
  unfold errTar markTar
  rw [if_neg (by rw [h]; decide), if_neg (by rw [h]; decide), e1, if_neg hne, e2]
  exact ⟨rfl, rfl⟩
theorem tar_large {T : Tar} {k : Nat} (h : errHead T = 0) (hk : k < 5) (hl : ∀ j, j < k → errList T j = 0) (hm : listMost k < listLen T k) : errTar T = 8 ∧ markTar T = (0, 0) := by
  have e : errList T k = 8 := by unfold errList; rw [if_pos hm]
  obtain ⟨a, b⟩ := tar_hit h hk hl (by rw [e]; decide)
  rw [if_pos hm] at b
  exact ⟨a.trans e, b⟩
theorem tar_item {T : Tar} {k i : Nat} (h : errHead T = 0) (hk : k < 5) (hl : ∀ j, j < k → errList T j = 0) (hm : ¬ listMost k < listLen T k)
    (hi : i < listLen T k) (hz : ∀ j, j < i → listErr T k j = 0) (hne : listErr T k i ≠ 0) : errTar T = listErr T k i ∧ markTar T = ((k : Int) + 1, (i : Int)) := by
  obtain ⟨e1, e2⟩ := fst_hit hi hz hne
  have e : errList T k = listErr T k i := by unfold errList; rw [if_neg hm, e1]
  obtain ⟨a, b⟩ := tar_hit h hk hl (by rw [e]; exact hne)
  rw [if_neg hm, e2] at b
  exact ⟨a.trans e, b⟩
theorem list_ok {T : Tar} {k : Nat} (hm : ¬ listMost k < listLen T k) (hz : ∀ j, j < listLen T k → listErr T k j = 0) : errList T k = 0 := by
  unfold errList
  rw [if_neg hm, fst_none hz]
theorem listLen_le {T : Tar} {k : Nat} {n : Nat} (h0 : T.zones.length ≤ n) (h1 : T.hols.length ≤ n) (h2 : T.rules.length ≤ n) (h3 : T.extras.length ≤ n) (h4 : T.fixed.length ≤ n) : listLen T k ≤ n := by
  unfold listLen
  split <;> assumption
theorem listMost_le (k : Nat) : listMost k ≤ 20 := by
  unfold listMost
  split <;> decide
end Go.Proofs.Ytbehabaoeicgeaa.Fs

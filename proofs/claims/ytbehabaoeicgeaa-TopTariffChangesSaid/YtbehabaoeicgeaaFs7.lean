/- When the rules that hold may change, and that they stay in between. Condition: the tariff is right. -/
import Derived.Test.YtbehabaoeicgeaaC1
namespace Go.Proofs.Ytbehabaoeicgeaa.Fs

theorem rule_hours {T : Tar} (h : errTar T = 0) {i : Nat} (hi : i < T.rules.length) :
    (0 ≤ (listR T.rules i).beg ∧ (listR T.rules i).beg ≤ 86399) ∧ (0 ≤ (listR T.rules i).fin ∧ (listR T.rules i).fin ≤ 86400) := by
  obtain ⟨-, b⟩ := list_sound h 2 (by omega)
  have hb : errRule T i = 0 := b i hi
  unfold errRule at hb
  simp only at hb
  repeat (split at hb; · first | (exfalso; revert hb; decide) | (exfalso; exact (by assumption : _ ≠ _) hb))
  unfold errTerms at hb
  split at hb
  · rename_i hw
    simp only [Bool.and_eq_true] at hw
    exact ⟨within_true hw.1.1.1.1, within_true hw.1.1.1.2⟩
  · simp at hb
/-- The times of a day at which rules begin or end to hold, ascending. -/
structure TurnsOf (T : Tar) (zs : List Int) : Prop where
  up : zs.Pairwise (· ≤ ·)
  zero : (0 : Int) ∈ zs
  beg : ∀ i, i < T.rules.length → (listR T.rules i).beg ∈ zs
  fin : ∀ i, i < T.rules.length → (listR T.rules i).fin % 86400 ∈ zs
  day : ∀ x, x ∈ zs → 0 ≤ x ∧ x ≤ 86399
theorem last_le (l : List Int) (t : Int) (h : ∃ x, x ∈ l ∧ x ≤ t) : ∃ s, s ∈ l ∧ s ≤ t ∧ ∀ x, x ∈ l → x ≤ t → x ≤ s := by
  induction l with
  | nil => obtain ⟨x, hx, -⟩ := h; simp at hx
  | cons a l ih =>
    by_cases hl : ∃ x, x ∈ l ∧ x ≤ t
    · obtain ⟨s, s1, s2, s3⟩ := ih hl
      by_cases ha : a ≤ t ∧ s < a
      · refine ⟨a, by simp, ha.1, fun x hx hxt => ?_⟩
        rcases List.mem_cons.1 hx with rfl | hx
        · omega
        · have := s3 x hx hxt; omega
      · refine ⟨s, by simp [s1], s2, fun x hx hxt => ?_⟩
        rcases List.mem_cons.1 hx with rfl | hx
        · omega
        · exact s3 x hx hxt
    · obtain ⟨x, hx, hxt⟩ := h
      rcases List.mem_cons.1 hx with rfl | hx
      · refine ⟨x, by simp, hxt, fun y hy hyt => ?_⟩
        rcases List.mem_cons.1 hy with rfl | hy
        · omega
        · exact absurd ⟨y, hy, hyt⟩ hl
      · exact absurd ⟨x, hx, hxt⟩ hl
theorem hours_same {T : Tar} {zs : List Int} (hT : errTar T = 0) (hz : TurnsOf T zs) {s t : Int} (h1 : s ≤ t) (h2 : t ≤ 86399) (hno : ∀ x, x ∈ zs → x ≤ t → x ≤ s) {i : Nat} (hi : i < T.rules.length) :
    inHours (listR T.rules i) s = inHours (listR T.rules i) t := by
  have hb := hno _ (hz.beg i hi)
  have hf := hno _ (hz.fin i hi)
  obtain ⟨-, f0, f1⟩ := rule_hours hT hi
  have e1 : decide ((listR T.rules i).beg ≤ s) = decide ((listR T.rules i).beg ≤ t) := by
    rw [decide_eq_decide]; omega
  have e2 : decide (s < (listR T.rules i).fin) = decide (t < (listR T.rules i).fin) := by
    rw [decide_eq_decide]
    by_cases e : (listR T.rules i).fin = 86400
    · omega
    · rw [Int.emod_eq_of_lt f0 (by omega)] at hf
      omega
  unfold inHours
  rw [e1, e2]
theorem there_same {T : Tar} {zs : List Int} (hT : errTar T = 0) (hz : TurnsOf T zs) {s t : Int} (h1 : s ≤ t) (h2 : t ≤ 86399) (hno : ∀ x, x ∈ zs → x ≤ t → x ≤ s) (z d : Int) :
    rAt T z d s = rAt T z d t := by
  unfold rAt rThere thereTo
  congr 2
  apply List.filter_congr
  intro k hk
  rw [List.mem_range] at hk
  have hm : listI (rOn T d) k ∈ rOn T d := by
    unfold listI
    rw [List.getD_eq_getElem?_getD, List.getElem?_eq_getElem hk]
    exact List.getElem_mem hk
  obtain ⟨a, b, -⟩ := rOn_mem hm
  unfold there
  rw [hours_same hT hz h1 h2 hno (by omega)]
/-- One moment is later than another one. -/
def Beyond (d t d' t' : Int) : Prop := d < d' ∨ d = d' ∧ t < t'
/-- The first of the moments at which the rule may change that is later and has another rule. -/
def NextP (T : Tar) (z d t hi : Int) (zs : List Int) (md mt f : Int) : Prop :=
  (f = 0 ∧ (d ≤ md ∧ md ≤ hi ∧ mt ∈ zs) ∧ Beyond d t md mt ∧ rAt T z md mt ≠ rAt T z d t ∧ ∀ d' t', d ≤ d' → t' ∈ zs → Beyond d t d' t' → Beyond d' t' md mt → rAt T z d' t' = rAt T z d t) ∨
  (f = 12 ∧ md = 0 ∧ mt = 0 ∧ ∀ d' t', d ≤ d' → d' ≤ hi → t' ∈ zs → Beyond d t d' t' → rAt T z d' t' = rAt T z d t)
theorem stays {T : Tar} {zs : List Int} (hT : errTar T = 0) (hz : TurnsOf T zs) {z d t hi md mt f d' t' : Int} (hn : NextP T z d t hi zs md mt f) (h0 : 0 ≤ t') (h1 : t' ≤ 86399) (hq : d < d' ∨ d = d' ∧ t ≤ t') (ha : if f = 0 then Beyond d' t' md mt else d' ≤ hi) :
    rAt T z d' t' = rAt T z d t := by
  obtain ⟨s, s1, s2, s3⟩ := last_le zs t' ⟨0, hz.zero, h0⟩
  rw [← there_same hT hz s2 h1 s3 z d']
  by_cases hb : Beyond d t d' s
  · rcases hn with ⟨rfl, -, -, -, hall⟩ | ⟨rfl, -, -, hall⟩
    · rw [if_pos rfl] at ha
      refine hall d' s (by omega) s1 hb ?_
      unfold Beyond at ha ⊢
      omega
    · rw [if_neg (by decide)] at ha
      exact hall d' s (by omega) ha s1 hb
  · have hd : d = d' ∧ s ≤ t := by unfold Beyond at hb; omega
    obtain ⟨rfl, hst⟩ := hd
    have htt : t ≤ t' := by omega
    exact there_same hT hz hst (by omega) (fun x hx hxt => s3 x hx (by omega)) z d
/-- The next change at a place, or the error. -/
def NextE (T : Tar) (z d t : Int) (zs : List Int) (md mt f : Int) : Prop :=
  if errPlace T z d t ≠ 0 then md = 0 ∧ mt = 0 ∧ f = errPlace T z d t else NextP T z d t (min (d + 400) 100000) zs md mt f
theorem place_parts {T : Tar} {z d t : Int} (h : errPlace T z d t = 0) : errTar T = 0 ∧ isZone T z = true ∧ errMoment d t = 0 := by
  unfold errPlace at h
  by_cases h1 : errTar T = 0
  · rw [if_neg (fun hh => hh h1)] at h
    split at h
    · rename_i h2; exact ⟨h1, h2, h⟩
    · simp at h
  · rw [if_pos h1] at h
    exact absurd h h1
theorem place_other {T : Tar} {z d t d' t' : Int} (h : errPlace T z d t = 0) (hm : errMoment d' t' = 0) : errPlace T z d' t' = 0 := by
  obtain ⟨a, b, -⟩ := place_parts h
  unfold errPlace
  rw [if_neg (fun hh => hh a), if_pos b, hm]
theorem moment_is {d t : Int} (h1 : 0 ≤ d ∧ d ≤ 100000) (h2 : 0 ≤ t ∧ t ≤ 86399) : errMoment d t = 0 := by
  unfold errMoment isDate within
  simp [h1, h2]
theorem ruleAtP_ok {T : Tar} {z d t : Int} (h : errPlace T z d t = 0) : ruleAtP T z d t = rAt T z d t := by
  unfold ruleAtP; rw [if_neg (fun hh => hh h)]
theorem ruleAtP_zero {T : Tar} {z d t : Int} (h : (ruleAtP T z d t).2 ≠ 0) : (ruleAtP T z d t).1 = 0 := by
  by_cases he : errPlace T z d t = 0
  · rw [ruleAtP_ok he] at h ⊢
    unfold rAt only at h ⊢
    split
    · rfl
    · rename_i h1
      rw [if_neg h1] at h
      split
      · rename_i h2; rw [if_pos h2] at h; exact absurd rfl h
      · rfl
  · unfold ruleAtP; rw [if_pos he]
theorem at_change {T : Tar} {zs : List Int} (hz : errTar T = 0 → TurnsOf T zs) {z d t md mt : Int} (hn : NextE T z d t zs md mt 0) : ruleAtP T z md mt ≠ ruleAtP T z d t := by
  unfold NextE at hn
  by_cases he : errPlace T z d t = 0
  · rw [if_neg (fun hh => hh he)] at hn
    obtain ⟨a, b, c⟩ := place_parts he
    obtain ⟨⟨m0, m1⟩, m2, m3⟩ := moment_ok c
    rcases hn with ⟨-, ⟨k1, k2, k3⟩, -, k5, -⟩ | ⟨h12, -⟩
    · have hm := moment_is (d := md) (t := mt) ⟨by omega, by omega⟩ ((hz a).day mt k3)
      rw [ruleAtP_ok he, ruleAtP_ok (place_other he hm)]
      exact k5
    · exact absurd h12 (by decide)
  · rw [if_pos he] at hn
    exact absurd hn.2.2.symm he
/-- Where one looks: later, if there is such a moment. -/
def lookAt (d t s : Int) : Int × Int := if (laterP d t s).2 = 0 then (laterP d t s).1 else (d, t)
theorem look_ok {d t s : Int} (hm : errMoment d t = 0) : errMoment (lookAt d t s).1 (lookAt d t s).2 = 0 ∧ (d < (lookAt d t s).1 ∨ d = (lookAt d t s).1 ∧ t ≤ (lookAt d t s).2) := by
  obtain ⟨⟨m0, m1⟩, m2, m3⟩ := moment_ok hm
  unfold lookAt
  split
  · rename_i h
    unfold laterP at h ⊢
    rw [if_neg (fun hh => hh hm)] at h ⊢
    split
    · rename_i hw
      rw [if_pos hw] at h
      obtain ⟨s0, s1⟩ := within_true hw
      split
      · rename_i hx; rw [if_pos hx] at h; exact absurd h hx
      · rename_i hx
        refine ⟨Decidable.not_not.1 hx, ?_⟩
        unfold later
        simp only
        omega
    · rename_i hw
      rw [if_neg hw] at h
      exact absurd h (by decide)
  · exact ⟨hm, .inr ⟨rfl, Int.le_refl _⟩⟩
theorem look_same {T : Tar} {zs : List Int} (hz : errTar T = 0 → TurnsOf T zs) {z d t s md mt f : Int} (hn : NextE T z d t zs md mt f) (he : (ruleAtP T z d t).2 = 0 ∨ (ruleAtP T z d t).2 = 12 ∨ (ruleAtP T z d t).2 = 13)
    (ha : errPlace T z d t = 0 → if f = 0 then Beyond (lookAt d t s).1 (lookAt d t s).2 md mt else (lookAt d t s).1 ≤ d + 400) : ruleAtP T z (lookAt d t s).1 (lookAt d t s).2 = ruleAtP T z d t := by
  unfold NextE at hn
  by_cases h : errPlace T z d t = 0
  · rw [if_neg (fun hh => hh h)] at hn
    obtain ⟨a, b, c⟩ := place_parts h
    obtain ⟨l1, l2⟩ := look_ok (s := s) c
    obtain ⟨⟨m0, m1⟩, m2, m3⟩ := moment_ok l1
    rw [ruleAtP_ok h, ruleAtP_ok (place_other h l1)]
    refine stays a (hz a) hn m2 m3 l2 ?_
    replace ha := ha h
    by_cases hf : f = 0
    · rw [if_pos hf] at ha ⊢; exact ha
    · rw [if_neg hf] at ha ⊢; omega
  · have hT : errTar T ≠ 0 := by
      intro hT
      unfold ruleAtP at he
      rw [if_pos h] at he
      unfold errPlace errMoment at he h
      rw [if_neg (fun hh => hh hT)] at he h
      split at he
      · split at he
        · rename_i h1 h2
          rw [if_pos h1, if_pos h2] at h
          exact h rfl
        · omega
      · omega
    have e1 : ∀ d t, errPlace T z d t = errTar T := fun d t => by unfold errPlace; rw [if_pos hT]
    unfold ruleAtP
    rw [e1, e1]
    simp [hT]
end Go.Proofs.Ytbehabaoeicgeaa.Fs

/- The search for best ways, as a plain function: its labels are least. Conditions: no step returns less than it was given, nor less for more. -/
import Derived.Test.YtfjdnbnalihjiaaGreatDoorN0
namespace Go.Proofs.YtfjdnbnalihjiaaGreatDoor.Fs

theorem listI_set {l : List Int} {i j : Nat} {x : Int} : listI (l.set i x) j = if i = j ∧ j < l.length then x else listI l j := by
  unfold listI
  rw [List.getD_eq_getElem?_getD, List.getD_eq_getElem?_getD, List.getElem?_set]
  by_cases h : i = j
  · subst h
    by_cases h2 : i < l.length
    · simp [h2]
    · simp [h2]
  · simp [h]
theorem listB_set {l : List Bool} {i j : Nat} {x : Bool} : listB (l.set i x) j = if i = j ∧ j < l.length then x else listB l j := by
  unfold listB
  rw [List.getD_eq_getElem?_getD, List.getD_eq_getElem?_getD, List.getElem?_set]
  by_cases h : i = j
  · subst h
    by_cases h2 : i < l.length
    · simp [h2]
    · simp [h2]
  · simp [h]
theorem listI_rep {n j : Nat} {x : Int} (h : j < n) : listI (List.replicate n x) j = x := by
  unfold listI; rw [List.getD_eq_getElem?_getD, List.getElem?_replicate]; simp [h]
theorem listB_rep {n j : Nat} {x : Bool} (h : j < n) : listB (List.replicate n x) j = x := by
  unfold listB; rw [List.getD_eq_getElem?_getD, List.getElem?_replicate]; simp [h]

/-- Of the first n places, none that is not done has a label; or the place that is told is not done, has a label, and this is least. -/
theorem nearTo_is (s : St) (n : Nat) :
    (nearTo s n = -1 ∧ ∀ z, z < n → listB s.done z = false → listI s.labels z = -1) ∨
    (∃ p : Nat, nearTo s n = p ∧ p < n ∧ listB s.done p = false ∧ listI s.labels p ≠ -1 ∧ ∀ z, z < n → listB s.done z = false → listI s.labels z ≠ -1 → listI s.labels p ≤ listI s.labels z) := by
  induction n with
  | zero => exact .inl ⟨rfl, fun z hz => by omega⟩
  | succ n ih =>
    rw [nearTo]
    by_cases c : listB s.done n = false ∧ listI s.labels n ≠ -1 ∧ (nearTo s n = -1 ∨ listI s.labels n < listI s.labels (nearTo s n).toNat)
    · rw [if_pos c]
      obtain ⟨c1, c2, c3⟩ := c
      refine .inr ⟨n, rfl, by omega, c1, c2, fun z hz hd hl => ?_⟩
      by_cases e : z = n
      · subst e; exact Int.le_refl _
      · rcases ih with ⟨i1, i2⟩ | ⟨p, i1, i2, i3, i4, i5⟩
        · exact absurd (i2 z (by omega) hd) hl
        · rw [i1] at c3
          rcases c3 with c3 | c3
          · omega
          · have := i5 z (by omega) hd hl
            simp only [Int.toNat_natCast] at c3
            omega
    · rw [if_neg c]
      rcases ih with ⟨i1, i2⟩ | ⟨p, i1, i2, i3, i4, i5⟩
      · refine .inl ⟨i1, fun z hz hd => ?_⟩
        by_cases e : z = n
        · subst e
          rcases Decidable.em (listI s.labels z = -1) with h | h
          · exact h
          · exact absurd ⟨hd, h, .inl i1⟩ c
        · exact i2 z (by omega) hd
      · refine .inr ⟨p, i1, by omega, i3, i4, fun z hz hd hl => ?_⟩
        by_cases e : z = n
        · subst e
          rcases Decidable.em (listI s.labels z < listI s.labels p) with h | h
          · exact absurd ⟨hd, hl, .inr (by rw [i1]; simpa using h)⟩ c
          · omega
        · exact i5 z (by omega) hd hl

/-- A net whose roads lead from places to other ones. -/
def Joined (N : Net) : Prop := ∀ i, i < N.roads.length → (0 ≤ (listD N.roads i).src ∧ (listD N.roads i).src < N.places.length) ∧ 0 ≤ (listD N.roads i).dst ∧ (listD N.roads i).dst < N.places.length
/-- Steps that return no less than they were given, and no less for more. -/
structure Good (N : Net) (nx : Nat → Int → Int) : Prop where
  up : ∀ i x, i < N.roads.length → 0 ≤ x → x ≤ nx i x
  mono : ∀ i x y, i < N.roads.length → 0 ≤ x → x ≤ y → nx i x ≤ nx i y

/-- What holds of a search under way, but for the roads of places that are done. -/
structure Way (N : Net) (nx : Nat → Int → Int) (src : Nat) (L : Int) (rk : Nat → Nat) (c : Nat) (s : St) : Prop where
  n1 : s.labels.length = N.places.length
  n2 : s.last.length = N.places.length
  n3 : s.done.length = N.places.length
  own : listI s.labels src = L
  least : ∀ z, z < N.places.length → listI s.labels z = -1 ∨ L ≤ listI s.labels z
  met : ∀ z, z < N.places.length → listB s.done z = true → listI s.labels z ≠ -1
  ahead : ∀ p z, p < N.places.length → z < N.places.length → listB s.done p = true → listB s.done z = false → listI s.labels z ≠ -1 → listI s.labels p ≤ listI s.labels z
  first : listI s.last src = -1
  back : ∀ z, z < N.places.length → listI s.last z = -1 → z = src ∨ listI s.labels z = -1
  by_ : ∀ z, z < N.places.length → listI s.last z ≠ -1 → ∃ i, i < N.roads.length ∧ listI s.last z = (i : Int) ∧ (listD N.roads i).dst = (z : Int) ∧ listB s.done (listD N.roads i).src.toNat = true ∧
    listI s.labels z = nx i (listI s.labels (listD N.roads i).src.toNat) ∧ (listB s.done z = true → rk (listD N.roads i).src.toNat < rk z)
  rank : ∀ z, listB s.done z = true → rk z < c
/-- The roads of a place, up to k, have been gone. -/
def Gone (N : Net) (nx : Nat → Int → Int) (s : St) (p k : Nat) : Prop := ∀ i, i < k → (listD N.roads i).src = (p : Int) → listI s.labels (listD N.roads i).dst.toNat ≠ -1 ∧ listI s.labels (listD N.roads i).dst.toNat ≤ nx i (listI s.labels p)

theorem Way.start {N : Net} {nx : Nat → Int → Int} {src : Nat} {L : Int} (hs : src < N.places.length) : Way N nx src L (fun _ => 0) 0 (start N src L) := by
  refine ⟨by simp [Fs.start], by simp [Fs.start], by simp [Fs.start], ?_, fun z hz => ?_, fun z hz h => ?_, fun p z hp hz h => ?_, ?_, fun z hz _ => ?_, fun z hz h => ?_, fun z h => ?_⟩
  · simp only [Fs.start, Int.toNat_natCast, listI_set, List.length_replicate]; rw [if_pos ⟨by simp, hs⟩]
  · simp only [Fs.start, Int.toNat_natCast, listI_set, List.length_replicate]
    split
    · right; exact Int.le_refl _
    · left; exact listI_rep hz
  · rw [show listB (Fs.start N src L).done z = false from listB_rep hz] at h; cases h
  · rw [show listB (Fs.start N src L).done p = false from listB_rep hp] at h; cases h
  · exact listI_rep hs
  · by_cases e : z = src
    · exact .inl e
    · right
      simp only [Fs.start, Int.toNat_natCast, listI_set, List.length_replicate]
      rw [if_neg (fun hh => e hh.1.symm)]
      exact listI_rep hz
  · exact absurd (listI_rep hz) h
  · by_cases hz : z < N.places.length
    · rw [show listB (Fs.start N src L).done z = false from listB_rep hz] at h; cases h
    · unfold listB at h
      rw [List.getD_eq_getElem?_getD, List.getElem?_eq_none (by simp [Fs.start]; omega)] at h
      cases h
theorem Way.lt {N : Net} {nx : Nat → Int → Int} {src : Nat} {L : Int} {rk : Nat → Nat} {c : Nat} {s : St} (m : Way N nx src L rk c s) {z : Nat} (h : listB s.done z = true) : z < N.places.length := by
  rcases Nat.lt_or_ge z s.done.length with h1 | h1
  · rw [← m.n3]; exact h1
  · unfold listB at h
    rw [List.getD_eq_getElem?_getD, List.getElem?_eq_none h1] at h
    cases h
/-- The nearest place is marked. -/
theorem Way.mark {N : Net} {nx : Nat → Int → Int} {src : Nat} {L : Int} {rk : Nat → Nat} {c : Nat} {s : St} (m : Way N nx src L rk c s) {p : Nat} (hp : p < N.places.length) (hd : listB s.done p = false) (hl : listI s.labels p ≠ -1)
    (hm : ∀ z, z < N.places.length → listB s.done z = false → listI s.labels z ≠ -1 → listI s.labels p ≤ listI s.labels z) :
    Way N nx src L (fun z => if z = p then c else rk z) (c + 1) (Fs.mark s p) ∧ listB (Fs.mark s p).done p = true ∧ (∀ z, z < N.places.length → listB (Fs.mark s p).done z = false → listI s.labels z ≠ -1 → listI s.labels p ≤ listI s.labels z) ∧
      (∀ z, z < N.places.length → listB (Fs.mark s p).done z = true → listI s.labels z ≤ listI s.labels p) := by
  have hb : ∀ z, listB (Fs.mark s p).done z = if p = z ∧ z < s.done.length then true else listB s.done z := fun z => by simp only [Fs.mark, Int.toNat_natCast, listB_set]
  have hpp : listB (Fs.mark s p).done p = true := by rw [hb, if_pos ⟨rfl, by rw [m.n3]; exact hp⟩]
  have hne : ∀ z, z ≠ p → listB (Fs.mark s p).done z = listB s.done z := fun z hz => by rw [hb, if_neg (fun hh => hz hh.1.symm)]
  have hun : ∀ z, listB (Fs.mark s p).done z = false → z ≠ p ∧ listB s.done z = false := fun z hz => by
    by_cases e : z = p
    · rw [e, hpp] at hz; cases hz
    · exact ⟨e, by rw [← hne z e]; exact hz⟩
  have hdn : ∀ z, listB s.done z = true → listB (Fs.mark s p).done z = true := fun z hz => by
    by_cases e : z = p
    · rw [e]; exact hpp
    · rw [hne z e]; exact hz
  refine ⟨⟨m.n1, m.n2, by simp [Fs.mark, m.n3], m.own, m.least, fun z hz h => ?_, fun q z hq hz h h2 hlz => ?_, m.first, m.back, fun z hz h => ?_, fun z h => ?_⟩, hpp, fun z hz h hlz => hm z hz (hun z h).2 hlz, fun z hz h => ?_⟩
  · by_cases e : z = p
    · subst e; exact hl
    · rw [hne z e] at h; exact m.met z hz h
  · obtain ⟨z1, z2⟩ := hun z h2
    by_cases e : q = p
    · subst e; exact hm z hz z2 hlz
    · rw [hne q e] at h; exact m.ahead q z hq hz h z2 hlz
  · obtain ⟨i, h1, h2, h3, h4, h5, h6⟩ := m.by_ z hz h
    refine ⟨i, h1, h2, h3, hdn _ h4, h5, fun hz2 => ?_⟩
    have e1 : (listD N.roads i).src.toNat ≠ p := fun e => by rw [e, hd] at h4; cases h4
    show (if (listD N.roads i).src.toNat = p then c else rk (listD N.roads i).src.toNat) < (if z = p then c else rk z)
    rw [if_neg e1]
    by_cases e : z = p
    · rw [if_pos e]; exact m.rank _ h4
    · rw [if_neg e]; rw [hne z e] at hz2; exact h6 hz2
  · show (if z = p then c else rk z) < c + 1
    by_cases e : z = p
    · rw [if_pos e]; omega
    · rw [if_neg e]; rw [hne z e] at h; have := m.rank z h; omega
  · by_cases e : z = p
    · subst e; exact Int.le_refl _
    · rw [hne z e] at h; exact m.ahead z p hz hp h hd hl

/-- One road of the place p is gone. -/
theorem Way.relax {N : Net} {nx : Nat → Int → Int} {src : Nat} {L : Int} {rk : Nat → Nat} {c : Nat} {s : St} (hN : Joined N) (hg : Good N nx) (hL : 0 ≤ L) {p i : Nat} (hi : i < N.roads.length) (hp : p < N.places.length)
    (m : Way N nx src L rk c s) (hd : listB s.done p = true)
    (hdn : ∀ z, z < N.places.length → listB s.done z = true → listI s.labels z ≤ listI s.labels p) :
    Way N nx src L rk c (relax N nx p s i) ∧ (relax N nx p s i).done = s.done ∧
    (∀ z, z < N.places.length → listB s.done z = true → listI (relax N nx p s i).labels z = listI s.labels z) ∧
    (∀ z, z < N.places.length → listI s.labels z ≠ -1 → listI (relax N nx p s i).labels z ≠ -1 ∧ listI (relax N nx p s i).labels z ≤ listI s.labels z) ∧
    ((listD N.roads i).src = (p : Int) → listI (relax N nx p s i).labels (listD N.roads i).dst.toNat ≠ -1 ∧ listI (relax N nx p s i).labels (listD N.roads i).dst.toNat ≤ nx i (listI s.labels p)) := by
  obtain ⟨-, jd0, jd1⟩ := hN i hi
  have hlp := m.met p hp hd
  have hlp0 : L ≤ listI s.labels p := (m.least p hp).resolve_left hlp
  have hup := hg.up i (listI s.labels p) hi (by omega)
  obtain ⟨d, hdd⟩ : ∃ d : Nat, (listD N.roads i).dst = d := ⟨_, (Int.toNat_of_nonneg jd0).symm⟩
  have hdl : d < N.places.length := by omega
  unfold Fs.relax
  by_cases c1 : (listD N.roads i).src ≠ (p : Int) ∨ listB s.done (listD N.roads i).dst.toNat = true
  · rw [if_pos c1]
    refine ⟨m, rfl, fun _ _ _ => rfl, fun z hz h => ⟨h, Int.le_refl _⟩, fun hs => ?_⟩
    rcases c1 with c1 | c1
    · exact absurd hs c1
    · rw [hdd, Int.toNat_natCast] at c1 ⊢
      have := hdn d hdl c1
      exact ⟨m.met d hdl c1, by omega⟩
  · rw [if_neg c1]
    have c1s : (listD N.roads i).src = (p : Int) := by
      rcases Decidable.em ((listD N.roads i).src = (p : Int)) with h | h
      · exact h
      · exact absurd (.inl h) c1
    have c1d : listB s.done d = false := by
      cases h : listB s.done d with
      | false => rfl
      | true => exact absurd (.inr (by rw [hdd, Int.toNat_natCast]; exact h)) c1
    rw [hdd, Int.toNat_natCast, Int.toNat_natCast]
    by_cases c2 : listI s.labels d = -1 ∨ nx i (listI s.labels p) < listI s.labels d
    · rw [if_pos c2]
      have hlab : ∀ z, listI (s.labels.set d (nx i (listI s.labels p))) z = if d = z ∧ z < s.labels.length then nx i (listI s.labels p) else listI s.labels z := fun z => listI_set
      have hlast : ∀ z, listI (s.last.set d (i : Int)) z = if d = z ∧ z < s.last.length then (i : Int) else listI s.last z := fun z => listI_set
      have hlabd : listI (s.labels.set d (nx i (listI s.labels p))) d = nx i (listI s.labels p) := by rw [hlab, if_pos ⟨rfl, by rw [m.n1]; exact hdl⟩]
      have hlastd : listI (s.last.set d (i : Int)) d = i := by rw [hlast, if_pos ⟨rfl, by rw [m.n2]; exact hdl⟩]
      have hlabn : ∀ z, z ≠ d → listI (s.labels.set d (nx i (listI s.labels p))) z = listI s.labels z := fun z hz => by rw [hlab, if_neg (fun hh => hz hh.1.symm)]
      have hlastn : ∀ z, z ≠ d → listI (s.last.set d (i : Int)) z = listI s.last z := fun z hz => by rw [hlast, if_neg (fun hh => hz hh.1.symm)]
      have hdone : ∀ z, listB s.done z = true → z ≠ d := fun z hz e => by rw [e, c1d] at hz; cases hz
      have hsrc : src ≠ d := fun e => by
        rcases c2 with c2 | c2
        · rw [← e, m.own] at c2; omega
        · rw [← e, m.own] at c2; omega
      refine ⟨⟨by simpa using m.n1, by simpa using m.n2, m.n3, ?_, fun z hz => ?_, fun z hz h => ?_, fun q z hq hz h h2 hlz => ?_, ?_, fun z hz h => ?_, fun z hz h => ?_, m.rank⟩, rfl, fun z hz h => hlabn z (hdone z h), fun z hz h => ?_, fun _ => ?_⟩
      · exact (hlabn src hsrc).trans m.own
      · show listI (s.labels.set d _) z = -1 ∨ L ≤ listI (s.labels.set d _) z
        by_cases e : z = d
        · subst e; rw [hlabd]; right; omega
        · rw [hlabn z e]; exact m.least z hz
      · show listI (s.labels.set d _) z ≠ -1
        rw [hlabn z (hdone z h)]; exact m.met z hz h
      · show listI (s.labels.set d _) q ≤ listI (s.labels.set d _) z
        rw [hlabn q (hdone q h)]
        by_cases e : z = d
        · subst e; rw [hlabd]; have := hdn q hq h; omega
        · have hlz' : listI s.labels z ≠ -1 := by rw [← hlabn z e]; exact hlz
          rw [hlabn z e]; exact m.ahead q z hq hz h h2 hlz'
      · exact (hlastn src hsrc).trans m.first
      · have h' : listI (s.last.set d (i : Int)) z = -1 := h
        by_cases e : z = d
        · subst e; rw [hlastd] at h'; omega
        · rw [hlastn z e] at h'
          show z = src ∨ listI (s.labels.set d _) z = -1
          rw [hlabn z e]; exact m.back z hz h'
      · have h' : listI (s.last.set d (i : Int)) z ≠ -1 := h
        by_cases e : z = d
        · subst e
          refine ⟨i, hi, hlastd, hdd, by rw [c1s]; exact hd, ?_, fun hz2 => ?_⟩
          · show listI (s.labels.set z _) z = nx i (listI (s.labels.set z _) _)
            rw [hlabd, c1s, Int.toNat_natCast, hlabn p (hdone p hd)]
          · have hz2' : listB s.done z = true := hz2
            rw [c1d] at hz2'; cases hz2'
        · rw [hlastn z e] at h'
          obtain ⟨k, h1, h2, h3, h4, h5, h6⟩ := m.by_ z hz h'
          refine ⟨k, h1, (hlastn z e).trans h2, h3, h4, ?_, h6⟩
          show listI (s.labels.set d _) z = nx k (listI (s.labels.set d _) _)
          rw [hlabn z e, hlabn _ (hdone _ h4)]; exact h5
      · show listI (s.labels.set d _) z ≠ -1 ∧ listI (s.labels.set d _) z ≤ _
        by_cases e : z = d
        · subst e; rw [hlabd]
          rcases c2 with c2 | c2
          · exact absurd c2 h
          · omega
        · rw [hlabn z e]; exact ⟨h, Int.le_refl _⟩
      · show listI (s.labels.set d _) d ≠ -1 ∧ listI (s.labels.set d _) d ≤ _
        rw [hlabd]; omega
    · rw [if_neg c2]
      refine ⟨m, rfl, fun _ _ _ => rfl, fun z hz h => ⟨h, Int.le_refl _⟩, fun _ => ?_⟩
      rcases Decidable.em (listI s.labels d = -1) with h | h
      · exact absurd (.inl h) c2
      · exact ⟨h, Int.not_lt.1 fun h2 => c2 (.inr h2)⟩
/-- All roads up to k of the place p are gone. -/
theorem Way.relaxTo {N : Net} {nx : Nat → Int → Int} {src : Nat} {L : Int} {rk : Nat → Nat} {c : Nat} {s : St} (hN : Joined N) (hg : Good N nx) (hL : 0 ≤ L) {p : Nat} (hp : p < N.places.length)
    (m : Way N nx src L rk c s) (hd : listB s.done p = true) (hdn : ∀ z, z < N.places.length → listB s.done z = true → listI s.labels z ≤ listI s.labels p)
    (ho : ∀ q, q ≠ p → listB s.done q = true → Gone N nx s q N.roads.length) :
    ∀ k, k ≤ N.roads.length → Way N nx src L rk c (relaxTo N nx p s k) ∧ (relaxTo N nx p s k).done = s.done ∧ (∀ z, z < N.places.length → listB s.done z = true → listI (relaxTo N nx p s k).labels z = listI s.labels z) ∧
      Gone N nx (relaxTo N nx p s k) p k ∧ ∀ q, q ≠ p → listB s.done q = true → Gone N nx (relaxTo N nx p s k) q N.roads.length := by
  intro k
  induction k with
  | zero => intro _; exact ⟨m, rfl, fun _ _ _ => rfl, fun i hi => by omega, ho⟩
  | succ k ih =>
    intro hk
    obtain ⟨m1, d1, l1, g1, o1⟩ := ih (by omega)
    rw [Fs.relaxTo]
    obtain ⟨m2, d2, l2, u2, r2⟩ := Way.relax (s := Fs.relaxTo N nx p s k) hN hg hL (p := p) (i := k) (by omega) hp m1 (by rw [d1]; exact hd) (fun z hz h => by
      rw [d1] at h
      rw [l1 z hz h, l1 p hp hd]
      exact hdn z hz h)
    have key : ∀ q j, j < N.roads.length → listB s.done q = true → (listD N.roads j).src = (q : Int) →
        (listI (Fs.relaxTo N nx p s k).labels (listD N.roads j).dst.toNat ≠ -1 ∧ listI (Fs.relaxTo N nx p s k).labels (listD N.roads j).dst.toNat ≤ nx j (listI (Fs.relaxTo N nx p s k).labels q)) →
        listI (Fs.relax N nx p (Fs.relaxTo N nx p s k) k).labels (listD N.roads j).dst.toNat ≠ -1 ∧ listI (Fs.relax N nx p (Fs.relaxTo N nx p s k) k).labels (listD N.roads j).dst.toNat ≤ nx j (listI (Fs.relax N nx p (Fs.relaxTo N nx p s k) k).labels q) := by
      intro q j hj hq hs ⟨a, b⟩
      obtain ⟨-, e0, e1⟩ := hN j hj
      obtain ⟨u1, u3⟩ := u2 (listD N.roads j).dst.toNat (by omega) a
      rw [l2 q (m.lt hq) (by rw [d1]; exact hq)]
      exact ⟨u1, by omega⟩
    refine ⟨m2, d2.trans d1, fun z hz h => (l2 z hz (by rw [d1]; exact h)).trans (l1 z hz h), fun j hj hs => ?_, fun q hq hqd j hj hs => ?_⟩
    · by_cases e : j = k
      · subst e
        rw [l2 p hp (by rw [d1]; exact hd)]
        exact r2 hs
      · exact key p j (by omega) hd hs (g1 j (by omega) hs)
    · exact key q j hj hqd hs (o1 q hq hqd j hj hs)

theorem count_mark {l : List Bool} {p : Nat} (hp : p < l.length) (h : listB l p = false) : (l.set p true).count false + 1 = l.count false := by
  have hf : l[p] = false := by
    unfold listB at h
    rw [List.getD_eq_getElem?_getD, List.getElem?_eq_getElem hp] at h
    simpa using h
  rw [List.count_set hp, hf]
  have : 0 < l.count false := List.count_pos_iff.2 (by rw [← hf]; exact List.getElem_mem hp)
  simp
  omega
/-- What holds of a search under way. -/
structure Under (N : Net) (nx : Nat → Int → Int) (src : Nat) (L : Int) (s : St) : Prop where
  way : ∃ rk c, Way N nx src L rk c s ∧ c + s.done.count false = N.places.length
  gone : ∀ q, listB s.done q = true → Gone N nx s q N.roads.length
theorem Under.start {N : Net} {nx : Nat → Int → Int} {src : Nat} {L : Int} (hs : src < N.places.length) : Under N nx src L (start N src L) :=
  ⟨⟨_, _, Way.start hs, by simp [Fs.start]⟩, fun q h => by
    have hq := (Way.start (nx := nx) hs).lt h
    rw [show listB (Fs.start N src L).done q = false from listB_rep hq] at h; cases h⟩
theorem Under.round {N : Net} {nx : Nat → Int → Int} {src : Nat} {L : Int} {s : St} (hN : Joined N) (hg : Good N nx) (hL : 0 ≤ L) (u : Under N nx src L s) (hn : nearest s ≠ -1) :
    Under N nx src L (oneRound N nx s) ∧ (∃ p : Nat, nearest s = p ∧ p < N.places.length ∧ listB s.done p = false ∧ (oneRound N nx s).done = s.done.set p true) := by
  obtain ⟨⟨rk, c, m, hc⟩, g⟩ := u
  have hnn := nearTo_is s s.labels.length
  have hne : nearTo s s.labels.length = nearest s := rfl
  rw [hne] at hnn
  rw [m.n1] at hnn
  rcases hnn with ⟨h, -⟩ | ⟨p, h1, h2, h3, h4, h5⟩
  · exact absurd h hn
  · obtain ⟨m1, m2, m3, m4⟩ := m.mark h2 h3 h4 h5
    unfold oneRound
    rw [h1]
    obtain ⟨r1, r2, r3, r4, r5⟩ := Way.relaxTo hN hg hL h2 m1 m2 m4 (fun q hq hqd => by
      have : listB (Fs.mark s p).done q = listB s.done q := by
        simp only [Fs.mark, Int.toNat_natCast, listB_set]
        rw [if_neg (fun hh => hq hh.1.symm)]
      rw [this] at hqd
      exact g q hqd) N.roads.length (Nat.le_refl _)
    refine ⟨⟨⟨_, _, r1, ?_⟩, fun q hq => ?_⟩, p, rfl, h2, h3, r2.trans (by simp [Fs.mark])⟩
    · have := count_mark (by rw [m.n3]; exact h2) h3
      rw [r2]
      show c + 1 + (s.done.set (p : Int).toNat true).count false = _
      rw [Int.toNat_natCast]
      omega
    by_cases e : q = p
    · subst e; exact r4
    · rw [r2] at hq; exact r5 q e hq
theorem Under.rounds {N : Net} {nx : Nat → Int → Int} {src : Nat} {L : Int} (hN : Joined N) (hg : Good N nx) (hL : 0 ≤ L) : ∀ (f : Nat) (s : St), Under N nx src L s → s.done.count false ≤ f → Under N nx src L (rounds N nx f s) ∧ nearest (rounds N nx f s) = -1 := by
  intro f
  induction f with
  | zero =>
    intro s u hf
    refine ⟨u, ?_⟩
    show nearest s = -1
    rcases Decidable.em (nearest s = -1) with h | h
    · exact h
    · obtain ⟨-, p, -, h2, h3, -⟩ := u.round hN hg hL h
      obtain ⟨⟨rk, c, m, -⟩, -⟩ := u
      have := count_mark (by rw [m.n3]; exact h2) h3
      omega
  | succ f ih =>
    intro s u hf
    rw [Fs.rounds]
    by_cases h : nearest s = -1
    · rw [if_pos h]; exact ⟨u, h⟩
    · rw [if_neg h]
      obtain ⟨u2, p, -, h2, h3, h4⟩ := u.round hN hg hL h
      obtain ⟨⟨rk, c, m, -⟩, -⟩ := u
      refine ih _ u2 ?_
      rw [h4]
      have := count_mark (by rw [m.n3]; exact h2) h3
      omega
theorem Under.done {N : Net} {nx : Nat → Int → Int} {src : Nat} {L : Int} (hN : Joined N) (hg : Good N nx) (hs : src < N.places.length) (hL : 0 ≤ L) : Under N nx src L (search N src L nx) ∧ nearest (search N src L nx) = -1 :=
  Under.rounds hN hg hL _ _ (Under.start hs) (by simp [Fs.start])

/-- What a search has found: labels of which each road's end's is no more than the step along it. -/
structure Found (N : Net) (nx : Nat → Int → Int) (src : Nat) (L : Int) (s : St) : Prop where
  n1 : s.labels.length = N.places.length
  n2 : s.last.length = N.places.length
  own : listI s.labels src = L
  least : ∀ z, z < N.places.length → listI s.labels z = -1 ∨ L ≤ listI s.labels z
  step : ∀ i, i < N.roads.length → listI s.labels (listD N.roads i).src.toNat ≠ -1 → listI s.labels (listD N.roads i).dst.toNat ≠ -1 ∧ listI s.labels (listD N.roads i).dst.toNat ≤ nx i (listI s.labels (listD N.roads i).src.toNat)
  first : listI s.last src = -1
  back : ∀ z, z < N.places.length → listI s.last z = -1 → z = src ∨ listI s.labels z = -1
  tree : ∃ rk : Nat → Nat, ∀ z, z < N.places.length → listI s.last z ≠ -1 → rk z < N.places.length ∧ ∃ i, i < N.roads.length ∧ listI s.last z = (i : Int) ∧ (listD N.roads i).dst = (z : Int) ∧ listI s.labels (listD N.roads i).src.toNat ≠ -1 ∧
    listI s.labels z = nx i (listI s.labels (listD N.roads i).src.toNat) ∧ rk (listD N.roads i).src.toNat < rk z
theorem search_found {N : Net} {nx : Nat → Int → Int} {src : Nat} {L : Int} (hN : Joined N) (hg : Good N nx) (hs : src < N.places.length) (hL : 0 ≤ L) : Found N nx src L (search N src L nx) := by
  obtain ⟨⟨⟨rk, c, m, hc⟩, g⟩, hn⟩ := Under.done (nx := nx) hN hg hs hL
  generalize search N src L nx = s at *
  have hnn := nearTo_is s s.labels.length
  rw [show nearTo s s.labels.length = nearest s from rfl, m.n1] at hnn
  have hd : ∀ z, z < N.places.length → listI s.labels z ≠ -1 → listB s.done z = true := fun z hz hl => by
    rcases hnn with ⟨-, h⟩ | ⟨p, h, -⟩
    · cases hb : listB s.done z with
      | true => rfl
      | false => exact absurd (h z hz hb) hl
    · rw [hn] at h; omega
  refine ⟨m.n1, m.n2, m.own, m.least, fun i hi hl => ?_, m.first, m.back, rk, fun z hz h => ?_⟩
  · obtain ⟨⟨s0, s1⟩, -⟩ := hN i hi
    exact g (listD N.roads i).src.toNat (hd _ (by omega) hl) i hi (Int.toNat_of_nonneg s0).symm
  · obtain ⟨i, h1, h2, h3, h4, h5, h6⟩ := m.by_ z hz h
    obtain ⟨⟨s0, s1⟩, -⟩ := hN i h1
    have hls := m.met _ (by omega) h4
    have hlz : listI s.labels z ≠ -1 := ?_
    refine ⟨by have := m.rank z (hd z hz hlz); omega, i, h1, h2, h3, hls, h5, h6 (hd z hz hlz)⟩
    rw [h5]
    have h0 : L ≤ listI s.labels (listD N.roads i).src.toNat := (m.least _ (show (listD N.roads i).src.toNat < _ by omega)).resolve_left hls
    have := hg.up i _ h1 (show 0 ≤ listI s.labels (listD N.roads i).src.toNat by omega)
    omega

end Go.Proofs.YtfjdnbnalihjiaaGreatDoor.Fs

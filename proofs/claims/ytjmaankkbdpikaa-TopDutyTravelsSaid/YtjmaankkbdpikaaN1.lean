/- The search for best ways, as a plain function: its labels are least. Conditions: no step returns less than it was given, nor less for more. -/
import Derived.Test.YtjmaankkbdpikaaMem
import Derived.Test.YtjmaankkbdpikaaT11
import Derived.Shelf.Bits.Mul64
import Derived.Shelf.Slices.Reverse
import Derived.Ground.Names2Prog
namespace Go.Proofs.Ytjmaankkbdpikaa.Fs

theorem listI_set {l : List Int} {i j : Nat} {x : Int} : listI (l.set i x) j = if i = j ∧ j < l.length then x else listI l j := by
  unfold listI
  rw [List.getD_eq_getElem?_getD, List.getD_eq_getElem?_getD, List.getElem?_set]
  by_cases h : i = j
  · subst h
    by_cases h2 : i < l.length
    · simp [h2]
    · simp [h2]
  · simp [h]
theorem listB_set {l : List Bool} {i j : Nat} {x : Bool} : listB (l.set i x) j = if i = j ∧ j < l.length then x else listB l j := by
  unfold listB
  rw [List.getD_eq_getElem?_getD, List.getD_eq_getElem?_getD, List.getElem?_set]
  by_cases h : i = j
  · subst h
    by_cases h2 : i < l.length
    · simp [h2]
    · simp [h2]
  · simp [h]
theorem listI_rep {n j : Nat} {x : Int} (h : j < n) : listI (List.replicate n x) j = x := by
  unfold listI; rw [List.getD_eq_getElem?_getD, List.getElem?_replicate]; simp [h]
theorem listB_rep {n j : Nat} {x : Bool} (h : j < n) : listB (List.replicate n x) j = x := by
  unfold listB; rw [List.getD_eq_getElem?_getD, List.getElem?_replicate]; simp [h]

/-- Of the first n places, none that is not done has a label; or the place that is told is not done, has a label, and this is least. -/
theorem nearTo_is (s : St) (n : Nat) :
    (nearTo s n = -1 ∧ ∀ z, z < n → listB s.done z = false → listI s.labels z = -1) ∨
    (∃ p : Nat, nearTo s n = p ∧ p < n ∧ listB s.done p = false ∧ listI s.labels p ≠ -1 ∧ ∀ z, z < n → listB s.done z = false → listI s.labels z ≠ -1 → listI s.labels p ≤ listI s.labels z) := by
  induction n with
  | zero => exact .inl ⟨rfl, fun z hz => by omega⟩
  | succ n ih =>
    rw [nearTo]
    by_cases c : listB s.done n = false ∧ listI s.labels n ≠ -1 ∧ (nearTo s n = -1 ∨ listI s.labels n < listI s.labels (nearTo s n).toNat)
    · rw [if_pos c]
      obtain ⟨c1, c2, c3⟩ := c
      refine .inr ⟨n, rfl, by omega, c1, c2, fun z hz hd hl => ?_⟩
      by_cases e : z = n
      · subst e; exact Int.le_refl _
      · rcases ih with ⟨i1, i2⟩ | ⟨p, i1, i2, i3, i4, i5⟩
        · exact absurd (i2 z (by omega) hd) hl
        · rw [i1] at c3
          rcases c3 with c3 | c3
          · omega
          · have := i5 z (by omega) hd hl
            simp only [Int.toNat_natCast] at c3
            omega
    · rw [if_neg c]
      rcases ih with ⟨i1, i2⟩ | ⟨p, i1, i2, i3, i4, i5⟩
      · refine .inl ⟨i1, fun z hz hd => ?_⟩
        by_cases e : z = n
        · subst e
          rcases Decidable.em (listI s.labels z = -1) with h | h
          · exact h
          · exact absurd ⟨hd, h, .inl i1⟩ c
        · exact i2 z (by omega) hd
      · refine .inr ⟨p, i1, by omega, i3, i4, fun z hz hd hl => ?_⟩
        by_cases e : z = n
        · subst e
          rcases Decidable.em (listI s.labels z < listI s.labels p) with h | h
          · exact absurd ⟨hd, hl, .inr (by rw [i1]; simpa using h)⟩ c
          · omega
        · exact i5 z (by omega) hd hl

/-- A net whose roads lead from places to other ones. -/
def Joined (N : Net) : Prop := ∀ i, i < N.roads.length → (0 ≤ (listD N.roads i).src ∧ (listD N.roads i).src < N.places.length) ∧ 0 ≤ (listD N.roads i).dst ∧ (listD N.roads i).dst < N.places.length
/-- Steps that return no less than they were given, and no less for more. -/
structure Good (N : Net) (nx : Nat → Int → Int) : Prop where
  up : ∀ i x, i < N.roads.length → 0 ≤ x → x ≤ nx i x
  mono : ∀ i x y, i < N.roads.length → 0 ≤ x → x ≤ y → nx i x ≤ nx i y

/-- What holds of a search under way, but for the roads of places that are done. -/
structure Way (N : Net) (nx : Nat → Int → Int) (src : Nat) (L : Int) (rk : Nat → Nat) (c : Nat) (s : St) : Prop where
  n1 : s.labels.length = N.places.length
  n2 : s.last.length = N.places.length
  n3 : s.done.length = N.places.length
  own : listI s.labels src = L
  least : ∀ z, z < N.places.length → listI s.labels z = -1 ∨ L ≤ listI s.labels z
  met : ∀ z, z < N.places.length → listB s.done z = true → listI s.labels z ≠ -1
  ahead : ∀ p z, p < N.places.length → z < N.places.length → listB s.done p = true → listB s.done z = false → listI s.labels z ≠ -1 → listI s.labels p ≤ listI s.labels z
  first : listI s.last src = -1
  back : ∀ z, z < N.places.length → listI s.last z = -1 → z = src ∨ listI s.labels z = -1
  by_ : ∀ z, z < N.places.length → listI s.last z ≠ -1 → ∃ i, i < N.roads.length ∧ listI s.last z = (i : Int) ∧ (listD N.roads i).dst = (z : Int) ∧ listB s.done (listD N.roads i).src.toNat = true ∧
    listI s.labels z = nx i (listI s.labels (listD N.roads i).src.toNat) ∧ (listB s.done z = true → rk (listD N.roads i).src.toNat < rk z)
  rank : ∀ z, listB s.done z = true → rk z < c
/-- The roads of a place, up to k, have been gone. -/
def Gone (N : Net) (nx : Nat → Int → Int) (s : St) (p k : Nat) : Prop := ∀ i, i < k → (listD N.roads i).src = (p : Int) → listI s.labels (listD N.roads i).dst.toNat ≠ -1 ∧ listI s.labels (listD N.roads i).dst.toNat ≤ nx i (listI s.labels p)

theorem Way.start {N : Net} {nx : Nat → Int → Int} {src : Nat} {L : Int} (hs : src < N.places.length) : Way N nx src L (fun _ => 0) 0 (start N src L) := by
  refine ⟨by simp [Fs.start], by simp [Fs.start], by simp [Fs.start], ?_, fun z hz => ?_, fun z hz h => ?_, fun p z hp hz h => ?_, ?_, fun z hz _ => ?_, fun z hz h => ?_, fun z h => ?_⟩
  · simp only [Fs.start, Int.toNat_natCast, listI_set, List.length_replicate]; rw [if_pos ⟨by simp, hs⟩]
  · simp only [Fs.start, Int.toNat_natCast, listI_set, List.length_replicate]
    split
    · right; exact Int.le_refl _
    · left; exact listI_rep hz
  · rw [show listB (Fs.start N src L).done z = false from listB_rep hz] at h; cases h
  · rw [show listB (Fs.start N src L).done p = false from listB_rep hp] at h; cases h
  · exact listI_rep hs
  · by_cases e : z = src
    · exact .inl e
    · right
      simp only [Fs.start, Int.toNat_natCast, listI_set, List.length_replicate]
      rw [if_neg (fun hh => e hh.1.symm)]
      exact listI_rep hz
  · exact absurd (listI_rep hz) h
  · by_cases hz : z < N.places.length
    · rw [show listB (Fs.start N src L).done z = false from listB_rep hz] at h; cases h
    · unfold listB at h
      rw [List.getD_eq_getElem?_getD, List.getElem?_eq_none (by simp [Fs.start]; omega)] at h
      cases h
theorem Way.lt {N : Net} {nx : Nat → Int → Int} {src : Nat} {L : Int} {rk : Nat → Nat} {c : Nat} {s : St} (m : Way N nx src L rk c s) {z : Nat} (h : listB s.done z = true) : z < N.places.length := by
  rcases Nat.lt_or_ge z s.done.length with h1 | h1
  · rw [← m.n3]; exact h1
  · unfold listB at h
    rw [List.getD_eq_getElem?_getD, List.getElem?_eq_none h1] at h
    cases h
/-- The nearest place is marked. -/
theorem Way.mark {N : Net} {nx : Nat → Int → Int} {src : Nat} {L : Int} {rk : Nat → Nat} {c : Nat} {s : St} (m : Way N nx src L rk c s) {p : Nat} (hp : p < N.places.length) (hd : listB s.done p = false) (hl : listI s.labels p ≠ -1)
    (hm : ∀ z, z < N.places.length → listB s.done z = false → listI s.labels z ≠ -1 → listI s.labels p ≤ listI s.labels z) :
    Way N nx src L (fun z => if z = p then c else rk z) (c + 1) (Fs.mark s p) ∧ listB (Fs.mark s p).done p = true ∧ (∀ z, z < N.places.length → listB (Fs.mark s p).done z = false → listI s.labels z ≠ -1 → listI s.labels p ≤ listI s.labels z) ∧
      (∀ z, z < N.places.length → listB (Fs.mark s p).done z = true → listI s.labels z ≤ listI s.labels p) := by
  have hb : ∀ z, listB (Fs.mark s p).done z = if p = z ∧ z < s.done.length then true else listB s.done z := fun z => by simp only [Fs.mark, Int.toNat_natCast, listB_set]
  have hpp : listB (Fs.mark s p).done p = true := by rw [hb, if_pos ⟨rfl, by rw [m.n3]; exact hp⟩]
  have hne : ∀ z, z ≠ p → listB (Fs.mark s p).done z = listB s.done z := fun z hz => by rw [hb, if_neg (fun hh => hz hh.1.symm)]
  have hun : ∀ z, listB (Fs.mark s p).done z = false → z ≠ p ∧ listB s.done z = false := fun z hz => by
    by_cases e : z = p
    · rw [e, hpp] at hz; cases hz
    · exact ⟨e, by rw [← hne z e]; exact hz⟩
  have hdn : ∀ z, listB s.done z = true → listB (Fs.mark s p).done z = true := fun z hz => by
    by_cases e : z = p
    · rw [e]; exact hpp
    · rw [hne z e]; exact hz
  refine ⟨⟨m.n1, m.n2, by simp [Fs.mark, m.n3], m.own, m.least, fun z hz h => ?_, fun q z hq hz h h2 hlz => ?_, m.first, m.back, fun z hz h => ?_, fun z h => ?_⟩, hpp, fun z hz h hlz => hm z hz (hun z h).2 hlz, fun z hz h => ?_⟩
  · by_cases e : z = p
    · subst e; exact hl
    · rw [hne z e] at h; exact m.met z hz h
  · obtain ⟨z1, z2⟩ := hun z h2
    by_cases e : q = p
    · subst e; exact hm z hz z2 hlz
    · rw [hne q e] at h; exact m.ahead q z hq hz h z2 hlz
  · obtain ⟨i, h1, h2, h3, h4, h5, h6⟩ := m.by_ z hz h
    refine ⟨i, h1, h2, h3, hdn _ h4, h5, fun hz2 => ?_⟩
    have e1 : (listD N.roads i).src.toNat ≠ p := fun e => by rw [e, hd] at h4; cases h4
    show (if (listD N.roads i).src.toNat = p then c else rk (listD N.roads i).src.toNat) < (if z = p then c else rk z)
    rw [if_neg e1]
    by_cases e : z = p
    · rw [if_pos e]; exact m.rank _ h4
    · rw [if_neg e]; rw [hne z e] at hz2; exact h6 hz2
  · show (if z = p then c else rk z) < c + 1
    by_cases e : z = p
    · rw [if_pos e]; omega
    · rw [if_neg e]; rw [hne z e] at h; have := m.rank z h; omega
  · by_cases e : z = p
    · subst e; exact Int.le_refl _
    · rw [hne z e] at h; exact m.ahead z p hz hp h hd hl

/-- One road of the place p is gone. -/
theorem Way.relax {N : Net} {nx : Nat → Int → Int} {src : Nat} {L : Int} {rk : Nat → Nat} {c : Nat} {s : St} (hN : Joined N) (hg : Good N nx) (hL : 0 ≤ L) {p i : Nat} (hi : i < N.roads.length) (hp : p < N.places.length)
    (m : Way N nx src L rk c s) (hd : listB s.done p = true)
    (hdn : ∀ z, z < N.places.length → listB s.done z = true → listI s.labels z ≤ listI s.labels p) :
    Way N nx src L rk c (relax N nx p s i) ∧ (relax N nx p s i).done = s.done ∧
    (∀ z, z < N.places.length → listB s.done z = true → listI (relax N nx p s i).labels z = listI s.labels z) ∧
    (∀ z, z < N.places.length → listI s.labels z ≠ -1 → listI (relax N nx p s i).labels z ≠ -1 ∧ listI (relax N nx p s i).labels z ≤ listI s.labels z) ∧
    ((listD N.roads i).src = (p : Int) → listI (relax N nx p s i).labels (listD N.roads i).dst.toNat ≠ -1 ∧ listI (relax N nx p s i).labels (listD N.roads i).dst.toNat ≤ nx i (listI s.labels p)) := by
  obtain ⟨-, jd0, jd1⟩ := hN i hi
  have hlp := m.met p hp hd
  have hlp0 : L ≤ listI s.labels p := (m.least p hp).resolve_left hlp
  have hup := hg.up i (listI s.labels p) hi (by omega)
  obtain ⟨d, hdd⟩ : ∃ d : Nat, (listD N.roads i).dst = d := ⟨_, (Int.toNat_of_nonneg jd0).symm⟩
  have hdl : d < N.places.length := by omega
  unfold Fs.relax
  by_cases c1 : (listD N.roads i).src ≠ (p : Int) ∨ listB s.done (listD N.roads i).dst.toNat = true
  · rw [if_pos c1]
    refine ⟨m, rfl, fun _ _ _ => rfl, fun z hz h => ⟨h, Int.le_refl _⟩, fun hs => ?_⟩
    rcases c1 with c1 | c1
    · exact absurd hs c1
    · rw [hdd, Int.toNat_natCast] at c1 ⊢
      have := hdn d hdl c1
      exact ⟨m.met d hdl c1, by omega⟩
  · rw [if_neg c1]
    have c1s : (listD N.roads i).src = (p : Int) := by
      rcases Decidable.em ((listD N.roads i).src = (p : Int)) with h | h
      · exact h
      · exact absurd (.inl h) c1
    have c1d : listB s.done d = false := by
      cases h : listB s.done d with
      | false => rfl
      | true => exact absurd (.inr (by rw [hdd, Int.toNat_natCast]; exact h)) c1
    rw [hdd, Int.toNat_natCast, Int.toNat_natCast]
    by_cases c2 : listI s.labels d = -1 ∨ nx i (listI s.labels p) < listI s.labels d
    · rw [if_pos c2]
      have hlab : ∀ z, listI (s.labels.set d (nx i (listI s.labels p))) z = if d = z ∧ z < s.labels.length then nx i (listI s.labels p) else listI s.labels z := fun z => listI_set
      have hlast : ∀ z, listI (s.last.set d (i : Int)) z = if d = z ∧ z < s.last.length then (i : Int) else listI s.last z := fun z => listI_set
      have hlabd : listI (s.labels.set d (nx i (listI s.labels p))) d = nx i (listI s.labels p) := by rw [hlab, if_pos ⟨rfl, by rw [m.n1]; exact hdl⟩]
      have hlastd : listI (s.last.set d (i : Int)) d = i := by rw [hlast, if_pos ⟨rfl, by rw [m.n2]; exact hdl⟩]
      have hlabn : ∀ z, z ≠ d → listI (s.labels.set d (nx i (listI s.labels p))) z = listI s.labels z := fun z hz => by rw [hlab, if_neg (fun hh => hz hh.1.symm)]
      have hlastn : ∀ z, z ≠ d → listI (s.last.set d (i : Int)) z = listI s.last z := fun z hz => by rw [hlast, if_neg (fun hh => hz hh.1.symm)]
      have hdone : ∀ z, listB s.done z = true → z ≠ d := fun z hz e => by rw [e, c1d] at hz; cases hz
      have hsrc : src ≠ d := fun e => by
        rcases c2 with c2 | c2
        · rw [← e, m.own] at c2; omega
        · rw [← e, m.own] at c2; omega
      refine ⟨⟨by simpa using m.n1, by simpa using m.n2, m.n3, ?_, fun z hz => ?_, fun z hz h => ?_, fun q z hq hz h h2 hlz => ?_, ?_, fun z hz h => ?_, fun z hz h => ?_, m.rank⟩, rfl, fun z hz h => hlabn z (hdone z h), fun z hz h => ?_, fun _ => ?_⟩
      · exact (hlabn src hsrc).trans m.own
      · show listI (s.labels.set d _) z = -1 ∨ L ≤ listI (s.labels.set d _) z
        by_cases e : z = d
        · subst e; rw [hlabd]; right; omega
        · rw [hlabn z e]; exact m.least z hz
      · show listI (s.labels.set d _) z ≠ -1
        rw [hlabn z (hdone z h)]; exact m.met z hz h
      · show listI (s.labels.set d _) q ≤ listI (s.labels.set d _) z
        rw [hlabn q (hdone q h)]
        by_cases e : z = d
        · subst e; rw [hlabd]; have := hdn q hq h; omega
        · have hlz' : listI s.labels z ≠ -1 := by rw [← hlabn z e]; exact hlz
          rw [hlabn z e]; exact m.ahead q z hq hz h h2 hlz'
      · exact (hlastn src hsrc).trans m.first
      · have h' : listI (s.last.set d (i : Int)) z = -1 := h
        by_cases e : z = d
        · subst e; rw [hlastd] at h'; omega
        · rw [hlastn z e] at h'
          show z = src ∨ listI (s.labels.set d _) z = -1
          rw [hlabn z e]; exact m.back z hz h'
      · have h' : listI (s.last.set d (i : Int)) z ≠ -1 := h
        by_cases e : z = d
        · subst e
          refine ⟨i, hi, hlastd, hdd, by rw [c1s]; exact hd, ?_, fun hz2 => ?_⟩
          · show listI (s.labels.set z _) z = nx i (listI (s.labels.set z _) _)
            rw [hlabd, c1s, Int.toNat_natCast, hlabn p (hdone p hd)]
          · have hz2' : listB s.done z = true := hz2
            rw [c1d] at hz2'; cases hz2'
        · rw [hlastn z e] at h'
          obtain ⟨k, h1, h2, h3, h4, h5, h6⟩ := m.by_ z hz h'
          refine ⟨k, h1, (hlastn z e).trans h2, h3, h4, ?_, h6⟩
          show listI (s.labels.set d _) z = nx k (listI (s.labels.set d _) _)
          rw [hlabn z e, hlabn _ (hdone _ h4)]; exact h5
      · show listI (s.labels.set d _) z ≠ -1 ∧ listI (s.labels.set d _) z ≤ _
        by_cases e : z = d
        · subst e; rw [hlabd]
          rcases c2 with c2 | c2
          · exact absurd c2 h
          · omega
        · rw [hlabn z e]; exact ⟨h, Int.le_refl _⟩
      · show listI (s.labels.set d _) d ≠ -1 ∧ listI (s.labels.set d _) d ≤ _
        rw [hlabd]; omega
    · rw [if_neg c2]
      refine ⟨m, rfl, fun _ _ _ => rfl, fun z hz h => ⟨h, Int.le_refl _⟩, fun _ => ?_⟩
      rcases Decidable.em (listI s.labels d = -1) with h | h
      · exact absurd (.inl h) c2
      · exact ⟨h, Int.not_lt.1 fun h2 => c2 (.inr h2)⟩
/-- All roads up to k of the place p are gone. -/
theorem Way.relaxTo {N : Net} {nx : Nat → Int → Int} {src : Nat} {L : Int} {rk : Nat → Nat} {c : Nat} {s : St} (hN : Joined N) (hg : Good N nx) (hL : 0 ≤ L) {p : Nat} (hp : p < N.places.length)
    (m : Way N nx src L rk c s) (hd : listB s.done p = true) (hdn : ∀ z, z < N.places.length → listB s.done z = true → listI s.labels z ≤ listI s.labels p)
    (ho : ∀ q, q ≠ p → listB s.done q = true → Gone N nx s q N.roads.length) :
    ∀ k, k ≤ N.roads.length → Way N nx src L rk c (relaxTo N nx p s k) ∧ (relaxTo N nx p s k).done = s.done ∧ (∀ z, z < N.places.length → listB s.done z = true → listI (relaxTo N nx p s k).labels z = listI s.labels z) ∧
      Gone N nx (relaxTo N nx p s k) p k ∧ ∀ q, q ≠ p → listB s.done q = true → Gone N nx (relaxTo N nx p s k) q N.roads.length := by
  intro k
  induction k with
  | zero => intro _; exact ⟨m, rfl, fun _ _ _ => rfl, fun i hi => by omega, ho⟩
  | succ k ih =>
    intro hk
    obtain ⟨m1, d1, l1, g1, o1⟩ := ih (by omega)
    rw [Fs.relaxTo]
    obtain ⟨m2, d2, l2, u2, r2⟩ := Way.relax (s := Fs.relaxTo N nx p s k) hN hg hL (p := p) (i := k) (by omega) hp m1 (by rw [d1]; exact hd) (fun z hz h => by
      rw [d1] at h
      rw [l1 z hz h, l1 p hp hd]
      exact hdn z hz h)
    have key : ∀ q j, j < N.roads.length → listB s.done q = true → (listD N.roads j).src = (q : Int) →
        (listI (Fs.relaxTo N nx p s k).labels (listD N.roads j).dst.toNat ≠ -1 ∧ listI (Fs.relaxTo N nx p s k).labels (listD N.roads j).dst.toNat ≤ nx j (listI (Fs.relaxTo N nx p s k).labels q)) →
        listI (Fs.relax N nx p (Fs.relaxTo N nx p s k) k).labels (listD N.roads j).dst.toNat ≠ -1 ∧ listI (Fs.relax N nx p (Fs.relaxTo N nx p s k) k).labels (listD N.roads j).dst.toNat ≤ nx j (listI (Fs.relax N nx p (Fs.relaxTo N nx p s k) k).labels q) := by
      intro q j hj hq hs ⟨a, b⟩
      obtain ⟨-, e0, e1⟩ := hN j hj
      obtain ⟨u1, u3⟩ := u2 (listD N.roads j).dst.toNat (by omega) a
      rw [l2 q (m.lt hq) (by rw [d1]; exact hq)]
      exact ⟨u1, by omega⟩
    refine ⟨m2, d2.trans d1, fun z hz h => (l2 z hz (by rw [d1]; exact h)).trans (l1 z hz h), fun j hj hs => ?_, fun q hq hqd j hj hs => ?_⟩
    · by_cases e : j = k
      · subst e
        rw [l2 p hp (by rw [d1]; exact hd)]
        exact r2 hs
      · exact key p j (by omega) hd hs (g1 j (by omega) hs)
    · exact key q j hj hqd hs (o1 q hq hqd j hj hs)

theorem count_mark {l : List Bool} {p : Nat} (hp : p < l.length) (h : listB l p = false) : (l.set p true).count false + 1 = l.count false := by
  have hf : l[p] = false := by
    unfold listB at h
    rw [List.getD_eq_getElem?_getD, List.getElem?_eq_getElem hp] at h
    simpa using h
  rw [List.count_set hp, hf]
  have : 0 < l.count false := List.count_pos_iff.2 (by rw [← hf]; exact List.getElem_mem hp)
  simp
  omega
/-- What holds of a search under way. -/
structure Under (N : Net) (nx : Nat → Int → Int) (src : Nat) (L : Int) (s : St) : Prop where
  way : ∃ rk c, Way N nx src L rk c s ∧ c + s.done.count false = N.places.length
  gone : ∀ q, listB s.done q = true → Gone N nx s q N.roads.length
theorem Under.start {N : Net} {nx : Nat → Int → Int} {src : Nat} {L : Int} (hs : src < N.places.length) : Under N nx src L (start N src L) :=
  ⟨⟨_, _, Way.start hs, by simp [Fs.start]⟩, fun q h => by
    have hq := (Way.start (nx := nx) hs).lt h
    rw [show listB (Fs.start N src L).done q = false from listB_rep hq] at h; cases h⟩
theorem Under.round {N : Net} {nx : Nat → Int → Int} {src : Nat} {L : Int} {s : St} (hN : Joined N) (hg : Good N nx) (hL : 0 ≤ L) (u : Under N nx src L s) (hn : nearest s ≠ -1) :
    Under N nx src L (oneRound N nx s) ∧ (∃ p : Nat, nearest s = p ∧ p < N.places.length ∧ listB s.done p = false ∧ (oneRound N nx s).done = s.done.set p true) := by
  obtain ⟨⟨rk, c, m, hc⟩, g⟩ := u
  have hnn := nearTo_is s s.labels.length
  have hne : nearTo s s.labels.length = nearest s := rfl
  rw [hne] at hnn
  rw [m.n1] at hnn
  rcases hnn with ⟨h, -⟩ | ⟨p, h1, h2, h3, h4, h5⟩
  · exact absurd h hn
  · obtain ⟨m1, m2, m3, m4⟩ := m.mark h2 h3 h4 h5
    unfold oneRound
    rw [h1]
    obtain ⟨r1, r2, r3, r4, r5⟩ := Way.relaxTo hN hg hL h2 m1 m2 m4 (fun q hq hqd => by
      have : listB (Fs.mark s p).done q = listB s.done q := by
        simp only [Fs.mark, Int.toNat_natCast, listB_set]
        rw [if_neg (fun hh => hq hh.1.symm)]
      rw [this] at hqd
      exact g q hqd) N.roads.length (Nat.le_refl _)
    refine ⟨⟨⟨_, _, r1, ?_⟩, fun q hq => ?_⟩, p, rfl, h2, h3, r2.trans (by simp [Fs.mark])⟩
    · have := count_mark (by rw [m.n3]; exact h2) h3
      rw [r2]
      show c + 1 + (s.done.set (p : Int).toNat true).count false = _
      rw [Int.toNat_natCast]
      omega
    by_cases e : q = p
    · subst e; exact r4
    · rw [r2] at hq; exact r5 q e hq
theorem Under.rounds {N : Net} {nx : Nat → Int → Int} {src : Nat} {L : Int} (hN : Joined N) (hg : Good N nx) (hL : 0 ≤ L) : ∀ (f : Nat) (s : St), Under N nx src L s → s.done.count false ≤ f → Under N nx src L (rounds N nx f s) ∧ nearest (rounds N nx f s) = -1 := by
  intro f
  induction f with
  | zero =>
    intro s u hf
    refine ⟨u, ?_⟩
    show nearest s = -1
    rcases Decidable.em (nearest s = -1) with h | h
    · exact h
    · obtain ⟨-, p, -, h2, h3, -⟩ := u.round hN hg hL h
      obtain ⟨⟨rk, c, m, -⟩, -⟩ := u
      have := count_mark (by rw [m.n3]; exact h2) h3
      omega
  | succ f ih =>
    intro s u hf
    rw [Fs.rounds]
    by_cases h : nearest s = -1
    · rw [if_pos h]; exact ⟨u, h⟩
    · rw [if_neg h]
      obtain ⟨u2, p, -, h2, h3, h4⟩ := u.round hN hg hL h
      obtain ⟨⟨rk, c, m, -⟩, -⟩ := u
      refine ih _ u2 ?_
      rw [h4]
      have := count_mark (by rw [m.n3]; exact h2) h3
      omega
theorem Under.done {N : Net} {nx : Nat → Int → Int} {src : Nat} {L : Int} (hN : Joined N) (hg : Good N nx) (hs : src < N.places.length) (hL : 0 ≤ L) : Under N nx src L (search N src L nx) ∧ nearest (search N src L nx) = -1 :=
  Under.rounds hN hg hL _ _ (Under.start hs) (by simp [Fs.start])

/-- What a search has found: labels of which each road's end's is no more than the step along it. -/
structure Found (N : Net) (nx : Nat → Int → Int) (src : Nat) (L : Int) (s : St) : Prop where
  n1 : s.labels.length = N.places.length
  n2 : s.last.length = N.places.length
  own : listI s.labels src = L
  least : ∀ z, z < N.places.length → listI s.labels z = -1 ∨ L ≤ listI s.labels z
  step : ∀ i, i < N.roads.length → listI s.labels (listD N.roads i).src.toNat ≠ -1 → listI s.labels (listD N.roads i).dst.toNat ≠ -1 ∧ listI s.labels (listD N.roads i).dst.toNat ≤ nx i (listI s.labels (listD N.roads i).src.toNat)
  first : listI s.last src = -1
  back : ∀ z, z < N.places.length → listI s.last z = -1 → z = src ∨ listI s.labels z = -1
  tree : ∃ rk : Nat → Nat, ∀ z, z < N.places.length → listI s.last z ≠ -1 → rk z < N.places.length ∧ ∃ i, i < N.roads.length ∧ listI s.last z = (i : Int) ∧ (listD N.roads i).dst = (z : Int) ∧ listI s.labels (listD N.roads i).src.toNat ≠ -1 ∧
    listI s.labels z = nx i (listI s.labels (listD N.roads i).src.toNat) ∧ rk (listD N.roads i).src.toNat < rk z
theorem search_found {N : Net} {nx : Nat → Int → Int} {src : Nat} {L : Int} (hN : Joined N) (hg : Good N nx) (hs : src < N.places.length) (hL : 0 ≤ L) : Found N nx src L (search N src L nx) := by
  obtain ⟨⟨⟨rk, c, m, hc⟩, g⟩, hn⟩ := Under.done (nx := nx) hN hg hs hL
  generalize search N src L nx = s at *
  have hnn := nearTo_is s s.labels.length
  rw [show nearTo s s.labels.length = nearest s from rfl, m.n1] at hnn
  have hd : ∀ z, z < N.places.length → listI s.labels z ≠ -1 → listB s.done z = true := fun z hz hl => by
    rcases hnn with ⟨-, h⟩ | ⟨p, h, -⟩
    · cases hb : listB s.done z with
      | true => rfl
      | false => exact absurd (h z hz hb) hl
    · rw [hn] at h; omega
  refine ⟨m.n1, m.n2, m.own, m.least, fun i hi hl => ?_, m.first, m.back, rk, fun z hz h => ?_⟩
  · obtain ⟨⟨s0, s1⟩, -⟩ := hN i hi
    exact g (listD N.roads i).src.toNat (hd _ (by omega) hl) i hi (Int.toNat_of_nonneg s0).symm
  · obtain ⟨i, h1, h2, h3, h4, h5, h6⟩ := m.by_ z hz h
    obtain ⟨⟨s0, s1⟩, -⟩ := hN i h1
    have hls := m.met _ (by omega) h4
    have hlz : listI s.labels z ≠ -1 := ?_
    refine ⟨by have := m.rank z (hd z hz hlz); omega, i, h1, h2, h3, hls, h5, h6 (hd z hz hlz)⟩
    rw [h5]
    have h0 : L ≤ listI s.labels (listD N.roads i).src.toNat := (m.least _ (show (listD N.roads i).src.toNat < _ by omega)).resolve_left hls
    have := hg.up i _ h1 (show 0 ≤ listI s.labels (listD N.roads i).src.toNat by omega)
    omega

end Go.Proofs.Ytjmaankkbdpikaa.Fs
/- The steps along roads as function values, the first of several errors, the errors of places. Conditions: the net is right, labels are small. -/
namespace Go.Proofs.Ytjmaankkbdpikaa
open Go.RowKit Fs

/-! ### what a right net has -/
theorem Fs.net_sound {N : Net} (h : netErr N = 0) : N.places.length ≠ 0 ∧ N.places.length ≤ 20 ∧ N.roads.length ≤ 60 ∧ ∀ i, i < N.roads.length → (errRoad N i).2 = 0 := by
  unfold netErr checkNet at h
  by_cases h0 : N.places.length = 0
  · rw [if_pos h0] at h; cases h
  · rw [if_neg h0] at h
    by_cases h1 : 20 < N.places.length
    · rw [if_pos h1] at h; cases h
    · rw [if_neg h1] at h
      by_cases h2 : fst (errName (listS N.places)) N.places.length ≠ 0
      · rw [if_pos h2] at h; exact absurd h h2
      · rw [if_neg h2] at h
        by_cases h3 : 60 < N.roads.length
        · rw [if_pos h3] at h; cases h
        · rw [if_neg h3] at h
          by_cases h4 : fst (fun i => (errRoad N i).2) N.roads.length ≠ 0
          · rw [if_pos h4] at h; exact absurd h h4
          · exact ⟨h0, by omega, by omega, fst_zero (Decidable.not_not.1 h4)⟩
structure Fs.RoadOk (N : Net) (r : Rd) : Prop where
  src : 0 ≤ r.src ∧ r.src < N.places.length
  dst : 0 ≤ r.dst ∧ r.dst < N.places.length
  metres : 0 ≤ r.metres ∧ r.metres ≤ 100000
  pts : PtsOk r.pts
theorem Fs.road_sound {N : Net} {i : Nat} (h : (errRoad N i).2 = 0) : RoadOk N (listD N.roads i) := by
  unfold errRoad at h
  by_cases h0 : errName (fun j => (listD N.roads j).name) i ≠ 0
  · rw [if_pos h0] at h; exact absurd h h0
  · rw [if_neg h0] at h
    by_cases h1 : errForm N (listD N.roads i) ≠ 0
    · rw [if_pos h1] at h; exact absurd h h1
    · rw [if_neg h1] at h
      have h1 := Decidable.not_not.1 h1
      unfold errForm at h1
      cases hp : (isPlace N (listD N.roads i).src && isPlace N (listD N.roads i).dst) with
      | false => rw [hp] at h1; cases h1
      | true =>
        rw [hp, if_neg (by decide)] at h1
        rw [Bool.and_eq_true] at hp
        by_cases e1 : (listD N.roads i).src = (listD N.roads i).dst
        · rw [if_pos e1] at h1; cases h1
        · rw [if_neg e1] at h1
          cases hm : within (listD N.roads i).metres 0 100000 with
          | false => rw [hm] at h1; cases h1
          | true =>
            rw [hm, if_neg (by decide)] at h1
            by_cases e2 : (listD N.roads i).pts.length = 0
            · rw [if_pos e2] at h1; cases h1
            · rw [if_neg e2] at h1
              by_cases e3 : 8 < (listD N.roads i).pts.length
              · rw [if_pos e3] at h1; cases h1
              · have a := Fs.within_iff.1 (show within _ _ _ = true from hp.1)
                have b := Fs.within_iff.1 (show within _ _ _ = true from hp.2)
                refine ⟨by omega, by omega, Fs.within_iff.1 hm, e2, by omega, ?_⟩
                unfold errPoints at h
                by_cases e4 : fst (errPoint (listD N.roads i).pts) (listD N.roads i).pts.length ≠ 0
                · rw [if_pos e4] at h; exact absurd h e4
                · exact fst_zero (Decidable.not_not.1 e4)
theorem Fs.net_roads_ok {N : Net} (h : netErr N = 0) : ∀ i, i < N.roads.length → RoadOk N (listD N.roads i) := fun i hi => road_sound ((net_sound h).2.2.2 i hi)
theorem Fs.net_joined {N : Net} (h : netErr N = 0) : Joined N := fun i hi => ⟨(net_roads_ok h i hi).src, (net_roads_ok h i hi).dst⟩
/-- Steps that add from 0 to 100000. -/
def Fs.Small (N : Net) (nx : Nat → Int → Int) : Prop := ∀ i x, i < N.roads.length → 0 ≤ x → x ≤ nx i x ∧ nx i x ≤ x + 100000
theorem Fs.further_small {N : Net} (h : netErr N = 0) : Small N (further N) := fun i x hi hx => by
  have := (net_roads_ok h i hi).metres
  unfold further
  omega
theorem Fs.soonest_small {N : Net} (h : netErr N = 0) : Small N (soonest N) := fun i x hi hx => by
  have := (takesAt_is (net_roads_ok h i hi).pts x).1
  unfold soonest
  omega
theorem Fs.latest_small {N : Net} (h : netErr N = 0) : Small N (latest N) := fun i x hi hx => by
  have := (takesAt_is (net_roads_ok h i hi).pts x).2
  unfold latest
  omega
theorem Fs.further_good {N : Net} (h : netErr N = 0) : Good N (further N) :=
  ⟨fun i x hi hx => (further_small h i x hi hx).1, fun i x y hi hx hy => by unfold further; omega⟩

/-! ### the steps -/
/-- The function K with the variable g steps along the net's roads as nx says, as long as what is below w's end is as it was. -/
def Steps (N : Net) (nx : Nat → Int → Int) (K g : Nat) (w : World) : Prop :=
  ∀ w', Below w.heap.size w w' → ∀ (i : Nat) (x : Int), i < N.roads.length → 0 ≤ x → x ≤ 1000000000000000000 → Calls Try.prog K #[.int .i64 i, .int .i64 x, .pointer (some ⟨g, 0, none⟩)] w' fun e w'' => e = .returned (.int .i64 (nx i x)) ∧ Below w'.heap.size w' w''
theorem Steps.below {N : Net} {nx : Nat → Int → Int} {K g : Nat} {w w' : World} (h : Steps N nx K g w) (hb : Below w.heap.size w w') : Steps N nx K g w' :=
  fun w'' hb2 i x hi hx hx2 => h w'' (hb.trans (hb2.mono hb.size)) i x hi hx hx2
set_option maxHeartbeats 800000 in
set_option maxRecDepth 100000 in
theorem soonest_step (N : Net) (P R : Option Addr) (pc rc g : Nat) (a : DA) (w : World) (hB : BoxN w g N P R pc rc) (hR : ArrD w R N.roads rc a) (hN : netErr N = 0) : Steps N (soonest N) 49 g w := by
  intro w' hb i x hi hx hx2
  obtain ⟨n0, n1⟩ := hB.keep (Keep.below hb)
  have hr := hR.keep (Keep.below hb)
  obtain ⟨b, o, rfl, q⟩ := hr.at_ hi
  have c4 := q.c4
  have b1 := hR.le.1
  have b2 := hR.le.2
  have p := (net_roads_ok hN i hi).pts
  have m := (takesAt_is p x).1
  have HP := Lib.hid p
  have HR := Lib.hid (hr.2 i hi)
  clear q p hr hR
  have hfd : ∀ w : World, (Instr.field 36 (.agg #[.int .i64 (takesAt (listD N.roads i).pts x).1, .int .i64 (takesAt (listD N.roads i).pts x).2]) 0).run Try.prog w = .ok (.int .i64 (takesAt (listD N.roads i).pts x).1) w := fun _ => by kernel_rfl
  go_enter Try.func49, Try.ntmps49
  go_wp2_with (go_at_call 50; refine (takesAt_any (listD N.roads i).pts _ _ x _ HR.out HP.out hx).mono ?_; rintro e w1 ⟨rfl, hb1⟩)
  go_ret
  exact ⟨rfl, hb1⟩
set_option maxHeartbeats 800000 in
set_option maxRecDepth 100000 in
theorem latest_step (N : Net) (P R : Option Addr) (pc rc g : Nat) (a : DA) (w : World) (hB : BoxN w g N P R pc rc) (hR : ArrD w R N.roads rc a) (hN : netErr N = 0) : Steps N (latest N) 51 g w := by
  intro w' hb i x hi hx hx2
  obtain ⟨n0, n1⟩ := hB.keep (Keep.below hb)
  have hr := hR.keep (Keep.below hb)
  obtain ⟨b, o, rfl, q⟩ := hr.at_ hi
  have c4 := q.c4
  have b1 := hR.le.1
  have b2 := hR.le.2
  have p := (net_roads_ok hN i hi).pts
  have m := (takesAt_is p x).2
  have HP := Lib.hid p
  have HR := Lib.hid (hr.2 i hi)
  clear q p hr hR
  have hfd : ∀ w : World, (Instr.field 36 (.agg #[.int .i64 (takesAt (listD N.roads i).pts x).1, .int .i64 (takesAt (listD N.roads i).pts x).2]) 1).run Try.prog w = .ok (.int .i64 (takesAt (listD N.roads i).pts x).2) w := fun _ => by kernel_rfl
  go_enter Try.func51, Try.ntmps51
  go_wp2_with (go_at_call 50; refine (takesAt_any (listD N.roads i).pts _ _ x _ HR.out HP.out hx).mono ?_; rintro e w1 ⟨rfl, hb1⟩)
  go_ret
  exact ⟨rfl, hb1⟩
/-- A function value that steps. -/
def StepV (N : Net) (nx : Nat → Int → Int) (v : Value) (w : World) : Prop := ∃ K g, v = .func (.func K) #[] #[.pointer (some ⟨g, 0, none⟩)] ∧ (∀ (args : Array Value) (w : World), (callFunc K args).run Try.prog w = .ok (.enter K args) w) ∧ Steps N nx K g w
theorem StepV.below {N : Net} {nx : Nat → Int → Int} {v : Value} {w w' : World} (h : StepV N nx v w) (hb : Below w.heap.size w w') : StepV N nx v w' := by
  obtain ⟨K, g, hv, hc, hs⟩ := h
  exact ⟨K, g, hv, hc, hs.below hb⟩
set_option maxHeartbeats 400000 in
theorem soonest_any (N : Net) (v : Value) (w : World) (hN : RdNet w v N) (hE : netErr N = 0) :
    Calls Try.prog 31 #[v] w fun e w' => ∃ f, e = .returned f ∧ StepV N (soonest N) f w' ∧ Below w.heap.size w w' := by
  obtain ⟨P, R, pc, rc, a, rfl, m⟩ := hN
  have HS : Hid (StepV N (soonest N) (.func (.func 49) #[] #[.pointer (some ⟨w.heap.size, 0, none⟩)]) (w.alloc (.cells #[.slice P N.places.length pc, .slice R N.roads.length rc] 25))) :=
    Lib.hid ⟨_, _, rfl, fun args w => by kernel_rfl, soonest_step N P R pc rc _ a _ (BoxN.new w N P R pc rc _) (m.roads.keep (Keep.alloc _ _)) hE⟩
  clear m
  go_enter Try.func31, Try.ntmps31
  go_wp2
  go_ret
  exact ⟨_, rfl, HS.out, (Below.refl _ _).alloc (Nat.le_refl _) _⟩
set_option maxHeartbeats 400000 in
theorem latest_any (N : Net) (v : Value) (w : World) (hN : RdNet w v N) (hE : netErr N = 0) :
    Calls Try.prog 32 #[v] w fun e w' => ∃ f, e = .returned f ∧ StepV N (latest N) f w' ∧ Below w.heap.size w w' := by
  obtain ⟨P, R, pc, rc, a, rfl, m⟩ := hN
  have HS : Hid (StepV N (latest N) (.func (.func 51) #[] #[.pointer (some ⟨w.heap.size, 0, none⟩)]) (w.alloc (.cells #[.slice P N.places.length pc, .slice R N.roads.length rc] 25))) :=
    Lib.hid ⟨_, _, rfl, fun args w => by kernel_rfl, latest_step N P R pc rc _ a _ (BoxN.new w N P R pc rc _) (m.roads.keep (Keep.alloc _ _)) hE⟩
  clear m
  go_enter Try.func32, Try.ntmps32
  go_wp2
  go_ret
  exact ⟨_, rfl, HS.out, (Below.refl _ _).alloc (Nat.le_refl _) _⟩

/-! ### errors -/
set_option maxHeartbeats 400000 in
theorem firstError_any (l : List Int) (A : Option Addr) (c : Nat) (w : World) (h : ArrI w A l c) :
    Calls Try.prog 21 #[.slice A l.length c] w fun e w' => e = .returned (.int .i64 (fst (listI l) l.length)) ∧ w = w' := by
  have b1 := h.le.1
  have b2 := h.le.2
  go_enter Try.func21, Try.ntmps21
  go_wp2
  go_loop [7] (fun i => ∃ k : Nat, k ≤ l.length ∧ i = .int .i64 k ∧ Hid (∀ j, j < k → listI l j = 0)) (fun i => l.length - (intOf i).toNat)
  case atStart => exact ⟨0, Nat.zero_le _, rfl, fun j hj => absurd hj (Nat.not_lt_zero _)⟩
  case round =>
    obtain ⟨k, hk, rfl, Hn⟩ := hrel
    by_cases hlt : k < l.length
    · obtain ⟨b, o, rfl, hc⟩ := h.at_ hlt
      by_cases h0 : listI l k = 0
      · have F : Hid (∀ j, j < k + 1 → listI l j = 0) := fun j hj => by
          by_cases e : j = k
          · subst e; exact h0
          · exact Hn.out j (by omega)
        have d0 : (listI l k == 0) = true := by simpa using h0
        clear h0
        go_wp2
        go_round
        case rel => exact ⟨k + 1, by omega, by go_num, F⟩
        case measure => simp [intOf]; omega
      · have F := Lib.hid (fst_hit hlt Hn.out h0).1
        have d0 : (listI l k == 0) = false := by simpa using h0
        clear h0
        go_wp2
        go_ret
        exact ⟨ret_int F.out.symm, rfl⟩
    · have F := Lib.hid (show fst (listI l) l.length = 0 from fst_none fun j hj => Hn.out j (by omega))
      go_wp2
      go_ret
      exact ⟨ret_int F.out.symm, rfl⟩
def Fs.placesErr (N : Net) (l : List Int) : Int := fst (fun i => if isPlace N (listI l i) then 0 else 6) l.length
set_option maxHeartbeats 800000 in
theorem placesErr_any (N : Net) (v : Value) (l : List Int) (A : Option Addr) (c : Nat) (w : World) (hN : RdNet w v N) (h : ArrI w A l c) :
    Calls Try.prog 42 #[v, .slice A l.length c] w fun e w' => e = .returned (.int .i64 (placesErr N l)) ∧ Below w.heap.size w w' := by
  have hN0 := Lib.hid hN
  obtain ⟨P, R, pc, rc, a, rfl, m⟩ := hN
  clear m
  have b1 := h.le.1
  have b2 := h.le.2
  have BN := Lib.hid (BoxN.new w N P R pc rc 25)
  go_enter Try.func42, Try.ntmps42
  go_upto_region 1 with fail
  generalize hwb : w.alloc _ = wb at *
  have HW : Hid (Below w.heap.size w wb) := by rw [← hwb]; exact Lib.hid ((Below.refl _ _).alloc (Nat.le_refl _) _)
  clear hwb
  go_wp2_with fail
  go_loopw [9] (fun i wr => ∃ k : Nat, k ≤ l.length ∧ i = .int .i64 k ∧ Hid (∀ j, j < k → isPlace N (listI l j) = true) ∧ Hid (Below wb.heap.size wb wr)) (fun i _ => l.length - (intOf i).toNat)
  case atStart => exact ⟨0, Nat.zero_le _, rfl, fun j hj => absurd hj (Nat.not_lt_zero _), Lib.hid (Below.refl _ _)⟩
  case round =>
    obtain ⟨k, hk, rfl, Hn, HB⟩ := hrel
    have HX := Lib.hid (HW.out.trans (HB.out.mono HW.out.size))
    obtain ⟨n0, n1⟩ := BN.out.keep (Keep.below HB.out)
    by_cases hlt : k < l.length
    · obtain ⟨b, o, rfl, hc⟩ := (h.keep (Keep.below HX.out)).at_ hlt
      cases hp : isPlace N (listI l k) with
      | true =>
        have F : Hid (∀ j, j < k + 1 → isPlace N (listI l j) = true) := fun j hj => by
          by_cases e : j = k
          · subst e; exact hp
          · exact Hn.out j (by omega)
        have Z := Lib.hid hp
        clear hp
        go_wp2_with (go_at_call 62; refine (isPlace_any N _ _ _ (hN0.out.keep (Keep.below HX.out))).mono ?_; rintro e w1 ⟨rfl, hb1⟩; rw [Z.out])
        go_roundw
        case rel => exact ⟨k + 1, by omega, by go_num, F, Lib.hid (HB.out.trans (hb1.mono HB.out.size))⟩
        case measure => simp [intOf]; omega
      | false =>
        have F := Lib.hid (show placesErr N l = 6 from (fst_hit (f := fun i => if isPlace N (listI l i) then 0 else 6) hlt (fun j hj => by rw [if_pos (Hn.out j hj)]) (by rw [hp]; decide)).1.trans (by rw [hp]; rfl))
        have Z := Lib.hid hp
        clear hp
        go_wp2_with (go_at_call 62; refine (isPlace_any N _ _ _ (hN0.out.keep (Keep.below HX.out))).mono ?_; rintro e w1 ⟨rfl, hb1⟩; rw [Z.out])
        go_ret
        exact ⟨ret_int F.out.symm, HX.out.trans (hb1.mono HX.out.size)⟩
    · have F := Lib.hid (show placesErr N l = 0 from fst_none fun j hj => by rw [if_pos (Hn.out j (by omega))])
      go_wp2
      go_ret
      exact ⟨ret_int F.out.symm, HX.out⟩
end Go.Proofs.Ytjmaankkbdpikaa
/- The library's product of two words and its reversal of numbers, tied to this program's numbers (laid by the library's own command). -/
namespace Go.Proofs.Ytjmaankkbdpikaa
open Go.Shelf
def mulLays_ren : Go.Shelf.Ren := ⟨fun | 212 => 75 | 263 => 83 | 264 => 84 | n => n, fun | 46 => 108 | 51 => 135 | 146 => 136 | 53 => 138 | 148 => 139 | n => n, fun | n => n⟩
theorem mulLays : Go.Proofs.Lays.n212 Try.prog mulLays_ren := {
  mixed := by kernel_rfl
  f212 := Try.func75.trans (congrArg some (by kernel_rfl))
  f263 := Try.func83.trans (congrArg some (by kernel_rfl))
  f264 := Try.func84.trans (congrArg some (by kernel_rfl))
  t46 := Try.underlying108
  a46 := Try.isAgg108
  z46 := Try.sizeOf108
  v46 := Try.zeroValue108
  t51 := Try.underlying135
  a51 := Try.isAgg135
  z51 := Try.sizeOf135
  v51 := Try.zeroValue135
  t53 := Try.underlying138
  a53 := Try.isAgg138
  z53 := Try.sizeOf138
  v53 := Try.zeroValue138
  t146 := Try.underlying136
  a146 := Try.isAgg136
  z146 := Try.sizeOf136
  v146 := Try.zeroValue136
  t148 := Try.underlying139
  a148 := Try.isAgg139
  z148 := Try.sizeOf139
  v148 := Try.zeroValue139 }
open Go.RowKit Go.Lib in
theorem mul_any (x y : Nat) (hx : x < 18446744073709551616) (hy : y < 18446744073709551616) (w : World) :
    Calls Try.prog 75 #[.int .u64 x, .int .u64 y] w fun e w' => e = .returned (.tuple #[.int .u64 ((x * y / 18446744073709551616 : Nat) : Int), .int .u64 ((x * y % 18446744073709551616 : Nat) : Int)]) ∧ w' = w := Any.bits_Mul mulLays x y hx hy w
def revLays_ren : Go.Shelf.Ren := ⟨fun | 112 => 54 | n => n, fun | 28 => 48 | 3 => 3 | 4 => 4 | 0 => 0 | n => n, fun | n => n⟩
theorem revLays : Go.Proofs.Lays.n112 Try.prog revLays_ren := {
  mixed := by kernel_rfl
  f112 := Try.func54.trans (congrArg some (by kernel_rfl))
  t0 := Try.underlying0
  a0 := Try.isAgg0
  z0 := Try.sizeOf0
  v0 := Try.zeroValue0
  t3 := Try.underlying3
  a3 := Try.isAgg3
  z3 := Try.sizeOf3
  v3 := Try.zeroValue3
  t4 := Try.underlying4
  a4 := Try.isAgg4
  z4 := Try.sizeOf4
  v4 := Try.zeroValue4
  t28 := Try.underlying48
  a28 := Try.isAgg48
  z28 := Try.sizeOf48
  v28 := Try.zeroValue48 }
open Go.RowKit Go.Lib Go.Sort in
theorem reverse_empty (a : Option Addr) (cap : Nat) (w : World) :
    Calls Try.prog 54 #[.slice a 0 cap] w fun e w' => e = .returned (.tuple #[]) ∧ w' = w := Any.slices_Reverse_int_empty revLays a cap w
open Go.RowKit Go.Lib Go.Sort in
theorem reverse_any (blk off cap : Nat) (zs : List Int) (w : World) (hH : Holds (Value.int .i64) w blk off zs.toArray) (hsz : zs.length ≤ 9223372036854775807) :
    Calls Try.prog 54 #[.slice (some ⟨blk, off, none⟩) zs.length cap] w fun e w' => e = .returned (.tuple #[]) ∧ ∃ n, w' = putRow (Value.int .i64) (Sort.ahead w n) blk off zs.reverse.toArray := Any.slices_Reverse_int revLays blk off cap zs w hH hsz
end Go.Proofs.Ytjmaankkbdpikaa

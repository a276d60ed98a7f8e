/- Chains: their first error, how it stands with an item on a day. Condition: the table of states is as its initialiser lays it. -/
import Derived.Test.YtfjdnbnalihjiaaGreatDoorK9
import Derived.Test.YtfjdnbnalihjiaaGreatDoorG11
import Derived.Test.YtfjdnbnalihjiaaGreatDoorK8
import Derived.Test.YtfjdnbnalihjiaaGreatDoorRP
namespace Go.Proofs.YtfjdnbnalihjiaaGreatDoor
open Go.RowKit Fs

def Fs.standTo (x : Thg) (l : List Evt) : Nat → Std
  | 0 => begunS x
  | k + 1 => nextS (standTo x l k) (lEvt l k)
/-- What a right event is. -/
structure Fs.EvtOk (x : Thg) (l : List Evt) (k : Nat) : Prop where
  day : 0 ≤ (lEvt l k).day ∧ (lEvt l k).day ≤ 100000
  kind : 0 ≤ (lEvt l k).kind ∧ (lEvt l k).kind ≤ 4
  first : (lEvt l k).kind = 0 ↔ k = 0
theorem Fs.evtAt_ok {x : Thg} {l : List Evt} {k : Nat} (h : evtAt x l k = 0) : EvtOk x l k := by
  unfold evtAt at h
  by_cases h1 : (lEvt l k).item ≠ x.name
  · rw [if_pos h1] at h; exact absurd h (by decide)
  rw [if_neg h1] at h
  by_cases h2 : isDay (lEvt l k).day = false
  · rw [if_pos h2] at h; exact absurd h (by decide)
  rw [if_neg h2] at h
  by_cases h3 : within (lEvt l k).kind 0 4 = false
  · rw [if_pos h3] at h; exact absurd h (by decide)
  rw [if_neg h3] at h
  by_cases h4 : isName (lEvt l k).src = false ∨ isName (lEvt l k).dst = false
  · rw [if_pos h4] at h; exact absurd h (by decide)
  rw [if_neg h4] at h
  by_cases h5 : (lEvt l k).day < dayOf x l k
  · rw [if_pos h5] at h; exact absurd h (by decide)
  rw [if_neg h5] at h
  by_cases h6 : ((lEvt l k).kind = 0 ↔ k ≠ 0) ∨ endedOf l k = true
  · rw [if_pos h6] at h; exact absurd h (by decide)
  have i2 := Fs.within_iff.1 (show within (lEvt l k).day 0 100000 = true by simpa [isDay] using h2)
  have i3 := Fs.within_iff.1 (show within (lEvt l k).kind 0 4 = true by simpa using h3)
  refine ⟨i2, i3, ?_⟩
  by_cases a : (lEvt l k).kind = 0 <;> by_cases b : k = 0
  · exact ⟨fun _ => b, fun _ => a⟩
  · exact absurd (Or.inl ⟨fun _ => b, fun _ => a⟩) h6
  · exact absurd (Or.inl ⟨fun hh => absurd hh a, fun hh => absurd b hh⟩) h6
  · exact ⟨fun hh => absurd hh a, fun hh => absurd hh b⟩
theorem Fs.stB_pos (n : Nat) : stB n ≠ 0 := by
  unfold stB; split <;> decide
theorem Fs.stB_is {κ : Int} (h : 0 ≤ κ ∧ κ ≤ 4) : (stB κ.toNat ≠ 1) ↔ 2 ≤ κ := by
  obtain ⟨h0, h4⟩ := h
  have : κ = 0 ∨ κ = 1 ∨ κ = 2 ∨ κ = 3 ∨ κ = 4 := by omega
  rcases this with e | e | e | e | e <;> subst e <;> decide
theorem Fs.stB_state {κ : Int} (h : 0 ≤ κ ∧ κ ≤ 4) : stB κ.toNat = if κ = 2 then 2 else if κ = 3 then 3 else if κ = 4 then 4 else 1 := by
  obtain ⟨h0, h4⟩ := h
  have : κ = 0 ∨ κ = 1 ∨ κ = 2 ∨ κ = 3 ∨ κ = 4 := by omega
  rcases this with e | e | e | e | e <;> subst e <;> decide
structure Fs.StOk (x : Thg) (l : List Evt) (k : Nat) : Prop where
  holder : (standTo x l k).holder = holderOf x l k
  day : (standTo x l k).day = dayOf x l k
  state0 : k = 0 → (standTo x l k).state = 0
  state1 : 0 < k → (standTo x l k).state = stB (lEvt l (k - 1)).kind.toNat
  stored : 0 < k → (standTo x l k).stored = (lEvt l 0).day
theorem Fs.st_ok {x : Thg} {l : List Evt} : ∀ {k : Nat}, (∀ j, j < k → EvtOk x l j) → StOk x l k
  | 0, _ => ⟨rfl, rfl, fun _ => rfl, fun h => absurd h (Nat.lt_irrefl _), fun h => absurd h (Nat.lt_irrefl _)⟩
  | k + 1, h => by
    have ih := st_ok (k := k) fun j hj => h j (by omega)
    refine ⟨?_, ?_, fun hh => absurd hh (by omega), fun _ => ?_, fun _ => ?_⟩
    · unfold holderOf; rw [if_neg (by omega)]; rfl
    · unfold dayOf; rw [if_neg (by omega)]; rfl
    · rfl
    · show (if (lEvt l k).kind = 0 then (lEvt l k).day else (standTo x l k).stored) = _
      by_cases e : k = 0
      · subst e; rw [if_pos ((h 0 (by omega)).first.2 rfl)]
      · rw [if_neg (fun hh => e ((h k (by omega)).first.1 hh)), ih.stored (by omega)]
theorem Fs.StOk.zero {x : Thg} {l : List Evt} {k : Nat} (h : StOk x l k) : (standTo x l k).state = 0 ↔ k = 0 := by
  constructor
  · intro e
    apply Classical.byContradiction
    intro hn
    rw [h.state1 (by omega)] at e
    exact stB_pos _ e
  · exact h.state0
theorem Fs.StOk.done {x : Thg} {l : List Evt} {k : Nat} (h : StOk x l k) (hk : ∀ j, j < k → EvtOk x l j) : doneS (standTo x l k) = endedOf l k := by
  unfold doneS endedOf
  by_cases e : k = 0
  · rw [if_pos e, h.state0 e]; rfl
  · rw [if_neg e, h.state1 (by omega), decide_eq_true (p := stB _ ≠ 0) (stB_pos _), Bool.true_and]
    unfold isDone
    exact decide_eq_decide.2 (stB_is (hk (k - 1) (by omega)).kind)
theorem Fs.wrap_day {a b : Int} (ha : 0 ≤ a ∧ a ≤ 100000) (hb : 0 ≤ b ∧ b ≤ 100000) : IntKind.i64.wrap (a - b) = a - b := by rw [IntKind.wrap_i64]; omega
theorem Fs.StOk.right {x : Thg} {l : List Evt} {k : Nat} (h : StOk x l k) (hk : ∀ j, j < k → EvtOk x l j) {day : Int} (hd : 0 ≤ day ∧ day ≤ 100000) :
    rightD (standTo x l k) (IntKind.i64.wrap (day - (standTo x l k).stored)) = rightOf l k day := by
  unfold rightD rightOf
  rw [h.done hk]
  unfold endedOf
  by_cases e : k = 0
  · rw [if_pos e, if_pos e, if_neg (by decide), if_pos (Or.inl (h.state0 e))]
  · rw [if_neg e, if_neg e, h.stored (by omega), wrap_day hd (hk 0 (by omega)).day]
    have hs : ¬ (standTo x l k).state = 0 := fun hh => e (h.zero.1 hh)
    by_cases h2 : isDone (lEvt l (k - 1)).kind = true
    · rw [if_pos h2, if_pos h2]
    · rw [if_neg h2, if_neg h2]
      by_cases h3 : day - (lEvt l 0).day ≤ 180
      · rw [if_pos (Or.inr h3), if_pos h3]
      · rw [if_neg (fun hh => hh.elim hs h3), if_neg h3]
theorem Fs.StOk.state {x : Thg} {l : List Evt} {k : Nat} (h : StOk x l k) (hk : ∀ j, j < k → EvtOk x l j) : (standTo x l k).state = stateOf l k := by
  unfold stateOf
  by_cases e : k = 0
  · rw [if_pos e, h.state0 e]
  · rw [if_neg e, h.state1 (by omega), stB_state (hk (k - 1) (by omega)).kind]
def Fs.chF (x : Thg) (l : List Evt) (i : Nat) : Int := fst (listI [evtE x (lEvt l i), nextE (standTo x l i) x (lEvt l i)]) 2
theorem Fs.chF_is {x : Thg} {l : List Evt} {i : Nat} (h : ∀ j, j < i → evtAt x l j = 0) : chF x l i = evtAt x l i := by
  have hk : ∀ j, j < i → EvtOk x l j := fun j hj => evtAt_ok (h j hj)
  have S := st_ok hk
  unfold chF evtAt
  rw [gfst_two]
  by_cases h1 : (lEvt l i).item ≠ x.name
  · have : evtE x (lEvt l i) = 6 := by unfold evtE; rw [if_pos h1]
    rw [this, if_pos h1]; rfl
  rw [if_neg h1]
  by_cases h2 : isDay (lEvt l i).day = false
  · have : evtE x (lEvt l i) = 2 := by unfold evtE; rw [if_neg h1, if_pos h2]
    rw [this, if_pos h2]; rfl
  rw [if_neg h2]
  by_cases h3 : within (lEvt l i).kind 0 4 = false
  · have : evtE x (lEvt l i) = 15 := by unfold evtE; rw [if_neg h1, if_neg h2, if_pos h3]
    rw [this, if_pos h3]; rfl
  rw [if_neg h3]
  by_cases h4 : isName (lEvt l i).src = false ∨ isName (lEvt l i).dst = false
  · have : evtE x (lEvt l i) = 4 := by unfold evtE; rw [if_neg h1, if_neg h2, if_neg h3, if_pos h4]
    rw [this, if_pos h4]; rfl
  rw [if_neg h4]
  have e0 : evtE x (lEvt l i) = 0 := by unfold evtE; rw [if_neg h1, if_neg h2, if_neg h3, if_neg h4]
  rw [e0, if_neg (fun hh => hh rfl)]
  have i2 := Fs.within_iff.1 (show within (lEvt l i).day 0 100000 = true by simpa [isDay] using h2)
  unfold nextE
  rw [S.day, S.holder, S.done hk, S.right hk i2]
  have hiff : (¬ ((lEvt l i).kind = 0 ↔ (standTo x l i).state = 0)) ↔ ((lEvt l i).kind = 0 ↔ i ≠ 0) := by
    have z := S.zero
    generalize (standTo x l i).state = u at z ⊢
    generalize (lEvt l i).kind = κ
    by_cases a : κ = 0 <;> by_cases b : i = 0
    · have c : u = 0 := z.2 b
      simp [a, b, c]
    · have c : ¬ u = 0 := fun hh => b (z.1 hh)
      simp [a, b, c]
    · have c : u = 0 := z.2 b
      simp [a, b, c]
    · have c : ¬ u = 0 := fun hh => b (z.1 hh)
      simp [a, b, c]
  simp only [hiff]
theorem fst_alike {f g : Nat → Int} {n : Nat} (h : ∀ i, i < n → (∀ j, j < i → g j = 0) → f i = g i) : fst f n = fst g n ∧ idx f n = idx g n := by
  by_cases hz : ∃ k, k < n ∧ g k ≠ 0 ∧ ∀ j, j < k → g j = 0
  · obtain ⟨k, hk, hne, h0⟩ := hz
    have hf : ∀ j, j < k → f j = 0 := fun j hj => (h j (by omega) fun i hi => h0 i (by omega)).trans (h0 j hj)
    have hfk : f k = g k := h k hk h0
    obtain ⟨a, b⟩ := fst_hit hk h0 hne
    obtain ⟨c, d⟩ := fst_hit (f := f) hk hf (by rw [hfk]; exact hne)
    exact ⟨by rw [a, c, hfk], by rw [b, d]⟩
  · have h0 : ∀ k, k < n → g k = 0 := by
      intro k
      induction k using Nat.strongRecOn with
      | ind k ih =>
        intro hk
        apply Classical.byContradiction
        intro hne
        exact hz ⟨k, hk, hne, fun j hj => ih j hj (by omega)⟩
    have hf : ∀ k, k < n → f k = 0 := fun k hk => (h k hk fun j hj => h0 j (by omega)).trans (h0 k hk)
    exact ⟨by rw [fst_none h0, fst_none hf], by rw [idx_none h0, idx_none hf]⟩
set_option linter.unusedSimpArgs false in
set_option maxHeartbeats 12800000 in
set_option maxRecDepth 100000 in
theorem xListS_any (K : Nat) (p q r : Value) (n most : Nat) (f : Nat → Int) (I : Nat → World → Prop) (B : Nat) (w : World) (hI : I 0 w) (hn : n ≤ 9223372036854775807) (hm : most ≤ 1000000) (hcall : ∀ (args : Array Value) (w : World), (callFunc K args).run Tryz.prog w = .ok (.enter K args) w)
    (hf : ∀ w', Below B w w' → ∀ i : Nat, i < n → (∀ j, j < i → f j = 0) → I i w' → Calls Tryz.prog K #[.int .i64 i, p, q, r] w' fun e w'' => e = .returned (.int .i64 (f i)) ∧ Below B w' w'' ∧ (f i = 0 → I (i + 1) w'')) :
    Calls Tryz.prog 76 #[.int .i64 n, .int .i64 most, .func (.func K) #[] #[p, q, r]] w fun e w' => e = .returned (.tuple #[.int .i64 (gmanyAt n most f : Nat), .int .i64 (gmanyErr n most f)]) ∧ Below B w w' := by
  have HCALL := Lib.hid hcall
  have HF := Lib.hid hf
  have HI := Lib.hid hI
  clear hcall hf hI
  go_enter Tryz.func76, Tryz.ntmps76
  by_cases h40 : most < n
  · have G1 := Lib.hid (show gmanyErr n most f = 8 from if_pos h40)
    have G2 := Lib.hid (show gmanyAt n most f = 0 from if_pos h40)
    have d1 : decide ((n : Int) > (most : Int)) = true := decide_eq_true (by omega)
    have d2 : decide ((most : Int) < (n : Int)) = true := decide_eq_true (by omega)
    go_wp2_with fail
    go_ret2
    exact ⟨by rw [G1.out, G2.out]; rfl, Below.refl _ _⟩
  · have G1 := Lib.hid (show gmanyErr n most f = fst f n from if_neg h40)
    have G2 := Lib.hid (show gmanyAt n most f = idx f n from if_neg h40)
    have hnm : n ≤ 1000000 := by omega
    have d1 : decide ((n : Int) > (most : Int)) = false := decide_eq_false (by omega)
    have d2 : decide ((most : Int) < (n : Int)) = false := decide_eq_false (by omega)
    go_wp2_with fail
    go_loopw [14] (fun i wr => ∃ k : Nat, k ≤ n ∧ i = .int .i64 k ∧ Hid (∀ j, j < k → f j = 0) ∧ Hid (I k wr) ∧ Hid (Below B w wr)) (fun i _ => n - (intOf i).toNat)
    case atStart => exact ⟨0, Nat.zero_le _, rfl, Lib.hid fun j hj => absurd hj (Nat.not_lt_zero _), HI, Lib.hid (Below.refl _ _)⟩
    case round =>
      obtain ⟨k, hk, rfl, Hn, HIK, HB⟩ := hrel
      by_cases hlt : k < n
      · have hkn : (k : Int) < (n : Int) := by omega
        have HC := Lib.hid (HF.out wr HB.out k hlt Hn.out HIK.out)
        have hcall := HCALL.out
        by_cases he : f k = 0
        · have HE := Lib.hid he
          have HN : Hid (∀ j, j < k + 1 → f j = 0) := Lib.hid fun j hj => by
            by_cases e : j = k
            · subst e; exact HE.out
            · exact Hn.out j (by omega)
          clear he
          go_wp2_with fail
          refine HC.out.mono ?_
          rintro e w2 ⟨rfl, hb2, hi2⟩
          have HI2 := Lib.hid (hi2 HE.out)
          clear hi2
          rw [HE.out]
          go_wp2_with fail
          go_roundw
          case rel => exact ⟨k + 1, by omega, by go_num, HN, HI2, Lib.hid (HB.out.trans hb2)⟩
          case measure => simp [intOf]; omega
        · obtain ⟨F1, F2⟩ := fst_hit hlt Hn.out he
          have G3 := Lib.hid (G1.out.trans F1)
          have G4 := Lib.hid (G2.out.trans F2)
          have e2 : (f k != 0) = true := by simpa using he
          have e3 : (f k == 0) = false := by simpa using he
          clear F1 F2
          go_wp2_with fail
          refine HC.out.mono ?_
          rintro e w2 ⟨rfl, hb2, -⟩
          go_wp2_with fail
          go_ret2
          exact ⟨by rw [G3.out, G4.out]; rfl, HB.out.trans hb2⟩
      · have G3 := Lib.hid (G1.out.trans (fst_none fun j hj => Hn.out j (by omega)))
        have G4 := Lib.hid (G2.out.trans (idx_none fun j hj => Hn.out j (by omega)))
        go_wp2_with fail
        go_ret2
        exact ⟨by rw [G3.out, G4.out]; rfl, HB.out⟩

set_option linter.unusedSimpArgs false in
set_option maxHeartbeats 12800000 in
set_option maxRecDepth 100000 in
theorem xChain1_any (x : Thg) (l : List Evt) (A : Option Addr) (c : Nat) (p : Option Addr) (pc k g2 g3 g7 B : Nat) (s : Std) (w : World) (h : ArrEv w A l c) (hlt : k < l.length) (h2 : ThgAt w g2 0 x p pc) (hm : ArrMk w p x.marks pc) (h3 : w.cell? ⟨g3, 0, none⟩ = some (.slice A l.length c)) (h7 : StdAt w g7 s) (hB : B ≤ g7) (hT : TabSt w) :
    Calls Tryz.prog 107 #[.int .i64 k, .pointer (some ⟨g2, 0, none⟩), .pointer (some ⟨g3, 0, none⟩), .pointer (some ⟨g7, 0, none⟩)] w fun e w' => e = .returned (.int .i64 (fst (listI [evtE x (lEvt l k), nextE s x (lEvt l k)]) 2)) ∧ Below B w w' ∧ (fst (listI [evtE x (lEvt l k), nextE s x (lEvt l k)]) 2 = 0 → StdAt w' g7 (nextS s (lEvt l k))) := by
  have b1 := h.le.1
  have b2 := h.le.2
  have hkn : (k : Int) < (l.length : Int) := by omega
  have HBW : B ≤ w.heap.size := Nat.le_trans hB (Nat.le_of_lt h7.lt)
  have HBW' := Lib.hid HBW
  have HBG := Lib.hid hB
  have HA := Lib.hid h
  have H2 := Lib.hid h2
  have H3 := Lib.hid h3
  have H7 := Lib.hid h7
  have HM := Lib.hid hm
  have HT := Lib.hid hT
  obtain ⟨b, o, rfl, ⟨r0, r1, r2, r3, r4⟩⟩ := h.at_ hlt
  have HLT := Lib.hid hlt
  obtain ⟨q0, q1, q2, q3⟩ := h2
  obtain ⟨s0, s1, s2, s3, _, _, _, _⟩ := h7
  clear h hm hT HBW hB
  obtain ⟨E, hE⟩ : ∃ E, E = fst (listI [evtE x (lEvt l k), nextE s x (lEvt l k)]) 2 := ⟨_, rfl⟩
  have HE := Lib.hid hE
  rw [← hE]
  clear hE
  go_enter Tryz.func107, Tryz.ntmps107
  go_wp2_with fail
  have HBd : Hid (Below w.heap.size w w.drew) := Lib.hid (Below.refl _ _).drew
  have MK : Hid (∀ w', Below w.heap.size w w' → w'.cell? ⟨g2, 0, none⟩ = some (.string x.name) ∧ w'.cell? ⟨g2, 1, none⟩ = some (.int .i64 x.day) ∧ w'.cell? ⟨g2, 2, none⟩ = some (.string x.who) ∧ w'.cell? ⟨g2, 3, none⟩ = some (.slice p x.marks.length pc) ∧ w'.cell? ⟨g3, 0, none⟩ = some (.slice (some ⟨b, o, none⟩) l.length c) ∧ w'.cell? ⟨g7, 0, none⟩ = some (.string s.holder) ∧ w'.cell? ⟨g7, 1, none⟩ = some (.int .i64 s.state) ∧ w'.cell? ⟨g7, 2, none⟩ = some (.int .i64 s.day) ∧ w'.cell? ⟨g7, 3, none⟩ = some (.int .i64 s.stored) ∧ w'.cell? ⟨b, o + k * 5, none⟩ = some (.string (lEvt l k).item) ∧ w'.cell? ⟨b, o + k * 5 + 1, none⟩ = some (.int .i64 (lEvt l k).day) ∧ w'.cell? ⟨b, o + k * 5 + 2, none⟩ = some (.int .i64 (lEvt l k).kind) ∧ w'.cell? ⟨b, o + k * 5 + 3, none⟩ = some (.string (lEvt l k).src) ∧ w'.cell? ⟨b, o + k * 5 + 4, none⟩ = some (.string (lEvt l k).dst) ∧ Hid (Below w.heap.size w w')) :=
    Lib.hid fun w' hw => ⟨Keep.below hw _ _ q0, Keep.below hw _ _ q1, Keep.below hw _ _ q2, Keep.below hw _ _ q3, Keep.below hw _ _ h3, Keep.below hw _ _ s0, Keep.below hw _ _ s1, Keep.below hw _ _ s2, Keep.below hw _ _ s3, Keep.below hw _ _ r0, Keep.below hw _ _ r1, Keep.below hw _ _ r2, Keep.below hw _ _ r3, Keep.below hw _ _ r4, Lib.hid hw⟩
  have KX : Hid (∀ w', Below w.heap.size w w' → ArrMk w' p x.marks pc) := Lib.hid fun w' hw => (HM.out.keep (Keep.below hw))
  refine wp_region_held_drew (S := fun w' => w'.cell? ⟨g2, 0, none⟩ = some (.string x.name) ∧ w'.cell? ⟨g2, 1, none⟩ = some (.int .i64 x.day) ∧ w'.cell? ⟨g2, 2, none⟩ = some (.string x.who) ∧ w'.cell? ⟨g2, 3, none⟩ = some (.slice p x.marks.length pc) ∧ w'.cell? ⟨g3, 0, none⟩ = some (.slice (some ⟨b, o, none⟩) l.length c) ∧ w'.cell? ⟨g7, 0, none⟩ = some (.string s.holder) ∧ w'.cell? ⟨g7, 1, none⟩ = some (.int .i64 s.state) ∧ w'.cell? ⟨g7, 2, none⟩ = some (.int .i64 s.day) ∧ w'.cell? ⟨g7, 3, none⟩ = some (.int .i64 s.stored) ∧ w'.cell? ⟨b, o + k * 5, none⟩ = some (.string (lEvt l k).item) ∧ w'.cell? ⟨b, o + k * 5 + 1, none⟩ = some (.int .i64 (lEvt l k).day) ∧ w'.cell? ⟨b, o + k * 5 + 2, none⟩ = some (.int .i64 (lEvt l k).kind) ∧ w'.cell? ⟨b, o + k * 5 + 3, none⟩ = some (.string (lEvt l k).src) ∧ w'.cell? ⟨b, o + k * 5 + 4, none⟩ = some (.string (lEvt l k).dst) ∧ Hid (Below w.heap.size w w')) (by kernel_rfl) (MK.out _ HBd.out) (fun hHeld => ?_)
  refine wpAnyH_take (i := 0) (v := ?val0x7) rfl (by kernel_rfl) (by kernel_rfl) (by kernel_rfl) (fun _ _ _ h => h) (Or.inl ⟨by rfl, fun w9 hS9 => ?yields0x7⟩) (by assumption) ?later0x7
  case yields0x7 =>
    dsimp only at hS9
    go_simp
    try with_reducible rfl
  try simp only [Act.put, List.getElem_toArray, List.getElem_cons_succ, List.getElem_cons_zero, List.setIfInBounds_toArray, List.set_cons_zero, List.set_cons_succ]
  refine wpAnyH_take (i := 1) (v := ?val1x8) rfl (by kernel_rfl) (by kernel_rfl) (by kernel_rfl) (fun _ _ _ h => h) (Or.inl ⟨by rfl, fun w9 hS9 => ?yields1x8⟩) (by assumption) ?later1x8
  case yields1x8 =>
    dsimp only at hS9
    go_simp
    try with_reducible rfl
  try simp only [Act.put, List.getElem_toArray, List.getElem_cons_succ, List.getElem_cons_zero, List.setIfInBounds_toArray, List.set_cons_zero, List.set_cons_succ]
  refine wpAnyH_take (i := 2) (v := ?val2x9) rfl (by kernel_rfl) (by kernel_rfl) (by kernel_rfl) (fun _ _ _ h => h) (Or.inl ⟨by rfl, fun w9 hS9 => ?yields2x9⟩) (by assumption) ?later2x9
  case yields2x9 =>
    dsimp only at hS9
    go_simp
    try with_reducible rfl
  try simp only [Act.put, List.getElem_toArray, List.getElem_cons_succ, List.getElem_cons_zero, List.setIfInBounds_toArray, List.set_cons_zero, List.set_cons_succ]
  refine wpAnyH_take (i := 3) (v := ?val3x10) rfl (by kernel_rfl) (by kernel_rfl) (by kernel_rfl) (fun _ _ _ h => h) (Or.inl ⟨by rfl, fun w9 hS9 => ?yields3x10⟩) (by assumption) ?later3x10
  case yields3x10 =>
    dsimp only at hS9
    go_simp
    try with_reducible rfl
  try simp only [Act.put, List.getElem_toArray, List.getElem_cons_succ, List.getElem_cons_zero, List.setIfInBounds_toArray, List.set_cons_zero, List.set_cons_succ]
  refine wpAnyH_take (i := 4) (v := ?val4x11) rfl (by kernel_rfl) (by kernel_rfl) (by kernel_rfl) (fun _ _ _ h => h) (Or.inl ⟨by rfl, fun w9 hS9 => ?yields4x11⟩) (by assumption) ?later4x11
  case yields4x11 =>
    dsimp only at hS9
    go_simp
    try with_reducible rfl
  try simp only [Act.put, List.getElem_toArray, List.getElem_cons_succ, List.getElem_cons_zero, List.setIfInBounds_toArray, List.set_cons_zero, List.set_cons_succ]
  refine wpAnyH_take (i := 6) (v := ?val6x12) rfl (by kernel_rfl) (by kernel_rfl) (by kernel_rfl) (fun _ _ _ h => h) (Or.inl ⟨by rfl, fun w9 hS9 => ?yields6x12⟩) (by assumption) ?later6x12
  case yields6x12 =>
    dsimp only at hS9
    go_simp
    try with_reducible rfl
  try simp only [Act.put, List.getElem_toArray, List.getElem_cons_succ, List.getElem_cons_zero, List.setIfInBounds_toArray, List.set_cons_zero, List.set_cons_succ]
  refine wpAnyH_take (i := 7) (v := ?val7x13) rfl (by kernel_rfl) (by kernel_rfl) (by kernel_rfl) (fun _ _ _ h => h) (Or.inl ⟨by rfl, fun w9 hS9 => ?yields7x13⟩) (by assumption) ?later7x13
  case yields7x13 =>
    dsimp only at hS9
    go_simp
    try with_reducible rfl
  try simp only [Act.put, List.getElem_toArray, List.getElem_cons_succ, List.getElem_cons_zero, List.setIfInBounds_toArray, List.set_cons_zero, List.set_cons_succ]
  refine wpAnyH_take (i := 8) (v := ?val8x14) rfl (by kernel_rfl) (by kernel_rfl) (by kernel_rfl) (fun _ _ _ h => h) (Or.inl ⟨by rfl, fun w9 hS9 => ?yields8x14⟩) (by assumption) ?later8x14
  case yields8x14 =>
    dsimp only at hS9
    go_simp
    try with_reducible rfl
  try simp only [Act.put, List.getElem_toArray, List.getElem_cons_succ, List.getElem_cons_zero, List.setIfInBounds_toArray, List.set_cons_zero, List.set_cons_succ]
  refine wpAnyH_take (i := 9) (v := ?val9x15) rfl (by kernel_rfl) (by kernel_rfl) (by kernel_rfl) (fun _ _ _ h => h) (Or.inl ⟨by rfl, fun w9 hS9 => ?yields9x15⟩) (by assumption) ?later9x15
  case yields9x15 =>
    dsimp only at hS9
    go_simp
    try with_reducible rfl
  try simp only [Act.put, List.getElem_toArray, List.getElem_cons_succ, List.getElem_cons_zero, List.setIfInBounds_toArray, List.set_cons_zero, List.set_cons_succ]
  refine wpAnyH_take (i := 10) (v := ?val10x16) rfl (by kernel_rfl) (by kernel_rfl) (by kernel_rfl) (fun _ _ _ h => h) (Or.inl ⟨by rfl, fun w9 hS9 => ?yields10x16⟩) (by assumption) ?later10x16
  case yields10x16 =>
    dsimp only at hS9
    go_simp
    try with_reducible rfl
  try simp only [Act.put, List.getElem_toArray, List.getElem_cons_succ, List.getElem_cons_zero, List.setIfInBounds_toArray, List.set_cons_zero, List.set_cons_succ]
  refine wpAnyH_take (i := 11) (v := ?val11x17) rfl (by kernel_rfl) (by kernel_rfl) (by kernel_rfl) (fun _ _ _ h => h) (Or.inl ⟨by rfl, fun w9 hS9 => ?yields11x17⟩) (by assumption) ?later11x17
  case yields11x17 =>
    dsimp only at hS9
    go_simp
    try with_reducible rfl
  try simp only [Act.put, List.getElem_toArray, List.getElem_cons_succ, List.getElem_cons_zero, List.setIfInBounds_toArray, List.set_cons_zero, List.set_cons_succ]
  refine wpAnyH_ready (rs := [5]) (by kernel_rfl) (by simp) ?_
  refine AllReadyH.cons rfl (fun K hK => ?_) AllReadyH.nil
  go_simp
  go_at_call 108
  go_split_ands
  refine (xEvtE_any x _ (lEvt l k) _ ⟨_, _, rfl, KX.out _ (Hid.out (by assumption))⟩).mono ?_
  rintro e' w5 ⟨rfl, hb1⟩
  go_wp2_with fail
  refine hK.out _ _ ?_ (fun hHeld => ?_)
  · (try dsimp only)
    (go_split_ands; exact MK.out _ (Below.trans (Hid.out (by assumption)) (hb1.mono (Hid.out (by assumption) : Below w.heap.size w _).size)))
  clear hK K
  try simp only [Act.put, List.getElem_toArray, List.getElem_cons_succ, List.getElem_cons_zero, List.setIfInBounds_toArray, List.set_cons_zero, List.set_cons_succ]
  refine wpAnyH_ready (rs := [12]) (by kernel_rfl) (by simp) ?_
  refine AllReadyH.cons rfl (fun K hK => ?_) AllReadyH.nil
  go_simp
  go_at_call 109
  go_split_ands
  refine (xNextE_any s x _ (lEvt l k) _ ⟨_, _, rfl, KX.out _ (Hid.out (by assumption))⟩).mono ?_
  rintro e' w6 ⟨rfl, hb1⟩
  go_wp2_with fail
  refine hK.out _ _ ?_ (fun hHeld => ?_)
  · (try dsimp only)
    (go_split_ands; exact MK.out _ (Below.trans (Hid.out (by assumption)) (hb1.mono (Hid.out (by assumption) : Below w.heap.size w _).size)))
  clear hK K
  try simp only [Act.put, List.getElem_toArray, List.getElem_cons_succ, List.getElem_cons_zero, List.setIfInBounds_toArray, List.set_cons_zero, List.set_cons_succ]
  refine wpAnyH_ready (rs := [13]) (by kernel_rfl) (by simp) ?_
  refine AllReadyH.cons rfl (fun K hK => ?_) AllReadyH.nil
  go_simp
  refine hK.out _ _ ?_ (fun hHeld => ?_)
  · (try dsimp only)
    (go_split_ands; exact MK.out _ (Below.alloc (Hid.out (by assumption)) (Hid.out (by assumption) : Below w.heap.size w _).size _))
  clear hK K
  try simp only [Act.put, List.getElem_toArray, List.getElem_cons_succ, List.getElem_cons_zero, List.setIfInBounds_toArray, List.set_cons_zero, List.set_cons_succ]
  refine wpAnyH_ready (rs := [14]) (by kernel_rfl) (by simp) ?_
  refine AllReadyH.cons rfl (fun K hK => ?_) AllReadyH.nil
  go_simp
  go_at_call 82
  go_split_ands
  refine (xFirst_any [evtE x (lEvt l k), nextE s x (lEvt l k)] _ _ _ (by first | exact gints2New _ _ _ _ | exact (gints2New _ _ _ _).keep (Keep.drew _))).mono ?_
  rintro e' wx9 ⟨rfl, rfl⟩
  go_wp2_with fail
  refine hK.out _ _ ?_ (fun hHeld => ?_)
  · (try dsimp only)
    (go_split_ands; exact MK.out _ (Hid.out (by assumption)))
  clear hK K
  try simp only [Act.put, List.getElem_toArray, List.getElem_cons_succ, List.getElem_cons_zero, List.setIfInBounds_toArray, List.set_cons_zero, List.set_cons_succ]
  refine wpAnyH_take (i := 15) (v := ?val15x18) rfl (by kernel_rfl) (by kernel_rfl) (by kernel_rfl) (fun _ _ _ h => h) (Or.inl ⟨by rfl, fun w9 hS9 => ?yields15x18⟩) (by assumption) ?later15x18
  case yields15x18 =>
    dsimp only at hS9
    go_simp
    try with_reducible rfl
  try simp only [Act.put, List.getElem_toArray, List.getElem_cons_succ, List.getElem_cons_zero, List.setIfInBounds_toArray, List.set_cons_zero, List.set_cons_succ]
  refine wpAnyH_done (by kernel_rfl) ?_ _
  obtain ⟨-, -, -, -, -, -, -, -, -, -, -, -, -, -, HB⟩ := hHeld
  clear HBd MK
  rw [← HE.out]
  clear KX q0 q1 q2 q3 r0 r1 r2 r3 r4 s0 s1 s2 s3 h3
  by_cases he : E = 0
  · have HZ := Lib.hid he
    have hev : evtE x (lEvt l k) = 0 := by
      have h1 := HE.out.symm.trans he
      rw [gfst_two] at h1
      by_cases h2 : evtE x (lEvt l k) = 0
      · exact h2
      · rw [if_pos h2] at h1; exact h1
    have hkd : 0 ≤ (lEvt l k).kind ∧ (lEvt l k).kind ≤ 4 := by
      unfold evtE at hev
      by_cases h1 : (lEvt l k).item ≠ x.name
      · rw [if_pos h1] at hev; exact absurd hev (by decide)
      rw [if_neg h1] at hev
      by_cases h2 : isDay (lEvt l k).day = false
      · rw [if_pos h2] at hev; exact absurd hev (by decide)
      rw [if_neg h2] at hev
      by_cases h3 : within (lEvt l k).kind 0 4 = false
      · rw [if_pos h3] at hev; exact absurd hev (by decide)
      exact Fs.within_iff.1 (show within (lEvt l k).kind 0 4 = true by simpa using h3)
    have HKD := Lib.hid hkd
    rw [he]
    clear he hev hkd
    generalize w6.alloc _ = wd at *
    have HS := Lib.hid (H7.out.keep HB.out)
    have h3 := Keep.below HB.out _ _ H3.out
    obtain ⟨s0, s1, s2, s3, f0, f1, f2, f3⟩ := HS.out
    obtain ⟨b', o', e', ⟨r0, r1, r2, r3, r4⟩⟩ := (HA.out.keep (Keep.below HB.out)).at_ HLT.out
    obtain ⟨rfl, rfl⟩ : b = b' ∧ o = o' := by simpa using e'
    clear e'
    have KT := Lib.hid (fun w' (hw : Below wd.heap.size wd w') => (HT.out.keep (Keep.below (HB.out.trans (hw.mono HB.out.size)))))
    go_wp2_with fail
    have HBd : Hid (Below wd.heap.size wd wd.drew) := Lib.hid (Below.refl _ _).drew
    have MK : Hid (∀ w', Below wd.heap.size wd w' → w'.cell? ⟨g3, 0, none⟩ = some (.slice (some ⟨b, o, none⟩) l.length c) ∧ w'.cell? ⟨g7, 0, none⟩ = some (.string s.holder) ∧ w'.cell? ⟨g7, 1, none⟩ = some (.int .i64 s.state) ∧ w'.cell? ⟨g7, 2, none⟩ = some (.int .i64 s.day) ∧ w'.cell? ⟨g7, 3, none⟩ = some (.int .i64 s.stored) ∧ w'.cell? ⟨b, o + k * 5, none⟩ = some (.string (lEvt l k).item) ∧ w'.cell? ⟨b, o + k * 5 + 1, none⟩ = some (.int .i64 (lEvt l k).day) ∧ w'.cell? ⟨b, o + k * 5 + 2, none⟩ = some (.int .i64 (lEvt l k).kind) ∧ w'.cell? ⟨b, o + k * 5 + 3, none⟩ = some (.string (lEvt l k).src) ∧ w'.cell? ⟨b, o + k * 5 + 4, none⟩ = some (.string (lEvt l k).dst) ∧ Hid (Below wd.heap.size wd w')) :=
      Lib.hid fun w' hw => ⟨Keep.below hw _ _ h3, Keep.below hw _ _ s0, Keep.below hw _ _ s1, Keep.below hw _ _ s2, Keep.below hw _ _ s3, Keep.below hw _ _ r0, Keep.below hw _ _ r1, Keep.below hw _ _ r2, Keep.below hw _ _ r3, Keep.below hw _ _ r4, Lib.hid hw⟩
    refine heldPeel (S := fun w' => w'.cell? ⟨g3, 0, none⟩ = some (.slice (some ⟨b, o, none⟩) l.length c) ∧ w'.cell? ⟨g7, 0, none⟩ = some (.string s.holder) ∧ w'.cell? ⟨g7, 1, none⟩ = some (.int .i64 s.state) ∧ w'.cell? ⟨g7, 2, none⟩ = some (.int .i64 s.day) ∧ w'.cell? ⟨g7, 3, none⟩ = some (.int .i64 s.stored) ∧ w'.cell? ⟨b, o + k * 5, none⟩ = some (.string (lEvt l k).item) ∧ w'.cell? ⟨b, o + k * 5 + 1, none⟩ = some (.int .i64 (lEvt l k).day) ∧ w'.cell? ⟨b, o + k * 5 + 2, none⟩ = some (.int .i64 (lEvt l k).kind) ∧ w'.cell? ⟨b, o + k * 5 + 3, none⟩ = some (.string (lEvt l k).src) ∧ w'.cell? ⟨b, o + k * 5 + 4, none⟩ = some (.string (lEvt l k).dst) ∧ Hid (Below wd.heap.size wd w')) (l := [_, _, _, _, _, _]) (by kernel_rfl) (by kernel_rfl) (MK.out _ HBd.out) (fun hHeld => ?_)
    refine wpAnyH_take (i := 0) (v := ?val0x19) rfl (by kernel_rfl) (by kernel_rfl) (by kernel_rfl) (fun _ _ _ h => h) (Or.inl ⟨by rfl, fun w9 hS9 => ?yields0x19⟩) (by assumption) ?later0x19
    case yields0x19 =>
      dsimp only at hS9
      go_simp
      try with_reducible rfl
    try simp only [Act.put, List.getElem_toArray, List.getElem_cons_succ, List.getElem_cons_zero, List.setIfInBounds_toArray, List.set_cons_zero, List.set_cons_succ]
    refine wpAnyH_take (i := 1) (v := ?val1x20) rfl (by kernel_rfl) (by kernel_rfl) (by kernel_rfl) (fun _ _ _ h => h) (Or.inl ⟨by rfl, fun w9 hS9 => ?yields1x20⟩) (by assumption) ?later1x20
    case yields1x20 =>
      dsimp only at hS9
      go_simp
      try with_reducible rfl
    try simp only [Act.put, List.getElem_toArray, List.getElem_cons_succ, List.getElem_cons_zero, List.setIfInBounds_toArray, List.set_cons_zero, List.set_cons_succ]
    refine wpAnyH_take (i := 2) (v := ?val2x21) rfl (by kernel_rfl) (by kernel_rfl) (by kernel_rfl) (fun _ _ _ h => h) (Or.inl ⟨by rfl, fun w9 hS9 => ?yields2x21⟩) (by assumption) ?later2x21
    case yields2x21 =>
      dsimp only at hS9
      go_simp
      try with_reducible rfl
    try simp only [Act.put, List.getElem_toArray, List.getElem_cons_succ, List.getElem_cons_zero, List.setIfInBounds_toArray, List.set_cons_zero, List.set_cons_succ]
    refine wpAnyH_take (i := 3) (v := ?val3x22) rfl (by kernel_rfl) (by kernel_rfl) (by kernel_rfl) (fun _ _ _ h => h) (Or.inl ⟨by rfl, fun w9 hS9 => ?yields3x22⟩) (by assumption) ?later3x22
    case yields3x22 =>
      dsimp only at hS9
      go_simp
      try with_reducible rfl
    try simp only [Act.put, List.getElem_toArray, List.getElem_cons_succ, List.getElem_cons_zero, List.setIfInBounds_toArray, List.set_cons_zero, List.set_cons_succ]
    refine wpAnyH_take (i := 4) (v := ?val4x23) rfl (by kernel_rfl) (by kernel_rfl) (by kernel_rfl) (fun _ _ _ h => h) (Or.inl ⟨by rfl, fun w9 hS9 => ?yields4x23⟩) (by assumption) ?later4x23
    case yields4x23 =>
      dsimp only at hS9
      go_simp
      try with_reducible rfl
    try simp only [Act.put, List.getElem_toArray, List.getElem_cons_succ, List.getElem_cons_zero, List.setIfInBounds_toArray, List.set_cons_zero, List.set_cons_succ]
    refine wpAnyH_ready (rs := [5]) (by kernel_rfl) (by simp) ?_
    refine AllReadyH.cons rfl (fun K hK => ?_) AllReadyH.nil
    go_simp
    go_at_call 110
    go_split_ands
    refine (xBehind_any s (lEvt l k) _ (KT.out _ (Hid.out (by assumption))) HKD.out.1 HKD.out.2).mono ?_
    rintro e' w8 ⟨rfl, hb1⟩
    go_wp2_with fail
    refine hK.out _ _ ?_ (fun hHeld => ?_)
    · (try dsimp only)
      (go_split_ands; exact MK.out _ (Below.trans (Hid.out (by assumption)) (hb1.mono (Hid.out (by assumption) : Below wd.heap.size wd _).size)))
    clear hK K
    try simp only [Act.put, List.getElem_toArray, List.getElem_cons_succ, List.getElem_cons_zero, List.setIfInBounds_toArray, List.set_cons_zero, List.set_cons_succ]
    refine wpAnyH_done (by kernel_rfl) ?_ _
    unfold Peeled
    dsimp only
    obtain ⟨-, -, -, -, -, -, -, -, -, -, HB2⟩ := hHeld
    have HS2 := Lib.hid (HS.out.keep HB2.out)
    clear MK HBd s0 s1 s2 s3 f0 f1 f2 f3 r0 r1 r2 r3 r4 h3 KT
    obtain ⟨s0, s1, s2, s3, f0, f1, f2, f3⟩ := HS2.out
    go_wp2_with fail
    go_ret
    refine ⟨ret_int (by rw [HZ.out]), ?_, fun _ => ?_⟩
    · first
        | exact below_std (((HB.out.mono HBW'.out).trans (HB2.out.mono (Nat.le_trans HBW'.out HB.out.size)))) HBG.out _ _ _ _
        | exact (below_std (((HB.out.mono HBW'.out).trans (HB2.out.mono (Nat.le_trans HBW'.out HB.out.size)))) HBG.out _ _ _ _).drew
    · first
        | exact HS2.out.set (nextS s (lEvt l k))
        | exact (HS2.out.set (nextS s (lEvt l k))).drew
  · have e2 : (E != 0) = true := by simpa using he
    have e3 : (E == 0) = false := by simpa using he
    have HZ := Lib.hid he
    clear he
    go_wp2_with fail
    go_ret
    exact ⟨rfl, HB.out.mono HBW'.out, fun hh => absurd hh HZ.out⟩
end Go.Proofs.YtfjdnbnalihjiaaGreatDoor

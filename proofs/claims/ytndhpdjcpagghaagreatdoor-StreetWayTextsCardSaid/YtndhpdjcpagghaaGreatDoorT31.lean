/- sort.Search: the first number from which on a function says yes. Condition: who said yes says yes for all later ones. -/
import Derived.Test.YtndhpdjcpagghaaGreatDoorT12
import Derived.Deep.LoopGhost
namespace Go.Proofs.YtndhpdjcpagghaaGreatDoor
open Go.RowKit Fs

set_option maxHeartbeats 1600000 in
set_option maxRecDepth 100000 in
theorem sortSearch_any (K : Nat) (p1 p2 : Value) (n : Nat) (p : Nat → Bool) (w : World) (hn : n ≤ 1000000000) (hcall : ∀ (args : Array Value) (w : World), (callFunc K args).run Tryz.prog w = .ok (.enter K args) w)
    (hf : ∀ w', Below w.heap.size w w' → ∀ i : Nat, i < n → Calls Tryz.prog K #[.int .i64 i, p1, p2] w' fun e w'' => e = .returned (.bool (p i)) ∧ Below w'.heap.size w' w'')
    (hmono : ∀ a b, a ≤ b → b < n → p a = true → p b = true) :
    Calls Tryz.prog 62 #[.int .i64 n, .func (.func K) #[] #[p1, p2]] w fun e w' => ∃ k : Nat, k ≤ n ∧ e = .returned (.int .i64 k) ∧ (∀ t, t < k → p t = false) ∧ (∀ t, k ≤ t → t < n → p t = true) ∧ Below w.heap.size w w' := by
  have HCALL := Lib.hid hcall
  have HF := Lib.hid hf
  have HM := Lib.hid hmono
  clear hcall hf hmono
  go_enter Tryz.func62, Tryz.ntmps62
  go_wp2_with fail
  go_loopw [5, 6] (fun s5 s6 wr => ∃ lo hi : Nat, s5 = .int .i64 lo ∧ s6 = .int .i64 hi ∧ lo ≤ hi ∧ hi ≤ n ∧ Hid ((∀ t, t < lo → p t = false) ∧ (∀ t, hi ≤ t → t < n → p t = true)) ∧ Hid (Below w.heap.size w wr)) (fun s5 s6 _ => (intOf s6).toNat - (intOf s5).toNat)
  case atStart => exact ⟨0, n, rfl, rfl, Nat.zero_le _, Nat.le_refl _, Lib.hid ⟨fun t ht => absurd ht (Nat.not_lt_zero _), fun t h1 h2 => by omega⟩, Lib.hid (Below.refl _ _)⟩
  case round =>
    obtain ⟨lo, hi, rfl, rfl, hlh, hin, I, HB⟩ := hrel
    by_cases hlt : lo < hi
    · obtain ⟨mid, hmid⟩ : ∃ mid : Nat, mid = (lo + hi) / 2 := ⟨_, rfl⟩
      have hm1 : lo ≤ mid := by omega
      have hm2 : mid < hi := by omega
      have hme : ((lo : Int) + (hi : Int)) / 2 = (mid : Int) := by omega
      have hc := HF.out wr HB.out mid (by omega)
      have HC := Lib.hid hc
      have hcall := HCALL.out
      clear hc hmid
      cases hp : p mid with
      | false =>
        have HP := Lib.hid hp
        clear hp
        go_wp2_with fail
        refine HC.out.mono ?_
        rintro e w2 ⟨rfl, hb2⟩
        rw [HP.out]
        go_wp2_with fail
        go_roundw
        case rel =>
          refine ⟨mid + 1, hi, by go_num, rfl, by omega, hin, Lib.hid ⟨fun t ht => ?_, I.out.2⟩, Lib.hid (HB.out.trans (hb2.mono HB.out.size))⟩
          cases h : p t with
          | false => rfl
          | true =>
            have := HM.out t mid (by omega) (by omega) h
            rw [HP.out] at this
            cases this
        case measure => simp [intOf]; omega
      | true =>
        have HP := Lib.hid hp
        clear hp
        go_wp2_with fail
        refine HC.out.mono ?_
        rintro e w2 ⟨rfl, hb2⟩
        rw [HP.out]
        go_wp2_with fail
        go_roundw
        case rel =>
          exact ⟨lo, mid, rfl, rfl, hm1, by omega, Lib.hid ⟨I.out.1, fun t ht htn => HM.out mid t ht htn HP.out⟩, Lib.hid (HB.out.trans (hb2.mono HB.out.size))⟩
        case measure => simp [intOf]; omega
    · obtain rfl : hi = lo := by omega
      clear hlt
      go_wp2_with fail
      go_ret
      exact ⟨hi, hin, rfl, I.out.1, I.out.2, HB.out⟩
end Go.Proofs.YtndhpdjcpagghaaGreatDoor
/- Nobody overtakes: who sets out later arrives no earlier. Condition: the net is right. -/
namespace Go.Proofs.YtndhpdjcpagghaaGreatDoor
open Go.RowKit Fs

theorem Fs.PtsOk.order {N : Net} {i : Nat} (h : (errRoad N i).2 = 0) : ∀ j, j < (listD N.roads i).pts.length → inOrder (listP (listD N.roads i).pts j) (listP (listD N.roads i).pts ((j + 1) % (listD N.roads i).pts.length)) = true := by
  unfold errRoad at h
  by_cases h0 : errName (fun j => (listD N.roads j).name) i ≠ 0
  · rw [if_pos h0] at h; exact absurd h h0
  · rw [if_neg h0] at h
    by_cases h1 : errForm N (listD N.roads i) ≠ 0
    · rw [if_pos h1] at h; exact absurd h h1
    · rw [if_neg h1] at h
      unfold errPoints at h
      by_cases e4 : fst (errPoint (listD N.roads i).pts) (listD N.roads i).pts.length ≠ 0
      · rw [if_pos e4] at h; exact absurd h e4
      · rw [if_neg e4] at h
        intro j hj
        have := fst_zero h j hj
        unfold errPair at this
        cases ho : inOrder (listP (listD N.roads i).pts j) (listP (listD N.roads i).pts ((j + 1) % (listD N.roads i).pts.length)) with
        | true => rfl
        | false => rw [ho] at this; exact absurd this (by decide)
/-- A second later along a line is at most a second less. -/
theorem Fs.line_step {x y left all : Int} (ha : 1 ≤ all) (ho : x - y ≤ all) : onLine x y left all - 1 ≤ onLine x y (left - 1) all := by
  have e1 : x * (left - 1) = x * left - x := by rw [Int.mul_sub, Int.mul_one]
  have e2 : y * (all - (left - 1)) = y * (all - left) + y := by
    rw [show all - (left - 1) = (all - left) + 1 by omega, Int.mul_add, Int.mul_one]
  have key : (x * left + y * (all - left) + all - 1) / all - 1 = (x * left + y * (all - left) + all - 1 - all) / all := by
    rw [show x * left + y * (all - left) + all - 1 - all = (x * left + y * (all - left) + all - 1) + all * (-1) by omega, Int.add_mul_ediv_left _ _ (by omega)]
    omega
  unfold onLine
  rw [key, e1, e2]
  exact Int.ediv_le_ediv (by omega) (by omega)
theorem Fs.line_full {x y all : Int} (ha : 1 ≤ all) : onLine x y all all = x := by
  unfold onLine
  rw [Int.sub_self, Int.mul_zero, Int.add_zero, show x * all + all - 1 = (all - 1) + x * all by omega, Int.add_mul_ediv_right _ _ (by omega), Int.ediv_eq_zero_of_lt (by omega) (by omega)]
  omega
theorem Fs.line_none {x y all : Int} (ha : 1 ≤ all) : onLine x y 0 all = y := by
  unfold onLine
  rw [Int.mul_zero, Int.sub_zero, Int.zero_add, show y * all + all - 1 = (all - 1) + y * all by omega, Int.add_mul_ediv_right _ _ (by omega), Int.ediv_eq_zero_of_lt (by omega) (by omega)]
  omega
/-- Where a time lies, and where the next second does. -/
theorem Fs.behind_is (l : List Pt) (t : Int) : behind l t ≤ l.length ∧ (∀ j, j < behind l t → (listP l j).hour ≤ t) ∧ (behind l t < l.length → t < (listP l (behind l t)).hour) := by
  cases hf : (List.range l.length).find? fun i => decide (t < (listP l i).hour) with
  | none =>
    have hb : behind l t = l.length := by unfold behind; rw [hf]; rfl
    rw [List.find?_eq_none] at hf
    rw [hb]
    refine ⟨Nat.le_refl _, fun j hj => ?_, fun hh => absurd hh (Nat.lt_irrefl _)⟩
    have := hf j (by simpa using hj)
    simp at this
    omega
  | some k =>
    have hb : behind l t = k := by unfold behind; rw [hf]; rfl
    rw [List.find?_range_eq_some] at hf
    obtain ⟨h1, h2, h3⟩ := hf
    have h2' : k < l.length := by simpa using h2
    rw [hb]
    refine ⟨by omega, fun j hj => ?_, fun _ => by simpa using h1⟩
    have := h3 j hj
    simp at this
    omega
theorem Fs.behind_of {l : List Pt} {t : Int} {k : Nat} (hk : k ≤ l.length) (h1 : ∀ j, j < k → (listP l j).hour ≤ t) (h2 : k < l.length → t < (listP l k).hour) : behind l t = k := by
  rcases Nat.lt_or_ge k l.length with h | h
  · exact behind_at h h1 (h2 h)
  · obtain rfl : k = l.length := by omega
    exact behind_end h1
def Fs.prevOf (l : List Pt) (t : Int) : Nat := (behind l t + l.length - 1) % l.length
def Fs.nextOf (l : List Pt) (t : Int) : Nat := behind l t % l.length
theorem Fs.next_prev (l : List Pt) (t : Int) (hl : l.length ≠ 0) : nextOf l t = (prevOf l t + 1) % l.length ∧ prevOf l t < l.length := by
  have hn : 0 < l.length := by omega
  unfold nextOf prevOf
  refine ⟨?_, Nat.mod_lt _ hn⟩
  rw [Nat.mod_add_mod, show behind l t + l.length - 1 + 1 = behind l t + l.length by omega, Nat.add_mod_right]
/-- The next second: on the same line one less is left, or the next point has come. -/
theorem Fs.second {l : List Pt} (h : PtsOk l) {t : Int} (ht : 0 ≤ t ∧ t ≤ 86399) :
    (prevOf l ((t + 1) % 86400) = prevOf l t ∧ secondsTo ((t + 1) % 86400) (listP l (nextOf l t)).hour = secondsTo t (listP l (nextOf l t)).hour - 1) ∨
    (prevOf l ((t + 1) % 86400) = nextOf l t ∧ secondsTo t (listP l (nextOf l t)).hour = 1 ∧ (t + 1) % 86400 = (listP l (nextOf l t)).hour) := by
  have hn : 0 < l.length := Nat.pos_of_ne_zero h.1
  obtain ⟨b0, b1, b2⟩ := behind_is l t
  have hh : ∀ j, j < l.length → 0 ≤ (listP l j).hour ∧ (listP l j).hour ≤ 86399 := fun j hj => (ptRight_is (h.right hj)).1
  generalize hk : behind l t = k at *
  by_cases e1 : t = 86399
  · subst e1
    have hkn : k = l.length := by
      rcases Nat.lt_or_ge k l.length with h1 | h1
      · have := b2 h1; have := hh k h1; omega
      · omega
    subst hkn
    have en : nextOf l 86399 = 0 := by unfold nextOf; rw [hk, Nat.mod_self]
    have ep : prevOf l 86399 = l.length - 1 := by
      unfold prevOf
      rw [hk, show l.length + l.length - 1 = (l.length - 1) + l.length by omega, Nat.add_mod_right, Nat.mod_eq_of_lt (by omega)]
    rw [en, ep, show ((86399 : Int) + 1) % 86400 = 0 by decide]
    have h0 := hh 0 hn
    by_cases e2 : (listP l 0).hour = 0
    · right
      refine ⟨?_, by rw [e2]; decide, e2.symm⟩
      have : behind l 0 = 1 := by
        refine behind_of (by omega) (fun j hj => ?_) (fun h1 => ?_)
        · obtain rfl : j = 0 := by omega
          omega
        · have := h.up 1 h1 0 (by omega)
          omega
      unfold prevOf
      rw [this, show 1 + l.length - 1 = l.length by omega, Nat.mod_self]
    · left
      have : behind l 0 = 0 := behind_of (by omega) (fun j hj => by omega) (fun _ => by omega)
      refine ⟨?_, ?_⟩
      · unfold prevOf
        rw [this, Nat.zero_add, Nat.mod_eq_of_lt (by omega)]
      · unfold secondsTo
        omega
  · rw [show (t + 1) % 86400 = t + 1 by omega]
    by_cases e2 : k < l.length ∧ (listP l k).hour = t + 1
    · right
      have en : nextOf l t = k := by unfold nextOf; rw [hk, Nat.mod_eq_of_lt e2.1]
      rw [en]
      refine ⟨?_, by unfold secondsTo; omega, e2.2.symm⟩
      have : behind l (t + 1) = k + 1 := behind_of (by omega) (fun j hj => by
          rcases Nat.lt_or_ge j k with h1 | h1
          · have := b1 j h1; omega
          · obtain rfl : j = k := by omega
            omega) (fun h1 => by have := h.up (k + 1) h1 k (by omega); omega)
      unfold prevOf
      rw [this, show k + 1 + l.length - 1 = k + l.length by omega, Nat.add_mod_right, Nat.mod_eq_of_lt e2.1]
    · left
      have : behind l (t + 1) = k := behind_of b0 (fun j hj => by have := b1 j hj; omega) (fun h1 => by
          have h3 := b2 h1
          have : (listP l k).hour ≠ t + 1 := fun h4 => e2 ⟨h1, h4⟩
          omega)
      refine ⟨by unfold prevOf; rw [this, hk], ?_⟩
      unfold nextOf
      rw [hk]
      by_cases e3 : k = l.length
      · rw [e3, Nat.mod_self]
        have h0 := hh 0 hn
        have h1 := b1 0 (by omega)
        unfold secondsTo
        omega
      · rw [Nat.mod_eq_of_lt (by omega)]
        have h1 := b2 (by omega)
        have h2 : (listP l k).hour ≠ t + 1 := fun h4 => e2 ⟨by omega, h4⟩
        have h3 := hh k (by omega)
        unfold secondsTo
        omega
theorem Fs.takesAt_eq (l : List Pt) (a : Int) : takesAt l a = (onLine (listP l (prevOf l (a % 86400))).lo (listP l (nextOf l (a % 86400))).lo (secondsTo (a % 86400) (listP l (nextOf l (a % 86400))).hour) (secondsTo (listP l (prevOf l (a % 86400))).hour (listP l (nextOf l (a % 86400))).hour),
    onLine (listP l (prevOf l (a % 86400))).hi (listP l (nextOf l (a % 86400))).hi (secondsTo (a % 86400) (listP l (nextOf l (a % 86400))).hour) (secondsTo (listP l (prevOf l (a % 86400))).hour (listP l (nextOf l (a % 86400))).hour)) := rfl
theorem Fs.takes_second {l : List Pt} (h : PtsOk l) (ho : ∀ j, j < l.length → inOrder (listP l j) (listP l ((j + 1) % l.length)) = true) (a : Int) : (takesAt l a).1 - 1 ≤ (takesAt l (a + 1)).1 ∧ (takesAt l a).2 - 1 ≤ (takesAt l (a + 1)).2 := by
  have t0 : 0 ≤ a % 86400 ∧ a % 86400 ≤ 86399 := by omega
  have et : (a + 1) % 86400 = (a % 86400 + 1) % 86400 := by omega
  obtain ⟨np, pl⟩ := next_prev l (a % 86400) h.1
  obtain ⟨np', pl'⟩ := next_prev l ((a + 1) % 86400) h.1
  have ho1 := ho (prevOf l (a % 86400)) pl
  rw [← np] at ho1
  unfold inOrder at ho1
  simp only [Bool.and_eq_true, decide_eq_true_eq] at ho1
  have hs := secondsTo_is (listP l (prevOf l (a % 86400))).hour (listP l (nextOf l (a % 86400))).hour
  rw [takesAt_eq, takesAt_eq]
  dsimp only
  rcases second h t0 with ⟨h1, h2⟩ | ⟨h1, h2, h3⟩
  · have h4 : nextOf l ((a + 1) % 86400) = nextOf l (a % 86400) := by rw [np', np, et, h1]
    rw [h4, et, h1, h2]
    exact ⟨line_step hs.1 ho1.1, line_step hs.1 ho1.2⟩
  · have h5 : (a + 1) % 86400 = (listP l (prevOf l ((a + 1) % 86400))).hour := by rw [et, h1, ← h3]
    have hs2 := secondsTo_is (listP l (prevOf l ((a + 1) % 86400))).hour (listP l (nextOf l ((a + 1) % 86400))).hour
    have h6 : secondsTo ((a + 1) % 86400) (listP l (nextOf l ((a + 1) % 86400))).hour = secondsTo (listP l (prevOf l ((a + 1) % 86400))).hour (listP l (nextOf l ((a + 1) % 86400))).hour := congrArg (fun x => secondsTo x (listP l (nextOf l ((a + 1) % 86400))).hour) h5
    rw [h6, line_full hs2.1, line_full hs2.1, h2, et, h1]
    have k1 := line_step (left := 1) hs.1 ho1.1
    have k2 := line_step (left := 1) hs.1 ho1.2
    rw [show (1 : Int) - 1 = 0 by decide, line_none hs.1] at k1 k2
    exact ⟨k1, k2⟩
theorem Fs.takes_later {l : List Pt} (h : PtsOk l) (ho : ∀ j, j < l.length → inOrder (listP l j) (listP l ((j + 1) % l.length)) = true) (a : Int) : ∀ d : Nat, a + (takesAt l a).1 ≤ a + d + (takesAt l (a + d)).1 ∧ a + (takesAt l a).2 ≤ a + d + (takesAt l (a + d)).2
  | 0 => by simp
  | d + 1 => by
    have h1 := takes_later h ho a d
    have h2 := takes_second h ho (a + d)
    rw [show a + ((d + 1 : Nat) : Int) = a + d + 1 by omega]
    omega
theorem Fs.soonest_good {N : Net} (h : netErr N = 0) : Good N (soonest N) :=
  ⟨fun i x hi hx => (soonest_small h i x hi hx).1, fun i x y hi hx hxy => by
    have := (takes_later (net_roads_ok h i hi).pts (PtsOk.order ((net_sound h).2.2.2 i hi)) x (y - x).toNat).1
    rw [show x + ((y - x).toNat : Int) = y by omega] at this
    exact this⟩
theorem Fs.latest_good {N : Net} (h : netErr N = 0) : Good N (latest N) :=
  ⟨fun i x hi hx => (latest_small h i x hi hx).1, fun i x y hi hx hxy => by
    have := (takes_later (net_roads_ok h i hi).pts (PtsOk.order ((net_sound h).2.2.2 i hi)) x (y - x).toNat).2
    rw [show x + ((y - x).toNat : Int) = y by omega] at this
    exact this⟩
/-- Who sets out later arrives no earlier, and wherever he arrives the other one does. -/
theorem Fs.search_later {N : Net} {nx : Nat → Int → Int} (hN : Joined N) (hg : Good N nx) {src : Nat} (hs : src < N.places.length) {a b : Int} (ha : 0 ≤ a) (hab : a ≤ b) :
    ∀ z, z < N.places.length → listI (search N src b nx).labels z ≠ -1 → listI (search N src a nx).labels z ≠ -1 ∧ listI (search N src a nx).labels z ≤ listI (search N src b nx).labels z := by
  have A := search_found hN hg hs ha
  have B := search_found hN hg hs (show 0 ≤ b by omega)
  generalize search N src a nx = S at *
  generalize search N src b nx = T at *
  obtain ⟨rk, ht⟩ := B.tree
  have key : ∀ n z, rk z ≤ n → z < N.places.length → listI T.labels z ≠ -1 → listI S.labels z ≠ -1 ∧ listI S.labels z ≤ listI T.labels z := by
    intro n
    induction n with
    | zero =>
      intro z hr hz hl
      by_cases e : listI T.last z = -1
      · rcases B.back z hz e with h1 | h1
        · subst h1; rw [A.own, B.own]; exact ⟨by omega, hab⟩
        · exact absurd h1 hl
      · obtain ⟨-, i, -, -, -, -, -, h6⟩ := ht z hz e
        omega
    | succ n ih =>
      intro z hr hz hl
      by_cases e : listI T.last z = -1
      · rcases B.back z hz e with h1 | h1
        · subst h1; rw [A.own, B.own]; exact ⟨by omega, hab⟩
        · exact absurd h1 hl
      · obtain ⟨-, i, h1, h2, h3, h4, h5, h6⟩ := ht z hz e
        have hj := hN i h1
        obtain ⟨k1, k2⟩ := ih (listD N.roads i).src.toNat (by omega) (by omega) h4
        have hst := A.step i h1 k1
        rw [h3, Int.toNat_natCast] at hst
        have hS : 0 ≤ listI S.labels (listD N.roads i).src.toNat := by
          rcases A.least (listD N.roads i).src.toNat (by omega) with h7 | h7
          · exact absurd h7 k1
          · omega
        have := hg.mono i _ _ h1 hS k2
        exact ⟨hst.1, by omega⟩
  exact fun z => key (rk z) z (Nat.le_refl _)
end Go.Proofs.YtndhpdjcpagghaaGreatDoor

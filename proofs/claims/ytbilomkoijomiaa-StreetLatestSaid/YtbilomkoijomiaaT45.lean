/- The reference's latest time to set out. Conditions: the net is right; the places are places; the time is small. -/
import Derived.Test.YtbilomkoijomiaaT44
import Derived.Test.YtbilomkoijomiaaT36
namespace Go.Proofs.Ytbilomkoijomiaa
open Go.RowKit Fs

/-- Where one way leads, it leads at any time, by any steps. -/
theorem Fs.search_reach {N : Net} {nx nx' : Nat → Int → Int} (hN : Joined N) (hg : Good N nx) (hg' : Good N nx') {src : Nat} (hs : src < N.places.length) {a b : Int} (ha : 0 ≤ a) (hb : 0 ≤ b) :
    ∀ z, z < N.places.length → listI (search N src a nx).labels z ≠ -1 → listI (search N src b nx').labels z ≠ -1 := by
  have A := search_found hN hg hs ha
  have B := search_found hN hg' hs hb
  generalize search N src a nx = S at *
  generalize search N src b nx' = T at *
  obtain ⟨rk, ht⟩ := A.tree
  have key : ∀ n z, rk z ≤ n → z < N.places.length → listI S.labels z ≠ -1 → listI T.labels z ≠ -1 := by
    intro n
    induction n with
    | zero =>
      intro z hr hz hl
      by_cases e : listI S.last z = -1
      · rcases A.back z hz e with h1 | h1
        · subst h1; rw [B.own]; omega
        · exact absurd h1 hl
      · obtain ⟨-, i, -, -, -, -, -, h6⟩ := ht z hz e
        omega
    | succ n ih =>
      intro z hr hz hl
      by_cases e : listI S.last z = -1
      · rcases A.back z hz e with h1 | h1
        · subst h1; rw [B.own]; omega
        · exact absurd h1 hl
      · obtain ⟨-, i, h1, h2, h3, h4, h5, h6⟩ := ht z hz e
        have hj := hN i h1
        have k1 := ih (listD N.roads i).src.toNat (by omega) (by omega) h4
        have hst := B.step i h1 k1
        rw [h3, Int.toNat_natCast] at hst
        exact hst.1
  exact fun z => key (rk z) z (Nat.le_refl _)
def Fs.lateAt (N : Net) (f t : Nat) (m : Int) : Int := listI (search N f m (latest N)).labels t
def Fs.NoWay (N : Net) (f t : Nat) (a : Int) : Prop := listI (search N f 0 (soonest N)).labels t < 0 ∨ a < lateAt N f t 0
def Fs.LatestRef (N : Net) (f t : Nat) (a r : Int) : Prop :=
  (NoWay N f t a ∧ r = -1) ∨ (¬ NoWay N f t a ∧ 0 ≤ r ∧ r ≤ 604800 ∧ lateAt N f t r ≤ a ∧ ∀ m, r < m → m ≤ 604800 → a < lateAt N f t m)
theorem Fs.late_up {N : Net} (hE : netErr N = 0) {f t : Nat} (hf : f < N.places.length) (ht : t < N.places.length) (h : ¬ listI (search N f 0 (soonest N)).labels t < 0) {x y : Int} (hx : 0 ≤ x) (hxy : x ≤ y) :
    x ≤ lateAt N f t x ∧ lateAt N f t x ≤ lateAt N f t y := by
  have r := search_reach (net_joined hE) (soonest_good hE) (latest_good hE) hf (Int.le_refl 0) (show 0 ≤ y by omega) t ht (by omega)
  have r2 := search_reach (net_joined hE) (soonest_good hE) (latest_good hE) hf (Int.le_refl 0) hx t ht (by omega)
  have l := (search_found (net_joined hE) (latest_good hE) hf hx).least t ht
  have := (search_later (net_joined hE) (latest_good hE) hf hx hxy t ht r).2
  unfold lateAt
  omega

set_option maxHeartbeats 6400000 in
set_option maxRecDepth 100000 in
theorem rLatestFor_any (N : Net) (v : Value) (f t : Nat) (a : Int) (w : World) (hN : RdNet w v N) (hE : netErr N = 0) (hf : f < N.places.length) (ht : t < N.places.length) :
    Calls Try.prog 45 #[v, stripV f t a] w fun e w' => ∃ r, e = .returned (.int .i64 r) ∧ LatestRef N f t a r ∧ Below w.heap.size w w' := by
  have hN0 := Lib.hid hN
  obtain ⟨P, R, pc, rc, ar, rfl, m⟩ := hN
  clear m
  have BN := Lib.hid ((BoxN.new w N P R pc rc 25).keep (Keep.alloc _ (.cells #[.int .i64 f, .int .i64 t, .int .i64 a] 63)))
  have BT := Lib.hid (TripAt.new1 w (.cells #[.slice P N.places.length pc, .slice R N.roads.length rc] 25) f t a 63)
  have HL := Lib.hid (fun h {x y} => late_up (x := x) (y := y) hE hf ht h)
  go_enter Try.func45, Try.ntmps45
  go_upto_region 1 with fail
  generalize hwb : (w.alloc _).alloc _ = wb at *
  have HW : Hid (Below w.heap.size w wb) := by rw [← hwb]; exact Lib.hid (((Below.refl _ _).alloc (Nat.le_refl _) _).alloc (by simp) _)
  clear hwb
  obtain ⟨n0, n1⟩ := BN.out
  obtain ⟨k0, k1, k2⟩ := BT.out
  go_wp2_with fail
  refine (rEstimate_any N _ f t 0 _ (hN0.out.keep (Keep.below HW.out)) hE hf ht (by decide) (by decide)).mono ?_
  rintro e' w1 ⟨rfl, hb1⟩
  have hal : Below w1.heap.size w1 (w1.alloc (.cells #[.int .i64 (listI (search N f 0 (soonest N)).labels t), .int .i64 (listI (search N f 0 (latest N)).labels t)] 35)) := (Below.refl _ _).alloc (Nat.le_refl _) _
  have hb2 := hb1.trans (hal.mono hb1.size)
  have HB := Lib.hid (HW.out.trans (hb2.mono HW.out.size))
  replace BN := Lib.hid (BN.out.keep (Keep.below hb2))
  replace BT := Lib.hid (BT.out.keep (Keep.below hb2))
  clear n0 n1 k0 k1 k2 hb1 hal hb2 HW
  obtain ⟨sl, hsl⟩ : ∃ sl, listI (search N f 0 (soonest N)).labels t = sl := ⟨_, rfl⟩
  have HSL := Lib.hid hsl
  clear hsl
  obtain ⟨n0, n1⟩ := BN.out
  obtain ⟨k0, k1, k2⟩ := BT.out
  go_upto_region 2 with fail
  generalize hw2 : w1.alloc _ = w2 at *
  clear hw2
  rw [HSL.out]
  by_cases hr : sl < 0
  · have HNW := Lib.hid (show NoWay N f t a from .inl (by rw [HSL.out]; exact hr))
    have d1 : decide (0 ≤ sl) = false := decide_eq_false (by omega)
    clear hr
    go_quiet (fail)
    go_wp2_with fail
    go_ret
    exact ⟨-1, rfl, .inl ⟨HNW.out, rfl⟩, bdrewN HB.out _⟩
  · have d1 : decide (0 ≤ sl) = true := decide_eq_true (by omega)
    have HR := Lib.hid (show ¬ listI (search N f 0 (soonest N)).labels t < 0 by rw [HSL.out]; exact hr)
    clear hr
    obtain ⟨C, Ci, Co⟩ := classOf w2
    refine quietC (C := C) (by kernel_rfl) (by kernel_rfl) (Co.out _ (Below.refl _ _).drew) ?_
    repeat (first
      | go_big_quiet_skip
      | (go_big_quiet_want; go_big_quiet_op; go_big_quiet_on)
      | (refine quiet_yes (by rfl) ?_
         apply Exists.intro
         refine ⟨fun w' hC => ?_, ?_⟩
         · have hbb := Ci.out _ hC
           have y0 := Keep.below hbb _ _ n0
           have y1 := Keep.below hbb _ _ n1
           have y2 := Keep.below hbb _ _ k0
           have y3 := Keep.below hbb _ _ k1
           have y4 := Keep.below hbb _ _ k2
           go_simp
           first
             | done
             | rfl
             | (go_at_call 97
                refine (rLateAt_any N _ f t a 0 _ (hN0.out.keep (Keep.below (HB.out.trans (hbb.mono HB.out.size)))) hE hf ht (by decide) (by decide)).mono ?_
                rintro e' w1 ⟨rfl, hb1⟩
                exact ⟨rfl, Co.out _ (hbb.trans (hb1.mono hbb.size))⟩)
         simp only [Act.put, List.setIfInBounds_toArray, List.set_cons_zero, List.set_cons_succ]))
    refine wpQuiet_nil ?_
    intro w3 hC3
    have hb3 := Ci.out _ hC3
    replace HB := Lib.hid (HB.out.trans (hb3.mono HB.out.size))
    replace BN := Lib.hid (BN.out.keep (Keep.below hb3))
    replace BT := Lib.hid (BT.out.keep (Keep.below hb3))
    clear n0 n1 k0 k1 k2 hb3 hC3 Ci Co C
    obtain ⟨l0, hl0⟩ : ∃ l0, listI (search N f 0 (latest N)).labels t = l0 := ⟨_, rfl⟩
    rw [hl0]
    by_cases hla : a < l0
    · have HNW := Lib.hid (show NoWay N f t a from .inr (by unfold lateAt; rw [hl0]; exact hla))
      have d2 : decide (l0 > a) = true := decide_eq_true hla
      have d3 : decide (a < l0) = true := decide_eq_true hla
      have d5 : ¬ l0 ≤ a := by omega
      clear hl0 hla
      go_wp2_with fail
      go_ret
      exact ⟨-1, rfl, .inl ⟨HNW.out, rfl⟩, HB.out⟩
    · have HNW := Lib.hid (show ¬ NoWay N f t a from fun h => h.elim HR.out (fun h => by unfold lateAt at h; rw [hl0] at h; exact hla h))
      have HL0 := Lib.hid (show lateAt N f t 0 ≤ a by unfold lateAt; rw [hl0]; omega)
      have d2 : decide (l0 > a) = false := decide_eq_false hla
      have d3 : decide (a < l0) = false := decide_eq_false hla
      have d5 : l0 ≤ a := by omega
      clear hl0 hla
      go_wp2_with fail
      go_loopw [7, 8] (fun u x wr => ∃ lo hi : Nat, u = .int .i64 lo ∧ x = .int .i64 hi ∧ lo ≤ hi ∧ hi ≤ 604800 ∧ Hid (lateAt N f t lo ≤ a) ∧ Hid (∀ m : Int, hi < m → m ≤ 604800 → a < lateAt N f t m) ∧ Hid (Below w3.heap.size w3 wr)) (fun u x _ => (intOf x).toNat - (intOf u).toNat)
      case atStart => exact ⟨0, 604800, rfl, rfl, by decide, Nat.le_refl _, HL0, Lib.hid (fun m h1 h2 => absurd h1 (by omega)), Lib.hid (Below.refl _ _)⟩
      case round =>
        obtain ⟨lo, hi, rfl, rfl, hlh, hh, HLO, HHI, HBr⟩ := hrel
        have HX := Lib.hid (HB.out.trans (HBr.out.mono HB.out.size))
        by_cases hlt : lo < hi
        · obtain ⟨mid, hmid⟩ : ∃ mid : Nat, mid = (lo + hi + 1) / 2 := ⟨_, rfl⟩
          have hm1 : lo < mid := by omega
          have hm2 : mid ≤ hi := by omega
          have hme : -((-((lo : Int) + (hi : Int))) / 2) = (mid : Int) := by omega
          have hlti : (lo : Int) < (hi : Int) := by omega
          clear hmid
          obtain ⟨n0, n1⟩ := BN.out.keep (Keep.below HBr.out)
          obtain ⟨k0, k1, k2⟩ := BT.out.keep (Keep.below HBr.out)
          go_wp2_with fail
          refine (ceil_any _ 2 _ (by omega) (by omega) (by decide) (by decide)).mono ?_
          rintro e' w4 ⟨rfl, rfl⟩
          rw [hme]
          clear hme
          go_wp2_with fail
          obtain ⟨C, Ci, Co⟩ := classOf wr
          refine quietC (C := C) (by kernel_rfl) (by kernel_rfl) (Co.out _ (Below.refl _ _).drew) ?_
          repeat (first
            | go_big_quiet_skip
            | (go_big_quiet_want; go_big_quiet_op; go_big_quiet_on)
            | (refine quiet_yes (by rfl) ?_
               apply Exists.intro
               refine ⟨fun w' hC => ?_, ?_⟩
               · have hbb := Ci.out _ hC
                 have y0 := Keep.below hbb _ _ n0
                 have y1 := Keep.below hbb _ _ n1
                 have y2 := Keep.below hbb _ _ k0
                 have y3 := Keep.below hbb _ _ k1
                 have y4 := Keep.below hbb _ _ k2
                 go_simp
                 first
                   | done
                   | rfl
                   | (go_at_call 97
                      refine (rLateAt_any N _ f t a mid _ (hN0.out.keep (Keep.below (HX.out.trans (hbb.mono HX.out.size)))) hE hf ht (by omega) (by omega)).mono ?_
                      rintro e' w1 ⟨rfl, hb1⟩
                      exact ⟨rfl, Co.out _ (hbb.trans (hb1.mono hbb.size))⟩)
               simp only [Act.put, List.setIfInBounds_toArray, List.set_cons_zero, List.set_cons_succ]))
          refine wpQuiet_nil ?_
          intro w5 hC5
          have hb5 := Ci.out _ hC5
          have HBq := Lib.hid (HBr.out.trans (hb5.mono HBr.out.size))
          clear n0 n1 k0 k1 k2 hb5 hC5 Ci Co C
          have HLM := Lib.hid (show lateAt N f t mid = listI (search N f mid (latest N)).labels t from rfl)
          rw [← HLM.out]
          by_cases hc : lateAt N f t mid ≤ a
          · have d4 : decide (lateAt N f t mid ≤ a) = true := decide_eq_true hc
            have HC := Lib.hid hc
            go_wp2_with fail
            go_roundw
            case rel => exact ⟨mid, hi, rfl, rfl, hm2, hh, HC, HHI, HBq⟩
            case measure => simp [intOf]; omega
          · have d4 : decide (lateAt N f t mid ≤ a) = false := decide_eq_false hc
            have HC := Lib.hid (show ∀ m : Int, (mid : Int) - 1 < m → m ≤ 604800 → a < lateAt N f t m from fun m h1 h2 => by
              have := (HL.out HR.out (x := mid) (y := m) (by omega) (by omega)).2
              omega)
            have hmm : (mid : Int) - 1 = ((mid - 1 : Nat) : Int) := by omega
            rw [hmm] at HC
            go_wp2_with fail
            go_roundw
            case rel => exact ⟨lo, mid - 1, rfl, by first | rfl | exact congrArg _ hmm | rw [hmm], by omega, by omega, HLO, HC, HBq⟩
            case measure => simp [intOf]; omega
        · obtain rfl : lo = hi := by omega
          clear hlt
          go_wp2_with fail
          go_ret
          exact ⟨lo, rfl, .inr ⟨HNW.out, by omega, by omega, HLO.out, HHI.out⟩, HX.out⟩
end Go.Proofs.Ytbilomkoijomiaa

/- Trips: what a trip breaks; the check of a trip; rules, records and a trip in one. Conditions where a function asks them: the trip is right. -/
import Derived.Test.YtjmaankkbdpikaaX7
import Derived.Test.YtjmaankkbdpikaaD24
import Derived.Test.YtjmaankkbdpikaaN1
import Derived.Deep.LoopGhost
import Derived.Test.YtjmaankkbdpikaaD9
namespace Go.Proofs.Ytjmaankkbdpikaa
open Go.RowKit Fs

theorem xBrokenMore_any (R : DRules) (l V : List WRec) (who : ByteArray) (s n : Int) (A : Option Addr) (c : Nat) (w : World) (hV : V = l ++ [⟨who, s, s + n⟩]) (h : ArrW w A V c) (hF : Fit V) :
    Calls Try.prog 48 #[bookV R A V.length c] w fun e w' => e = .returned (.int .i64 (brokenAt R (withTrip l s n) l.length)) ∧ Below w.heap.size w w' := by
  have e := xBrokenLast_any R V A c l.length w h hF (by rw [hV]; simp)
  rw [show brokenAt R V l.length = brokenAt R (withTrip l s n) l.length by rw [hV, with_who]] at e
  exact e
theorem xWithV_any (R : DRules) (l V : List WRec) (x : WRec) (A : Option Addr) (c : Nat) (w : World) (hV : V = l ++ [x]) (h : ArrW w A l c) (hl : l.length ≤ 1000) :
    Calls Try.prog 47 #[bookV R A l.length c, recV x] w fun e w' => (∃ A' c', e = .returned (bookV R A' V.length c') ∧ ArrW w' A' V c') ∧ Below w.heap.size w w' := by
  subst hV
  exact xWith_any R l x A c w h hl
set_option linter.unusedSimpArgs false in
set_option maxHeartbeats 12800000 in
set_option maxRecDepth 100000 in
theorem xBrokenBy_any (R : DRules) (l : List WRec) (t : DTrip) (len : Int) (A : Option Addr) (c : Nat) (w : World) (h : ArrW w A l c) (hR : Right l) (hT : Behind l t) (hn : 0 ≤ len ∧ len ≤ 200000) :
    Calls Try.prog 28 #[bookV R A l.length c, dtripV t, .int .i64 len] w fun e w' => e = .returned (.int .i64 (breaks R l t len)) ∧ Below w.heap.size w w' := by
  have b1 := h.le.1
  have b2 := h.le.2
  have HA := Lib.hid h
  clear h
  have hl40 := hT.len
  have hs0 := hT.from0
  have hs1 := hT.from1
  have hx0 := hT.next0
  have hx1 := hT.next1
  have HLT := Lib.hid hT.last
  have HRT := Lib.hid hR
  clear hT hR
  obtain ⟨hn0, hn1⟩ := hn
  have BB := Lib.hid ((BookIn.new w R A l.length c 74).keep (Keep.alloc _ (.cells #[.int .i64 t.start, .int .i64 t.lo, .int .i64 t.hi, .int .i64 t.next] 45)))
  have BT := Lib.hid (show TripIn ((w.alloc (.cells #[.int .i64 R.brk, .int .i64 R.rest, .int .i64 R.stint, .int .i64 R.shift, .int .i64 R.week, .slice A l.length c] 74)).alloc (.cells #[.int .i64 t.start, .int .i64 t.lo, .int .i64 t.hi, .int .i64 t.next] 45)) (w.heap.size + 1) t from ⟨cellNew1 _ _ _ _ 0, cellNew1 _ _ _ _ 1, cellNew1 _ _ _ _ 2, cellNew1 _ _ _ _ 3⟩)
  go_enter Try.func28, Try.ntmps28
  go_upto_region 1 with fail
  generalize hwb : (w.alloc _).alloc _ = wb at *
  have HW : Hid (Below w.heap.size w wb) := by rw [← hwb]; exact Lib.hid (((Below.refl _ _).alloc (Nat.le_refl _) _).alloc (by simp) _)
  clear hwb
  obtain ⟨t0, t1, t2, t3⟩ := BT.out
  obtain ⟨k0, k1, k2, k3, k4, k5⟩ := BB.out
  have hw2 : IntKind.i64.wrap (t.start + len) = t.start + len := by rw [IntKind.wrap_i64]; omega
  have hw3 : IntKind.i64.wrap (t.next - (t.start + len)) = t.next - (t.start + len) := by rw [IntKind.wrap_i64]; omega
  by_cases hp : 0 < len
  · have d1 : decide (len > 0) = true := decide_eq_true hp
    have d2 : decide (0 < len) = true := decide_eq_true hp
    obtain ⟨V, hV⟩ : ∃ V : List WRec, V = l ++ [⟨⟨#[]⟩, t.start, t.start + len⟩] := ⟨_, rfl⟩
    have HFW := Lib.hid (show Fit V by rw [hV]; exact more_fit (who := ⟨#[]⟩) HRT.out (by omega) hs0 hs1 hp hn1 HLT.out)
    have HV := Lib.hid hV
    clear hV
    have HP := Lib.hid hp
    go_wp2_with fail
    refine (xWithV_any R l V ⟨⟨#[]⟩, t.start, t.start + len⟩ A c _ HV.out (HA.out.keep (Keep.below HW.out)) (by omega)).mono ?_
    rintro e' w1 ⟨⟨A1, c1, rfl, h1⟩, hb1⟩
    replace BB := Lib.hid (BB.out.keep (Keep.below hb1))
    replace BT := Lib.hid (BT.out.keep (Keep.below hb1))
    replace HW := Lib.hid (HW.out.trans (hb1.mono HW.out.size))
    have H1 := Lib.hid h1
    clear h1 hb1 t0 t1 t2 t3 k0 k1 k2 k3 k4 k5
    go_wp2_with fail
    refine (xBrokenMore_any R l V ⟨#[]⟩ t.start len A1 c1 _ HV.out H1.out HFW.out).mono ?_
    rintro e' w2 ⟨rfl, hb1⟩
    replace BB := Lib.hid (BB.out.keep (Keep.below hb1))
    replace BT := Lib.hid (BT.out.keep (Keep.below hb1))
    replace HW := Lib.hid (HW.out.trans (hb1.mono HW.out.size))
    clear hb1 H1
    obtain ⟨t0, t1, t2, t3⟩ := BT.out
    obtain ⟨k0, k1, k2, k3, k4, k5⟩ := BB.out
    by_cases hb : brokenAt R (withTrip l t.start len) l.length = 0
    · have HB0 := Lib.hid hb
      rw [hb]
      clear hb
      have H6 : Hid (breaks R l t len = if t.next ≠ -1 ∧ t.next - (t.start + len) < R.rest then 4 else 0) := Lib.hid (if_neg (fun hh => hh.2 HB0.out))
      by_cases hx : t.next = -1
      · have G := Lib.hid (H6.out.trans (if_neg (fun hh => hh.1 hx)))
        have e3 : (t.next == -1) = true := by simpa using hx
        have e4 : (t.next != -1) = false := by simpa using hx
        go_wp2_with fail
        go_ret
        exact ⟨ret_int G.out.symm, HW.out⟩
      · have e3 : (t.next == -1) = false := by simpa using hx
        have e4 : (t.next != -1) = true := by simpa using hx
        by_cases hr : t.next - (t.start + len) < R.rest
        · have G := Lib.hid (H6.out.trans (if_pos ⟨hx, hr⟩))
          have e5 : decide (t.next - (t.start + len) < R.rest) = true := decide_eq_true hr
          clear hx
          go_wp2_with fail
          go_ret
          exact ⟨ret_int G.out.symm, HW.out⟩
        · have G := Lib.hid (H6.out.trans (if_neg (fun hh => hr hh.2)))
          have e5 : decide (t.next - (t.start + len) < R.rest) = false := decide_eq_false hr
          clear hx
          go_wp2_with fail
          go_ret
          exact ⟨ret_int G.out.symm, HW.out⟩
    · have G := Lib.hid (show breaks R l t len = brokenAt R (withTrip l t.start len) l.length from if_pos ⟨hp, hb⟩)
      generalize brokenAt R (withTrip l t.start len) l.length = X at *
      have e1 : (X == 0) = false := by simpa using hb
      have e2 : (X != 0) = true := by simpa using hb
      clear hb
      go_wp2_with fail
      go_ret
      exact ⟨ret_int G.out.symm, HW.out⟩
  · have d1 : decide (len > 0) = false := decide_eq_false hp
    have d2 : decide (0 < len) = false := decide_eq_false hp
    have HP := Lib.hid hp
    have H6 : Hid (breaks R l t len = if t.next ≠ -1 ∧ t.next - (t.start + len) < R.rest then 4 else 0) := Lib.hid (if_neg (fun hh => HP.out hh.1))
    by_cases hx : t.next = -1
    · have G := Lib.hid (H6.out.trans (if_neg (fun hh => hh.1 hx)))
      have e3 : (t.next == -1) = true := by simpa using hx
      have e4 : (t.next != -1) = false := by simpa using hx
      go_wp2_with fail
      go_ret
      exact ⟨ret_int G.out.symm, HW.out⟩
    · have e3 : (t.next == -1) = false := by simpa using hx
      have e4 : (t.next != -1) = true := by simpa using hx
      by_cases hr : t.next - (t.start + len) < R.rest
      · have G := Lib.hid (H6.out.trans (if_pos ⟨hx, hr⟩))
        have e5 : decide (t.next - (t.start + len) < R.rest) = true := decide_eq_true hr
        clear hx
        go_wp2_with fail
        go_ret
        exact ⟨ret_int G.out.symm, HW.out⟩
      · have G := Lib.hid (H6.out.trans (if_neg (fun hh => hr hh.2)))
        have e5 : decide (t.next - (t.start + len) < R.rest) = false := decide_eq_false hr
        clear hx
        go_wp2_with fail
        go_ret
        exact ⟨ret_int G.out.symm, HW.out⟩
end Go.Proofs.Ytjmaankkbdpikaa
/- The check of a trip. No condition. -/
namespace Go.Proofs.Ytjmaankkbdpikaa
open Go.RowKit Fs

set_option maxHeartbeats 400000 in
theorem xIsTakes_any (n : Int) (w : World) : Calls Try.prog 66 #[.int .i64 n] w fun e w' => e = .returned (.bool (within n 0 200000)) ∧ w = w' := by
  go_enter Try.func66, Try.ntmps66
  go_wp2_with (go_at_call 56; refine (within_any _ _ _ _).mono ?_; rintro e w' ⟨rfl, rfl⟩)
  go_ret
  exact ⟨rfl, rfl⟩
def Fs.ownTripErr (t : DTrip) : Int :=
  if !(isClock t.start && within t.lo 0 200000 && within t.hi 0 200000) then 2
  else if t.hi < t.lo then 9
  else if t.next ≠ -1 ∧ isClock t.next = false then 2 else 0
set_option linter.unusedSimpArgs false in
set_option maxHeartbeats 12800000 in
set_option maxRecDepth 100000 in
theorem xTripErr_any (t : DTrip) (w : World) :
    Calls Try.prog 44 #[dtripV t] w fun e w' => e = .returned (.int .i64 (ownTripErr t)) ∧ Below w.heap.size w w' := by
  have BT := Lib.hid (TripIn.new w t 45)
  go_enter Try.func44, Try.ntmps44
  go_upto_region 1 with fail
  generalize hwb : w.alloc _ = wb at *
  have HW : Hid (Below w.heap.size w wb) := by rw [← hwb]; exact Lib.hid ((Below.refl _ _).alloc (Nat.le_refl _) _)
  clear hwb
  obtain ⟨t0, t1, t2, t3⟩ := BT.out
  cases h1 : isClock t.start with
  | false =>
    have F := Lib.hid (show ownTripErr t = 2 by unfold ownTripErr; rw [h1]; simp)
    go_wp2_with fail
    refine (xIsTime_any _ _).mono ?_
    rintro e wx ⟨rfl, rfl⟩
    rw [h1]
    go_wp2_with fail
    go_ret
    exact ⟨ret_int F.out.symm, HW.out⟩
  | true =>
    cases h2 : within t.lo 0 200000 with
    | false =>
      have F := Lib.hid (show ownTripErr t = 2 by unfold ownTripErr; rw [h1, h2]; simp)
      go_wp2_with fail
      refine (xIsTime_any _ _).mono ?_
      rintro e wx ⟨rfl, rfl⟩
      rw [h1]
      go_wp2_with fail
      refine (xIsTakes_any _ _).mono ?_
      rintro e wx ⟨rfl, rfl⟩
      rw [h2]
      go_wp2_with fail
      go_ret
      exact ⟨ret_int F.out.symm, HW.out⟩
    | true =>
      cases h3 : within t.hi 0 200000 with
      | false =>
        have F := Lib.hid (show ownTripErr t = 2 by unfold ownTripErr; rw [h1, h2, h3]; simp)
        go_wp2_with fail
        refine (xIsTime_any _ _).mono ?_
        rintro e wx ⟨rfl, rfl⟩
        rw [h1]
        go_wp2_with fail
        refine (xIsTakes_any _ _).mono ?_
        rintro e wx ⟨rfl, rfl⟩
        rw [h2]
        go_wp2_with fail
        refine (xIsTakes_any _ _).mono ?_
        rintro e wx ⟨rfl, rfl⟩
        rw [h3]
        go_wp2_with fail
        go_ret
        exact ⟨ret_int F.out.symm, HW.out⟩
      | true =>
        have F0 := Lib.hid (show ownTripErr t = if t.hi < t.lo then 9 else if t.next ≠ -1 ∧ isClock t.next = false then 2 else 0 by unfold ownTripErr; rw [h1, h2, h3]; rfl)
        go_wp2_with fail
        refine (xIsTime_any _ _).mono ?_
        rintro e wx ⟨rfl, rfl⟩
        rw [h1]
        go_wp2_with fail
        refine (xIsTakes_any _ _).mono ?_
        rintro e wx ⟨rfl, rfl⟩
        rw [h2]
        go_wp2_with fail
        refine (xIsTakes_any _ _).mono ?_
        rintro e wx ⟨rfl, rfl⟩
        rw [h3]
        by_cases h4 : t.hi < t.lo
        · have F := Lib.hid (F0.out.trans (if_pos h4))
          have d1 : decide (t.lo > t.hi) = true := decide_eq_true h4
          have d2 : decide (t.hi < t.lo) = true := decide_eq_true h4
          clear h1 h2 h3
          go_wp2_with fail
          go_ret
          exact ⟨ret_int F.out.symm, HW.out⟩
        · have F1 := Lib.hid (F0.out.trans (if_neg h4))
          have d1 : decide (t.lo > t.hi) = false := decide_eq_false h4
          have d2 : decide (t.hi < t.lo) = false := decide_eq_false h4
          clear h1 h2 h3
          by_cases hx : t.next = -1
          · have F := Lib.hid (F1.out.trans (if_neg (fun hh => hh.1 hx)))
            have e3 : (t.next == -1) = true := by simpa using hx
            have e4 : (t.next != -1) = false := by simpa using hx
            go_wp2_with fail
            go_ret
            exact ⟨ret_int F.out.symm, HW.out⟩
          · have e3 : (t.next == -1) = false := by simpa using hx
            have e4 : (t.next != -1) = true := by simpa using hx
            cases h5 : isClock t.next with
            | false =>
              have F := Lib.hid (F1.out.trans (if_pos ⟨hx, h5⟩))
              clear hx
              go_wp2_with fail
              refine (xIsTime_any _ _).mono ?_
              rintro e wx ⟨rfl, rfl⟩
              rw [h5]
              go_wp2_with fail
              go_ret
              exact ⟨ret_int F.out.symm, HW.out⟩
            | true =>
              have F := Lib.hid (F1.out.trans (if_neg (fun hh => by rw [h5] at hh; exact absurd hh.2 (by decide))))
              clear hx
              go_wp2_with fail
              refine (xIsTime_any _ _).mono ?_
              rintro e wx ⟨rfl, rfl⟩
              rw [h5]
              go_wp2_with fail
              go_ret
              exact ⟨ret_int F.out.symm, HW.out⟩
end Go.Proofs.Ytjmaankkbdpikaa
/- sort.Search: the first number from which on a function says yes. Condition: who said yes says yes for all later ones. -/
namespace Go.Proofs.Ytjmaankkbdpikaa
open Go.RowKit Fs

set_option maxHeartbeats 1600000 in
set_option maxRecDepth 100000 in
theorem sortSearch_any (K : Nat) (p1 p2 : Value) (n : Nat) (p : Nat → Bool) (w : World) (hn : n ≤ 1000000000) (hcall : ∀ (args : Array Value) (w : World), (callFunc K args).run Try.prog w = .ok (.enter K args) w)
    (hf : ∀ w', Below w.heap.size w w' → ∀ i : Nat, i < n → Calls Try.prog K #[.int .i64 i, p1, p2] w' fun e w'' => e = .returned (.bool (p i)) ∧ Below w'.heap.size w' w'')
    (hmono : ∀ a b, a ≤ b → b < n → p a = true → p b = true) :
    Calls Try.prog 29 #[.int .i64 n, .func (.func K) #[] #[p1, p2]] w fun e w' => ∃ k : Nat, k ≤ n ∧ e = .returned (.int .i64 k) ∧ (∀ t, t < k → p t = false) ∧ (∀ t, k ≤ t → t < n → p t = true) ∧ Below w.heap.size w w' := by
  have HCALL := Lib.hid hcall
  have HF := Lib.hid hf
  have HM := Lib.hid hmono
  clear hcall hf hmono
  go_enter Try.func29, Try.ntmps29
  go_wp2_with fail
  go_loopw [5, 6] (fun s5 s6 wr => ∃ lo hi : Nat, s5 = .int .i64 lo ∧ s6 = .int .i64 hi ∧ lo ≤ hi ∧ hi ≤ n ∧ Hid ((∀ t, t < lo → p t = false) ∧ (∀ t, hi ≤ t → t < n → p t = true)) ∧ Hid (Below w.heap.size w wr)) (fun s5 s6 _ => (intOf s6).toNat - (intOf s5).toNat)
  case atStart => exact ⟨0, n, rfl, rfl, Nat.zero_le _, Nat.le_refl _, Lib.hid ⟨fun t ht => absurd ht (Nat.not_lt_zero _), fun t h1 h2 => by omega⟩, Lib.hid (Below.refl _ _)⟩
  case round =>
    obtain ⟨lo, hi, rfl, rfl, hlh, hin, I, HB⟩ := hrel
    by_cases hlt : lo < hi
    · obtain ⟨mid, hmid⟩ : ∃ mid : Nat, mid = (lo + hi) / 2 := ⟨_, rfl⟩
      have hm1 : lo ≤ mid := by omega
      have hm2 : mid < hi := by omega
      have hme : ((lo : Int) + (hi : Int)) / 2 = (mid : Int) := by omega
      have hc := HF.out wr HB.out mid (by omega)
      have HC := Lib.hid hc
      have hcall := HCALL.out
      clear hc hmid
      cases hp : p mid with
      | false =>
        have HP := Lib.hid hp
        clear hp
        go_wp2_with fail
        refine HC.out.mono ?_
        rintro e w2 ⟨rfl, hb2⟩
        rw [HP.out]
        go_wp2_with fail
        go_roundw
        case rel =>
          refine ⟨mid + 1, hi, by go_num, rfl, by omega, hin, Lib.hid ⟨fun t ht => ?_, I.out.2⟩, Lib.hid (HB.out.trans (hb2.mono HB.out.size))⟩
          cases h : p t with
          | false => rfl
          | true =>
            have := HM.out t mid (by omega) (by omega) h
            rw [HP.out] at this
            cases this
        case measure => simp [intOf]; omega
      | true =>
        have HP := Lib.hid hp
        clear hp
        go_wp2_with fail
        refine HC.out.mono ?_
        rintro e w2 ⟨rfl, hb2⟩
        rw [HP.out]
        go_wp2_with fail
        go_roundw
        case rel =>
          exact ⟨lo, mid, rfl, rfl, hm1, by omega, Lib.hid ⟨I.out.1, fun t ht htn => HM.out mid t ht htn HP.out⟩, Lib.hid (HB.out.trans (hb2.mono HB.out.size))⟩
        case measure => simp [intOf]; omega
    · obtain rfl : hi = lo := by omega
      clear hlt
      go_wp2_with fail
      go_ret
      exact ⟨hi, hin, rfl, I.out.1, I.out.2, HB.out⟩
end Go.Proofs.Ytjmaankkbdpikaa
/- Rules, records and a trip in one; which trips are allowed; for how long. No condition. -/
namespace Go.Proofs.Ytjmaankkbdpikaa
open Go.RowKit Fs

theorem Fs.dtrip_is (R : DRules) (l : List WRec) (t : DTrip) (h : l.length ≤ 40) : dtripErr R l t = if l.length = 40 then 16 else if ownTripErr t ≠ 0 then ownTripErr t else if 0 < l.length ∧ t.start < (listW l (l.length - 1)).fin then 26 else if brokenRule R l ≠ 0 then 22 else 0 := by
  unfold dtripErr ownTripErr
  by_cases h40 : l.length = 40
  · rw [if_pos (by omega), if_pos h40]
  · rw [if_neg (by omega), if_neg h40]
    by_cases h1 : (!(isClock t.start && within t.lo 0 200000 && within t.hi 0 200000)) = true
    · rw [if_pos h1, if_pos h1, if_pos (by decide)]
    · rw [if_neg h1, if_neg h1]
      by_cases h2 : t.hi < t.lo
      · rw [if_pos h2, if_pos h2, if_pos (by decide)]
      · rw [if_neg h2, if_neg h2]
        by_cases h3 : t.next ≠ -1 ∧ isClock t.next = false
        · rw [if_pos h3, if_pos h3, if_pos (by decide)]
        · rw [if_neg h3, if_neg h3]
          exact (if_neg (fun hh => hh rfl)).symm
set_option linter.unusedSimpArgs false in
set_option maxHeartbeats 12800000 in
set_option maxRecDepth 100000 in
theorem xBookFor_any (R : DRules) (l : List WRec) (t : DTrip) (A : Option Addr) (c : Nat) (w : World) (h : ArrW w A l c) :
    Calls Try.prog 27 #[drulesV R, .slice A l.length c, dtripV t] w fun e w' => (∃ v, e = .returned (.tuple #[v, .int .i64 (lawTripErr R l t)]) ∧ (lawTripErr R l t = 0 → v = bookV R A l.length c) ∧ (lawTripErr R l t ≠ 0 → v = bookZ)) ∧ Below w.heap.size w w' := by
  have b1 := h.le.1
  have b2 := h.le.2
  have HA := Lib.hid h
  clear h
  have R1 := Lib.hid ((RulesIn.new w R 29).keep (Keep.alloc _ (.cells #[.int .i64 t.start, .int .i64 t.lo, .int .i64 t.hi, .int .i64 t.next] 45)))
  have BR := Lib.hid (R1.out.keep (Keep.alloc _ (.cells #[.int .i64 0, .int .i64 0, .int .i64 0, .int .i64 0, .int .i64 0, .slice none 0 0] 74)))
  have T1 := Lib.hid (show TripIn ((w.alloc (.cells #[.int .i64 R.brk, .int .i64 R.rest, .int .i64 R.stint, .int .i64 R.shift, .int .i64 R.week] 29)).alloc (.cells #[.int .i64 t.start, .int .i64 t.lo, .int .i64 t.hi, .int .i64 t.next] 45)) (w.heap.size + 1) t from ⟨cellNew1 _ _ _ _ 0, cellNew1 _ _ _ _ 1, cellNew1 _ _ _ _ 2, cellNew1 _ _ _ _ 3⟩)
  have BT := Lib.hid (T1.out.keep (Keep.alloc _ (.cells #[.int .i64 0, .int .i64 0, .int .i64 0, .int .i64 0, .int .i64 0, .slice none 0 0] 74)))
  have BZ := Lib.hid (Six.new ((w.alloc (.cells #[.int .i64 R.brk, .int .i64 R.rest, .int .i64 R.stint, .int .i64 R.shift, .int .i64 R.week] 29)).alloc (.cells #[.int .i64 t.start, .int .i64 t.lo, .int .i64 t.hi, .int .i64 t.next] 45)) (.int .i64 0) (.int .i64 0) (.int .i64 0) (.int .i64 0) (.int .i64 0) (.slice none 0 0) 74)
  have hsz : ((w.alloc (.cells #[.int .i64 R.brk, .int .i64 R.rest, .int .i64 R.stint, .int .i64 R.shift, .int .i64 R.week] 29)).alloc (.cells #[.int .i64 t.start, .int .i64 t.lo, .int .i64 t.hi, .int .i64 t.next] 45)).heap.size = w.heap.size + 1 + 1 := by simp
  rw [hsz] at BZ
  clear hsz R1 T1
  go_enter Try.func27, Try.ntmps27
  go_upto_region 1 with fail
  generalize hwb : ((w.alloc _).alloc _).alloc _ = wb at *
  have HW : Hid (Below w.heap.size w wb) := by rw [← hwb]; exact Lib.hid ((((Below.refl _ _).alloc (Nat.le_refl _) _).alloc (by simp) _).alloc (by simp; omega) _)
  clear hwb
  obtain ⟨a0, a1, a2, a3, a4⟩ := BR.out
  by_cases he : bothErr R l = 0
  · have HE := Lib.hid he
    have HRT := Lib.hid (recs_right (both_ok he).2)
    have h40 := (recs_right (both_ok he).2).len
    have H0 := Lib.hid (show lawTripErr R l t = dtripErr R l t from if_neg (fun hh => hh he))
    have H1 := Lib.hid (H0.out.trans (dtrip_is R l t h40))
    clear he H0
    go_upto_region 2 with (go_at_call 43
                           refine (xBookOf_any R l A c _ (HA.out.keep (Keep.below HW.out))).mono ?_
                           rintro e' w1 ⟨⟨v, rfl, hv1, -⟩, hb1⟩
                           obtain rfl := hv1 HE.out
                           rw [HE.out]
                           have BX := Lib.hid (BookIn.new w1 R A l.length c 74)
                           have hbx := (hb1.alloc hb1.size (.cells #[.int .i64 R.brk, .int .i64 R.rest, .int .i64 R.stint, .int .i64 R.shift, .int .i64 R.week, .slice A l.length c] 74))
                           replace BT := Lib.hid (BT.out.keep (Keep.below hbx))
                           replace BZ := Lib.hid (BZ.out.keep hbx)
                           replace HW := Lib.hid (HW.out.trans (hbx.mono HW.out.size))
                           clear hb1 hbx hv1 a0 a1 a2 a3 a4 BR)
    generalize hg : w1.heap.size = g at *
    generalize hwy : w1.alloc _ = wy at *
    clear hwy hg
    by_cases hl : l.length = 40
    · have HF := Lib.hid (H1.out.trans (if_pos hl))
      have HNE := Lib.hid (show lawTripErr R l t ≠ 0 by rw [HF.out]; decide)
      have e1 : ((l.length : Int) == 40) = true := by simp; omega
      clear H1 hl
      obtain ⟨z0, z1, z2, z3, z4, z5, f0, f1, f2, f3, f4, f5⟩ := BZ.out
      go_wp2_with fail
      obtain ⟨s0, s1, s2, s3, s4, s5, -, -, -, -, -, -⟩ := BZ.out.set (.int .i64 0) (.int .i64 0) (.int .i64 0) (.int .i64 0) (.int .i64 0) (.slice none 0 0)
      refine bodyPost_ret (v := .tuple #[bookZ, .int .i64 16]) (by simp [results, Try.results27, go_sem, s0, s1, s2, s3, s4, s5]) rfl ⟨⟨_, by rw [HF.out], fun h => absurd h HNE.out, fun _ => rfl⟩, ?_⟩
      exact below_six HW.out (by omega) _ _ _ _ _ _
    · have H2 := Lib.hid (H1.out.trans (if_neg hl))
      have e1 : ((l.length : Int) == 40) = false := by simp; omega
      have HQL := Lib.hid hl
      clear H1 hl
      obtain ⟨t0, t1, t2, t3⟩ := BT.out
      go_wp2_with fail
      refine (xTripErr_any t _).mono ?_
      rintro e' w2 ⟨rfl, hb1⟩
      replace BT := Lib.hid (BT.out.keep (Keep.below hb1))
      replace BX := Lib.hid (BX.out.keep (Keep.below hb1))
      replace BZ := Lib.hid (BZ.out.keep hb1)
      replace HW := Lib.hid (HW.out.trans (hb1.mono HW.out.size))
      clear hb1 t0 t1 t2 t3 wy w1
      by_cases ho : ownTripErr t = 0
      · have H3 := Lib.hid (H2.out.trans (if_neg (fun hh => hh ho)))
        rw [ho]
        clear ho H2
        obtain ⟨t0, t1, t2, t3⟩ := BT.out
        obtain ⟨k0, k1, k2, k3, k4, k5⟩ := BX.out
        rcases Nat.eq_zero_or_pos l.length with h0 | h0
        · have H4 := Lib.hid (H3.out.trans (if_neg (fun hh => absurd hh.1 (by omega))))
          have e5 : decide ((l.length : Int) > 0) = false := decide_eq_false (by omega)
          have e6 : decide (0 < (l.length : Int)) = false := decide_eq_false (by omega)
          have e7 : decide (0 < l.length) = false := decide_eq_false (by omega)
          have e8 : ¬ 0 < l.length := by omega
          have HQ0 := Lib.hid h0
          clear h0
          go_wp2_with fail
          go_quiet (fail)
          generalize hwd : World.drewN w2 _ = w4 at *
          have HB : Hid (Below w2.heap.size w2 w4) := by rw [← hwd]; exact Lib.hid (bdrewN (Below.refl _ _) _)
          clear hwd t0 t1 t2 t3 k0 k1 k2 k3 k4 k5
          replace BT := Lib.hid (BT.out.keep (Keep.below HB.out))
          replace BX := Lib.hid (BX.out.keep (Keep.below HB.out))
          replace BZ := Lib.hid (BZ.out.keep HB.out)
          replace HW := Lib.hid (HW.out.trans (HB.out.mono HW.out.size))
          clear HB
          have H5B : Hid (firstOut R l = if brokenRule R l = 0 then (0, 0, 12) else (brokenRule R l, brokenRec R l, 0)) := Lib.hid rfl
          obtain ⟨k0, k1, k2, k3, k4, k5⟩ := BX.out
          by_cases hb : brokenRule R l = 0
          · have HF := Lib.hid (H4.out.trans (if_neg (fun hh => hh hb)))
            have HO := Lib.hid (H5B.out.trans (if_pos hb))
            clear hb
            go_upto_region 12 with (go_at_call 46
                                    refine (xFirst_any R l A c _ (HA.out.keep (Keep.below HW.out)) HRT.out).mono ?_
                                    rintro e' w5 ⟨rfl, hb1⟩
                                    rw [HO.out]
                                    have hbx := (hb1.alloc hb1.size (.cells #[.int .i64 0, .int .i64 0] 104))
                                    replace BX := Lib.hid (BX.out.keep (Keep.below hbx))
                                    replace BZ := Lib.hid (BZ.out.keep hbx)
                                    replace HW := Lib.hid (HW.out.trans (hbx.mono HW.out.size))
                                    clear hb1 hbx k0 k1 k2 k3 k4 k5)
            generalize hwy : w5.alloc _ = w6 at *
            clear hwy
            obtain ⟨k0, k1, k2, k3, k4, k5⟩ := BX.out
            obtain ⟨z0, z1, z2, z3, z4, z5, f0, f1, f2, f3, f4, f5⟩ := BZ.out
            go_wp2_with fail
            obtain ⟨s0, s1, s2, s3, s4, s5, -, -, -, -, -, -⟩ := BZ.out.set (.int .i64 R.brk) (.int .i64 R.rest) (.int .i64 R.stint) (.int .i64 R.shift) (.int .i64 R.week) (.slice A l.length c)
            refine bodyPost_ret (v := .tuple #[bookV R A l.length c, .int .i64 0]) (by simp [results, Try.results27, go_sem, s0, s1, s2, s3, s4, s5]) rfl ⟨⟨_, by rw [HF.out], fun _ => rfl, fun h => absurd HF.out h⟩, ?_⟩
            exact below_six HW.out (by omega) _ _ _ _ _ _
          · have HF := Lib.hid (H4.out.trans (if_pos hb))
            have HO := Lib.hid (H5B.out.trans (if_neg hb))
            have HNE := Lib.hid (show lawTripErr R l t ≠ 0 by rw [HF.out]; decide)
            clear hb
            go_upto_region 12 with (go_at_call 46
                                    refine (xFirst_any R l A c _ (HA.out.keep (Keep.below HW.out)) HRT.out).mono ?_
                                    rintro e' w5 ⟨rfl, hb1⟩
                                    rw [HO.out]
                                    have hbx := (hb1.alloc hb1.size (.cells #[.int .i64 (brokenRule R l), .int .i64 (brokenRec R l : Nat)] 104))
                                    replace BX := Lib.hid (BX.out.keep (Keep.below hbx))
                                    replace BZ := Lib.hid (BZ.out.keep hbx)
                                    replace HW := Lib.hid (HW.out.trans (hbx.mono HW.out.size))
                                    clear hb1 hbx k0 k1 k2 k3 k4 k5)
            generalize hwy : w5.alloc _ = w6 at *
            clear hwy
            obtain ⟨z0, z1, z2, z3, z4, z5, f0, f1, f2, f3, f4, f5⟩ := BZ.out
            go_wp2_with fail
            obtain ⟨s0, s1, s2, s3, s4, s5, -, -, -, -, -, -⟩ := BZ.out.set (.int .i64 0) (.int .i64 0) (.int .i64 0) (.int .i64 0) (.int .i64 0) (.slice none 0 0)
            refine bodyPost_ret (v := .tuple #[bookZ, .int .i64 22]) (by simp [results, Try.results27, go_sem, s0, s1, s2, s3, s4, s5]) rfl ⟨⟨_, by rw [HF.out], fun h => absurd h HNE.out, fun _ => rfl⟩, ?_⟩
            exact below_six HW.out (by omega) _ _ _ _ _ _
        · obtain ⟨n, hn⟩ : ∃ n, l.length = n + 1 := ⟨l.length - 1, by omega⟩
          have e5 : decide ((l.length : Int) > 0) = true := decide_eq_true (by omega)
          have e6 : decide (0 < (l.length : Int)) = true := decide_eq_true (by omega)
          have e7 : decide (0 < l.length) = true := decide_eq_true (by omega)
          have HN1 := Lib.hid (show n < l.length by omega)
          have HN2 := Lib.hid (show l.length ≤ n + 1 by omega)
          have HFN := Lib.hid (show listW l (l.length - 1) = listW l n by rw [hn]; rfl)
          rw [HFN.out] at H3
          clear hn
          go_wp2_with fail
          have HBd : Hid (Below w2.heap.size w2 w2.drew) := Lib.hid (Below.refl _ _).drew
          have MK : Hid (∀ w', Below w2.heap.size w2 w' → w'.cell? ⟨g, 0, none⟩ = some (.int .i64 R.brk) ∧ w'.cell? ⟨g, 1, none⟩ = some (.int .i64 R.rest) ∧ w'.cell? ⟨g, 2, none⟩ = some (.int .i64 R.stint) ∧ w'.cell? ⟨g, 3, none⟩ = some (.int .i64 R.shift) ∧ w'.cell? ⟨g, 4, none⟩ = some (.int .i64 R.week) ∧ w'.cell? ⟨g, 5, none⟩ = some (.slice A l.length c) ∧ w'.cell? ⟨w.heap.size + 1, 0, none⟩ = some (.int .i64 t.start) ∧ Hid (Below w2.heap.size w2 w')) :=
            Lib.hid fun w' hw => ⟨Keep.below hw _ _ k0, Keep.below hw _ _ k1, Keep.below hw _ _ k2, Keep.below hw _ _ k3, Keep.below hw _ _ k4, Keep.below hw _ _ k5, Keep.below hw _ _ t0, Lib.hid hw⟩
          have KA : Hid (∀ w', Below w2.heap.size w2 w' → ArrW w' A l c) := Lib.hid fun w' hw => (HA.out.keep (Keep.below (HW.out.trans (hw.mono HW.out.size))))
          refine wp_region_held_drew (S := fun w' => w'.cell? ⟨g, 0, none⟩ = some (.int .i64 R.brk) ∧ w'.cell? ⟨g, 1, none⟩ = some (.int .i64 R.rest) ∧ w'.cell? ⟨g, 2, none⟩ = some (.int .i64 R.stint) ∧ w'.cell? ⟨g, 3, none⟩ = some (.int .i64 R.shift) ∧ w'.cell? ⟨g, 4, none⟩ = some (.int .i64 R.week) ∧ w'.cell? ⟨g, 5, none⟩ = some (.slice A l.length c) ∧ w'.cell? ⟨w.heap.size + 1, 0, none⟩ = some (.int .i64 t.start) ∧ Hid (Below w2.heap.size w2 w')) (by kernel_rfl) (MK.out _ HBd.out) (fun hHeld => ?_)
          refine wpAnyH_take (i := 0) (v := ?val0x19) rfl (by kernel_rfl) (by kernel_rfl) (by kernel_rfl) (fun _ _ _ h => h) (Or.inl ⟨by rfl, fun w9 hS9 => ?yields0x19⟩) (by assumption) ?later0x19
          case yields0x19 =>
            dsimp only at hS9
            go_simp
            try with_reducible rfl
          try simp only [Act.put, List.getElem_toArray, List.getElem_cons_succ, List.getElem_cons_zero, List.setIfInBounds_toArray, List.set_cons_zero, List.set_cons_succ]
          refine wpAnyH_take (i := 1) (v := ?val1x20) rfl (by kernel_rfl) (by kernel_rfl) (by kernel_rfl) (fun _ _ _ h => h) (Or.inl ⟨by rfl, fun w9 hS9 => ?yields1x20⟩) (by assumption) ?later1x20
          case yields1x20 =>
            dsimp only at hS9
            go_simp
            try with_reducible rfl
          try simp only [Act.put, List.getElem_toArray, List.getElem_cons_succ, List.getElem_cons_zero, List.setIfInBounds_toArray, List.set_cons_zero, List.set_cons_succ]
          refine wpAnyH_take (i := 2) (v := ?val2x21) rfl (by kernel_rfl) (by kernel_rfl) (by kernel_rfl) (fun _ _ _ h => h) (Or.inl ⟨by rfl, fun w9 hS9 => ?yields2x21⟩) (by assumption) ?later2x21
          case yields2x21 =>
            dsimp only at hS9
            go_simp
            try with_reducible rfl
          try simp only [Act.put, List.getElem_toArray, List.getElem_cons_succ, List.getElem_cons_zero, List.setIfInBounds_toArray, List.set_cons_zero, List.set_cons_succ]
          refine wpAnyH_take (i := 3) (v := ?val3x22) rfl (by kernel_rfl) (by kernel_rfl) (by kernel_rfl) (fun _ _ _ h => h) (Or.inl ⟨by rfl, fun w9 hS9 => ?yields3x22⟩) (by assumption) ?later3x22
          case yields3x22 =>
            dsimp only at hS9
            go_simp
            try with_reducible rfl
          try simp only [Act.put, List.getElem_toArray, List.getElem_cons_succ, List.getElem_cons_zero, List.setIfInBounds_toArray, List.set_cons_zero, List.set_cons_succ]
          refine wpAnyH_take (i := 4) (v := ?val4x23) rfl (by kernel_rfl) (by kernel_rfl) (by kernel_rfl) (fun _ _ _ h => h) (Or.inl ⟨by rfl, fun w9 hS9 => ?yields4x23⟩) (by assumption) ?later4x23
          case yields4x23 =>
            dsimp only at hS9
            go_simp
            try with_reducible rfl
          try simp only [Act.put, List.getElem_toArray, List.getElem_cons_succ, List.getElem_cons_zero, List.setIfInBounds_toArray, List.set_cons_zero, List.set_cons_succ]
          refine wpAnyH_take (i := 5) (v := ?val5x24) rfl (by kernel_rfl) (by kernel_rfl) (by kernel_rfl) (fun _ _ _ h => h) (Or.inl ⟨by rfl, fun w9 hS9 => ?yields5x24⟩) (by assumption) ?later5x24
          case yields5x24 =>
            dsimp only at hS9
            go_simp
            try with_reducible rfl
          try simp only [Act.put, List.getElem_toArray, List.getElem_cons_succ, List.getElem_cons_zero, List.setIfInBounds_toArray, List.set_cons_zero, List.set_cons_succ]
          refine wpAnyH_take (i := 6) (v := ?val6x25) rfl (by kernel_rfl) (by kernel_rfl) (by kernel_rfl) (fun _ _ _ h => h) (Or.inl ⟨by rfl, fun w9 hS9 => ?yields6x25⟩) (by assumption) ?later6x25
          case yields6x25 =>
            dsimp only at hS9
            go_simp
            try with_reducible rfl
          try simp only [Act.put, List.getElem_toArray, List.getElem_cons_succ, List.getElem_cons_zero, List.setIfInBounds_toArray, List.set_cons_zero, List.set_cons_succ]
          refine wpAnyH_ready (rs := [7]) (by kernel_rfl) (by simp) ?_
          refine AllReadyH.cons rfl (fun K hK => ?_) AllReadyH.nil
          go_simp
          go_at_call 45
          go_split_ands
          refine (xEnd_any R l A c n _ (KA.out _ (Hid.out (by assumption))) HN1.out HN2.out).mono ?_
          rintro e' w4 ⟨rfl, hb1⟩
          go_wp2_with fail
          refine hK.out _ _ ?_ (fun hHeld => ?_)
          · (try dsimp only)
            (go_split_ands; exact MK.out _ (Below.trans (Hid.out (by assumption)) (hb1.mono (Hid.out (by assumption) : Below w2.heap.size w2 _).size)))
          clear hK K
          try simp only [Act.put, List.getElem_toArray, List.getElem_cons_succ, List.getElem_cons_zero, List.setIfInBounds_toArray, List.set_cons_zero, List.set_cons_succ]
          refine wpAnyH_take (i := 8) (v := ?val8x26) rfl (by kernel_rfl) (by kernel_rfl) (by kernel_rfl) (fun _ _ _ h => h) (Or.inl ⟨by rfl, fun w9 hS9 => ?yields8x26⟩) (by assumption) ?later8x26
          case yields8x26 =>
            dsimp only at hS9
            go_simp
            try with_reducible rfl
          try simp only [Act.put, List.getElem_toArray, List.getElem_cons_succ, List.getElem_cons_zero, List.setIfInBounds_toArray, List.set_cons_zero, List.set_cons_succ]
          refine wpAnyH_take (i := 9) (v := ?val9x27) rfl (by kernel_rfl) (by kernel_rfl) (by kernel_rfl) (fun _ _ _ h => h) (Or.inl ⟨by rfl, fun w9 hS9 => ?yields9x27⟩) (by assumption) ?later9x27
          case yields9x27 =>
            dsimp only at hS9
            go_simp
            try with_reducible rfl
          try simp only [Act.put, List.getElem_toArray, List.getElem_cons_succ, List.getElem_cons_zero, List.setIfInBounds_toArray, List.set_cons_zero, List.set_cons_succ]
          refine wpAnyH_done (by kernel_rfl) ?_ _
          obtain ⟨-, -, -, -, -, -, -, HB⟩ := hHeld
          clear HBd MK
          replace BT := Lib.hid (BT.out.keep (Keep.below HB.out))
          replace BX := Lib.hid (BX.out.keep (Keep.below HB.out))
          replace BZ := Lib.hid (BZ.out.keep HB.out)
          replace HW := Lib.hid (HW.out.trans (HB.out.mono HW.out.size))
          clear HB t0 t1 t2 t3 k0 k1 k2 k3 k4 k5
          by_cases hs : t.start < (listW l n).fin
          · have HF := Lib.hid (H3.out.trans (if_pos ⟨h0, hs⟩))
            have HNE := Lib.hid (show lawTripErr R l t ≠ 0 by rw [HF.out]; decide)
            have d1 := decide_eq_true hs
            obtain ⟨z0, z1, z2, z3, z4, z5, f0, f1, f2, f3, f4, f5⟩ := BZ.out
            go_wp2_with fail
            obtain ⟨s0, s1, s2, s3, s4, s5, -, -, -, -, -, -⟩ := BZ.out.set (.int .i64 0) (.int .i64 0) (.int .i64 0) (.int .i64 0) (.int .i64 0) (.slice none 0 0)
            refine bodyPost_ret (v := .tuple #[bookZ, .int .i64 26]) (by simp [results, Try.results27, go_sem, s0, s1, s2, s3, s4, s5]) rfl ⟨⟨_, by rw [HF.out], fun h => absurd h HNE.out, fun _ => rfl⟩, ?_⟩
            exact below_six HW.out (by omega) _ _ _ _ _ _
          · have H4 := Lib.hid (H3.out.trans (if_neg (fun hh => hs hh.2)))
            have d1 := decide_eq_false hs
            have H5B : Hid (firstOut R l = if brokenRule R l = 0 then (0, 0, 12) else (brokenRule R l, brokenRec R l, 0)) := Lib.hid rfl
            obtain ⟨k0, k1, k2, k3, k4, k5⟩ := BX.out
            by_cases hb : brokenRule R l = 0
            · have HF := Lib.hid (H4.out.trans (if_neg (fun hh => hh hb)))
              have HO := Lib.hid (H5B.out.trans (if_pos hb))
              clear hb
              go_upto_region 12 with (go_at_call 46
                                      refine (xFirst_any R l A c _ (HA.out.keep (Keep.below HW.out)) HRT.out).mono ?_
                                      rintro e' w5 ⟨rfl, hb1⟩
                                      rw [HO.out]
                                      have hbx := (hb1.alloc hb1.size (.cells #[.int .i64 0, .int .i64 0] 104))
                                      replace BX := Lib.hid (BX.out.keep (Keep.below hbx))
                                      replace BZ := Lib.hid (BZ.out.keep hbx)
                                      replace HW := Lib.hid (HW.out.trans (hbx.mono HW.out.size))
                                      clear hb1 hbx k0 k1 k2 k3 k4 k5)
              generalize hwy : w5.alloc _ = w6 at *
              clear hwy
              obtain ⟨k0, k1, k2, k3, k4, k5⟩ := BX.out
              obtain ⟨z0, z1, z2, z3, z4, z5, f0, f1, f2, f3, f4, f5⟩ := BZ.out
              go_wp2_with fail
              obtain ⟨s0, s1, s2, s3, s4, s5, -, -, -, -, -, -⟩ := BZ.out.set (.int .i64 R.brk) (.int .i64 R.rest) (.int .i64 R.stint) (.int .i64 R.shift) (.int .i64 R.week) (.slice A l.length c)
              refine bodyPost_ret (v := .tuple #[bookV R A l.length c, .int .i64 0]) (by simp [results, Try.results27, go_sem, s0, s1, s2, s3, s4, s5]) rfl ⟨⟨_, by rw [HF.out], fun _ => rfl, fun h => absurd HF.out h⟩, ?_⟩
              exact below_six HW.out (by omega) _ _ _ _ _ _
            · have HF := Lib.hid (H4.out.trans (if_pos hb))
              have HO := Lib.hid (H5B.out.trans (if_neg hb))
              have HNE := Lib.hid (show lawTripErr R l t ≠ 0 by rw [HF.out]; decide)
              clear hb
              go_upto_region 12 with (go_at_call 46
                                      refine (xFirst_any R l A c _ (HA.out.keep (Keep.below HW.out)) HRT.out).mono ?_
                                      rintro e' w5 ⟨rfl, hb1⟩
                                      rw [HO.out]
                                      have hbx := (hb1.alloc hb1.size (.cells #[.int .i64 (brokenRule R l), .int .i64 (brokenRec R l : Nat)] 104))
                                      replace BX := Lib.hid (BX.out.keep (Keep.below hbx))
                                      replace BZ := Lib.hid (BZ.out.keep hbx)
                                      replace HW := Lib.hid (HW.out.trans (hbx.mono HW.out.size))
                                      clear hb1 hbx k0 k1 k2 k3 k4 k5)
              generalize hwy : w5.alloc _ = w6 at *
              clear hwy
              obtain ⟨z0, z1, z2, z3, z4, z5, f0, f1, f2, f3, f4, f5⟩ := BZ.out
              go_wp2_with fail
              obtain ⟨s0, s1, s2, s3, s4, s5, -, -, -, -, -, -⟩ := BZ.out.set (.int .i64 0) (.int .i64 0) (.int .i64 0) (.int .i64 0) (.int .i64 0) (.slice none 0 0)
              refine bodyPost_ret (v := .tuple #[bookZ, .int .i64 22]) (by simp [results, Try.results27, go_sem, s0, s1, s2, s3, s4, s5]) rfl ⟨⟨_, by rw [HF.out], fun h => absurd h HNE.out, fun _ => rfl⟩, ?_⟩
              exact below_six HW.out (by omega) _ _ _ _ _ _
      · have HF := Lib.hid (H2.out.trans (if_pos ho))
        have HNE := Lib.hid (show lawTripErr R l t ≠ 0 by rw [HF.out]; exact ho)
        have e3 : (ownTripErr t == 0) = false := by simpa using ho
        have e4 : (ownTripErr t != 0) = true := by simpa using ho
        clear ho H2
        obtain ⟨z0, z1, z2, z3, z4, z5, f0, f1, f2, f3, f4, f5⟩ := BZ.out
        go_wp2_with fail
        obtain ⟨s0, s1, s2, s3, s4, s5, -, -, -, -, -, -⟩ := BZ.out.set (.int .i64 0) (.int .i64 0) (.int .i64 0) (.int .i64 0) (.int .i64 0) (.slice none 0 0)
        refine bodyPost_ret (v := .tuple #[bookZ, .int .i64 (ownTripErr t)]) (by simp [results, Try.results27, go_sem, s0, s1, s2, s3, s4, s5]) rfl ⟨⟨_, by rw [HF.out], fun h => absurd h HNE.out, fun _ => rfl⟩, ?_⟩
        exact below_six HW.out (by omega) _ _ _ _ _ _
  · have HF := Lib.hid (show lawTripErr R l t = bothErr R l from if_pos he)
    have HE := Lib.hid he
    have HNE := Lib.hid (show lawTripErr R l t ≠ 0 by rw [HF.out]; exact he)
    have e1 : (bothErr R l == 0) = false := by simpa using he
    have e2 : (bothErr R l != 0) = true := by simpa using he
    clear he
    go_upto_region 2 with (go_at_call 43
                           refine (xBookOf_any R l A c _ (HA.out.keep (Keep.below HW.out))).mono ?_
                           rintro e' w1 ⟨⟨v, rfl, -, hv1⟩, hb1⟩
                           obtain rfl := hv1 HE.out
                           have hbx := (hb1.alloc hb1.size (.cells #[.int .i64 0, .int .i64 0, .int .i64 0, .int .i64 0, .int .i64 0, .slice none 0 0] 74))
                           replace BT := Lib.hid (BT.out.keep (Keep.below hbx))
                           replace BZ := Lib.hid (BZ.out.keep hbx)
                           replace HW := Lib.hid (HW.out.trans (hbx.mono HW.out.size))
                           clear hb1 hbx hv1 a0 a1 a2 a3 a4 BR)
    generalize hg : w1.heap.size = g at *
    generalize hwy : w1.alloc _ = wy at *
    clear hwy hg
    obtain ⟨z0, z1, z2, z3, z4, z5, f0, f1, f2, f3, f4, f5⟩ := BZ.out
    go_wp2_with fail
    obtain ⟨s0, s1, s2, s3, s4, s5, -, -, -, -, -, -⟩ := BZ.out.set (.int .i64 0) (.int .i64 0) (.int .i64 0) (.int .i64 0) (.int .i64 0) (.slice none 0 0)
    refine bodyPost_ret (v := .tuple #[bookZ, .int .i64 (bothErr R l)]) (by simp [results, Try.results27, go_sem, s0, s1, s2, s3, s4, s5]) rfl ⟨⟨_, by rw [HF.out], fun h => absurd h HNE.out, fun _ => rfl⟩, ?_⟩
    exact below_six HW.out (by omega) _ _ _ _ _ _
end Go.Proofs.Ytjmaankkbdpikaa

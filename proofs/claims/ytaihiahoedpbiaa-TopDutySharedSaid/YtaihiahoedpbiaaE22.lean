/- The law of a driver's day: who takes just what is surely allowed breaks no rule. No condition. -/
import Derived.Test.YtaihiahoedpbiaaX11
import Derived.Deep.RegionHeld3
import Derived.Deep.CutRange
import Derived.Deep.CutBlock
namespace Go.Proofs.Ytaihiahoedpbiaa
open Go.RowKit Fs

set_option linter.unusedSimpArgs false in
set_option maxHeartbeats 3200000 in
theorem lawDutied_any (w : World) : Calls Try.prog 71 #[] w fun e w' => e = .returned (.bool true) ∧ Below w.heap.size w w' := by
  have F2 := Lib.hid ann_trip0
  have F3 := Lib.hid ann_out3
  go_enter Try.func71, Try.ntmps71
  go_wp2_with fail
  refine (lawRules_any _).mono ?_
  rintro e' w1 ⟨rfl, hb1⟩
  have HB := Lib.hid hb1
  clear hb1
  go_wp2_with fail
  refine (lawAnn_any _).mono ?_
  rintro e' w2 ⟨⟨A2, c2, rfl, h2⟩, hb1⟩
  replace HB := Lib.hid (HB.out.trans (hb1.mono HB.out.size))
  have H2 := Lib.hid h2
  clear h2
  clear hb1
  go_wp2_with fail
  refine (xLongest_any annRules annList A2 c2 20000 _ H2.out).mono ?_
  rintro e' w3 ⟨⟨n, rfl, hn⟩, hb1⟩
  replace HB := Lib.hid (HB.out.trans (hb1.mono HB.out.size))
  obtain rfl := ann_long hn
  rw [ann_bare0]
  clear hn H2
  clear hb1
  go_wp2_with fail
  refine (lawRules_any _).mono ?_
  rintro e' w1 ⟨rfl, hb1⟩
  replace HB := Lib.hid (HB.out.trans (hb1.mono HB.out.size))
  clear hb1
  go_wp2_with fail
  refine (lawAnn_any _).mono ?_
  rintro e' w2 ⟨⟨A2, c2, rfl, h2⟩, hb1⟩
  replace HB := Lib.hid (HB.out.trans (hb1.mono HB.out.size))
  have H2 := Lib.hid h2
  clear h2
  clear hb1
  go_wp2_with fail
  refine (xAllowed_any annRules annList A2 c2 annTrip _ H2.out).mono ?_
  rintro e' w3 ⟨rfl, hb1⟩
  replace HB := Lib.hid (HB.out.trans (hb1.mono HB.out.size))
  rw [F3.out, F2.out]
  clear H2
  clear hb1
  go_wp2_with fail
  go_ret
  exact ⟨rfl, HB.out⟩

def Fs.pmodB (n b : Int) : Int := if n.tmod b < 0 then n.tmod b + b else n.tmod b
theorem Fs.pmodB_in (n : Int) {b : Int} (hb : 0 < b) : 0 ≤ pmodB n b ∧ pmodB n b < b := by
  unfold pmodB
  have h1 : n.tmod b < b := Int.tmod_lt_of_pos _ hb
  have h2 : -b < n.tmod b := Int.lt_tmod_of_pos _ hb
  split <;> omega
set_option maxHeartbeats 1600000 in
theorem modB_any (n b : Int) (w : World) (h0 : 1 ≤ b) (hb : b ≤ 1000000000) :
    Calls Try.prog 39 #[.int .i64 n, .int .i64 b] w fun e w' => e = .returned (.int .i64 (pmodB n b)) ∧ w = w' := by
  have h5 : (b == 0) = false := by simpa using (show b ≠ 0 by omega)
  have h1 : n.tmod b < b := Int.tmod_lt_of_pos _ (by omega)
  have h2 : -b < n.tmod b := Int.lt_tmod_of_pos _ (by omega)
  have HP := Lib.hid (show pmodB n b = if n.tmod b < 0 then n.tmod b + b else n.tmod b from rfl)
  have w1 : IntKind.i64.wrap (n.tmod b) = n.tmod b := by rw [IntKind.wrap_i64]; omega
  have w2 : IntKind.i64.wrap (n.tmod b + b) = n.tmod b + b := by rw [IntKind.wrap_i64]; omega
  by_cases hz : n.tmod b < 0
  · have F := Lib.hid (HP.out.trans (if_pos hz))
    have e1 : decide (n.tmod b < 0) = true := decide_eq_true hz
    clear hz
    go_enter Try.func39, Try.ntmps39
    go_wp2_with fail
    go_ret
    exact ⟨ret_int F.out.symm, rfl⟩
  · have F := Lib.hid (HP.out.trans (if_neg hz))
    have e1 : decide (n.tmod b < 0) = false := decide_eq_false hz
    clear hz
    go_enter Try.func39, Try.ntmps39
    go_wp2_with fail
    go_ret
    exact ⟨ret_int F.out.symm, rfl⟩
/-- Four numbers in the block g. -/
structure FourIn (w : World) (g : Nat) (a b c d : Int) : Prop where
  c0 : w.cell? ⟨g, 0, none⟩ = some (.int .i64 a)
  c1 : w.cell? ⟨g, 1, none⟩ = some (.int .i64 b)
  c2 : w.cell? ⟨g, 2, none⟩ = some (.int .i64 c)
  c3 : w.cell? ⟨g, 3, none⟩ = some (.int .i64 d)
theorem FourIn.keep {w w' : World} (k : Keep w w') {g : Nat} {a b c d : Int} (m : FourIn w g a b c d) : FourIn w' g a b c d := ⟨k _ _ m.c0, k _ _ m.c1, k _ _ m.c2, k _ _ m.c3⟩
theorem FourIn.new (w : World) (a b c d : Int) (t : TypeId) : FourIn (w.alloc (.cells #[.int .i64 a, .int .i64 b, .int .i64 c, .int .i64 d] t)) w.heap.size a b c d := ⟨cellNew _ _ _ 0, cellNew _ _ _ 1, cellNew _ _ _ 2, cellNew _ _ _ 3⟩
/-- What a trip was: After, Lo, Hi, Truth (as a trip's four numbers). -/
def t0D : DTrip := ⟨0, 0, 0, 0⟩
def Fs.listT (l : List DTrip) (i : Nat) : DTrip := l.getD i t0D
def doneCells (x : DTrip) : Nat → Value
  | 0 => .int .i64 x.start
  | 1 => .int .i64 x.lo
  | 2 => .int .i64 x.hi
  | _ => .int .i64 x.next
def ArrT (w : World) (A : Option Addr) (l : List DTrip) (c : Nat) : Prop := Arr w A l.length c 4 fun i j => doneCells (listT l i) j
theorem ArrT.keep {w w' : World} (k : Keep w w') {A : Option Addr} {l : List DTrip} {c : Nat} (h : ArrT w A l c) : ArrT w' A l c := Arr.keep k h
theorem ArrT.le {w : World} {A : Option Addr} {l : List DTrip} {c : Nat} (h : ArrT w A l c) : l.length ≤ c ∧ c ≤ 9223372036854775807 := ⟨h.1, h.2.1⟩
theorem ArrT.at_ {w : World} {A : Option Addr} {l : List DTrip} {c : Nat} (h : ArrT w A l c) {k : Nat} (hk : k < l.length) : ∃ b o, A = some ⟨b, o, none⟩ ∧ w.cell? ⟨b, o + k * 4, none⟩ = some (.int .i64 (listT l k).start) ∧ w.cell? ⟨b, o + k * 4 + 1, none⟩ = some (.int .i64 (listT l k).lo) ∧ w.cell? ⟨b, o + k * 4 + 2, none⟩ = some (.int .i64 (listT l k).hi) ∧ w.cell? ⟨b, o + k * 4 + 3, none⟩ = some (.int .i64 (listT l k).next) := by
  obtain ⟨b, o, e, hc⟩ := Arr.at_ h hk
  exact ⟨b, o, e, hc 0 (by omega), hc 1 (by omega), hc 2 (by omega), hc 3 (by omega)⟩
structure DayIn (w : World) (g : Nat) (R : DRules) (A : Option Addr) (n c : Nat) : Prop where
  rules : RulesIn w g R
  c5 : w.cell? ⟨g, 5, none⟩ = some (.slice A n c)
theorem DayIn.keep {w w' : World} (k : Keep w w') {g n c : Nat} {R : DRules} {A : Option Addr} (m : DayIn w g R A n c) : DayIn w' g R A n c := ⟨m.rules.keep k, k _ _ m.c5⟩
def Fs.mkTrip (s lo hi : Int) : DTrip := ⟨s, lo, hi, -1⟩
/-- What stands behind k trips. -/
structure Fs.DayOk (R : DRules) (L : List WRec) (k : Nat) (z : Int) : Prop where
  len : L.length ≤ k
  recs : recsErr true L = 0
  fine : brokenRule R L = 0
  who : 0 < L.length → (listW L 0).who = ⟨#[97, 110, 110]⟩
  z0 : 0 ≤ z
  z1 : z ≤ 150000 * (k : Int)
  last : 0 < L.length → (listW L (L.length - 1)).fin ≤ z
theorem Fs.DayOk.zero (R : DRules) : DayOk R [] 0 0 := ⟨Nat.le_refl _, by decide, rfl, fun h => absurd h (Nat.lt_irrefl _), Int.le_refl _, Int.le_refl _, fun h => absurd h (Nat.lt_irrefl _)⟩
theorem Fs.DayOk.next {R : DRules} {L : List WRec} {k : Nat} {z : Int} (h : DayOk R L k z) : DayOk R L (k + 1) z := ⟨by have := h.len; omega, h.recs, h.fine, h.who, h.z0, by have := h.z1; omega, h.last⟩
theorem Fs.DayOk.trip {R : DRules} {L : List WRec} {k : Nat} {z s lo hi : Int} (h : DayOk R L k z) (hd : drulesErr R = 0) (hk : k ≤ 10) (h0 : z ≤ s) (h1 : s ≤ z + 100000) (h2 : 1 ≤ lo) (h3 : lo ≤ hi) (h4 : hi ≤ 50000) : lawTripErr R L (mkTrip s lo hi) = 0 := by
  have a := h.z0
  have b := h.z1
  refine lawTrip_zero (by unfold bothErr; rw [if_neg (fun hh => hh hd)]; exact h.recs) (dtrip_zero (t := mkTrip s lo hi) ⟨by have := h.len; omega, by show 0 ≤ s; omega, by show s ≤ 8640000000; omega, by show (-1 : Int) ≤ -1; omega, by show (-1 : Int) ≤ 8640000000; omega, fun hp => by have := h.last hp; show _ ≤ s; omega⟩ (by show 0 ≤ lo; omega) h3 (by show hi ≤ 200000; omega) h.fine)
theorem Fs.day_breaks {R : DRules} {L : List WRec} {s lo hi n : Int} (hn : 0 < n) : breaks R L (mkTrip s lo hi) n = 0 ↔ brokenAt R (withTrip L s n) L.length = 0 :=
  ⟨fun h => (breaks_zero.1 h).1 hn, fun h => breaks_zero.2 ⟨fun _ => h, fun hh => absurd rfl hh⟩⟩
theorem Fs.DayOk.more {R : DRules} {L : List WRec} {k : Nat} {z s lo hi n : Int} (h : DayOk R L k z) (hE : lawTripErr R L (mkTrip s lo hi) = 0) (h0 : z ≤ s) (h1 : s ≤ z + 100000) (hn : 0 < n) (hn2 : n ≤ 50000) (hk : k ≤ 10)
    (hb : breaks R L (mkTrip s lo hi) n = 0) : DayOk R (L ++ [⟨⟨#[97, 110, 110]⟩, s, s + n⟩]) (k + 1) (s + n) := by
  have a := h.z0
  have b := h.z1
  obtain ⟨p, q⟩ := lawTrip_ok hE
  obtain ⟨c1, -, -, -, -⟩ := dtrip_ok q
  have hl := c1.last
  refine ⟨by rw [more_len]; have := h.len; omega, more_right h.recs c1.len ann_name (fun hp => (h.who hp).symm) c1.from0 (by omega) (by omega) hl, ?_, fun _ => ?_, by omega, by omega, fun _ => ?_⟩
  · rw [more_broken h.fine]; exact (day_breaks hn).1 hb
  · by_cases e : 0 < L.length
    · rw [listW_left e]; exact h.who e
    · have e0 : L.length = 0 := by omega
      have := listW_last L (⟨⟨#[97, 110, 110]⟩, s, s + n⟩ : WRec)
      rw [e0] at this
      rw [this]
  · rw [more_len, Nat.add_sub_cancel, listW_last]; exact Int.le_refl _
theorem Fs.allowed_three {R : DRules} {l : List WRec} {t : DTrip} {n : Int} (h : Right l) (hT : Behind l t) (h1 : t.lo ≤ n) (h2 : n ≤ t.hi) (h3 : t.hi ≤ 200000) :
    (allowed R l t = (2, 0) ∧ breaks R l t n = 0) ∨ (allowed R l t = (1, (allowed R l t).2) ∧ (allowed R l t).2 ≠ 0) ∨ (allowed R l t = (0, (allowed R l t).2) ∧ (allowed R l t).2 ≠ 0 ∧ breaks R l t n ≠ 0) := by
  by_cases a : breaks R l t t.hi = 0
  · exact .inl ⟨allowed_yes a, breaks_mono h hT h2 (by omega) a⟩
  · by_cases b : breaks R l t t.lo = 0
    · have e : allowed R l t = (1, breaks R l t t.hi) := by unfold allowed; rw [if_neg a, if_pos b]
      rw [e]
      exact .inr (.inl ⟨rfl, a⟩)
    · have e := allowed_no a b
      rw [e]
      exact .inr (.inr ⟨rfl, a, fun hh => b (breaks_mono h hT h1 (by omega) hh)⟩)

set_option linter.unusedSimpArgs false in
set_option maxHeartbeats 12800000 in
set_option maxRecDepth 100000 in
theorem lawDay_any (R : DRules) (T : List DTrip) (A : Option Addr) (c : Nat) (w : World) (h : ArrT w A T c) :
    Calls Try.prog 15 #[.agg #[.int .i64 R.brk, .int .i64 R.rest, .int .i64 R.stint, .int .i64 R.shift, .int .i64 R.week, .slice A T.length c]] w fun e w' => e = .returned (.bool true) ∧ Below w.heap.size w w' := by
  obtain ⟨i0, hi, hz0, hz1, hz2⟩ := info_parts Try.infoDRec
  have HINF := Lib.hid (And.intro hi (And.intro hz0 (And.intro hz1 hz2)))
  clear hi hz0 hz1 hz2
  have b1 := h.le.1
  have b2 := h.le.2
  have HA := Lib.hid h
  clear h
  have BD := Lib.hid (show DayIn (w.alloc (.cells #[.int .i64 R.brk, .int .i64 R.rest, .int .i64 R.stint, .int .i64 R.shift, .int .i64 R.week, .slice A T.length c] 117)) w.heap.size R A T.length c from ⟨⟨cellNew _ _ _ 0, cellNew _ _ _ 1, cellNew _ _ _ 2, cellNew _ _ _ 3, cellNew _ _ _ 4⟩, cellNew _ _ _ 5⟩)
  go_enter Try.func15, Try.ntmps15
  go_upto_region 1 with fail
  generalize hwb : w.alloc _ = wb at *
  have HW : Hid (Below w.heap.size w wb) := by rw [← hwb]; exact Lib.hid ((Below.refl _ _).alloc (Nat.le_refl _) _)
  clear hwb
  go_wp2_with fail
  refine (lawDutied_any _).mono ?_
  rintro e' w1 ⟨rfl, hb1⟩
  replace HW := Lib.hid (HW.out.trans (hb1.mono HW.out.size))
  replace BD := Lib.hid (BD.out.keep (Keep.below hb1))
  clear hb1
  obtain ⟨⟨a0, a1, a2, a3, a4⟩, d5⟩ := BD.out
  by_cases hs : T.length ≤ 10
  · have s1 : decide ((T.length : Int) > 10) = false := decide_eq_false (by omega)
    have s2 : decide (10 < (T.length : Int)) = false := decide_eq_false (by omega)
    have s3 : decide (10 < T.length) = false := decide_eq_false (by omega)
    have HS := Lib.hid hs
    clear hs
    go_wp2_with fail
    refine (rCheckRules_any R _).mono ?_
    rintro e' w2 ⟨rfl, hb1⟩
    replace HW := Lib.hid (HW.out.trans (hb1.mono HW.out.size))
    replace BD := Lib.hid (BD.out.keep (Keep.below hb1))
    clear hb1
    clear a0 a1 a2 a3 a4 d5
    by_cases he : drulesErr R = 0
    · have HE := Lib.hid he
      rw [he]
      clear he
      clear s1 s2 s3
      have hs10 := HS.out
      go_wp2_with fail
      go_loopw [3, 4, 5] (fun s a i wr => ∃ (k : Nat) (L : List WRec) (A' : Option Addr) (c' : Nat) (z : Int), k ≤ T.length ∧ s = .slice A' L.length c' ∧ a = .int .i64 z ∧ i = .int .i64 k ∧ Hid (ArrW wr A' L c') ∧ Hid (DayOk R L k z) ∧ Hid (Below w2.heap.size w2 wr)) (fun _ _ i _ => T.length - (intOf i).toNat)
      case atStart => exact ⟨0, [], none, 0, 0, Nat.zero_le _, rfl, rfl, rfl, Lib.hid (rdNone _), Lib.hid (DayOk.zero R), Lib.hid (Below.refl _ _)⟩
      case round =>
        obtain ⟨k, L, A', c', z, hk, rfl, rfl, rfl, HL, HQ, HX⟩ := hrel
        have lb1 := HL.out.le.1
        have lb2 := HL.out.le.2
        have BD2 := Lib.hid (BD.out.keep (Keep.below HX.out))
        by_cases hlt : k < T.length
        · have hkn : (k : Int) < (T.length : Int) := by omega
          obtain ⟨b, o, rfl, q⟩ := (HA.out.keep (Keep.below (HW.out.trans (HX.out.mono HW.out.size)))).at_ hlt
          obtain ⟨D, hD⟩ : ∃ D, D = listT T k := ⟨_, rfl⟩
          rw [← hD] at q
          clear hD
          obtain ⟨q0, q1, q2, q3⟩ := q
          obtain ⟨⟨a0, a1, a2, a3, a4⟩, d5⟩ := BD2.out
          go_wp2_with fail
          clear a0 a1 a2 a3 a4 d5
          clear q0 q1 q2 q3
          have BO := Lib.hid (FourIn.new wr D.start D.lo D.hi D.next 120)
          have hb8 : Below wr.heap.size wr (wr.alloc (.cells #[.int .i64 D.start, .int .i64 D.lo, .int .i64 D.hi, .int .i64 D.next] 120)) := (Below.refl _ _).alloc (Nat.le_refl _) _
          replace HX := Lib.hid (HX.out.trans (hb8.mono HX.out.size))
          replace BD2 := Lib.hid (BD2.out.keep (Keep.below hb8))
          replace HL := Lib.hid (HL.out.keep (Keep.below hb8))
          clear hb8
          obtain ⟨g6, hg6⟩ : ∃ g6, g6 = wr.heap.size := ⟨_, rfl⟩
          rw [← hg6] at BO
          rw [← hg6]
          generalize hwa : wr.alloc _ = wa at *
          clear hwa hg6
          refine (bwithin_any _ _ _ _).mono ?_
          rintro e' w9 ⟨rfl, rfl⟩
          obtain ⟨p0, p1, p2, p3⟩ := BO.out
          cases h1 : within D.start 0 100000 with
          | false =>
            go_wp2_with fail
            go_ret
            exact ⟨rfl, HW.out.trans (HX.out.mono HW.out.size)⟩
          | true =>
            go_wp2_with fail
            refine (bwithin_any _ _ _ _).mono ?_
            rintro e' w9 ⟨rfl, rfl⟩
            cases h2 : within D.lo 1 D.hi with
            | false =>
              go_wp2_with fail
              go_ret
              exact ⟨rfl, HW.out.trans (HX.out.mono HW.out.size)⟩
            | true =>
              by_cases h3 : D.hi ≤ 50000
              · have e1 : decide (D.hi > 50000) = false := decide_eq_false (by omega)
                have e2 : decide (50000 < D.hi) = false := decide_eq_false (by omega)
                obtain ⟨x0, x1⟩ := Fs.within_iff.1 h1
                obtain ⟨y0, y1⟩ := Fs.within_iff.1 h2
                clear h1 h2
                have H3 := Lib.hid h3
                have hpm := pmodB_in D.next (show 0 < D.hi - D.lo + 1 by omega)
                obtain ⟨pm, hpm'⟩ : ∃ pm, pm = pmodB D.next (D.hi - D.lo + 1) := ⟨_, rfl⟩
                have HPM := Lib.hid hpm'
                rw [← hpm'] at hpm
                clear hpm'
                obtain ⟨n, hn⟩ : ∃ n, n = D.lo + pm := ⟨_, rfl⟩
                have v1 : IntKind.i64.wrap (D.hi - D.lo) = D.hi - D.lo := by rw [IntKind.wrap_i64]; omega
                have v2 : IntKind.i64.wrap (D.hi - D.lo + 1) = D.hi - D.lo + 1 := by rw [IntKind.wrap_i64]; omega
                have v3 : IntKind.i64.wrap (D.lo + pm) = n := by rw [IntKind.wrap_i64]; omega
                have hn1 : D.lo ≤ n := by omega
                have hn2 : n ≤ D.hi := by omega
                clear hn
                have hy0 := HQ.out.z0
                have hy1 := HQ.out.z1
                obtain ⟨s0, hs0⟩ : ∃ s0, s0 = z + D.start := ⟨_, rfl⟩
                have v4 : IntKind.i64.wrap (z + D.start) = s0 := by rw [IntKind.wrap_i64]; omega
                have hs1 : z ≤ s0 := by omega
                have hs2 : s0 ≤ z + 100000 := by omega
                clear hs0
                have HT := Lib.hid (HQ.out.trip HE.out (by omega) hs1 hs2 y0 y1 h3)
                go_wp2_with fail
                go_quiet ((go_at_call 39; exact Calls.quiet_of_same ((modB_any D.next (D.hi - D.lo + 1) _ (by omega) (by omega)).mono fun _ _ h => ⟨by rw [h.1, ← HPM.out], h.2.symm⟩)))
                clear v1 v2 v3 p0 p1 p2 p3 e1 e2
                generalize hwd : World.drewN wa _ = wd at *
                have hbq : Below wa.heap.size wa wd := by rw [← hwd]; exact bdrewN (Below.refl _ _) _
                clear hwd
                replace HX := Lib.hid (HX.out.trans (hbq.mono HX.out.size))
                replace BD2 := Lib.hid (BD2.out.keep (Keep.below hbq))
                replace HL := Lib.hid (HL.out.keep (Keep.below hbq))
                replace BO := Lib.hid (BO.out.keep (Keep.below hbq))
                clear hbq
                obtain ⟨p0, p1, p2, p3⟩ := BO.out
                go_wp2_with fail
                clear p0 p1 p2 p3 BO v4
                have BT := Lib.hid (FourIn.new wd s0 D.lo D.hi (-1) 54)
                have hb8 : Below wd.heap.size wd (wd.alloc (.cells #[.int .i64 s0, .int .i64 D.lo, .int .i64 D.hi, .int .i64 (-1)] 54)) := (Below.refl _ _).alloc (Nat.le_refl _) _
                replace HX := Lib.hid (HX.out.trans (hb8.mono HX.out.size))
                replace BD2 := Lib.hid (BD2.out.keep (Keep.below hb8))
                replace HL := Lib.hid (HL.out.keep (Keep.below hb8))
                clear hb8
                obtain ⟨g8, hg8⟩ : ∃ g8, g8 = wd.heap.size := ⟨_, rfl⟩
                rw [← hg8] at BT
                rw [← hg8]
                generalize hwe : wd.alloc _ = we at *
                clear hwe hg8
                obtain ⟨⟨a0, a1, a2, a3, a4⟩, d5⟩ := BD2.out
                obtain ⟨t0, t1, t2, t3⟩ := BT.out
                have HBd : Hid (Below we.heap.size we we.drew) := Lib.hid (Below.refl _ _).drew
                have MK : Hid (∀ w', Below we.heap.size we w' → w'.cell? ⟨w.heap.size, 0, none⟩ = some (.int .i64 R.brk) ∧ w'.cell? ⟨w.heap.size, 1, none⟩ = some (.int .i64 R.rest) ∧ w'.cell? ⟨w.heap.size, 2, none⟩ = some (.int .i64 R.stint) ∧ w'.cell? ⟨w.heap.size, 3, none⟩ = some (.int .i64 R.shift) ∧ w'.cell? ⟨w.heap.size, 4, none⟩ = some (.int .i64 R.week) ∧ w'.cell? ⟨g8, 0, none⟩ = some (.int .i64 s0) ∧ w'.cell? ⟨g8, 1, none⟩ = some (.int .i64 D.lo) ∧ w'.cell? ⟨g8, 2, none⟩ = some (.int .i64 D.hi) ∧ w'.cell? ⟨g8, 3, none⟩ = some (.int .i64 (-1)) ∧ Hid (Below we.heap.size we w')) :=
                  Lib.hid fun w' hw => ⟨Keep.below hw _ _ a0, Keep.below hw _ _ a1, Keep.below hw _ _ a2, Keep.below hw _ _ a3, Keep.below hw _ _ a4, Keep.below hw _ _ t0, Keep.below hw _ _ t1, Keep.below hw _ _ t2, Keep.below hw _ _ t3, Lib.hid hw⟩
                have KL : Hid (∀ w', Below we.heap.size we w' → ArrW w' A' L c') := Lib.hid fun w' hw => (HL.out.keep (Keep.below hw))
                refine wp_region_held_drew (S := fun w' => w'.cell? ⟨w.heap.size, 0, none⟩ = some (.int .i64 R.brk) ∧ w'.cell? ⟨w.heap.size, 1, none⟩ = some (.int .i64 R.rest) ∧ w'.cell? ⟨w.heap.size, 2, none⟩ = some (.int .i64 R.stint) ∧ w'.cell? ⟨w.heap.size, 3, none⟩ = some (.int .i64 R.shift) ∧ w'.cell? ⟨w.heap.size, 4, none⟩ = some (.int .i64 R.week) ∧ w'.cell? ⟨g8, 0, none⟩ = some (.int .i64 s0) ∧ w'.cell? ⟨g8, 1, none⟩ = some (.int .i64 D.lo) ∧ w'.cell? ⟨g8, 2, none⟩ = some (.int .i64 D.hi) ∧ w'.cell? ⟨g8, 3, none⟩ = some (.int .i64 (-1)) ∧ Hid (Below we.heap.size we w')) (by kernel_rfl) (MK.out _ HBd.out) (fun hHeld => ?_)
                refine wpAnyH_take (i := 0) (v := ?val0x1) rfl (by kernel_rfl) (by kernel_rfl) (by kernel_rfl) (fun _ _ _ h => h) (Or.inl ⟨by rfl, fun w9 hS9 => ?yields0x1⟩) (by assumption) ?later0x1
                case yields0x1 =>
                  dsimp only at hS9
                  go_simp
                  try with_reducible rfl
                try simp only [Act.put, List.getElem_toArray, List.getElem_cons_succ, List.getElem_cons_zero, List.setIfInBounds_toArray, List.set_cons_zero, List.set_cons_succ]
                refine wpAnyH_take (i := 1) (v := ?val1x2) rfl (by kernel_rfl) (by kernel_rfl) (by kernel_rfl) (fun _ _ _ h => h) (Or.inl ⟨by rfl, fun w9 hS9 => ?yields1x2⟩) (by assumption) ?later1x2
                case yields1x2 =>
                  dsimp only at hS9
                  go_simp
                  try with_reducible rfl
                try simp only [Act.put, List.getElem_toArray, List.getElem_cons_succ, List.getElem_cons_zero, List.setIfInBounds_toArray, List.set_cons_zero, List.set_cons_succ]
                refine wpAnyH_take (i := 2) (v := ?val2x3) rfl (by kernel_rfl) (by kernel_rfl) (by kernel_rfl) (fun _ _ _ h => h) (Or.inl ⟨by rfl, fun w9 hS9 => ?yields2x3⟩) (by assumption) ?later2x3
                case yields2x3 =>
                  dsimp only at hS9
                  go_simp
                  try with_reducible rfl
                try simp only [Act.put, List.getElem_toArray, List.getElem_cons_succ, List.getElem_cons_zero, List.setIfInBounds_toArray, List.set_cons_zero, List.set_cons_succ]
                refine wpAnyH_take (i := 4) (v := ?val4x4) rfl (by kernel_rfl) (by kernel_rfl) (by kernel_rfl) (fun _ _ _ h => h) (Or.inl ⟨by rfl, fun w9 hS9 => ?yields4x4⟩) (by assumption) ?later4x4
                case yields4x4 =>
                  dsimp only at hS9
                  go_simp
                  try with_reducible rfl
                try simp only [Act.put, List.getElem_toArray, List.getElem_cons_succ, List.getElem_cons_zero, List.setIfInBounds_toArray, List.set_cons_zero, List.set_cons_succ]
                refine wpAnyH_ready (rs := [3]) (by kernel_rfl) (by simp) ?_
                refine AllReadyH.cons rfl (fun K hK => ?_) AllReadyH.nil
                go_simp
                go_at_call 20
                go_split_ands
                refine (rCopyRecords_any L A' c' _ (KL.out _ (Hid.out (by assumption))) (by have := HQ.out.len; omega)).mono ?_
                rintro e' wz5 ⟨v5, rfl, h5, hb1⟩
                obtain ⟨A5, c5, rfl, h6⟩ := own_recs h5
                have H5 := Lib.hid h6
                clear h5 h6
                go_wp2_with fail
                refine hK.out _ _ ?_ (fun hHeld => ?_)
                · (try dsimp only)
                  (go_split_ands; exact MK.out _ (Below.trans (Hid.out (by assumption)) (hb1.mono (Hid.out (by assumption) : Below we.heap.size we _).size)))
                clear hK K
                try simp only [Act.put, List.getElem_toArray, List.getElem_cons_succ, List.getElem_cons_zero, List.setIfInBounds_toArray, List.set_cons_zero, List.set_cons_succ]
                refine wpAnyH_ready (rs := [5]) (by kernel_rfl) (by simp) ?_
                refine AllReadyH.cons rfl (fun K hK => ?_) AllReadyH.nil
                go_simp
                go_at_call 31
                go_split_ands
                refine (xAllowed_any R L A5 c5 (mkTrip s0 D.lo D.hi) _ H5.out).mono ?_
                rintro e' wz7 ⟨rfl, hb1⟩
                clear H5
                go_wp2_with fail
                refine hK.out _ _ ?_ (fun hHeld => ?_)
                · (try dsimp only)
                  (go_split_ands; exact MK.out _ (Below.trans (Hid.out (by assumption)) (hb1.mono (Hid.out (by assumption) : Below we.heap.size we _).size)))
                clear hK K
                try simp only [Act.put, List.getElem_toArray, List.getElem_cons_succ, List.getElem_cons_zero, List.setIfInBounds_toArray, List.set_cons_zero, List.set_cons_succ]
                refine wpAnyH_take (i := 6) (v := ?val6x5) rfl (by kernel_rfl) (by kernel_rfl) (by kernel_rfl) (fun _ _ _ h => h) (Or.inl ⟨by rfl, fun w9 hS9 => ?yields6x5⟩) (by assumption) ?later6x5
                case yields6x5 =>
                  dsimp only at hS9
                  go_simp
                  try with_reducible rfl
                try simp only [Act.put, List.getElem_toArray, List.getElem_cons_succ, List.getElem_cons_zero, List.setIfInBounds_toArray, List.set_cons_zero, List.set_cons_succ]
                refine wpAnyH_take (i := 7) (v := ?val7x6) rfl (by kernel_rfl) (by kernel_rfl) (by kernel_rfl) (fun _ _ _ h => h) (Or.inl ⟨by rfl, fun w9 hS9 => ?yields7x6⟩) (by assumption) ?later7x6
                case yields7x6 =>
                  dsimp only at hS9
                  go_simp
                  try with_reducible rfl
                try simp only [Act.put, List.getElem_toArray, List.getElem_cons_succ, List.getElem_cons_zero, List.setIfInBounds_toArray, List.set_cons_zero, List.set_cons_succ]
                refine wpAnyH_take (i := 8) (v := ?val8x7) rfl (by kernel_rfl) (by kernel_rfl) (by kernel_rfl) (fun _ _ _ h => h) (Or.inl ⟨by rfl, fun w9 hS9 => ?yields8x7⟩) (by assumption) ?later8x7
                case yields8x7 =>
                  dsimp only at hS9
                  go_simp
                  try with_reducible rfl
                try simp only [Act.put, List.getElem_toArray, List.getElem_cons_succ, List.getElem_cons_zero, List.setIfInBounds_toArray, List.set_cons_zero, List.set_cons_succ]
                refine wpAnyH_take (i := 9) (v := ?val9x8) rfl (by kernel_rfl) (by kernel_rfl) (by kernel_rfl) (fun _ _ _ h => h) (Or.inl ⟨by rfl, fun w9 hS9 => ?yields9x8⟩) (by assumption) ?later9x8
                case yields9x8 =>
                  dsimp only at hS9
                  go_simp
                  try with_reducible rfl
                try simp only [Act.put, List.getElem_toArray, List.getElem_cons_succ, List.getElem_cons_zero, List.setIfInBounds_toArray, List.set_cons_zero, List.set_cons_succ]
                refine wpAnyH_take (i := 10) (v := ?val10x9) rfl (by kernel_rfl) (by kernel_rfl) (by kernel_rfl) (fun _ _ _ h => h) (Or.inl ⟨by rfl, fun w9 hS9 => ?yields10x9⟩) (by assumption) ?later10x9
                case yields10x9 =>
                  dsimp only at hS9
                  go_simp
                  try with_reducible rfl
                try simp only [Act.put, List.getElem_toArray, List.getElem_cons_succ, List.getElem_cons_zero, List.setIfInBounds_toArray, List.set_cons_zero, List.set_cons_succ]
                refine wpAnyH_take (i := 11) (v := ?val11x10) rfl (by kernel_rfl) (by kernel_rfl) (by kernel_rfl) (fun _ _ _ h => h) (Or.inl ⟨by rfl, fun w9 hS9 => ?yields11x10⟩) (by assumption) ?later11x10
                case yields11x10 =>
                  dsimp only at hS9
                  go_simp
                  try with_reducible rfl
                try simp only [Act.put, List.getElem_toArray, List.getElem_cons_succ, List.getElem_cons_zero, List.setIfInBounds_toArray, List.set_cons_zero, List.set_cons_succ]
                refine wpAnyH_take (i := 12) (v := ?val12x11) rfl (by kernel_rfl) (by kernel_rfl) (by kernel_rfl) (fun _ _ _ h => h) (Or.inl ⟨by rfl, fun w9 hS9 => ?yields12x11⟩) (by assumption) ?later12x11
                case yields12x11 =>
                  dsimp only at hS9
                  go_simp
                  try with_reducible rfl
                try simp only [Act.put, List.getElem_toArray, List.getElem_cons_succ, List.getElem_cons_zero, List.setIfInBounds_toArray, List.set_cons_zero, List.set_cons_succ]
                refine wpAnyH_done (by kernel_rfl) ?_ _
                obtain ⟨-, -, -, -, -, -, -, -, -, HB⟩ := hHeld
                clear HBd MK
                clear KL
                replace HX := Lib.hid (HX.out.trans (HB.out.mono HX.out.size))
                replace BD2 := Lib.hid (BD2.out.keep (Keep.below HB.out))
                replace HL := Lib.hid (HL.out.keep (Keep.below HB.out))
                replace BT := Lib.hid (BT.out.keep (Keep.below HB.out))
                clear HB
                clear a0 a1 a2 a3 a4 d5 t0 t1 t2 t3
                obtain ⟨wf, hwf⟩ : ∃ wz, wz = wz7 := ⟨_, rfl⟩
                subst hwf
                rw [allowed_good HT.out, HT.out]
                have HAT := Lib.hid (allowed_three (R := R) (n := n) (recs_right HQ.out.recs) (dtrip_ok (lawTrip_ok HT.out).2).1 hn1 hn2 (show D.hi ≤ 200000 by omega))
                obtain ⟨X, hX⟩ : ∃ X, X = allowed R L (mkTrip s0 D.lo D.hi) := ⟨_, rfl⟩
                rw [← hX] at HAT
                rw [← hX]
                clear hX
                obtain ⟨xa, xr⟩ := X
                rcases HAT.out with ⟨hx, hbr⟩ | ⟨hx1, hr0⟩ | ⟨hx, hr0, hbr⟩
                · cases hx
                  obtain ⟨V, hV'⟩ : ∃ V, V = L ++ [⟨⟨#[97, 110, 110]⟩, s0, s0 + n⟩] := ⟨_, rfl⟩
                  have HV := Lib.hid hV'
                  have hVl : V.length = L.length + 1 := by rw [hV']; exact more_len _ _
                  have HME := Lib.hid (show brokenErr R V = if brokenAt R (withTrip L s0 n) L.length = 0 then 12 else 0 by rw [hV']; exact more_fine (t := mkTrip s0 D.lo D.hi) HT.out ann_name (fun hp => (HQ.out.who hp).symm) (show 0 < n by omega) (show s0 + n ≤ 8640000000 by omega))
                  clear hV'
                  have v5 : IntKind.i64.wrap (s0 + n) = s0 + n := by rw [IntKind.wrap_i64]; omega
                  have hLl := HQ.out.len
                  obtain ⟨hi, hz0, hz1, hz2⟩ := HINF.out
                  obtain ⟨t0, t1, t2, t3⟩ := BT.out
                  go_wp2_with fail
                  have KL : Hid (∀ w', Below wf.heap.size wf w' → ArrW w' A' L c') := Lib.hid fun w' hw => (HL.out.keep (Keep.below hw))
                  go_cut [12] from 27 to 139 (fun s wx => ∃ A9 c9, s = .slice A9 V.length c9 ∧ Hid (ArrW wx A9 V c9) ∧ Hid (Below wf.heap.size wf wx))
                  case first =>
                    have HBd : Hid (Below wf.heap.size wf wf.drew) := Lib.hid (Below.refl _ _).drew
                    have MK : Hid (∀ w', Below wf.heap.size wf w' → w'.cell? ⟨g8, 0, none⟩ = some (.int .i64 s0) ∧ Hid (Below wf.heap.size wf w')) :=
                      Lib.hid fun w' hw => ⟨Keep.below hw _ _ t0, Lib.hid hw⟩
                    refine wp_region_held_drew (S := fun w' => w'.cell? ⟨g8, 0, none⟩ = some (.int .i64 s0) ∧ Hid (Below wf.heap.size wf w')) (by kernel_rfl) (MK.out _ HBd.out) (fun hHeld => ?_)
                    refine wpAnyH_take (i := 0) (v := ?val0x12) rfl (by kernel_rfl) (by kernel_rfl) (by kernel_rfl) (fun _ _ _ h => h) (Or.inl ⟨by rfl, fun w9 hS9 => ?yields0x12⟩) (by assumption) ?later0x12
                    case yields0x12 =>
                      dsimp only at hS9
                      go_simp
                      try with_reducible rfl
                    try simp only [Act.put, List.getElem_toArray, List.getElem_cons_succ, List.getElem_cons_zero, List.setIfInBounds_toArray, List.set_cons_zero, List.set_cons_succ]
                    refine wpAnyH_take (i := 2) (v := ?val2x13) rfl (by kernel_rfl) (by kernel_rfl) (by kernel_rfl) (fun _ _ _ h => h) (Or.inl ⟨by rfl, fun w9 hS9 => ?yields2x13⟩) (by assumption) ?later2x13
                    case yields2x13 =>
                      dsimp only at hS9
                      go_simp
                      try with_reducible rfl
                    try simp only [Act.put, List.getElem_toArray, List.getElem_cons_succ, List.getElem_cons_zero, List.setIfInBounds_toArray, List.set_cons_zero, List.set_cons_succ]
                    refine wpAnyH_take (i := 3) (v := ?val3x14) rfl (by kernel_rfl) (by kernel_rfl) (by kernel_rfl) (fun _ _ _ h => h) (Or.inl ⟨by rfl, fun w9 hS9 => ?yields3x14⟩) (by assumption) ?later3x14
                    case yields3x14 =>
                      dsimp only at hS9
                      go_simp
                      try with_reducible rfl
                    try simp only [Act.put, List.getElem_toArray, List.getElem_cons_succ, List.getElem_cons_zero, List.setIfInBounds_toArray, List.set_cons_zero, List.set_cons_succ]
                    refine wpAnyH_take (i := 4) (v := ?val4x15) rfl (by kernel_rfl) (by kernel_rfl) (by kernel_rfl) (fun _ _ _ h => h) (Or.inl ⟨by rfl, fun w9 hS9 => ?yields4x15⟩) (by assumption) ?later4x15
                    case yields4x15 =>
                      dsimp only at hS9
                      go_simp
                      try with_reducible rfl
                    try simp only [Act.put, List.getElem_toArray, List.getElem_cons_succ, List.getElem_cons_zero, List.setIfInBounds_toArray, List.set_cons_zero, List.set_cons_succ]
                    refine wpAnyH_take (i := 5) (v := ?val5x16) rfl (by kernel_rfl) (by kernel_rfl) (by kernel_rfl) (fun _ _ _ h => h) (Or.inl ⟨by rfl, fun w9 hS9 => ?yields5x16⟩) (by assumption) ?later5x16
                    case yields5x16 =>
                      dsimp only at hS9
                      go_simp
                      try with_reducible rfl
                    try simp only [Act.put, List.getElem_toArray, List.getElem_cons_succ, List.getElem_cons_zero, List.setIfInBounds_toArray, List.set_cons_zero, List.set_cons_succ]
                    refine wpAnyH_take (i := 6) (v := ?val6x17) rfl (by kernel_rfl) (by kernel_rfl) (by kernel_rfl) (fun _ _ _ h => h) (Or.inl ⟨by rfl, fun w9 hS9 => ?yields6x17⟩) (by assumption) ?later6x17
                    case yields6x17 =>
                      dsimp only at hS9
                      go_simp
                      try with_reducible rfl
                    try simp only [Act.put, List.getElem_toArray, List.getElem_cons_succ, List.getElem_cons_zero, List.setIfInBounds_toArray, List.set_cons_zero, List.set_cons_succ]
                    refine wpAnyH_take (i := 7) (v := ?val7x18) rfl (by kernel_rfl) (by kernel_rfl) (by kernel_rfl) (fun _ _ _ h => h) (Or.inl ⟨by rfl, fun w9 hS9 => ?yields7x18⟩) (by assumption) ?later7x18
                    case yields7x18 =>
                      dsimp only at hS9
                      go_simp
                      try with_reducible rfl
                    try simp only [Act.put, List.getElem_toArray, List.getElem_cons_succ, List.getElem_cons_zero, List.setIfInBounds_toArray, List.set_cons_zero, List.set_cons_succ]
                    refine wpAnyH_take (i := 8) (v := ?val8x19) rfl (by kernel_rfl) (by kernel_rfl) (by kernel_rfl) (fun _ _ _ h => h) (Or.inl ⟨by rfl, fun w9 hS9 => ?yields8x19⟩) (by assumption) ?later8x19
                    case yields8x19 =>
                      dsimp only at hS9
                      go_simp
                      try with_reducible rfl
                    try simp only [Act.put, List.getElem_toArray, List.getElem_cons_succ, List.getElem_cons_zero, List.setIfInBounds_toArray, List.set_cons_zero, List.set_cons_succ]
                    generalize hyy : World.drew wf = y1 at *
                    clear hyy
                    refine wpAnyH_ready (rs := [1, 9]) (by kernel_rfl) (by simp) ?_
                    refine AllReadyH.cons rfl (fun K hK => ?_) (AllReadyH.cons rfl (fun K hK => ?_) (AllReadyH.nil))
                    · go_simp
                      obtain ⟨-, HBX⟩ := hHeld
                      go_at_call 20
                      refine (rCopyRecords_any L _ _ _ (KL.out _ HBX.out) (by omega)).mono ?_
                      rintro e' y2 ⟨vc, rfl, ho, hb1⟩
                      have HO := Lib.hid (own_low ho HBX.out.size)
                      go_wp2_with fail
                      refine hK.out _ _ (MK.out _ (HBX.out.trans (hb1.mono HBX.out.size))) (fun hHeld => ?_)
                      try simp only [Act.put, List.getElem_toArray, List.getElem_cons_succ, List.getElem_cons_zero, List.setIfInBounds_toArray, List.set_cons_zero, List.set_cons_succ]
                      clear ho hb1 HBX hK K
                      refine wpAnyH_ready (rs := [9]) (by kernel_rfl) (by simp) ?_
                      refine AllReadyH.cons rfl (fun K hK => ?_) (AllReadyH.nil)
                      · go_simp
                        obtain ⟨-, HBX⟩ := hHeld
                        have HL := Lib.hid (oneRecG y2 ⟨#[97, 110, 110]⟩ s0 (s0 + n))
                        have HO := Lib.hid (below_of_own HO.out ((Below.refl _ _).alloc (Nat.le_refl _) (.cells #[.string ⟨#[97, 110, 110]⟩, .int .i64 s0, .int .i64 (s0 + n)] 39)))
                        refine hK.out _ _ (MK.out _ (HBX.out.alloc HBX.out.size _)) (fun hHeld => ?_)
                        try simp only [Act.put, List.getElem_toArray, List.getElem_cons_succ, List.getElem_cons_zero, List.setIfInBounds_toArray, List.set_cons_zero, List.set_cons_succ]
                        clear HBX hK K
                        generalize hyy : World.alloc y2 _ = y3 at *
                        clear hyy
                        refine wpAnyH_ready (rs := [10]) (by kernel_rfl) (by simp) ?_
                        refine AllReadyH.cons rfl (fun K hK => ?_) AllReadyH.nil
                        obtain ⟨-, HBX⟩ := hHeld
                        refine step_append_lies _ rfl (.tmp 101) (.tmp 109) 24 rfl wf.heap.size 39 i0 _ 3 32 Try.underlying24 hi hz0 hz1 hz2 rfl (by decide) _ L.length _ rfl HO.out _ 1 1 (flat 1 3 fun _ j => recCells ⟨⟨#[97, 110, 110]⟩, s0, s0 + n⟩ j) rfl (by simp [flat]) (news_of_arr (by decide) HL.out) (recCells_one _) (by decide) (by unfold maxLen; omega) (by omega) HBX.out.size _ rfl ?_
                        rintro g9 c9 y9 ho9 hg9 - -
                        have hb9 := (Below.refl _ _).grown hg9 HBX.out.size (fun k hk => (HO.out.lt k hk).1)
                        rw [moreFlat HV.out] at ho9
                        have H9 := Lib.hid (own_arrN ho9)
                        refine hK.out _ _ (MK.out _ (HBX.out.trans hb9)) (fun hHeld => ?_)
                        try simp only [Act.put, List.getElem_toArray, List.getElem_cons_succ, List.getElem_cons_zero, List.setIfInBounds_toArray, List.set_cons_zero, List.set_cons_succ]
                        clear ho9 hb9 hg9 HBX hK K
                        refine wpAnyH_take (i := 11) (v := ?val11x20) rfl (by kernel_rfl) (by kernel_rfl) (by kernel_rfl) (fun _ _ _ h => h) (Or.inl ⟨by rfl, fun w9 hS9 => ?yields11x20⟩) (by assumption) ?later11x20
                        case yields11x20 =>
                          dsimp only at hS9
                          go_simp
                          try with_reducible rfl
                        try simp only [Act.put, List.getElem_toArray, List.getElem_cons_succ, List.getElem_cons_zero, List.setIfInBounds_toArray, List.set_cons_zero, List.set_cons_succ]
                        refine wpAnyH_done (by kernel_rfl) ?_ _
                        obtain ⟨-, hbb⟩ := hHeld
                        go_wp2_with fail
                        go_meet
                        exact ⟨_, c9, by rw [hVl], Lib.hid (show Arr _ _ V.length c9 3 _ by rw [hVl]; exact H9.out), hbb⟩
                    · go_simp
                      obtain ⟨-, HBX⟩ := hHeld
                      have HL := Lib.hid (oneRecG y1 ⟨#[97, 110, 110]⟩ s0 (s0 + n))
                      refine hK.out _ _ (MK.out _ (HBX.out.alloc HBX.out.size _)) (fun hHeld => ?_)
                      try simp only [Act.put, List.getElem_toArray, List.getElem_cons_succ, List.getElem_cons_zero, List.setIfInBounds_toArray, List.set_cons_zero, List.set_cons_succ]
                      clear HBX hK K
                      generalize hyy : World.alloc y1 _ = y4 at *
                      clear hyy
                      refine wpAnyH_ready (rs := [1]) (by kernel_rfl) (by simp) ?_
                      refine AllReadyH.cons rfl (fun K hK => ?_) (AllReadyH.nil)
                      · go_simp
                        obtain ⟨-, HBX⟩ := hHeld
                        go_at_call 20
                        refine (rCopyRecords_any L _ _ _ (KL.out _ HBX.out) (by omega)).mono ?_
                        rintro e' y5 ⟨vc, rfl, ho, hb1⟩
                        have HO := Lib.hid (own_low ho HBX.out.size)
                        have HL := Lib.hid (Arr.keep (Keep.below hb1) HL.out)
                        go_wp2_with fail
                        refine hK.out _ _ (MK.out _ (HBX.out.trans (hb1.mono HBX.out.size))) (fun hHeld => ?_)
                        try simp only [Act.put, List.getElem_toArray, List.getElem_cons_succ, List.getElem_cons_zero, List.setIfInBounds_toArray, List.set_cons_zero, List.set_cons_succ]
                        clear ho hb1 HBX hK K
                        refine wpAnyH_ready (rs := [10]) (by kernel_rfl) (by simp) ?_
                        refine AllReadyH.cons rfl (fun K hK => ?_) AllReadyH.nil
                        obtain ⟨-, HBX⟩ := hHeld
                        refine step_append_lies _ rfl (.tmp 101) (.tmp 109) 24 rfl wf.heap.size 39 i0 _ 3 32 Try.underlying24 hi hz0 hz1 hz2 rfl (by decide) _ L.length _ rfl HO.out _ 1 1 (flat 1 3 fun _ j => recCells ⟨⟨#[97, 110, 110]⟩, s0, s0 + n⟩ j) rfl (by simp [flat]) (news_of_arr (by decide) HL.out) (recCells_one _) (by decide) (by unfold maxLen; omega) (by omega) HBX.out.size _ rfl ?_
                        rintro g9 c9 y9 ho9 hg9 - -
                        have hb9 := (Below.refl _ _).grown hg9 HBX.out.size (fun k hk => (HO.out.lt k hk).1)
                        rw [moreFlat HV.out] at ho9
                        have H9 := Lib.hid (own_arrN ho9)
                        refine hK.out _ _ (MK.out _ (HBX.out.trans hb9)) (fun hHeld => ?_)
                        try simp only [Act.put, List.getElem_toArray, List.getElem_cons_succ, List.getElem_cons_zero, List.setIfInBounds_toArray, List.set_cons_zero, List.set_cons_succ]
                        clear ho9 hb9 hg9 HBX hK K
                        refine wpAnyH_take (i := 11) (v := ?val11x21) rfl (by kernel_rfl) (by kernel_rfl) (by kernel_rfl) (fun _ _ _ h => h) (Or.inl ⟨by rfl, fun w9 hS9 => ?yields11x21⟩) (by assumption) ?later11x21
                        case yields11x21 =>
                          dsimp only at hS9
                          go_simp
                          try with_reducible rfl
                        try simp only [Act.put, List.getElem_toArray, List.getElem_cons_succ, List.getElem_cons_zero, List.setIfInBounds_toArray, List.set_cons_zero, List.set_cons_succ]
                        refine wpAnyH_done (by kernel_rfl) ?_ _
                        obtain ⟨-, hbb⟩ := hHeld
                        go_wp2_with fail
                        go_meet
                        exact ⟨_, c9, by rw [hVl], Lib.hid (show Arr _ _ V.length c9 3 _ by rw [hVl]; exact H9.out), hbb⟩
                  case rest =>
                    obtain ⟨A9, c9, rfl, H9, HB⟩ := hcut
                    obtain ⟨wg, hwg⟩ : ∃ wz, wz = wc := ⟨_, rfl⟩
                    subst hwg
                    replace HX := Lib.hid (HX.out.trans (HB.out.mono HX.out.size))
                    replace BD2 := Lib.hid (BD2.out.keep (Keep.below HB.out))
                    replace HL := Lib.hid (HL.out.keep (Keep.below HB.out))
                    replace BT := Lib.hid (BT.out.keep (Keep.below HB.out))
                    clear HB t0 t1 t2 t3
                    have HVB := Lib.hid (show V.length ≤ 1000000 by omega)
                    clear hVl
                    have hv1 := H9.out.le.1
                    have hv2 := H9.out.le.2
                    obtain ⟨⟨a0, a1, a2, a3, a4⟩, d5⟩ := BD2.out
                    go_wp2_with fail
                    go_cut [13, 14] from 27 to 139 (fun s1 s2 wx => ∃ g : Nat, s1 = .pointer (some ⟨g, 0, none⟩) ∧ s2 = .int .i64 (brokenErr R V) ∧ wg.heap.size ≤ g ∧ Hid (Below wg.heap.size wg wx))
                    case first =>
                      have HBd : Hid (Below wg.heap.size wg wg.drew) := Lib.hid (Below.refl _ _).drew
                      have MK : Hid (∀ w', Below wg.heap.size wg w' → w'.cell? ⟨w.heap.size, 0, none⟩ = some (.int .i64 R.brk) ∧ w'.cell? ⟨w.heap.size, 1, none⟩ = some (.int .i64 R.rest) ∧ w'.cell? ⟨w.heap.size, 2, none⟩ = some (.int .i64 R.stint) ∧ w'.cell? ⟨w.heap.size, 3, none⟩ = some (.int .i64 R.shift) ∧ w'.cell? ⟨w.heap.size, 4, none⟩ = some (.int .i64 R.week) ∧ Hid (Below wg.heap.size wg w')) :=
                        Lib.hid fun w' hw => ⟨Keep.below hw _ _ a0, Keep.below hw _ _ a1, Keep.below hw _ _ a2, Keep.below hw _ _ a3, Keep.below hw _ _ a4, Lib.hid hw⟩
                      have KV : Hid (∀ w', Below wg.heap.size wg w' → ArrW w' A9 V c9) := Lib.hid fun w' hw => (H9.out.keep (Keep.below hw))
                      go_region_held3 (fun w' => w'.cell? ⟨w.heap.size, 0, none⟩ = some (.int .i64 R.brk) ∧ w'.cell? ⟨w.heap.size, 1, none⟩ = some (.int .i64 R.rest) ∧ w'.cell? ⟨w.heap.size, 2, none⟩ = some (.int .i64 R.stint) ∧ w'.cell? ⟨w.heap.size, 3, none⟩ = some (.int .i64 R.shift) ∧ w'.cell? ⟨w.heap.size, 4, none⟩ = some (.int .i64 R.week) ∧ Hid (Below wg.heap.size wg w'))
                        (first
                          | exact MK.out _ HBd.out
                          | (go_split_ands; exact ⟨by assumption, by assumption, by assumption, by assumption, by assumption, by assumption⟩)
                          | (go_split_ands; exact MK.out _ (Below.trans (Hid.out (by assumption)) (hb1.mono (Hid.out (by assumption) : Below wg.heap.size wg _).size)))
                          | (go_split_ands; exact MK.out _ (Below.alloc (Hid.out (by assumption)) (Hid.out (by assumption) : Below wg.heap.size wg _).size _))
                          | (go_split_ands; exact MK.out _ (below_realloc (Hid.out (by assumption)) hle _))
                          | (go_split_ands; exact MK.out _ (Below.setCell (Below.setCell (Hid.out (by assumption)) (by show wg.heap.size ≤ _; first | exact Nat.le_refl _ | assumption | omega | (simp; done) | (simp; omega)) _) (by show wg.heap.size ≤ _; first | exact Nat.le_refl _ | assumption | omega | (simp; done) | (simp; omega)) _)))
                        ((first
                          | (go_at_call 20
                             go_split_ands
                             refine (copyRecs_any V A9 c9 _ (KV.out _ (Hid.out (by assumption))) HVB.out).mono ?_
                             rintro e' wz5 ⟨⟨A5, c5', rfl, h5⟩, hb1⟩
                             have hle := Nat.le_trans (Hid.out (by assumption) : Below wg.heap.size wg _).size hb1.size
                             have H5 := Lib.hid h5
                             clear h5
                             try (first
                               | (have HT0 := (HT.out.keep hb1 : TreeAt _ _ (.int .i64 0) (.int .i64 0)); (try simp only [size_drew] at HT0); (try simp only [World.size_alloc] at HT0); (try simp only [size_drew] at HT0); have HT := Lib.hid HT0; clear HT0; obtain ⟨q0, q1, qf0, qf1⟩ := HT.out)
                               | (have HT0 := ((TreeAt.new _ _ _ 47).keep hb1 : TreeAt _ _ (.int .i64 0) (.int .i64 0)); (try simp only [size_drew] at HT0); (try simp only [World.size_alloc] at HT0); (try simp only [size_drew] at HT0); have HT := Lib.hid HT0; clear HT0; obtain ⟨q0, q1, qf0, qf1⟩ := HT.out)
                               | (have HT0 := ((TreeAt.new _ _ _ 47).keepD hb1 : TreeAt _ _ (.int .i64 0) (.int .i64 0)); (try simp only [size_drew] at HT0); (try simp only [World.size_alloc] at HT0); (try simp only [size_drew] at HT0); have HT := Lib.hid HT0; clear HT0; obtain ⟨q0, q1, qf0, qf1⟩ := HT.out)))
                          | (go_at_call 29
                             go_split_ands
                             refine (xBroken_any R V _ _ _ (by first | exact H5.out | exact H5.out.keep (Keep.alloc _ _))).mono ?_
                             rintro e' wz7 ⟨rfl, hb1⟩
                             have hle := Nat.le_trans (Hid.out (by assumption) : Below wg.heap.size wg _).size hb1.size
                             try (first
                               | (have HT0 := (HT.out.keep hb1 : TreeAt _ _ (.int .i64 0) (.int .i64 0)); (try simp only [size_drew] at HT0); (try simp only [World.size_alloc] at HT0); (try simp only [size_drew] at HT0); have HT := Lib.hid HT0; clear HT0; obtain ⟨q0, q1, qf0, qf1⟩ := HT.out)
                               | (have HT0 := ((TreeAt.new _ _ _ 47).keep hb1 : TreeAt _ _ (.int .i64 0) (.int .i64 0)); (try simp only [size_drew] at HT0); (try simp only [World.size_alloc] at HT0); (try simp only [size_drew] at HT0); have HT := Lib.hid HT0; clear HT0; obtain ⟨q0, q1, qf0, qf1⟩ := HT.out)
                               | (have HT0 := ((TreeAt.new _ _ _ 47).keepD hb1 : TreeAt _ _ (.int .i64 0) (.int .i64 0)); (try simp only [size_drew] at HT0); (try simp only [World.size_alloc] at HT0); (try simp only [size_drew] at HT0); have HT := Lib.hid HT0; clear HT0; obtain ⟨q0, q1, qf0, qf1⟩ := HT.out)))))
                      all_goals
                        rename_i hS
                        obtain ⟨-, -, -, -, -, hbb⟩ := hS
                        go_wp2_with fail
                        go_meet
                        first
                          | exact ⟨_, rfl, rfl, by omega, hbb⟩
                    case rest =>
                      obtain ⟨g9, rfl, rfl, -, HB⟩ := hcut
                      obtain ⟨wh, hwh⟩ : ∃ wz, wz = wc := ⟨_, rfl⟩
                      subst hwh
                      replace HX := Lib.hid (HX.out.trans (HB.out.mono HX.out.size))
                      replace BD2 := Lib.hid (BD2.out.keep (Keep.below HB.out))
                      replace HL := Lib.hid (HL.out.keep (Keep.below HB.out))
                      replace BT := Lib.hid (BT.out.keep (Keep.below HB.out))
                      replace H9 := Lib.hid (H9.out.keep (Keep.below HB.out))
                      clear HB
                      clear a0 a1 a2 a3 a4 d5
                      rw [HME.out]
                      clear HME
                      rw [if_pos ((day_breaks (by omega)).1 hbr)]
                      obtain ⟨t0, t1, t2, t3⟩ := BT.out
                      have v6 : IntKind.i64.wrap (s0 + n) = s0 + n := by rw [IntKind.wrap_i64]; omega
                      have HN := Lib.hid (HQ.out.more HT.out hs1 hs2 (show 0 < n by omega) (show n ≤ 50000 by omega) (by omega) hbr)
                      rw [← HV.out] at HN
                      clear hbr
                      go_wp2_with fail
                      go_quiet (fail)
                      go_wp2_with fail
                      go_roundw
                      case rel => exact ⟨k + 1, V, A9, c9, s0 + n, by omega, rfl, rfl, by go_num, Lib.hid (H9.out.keep (Keep.below (bdrewN (Below.refl _ _) _))), HN, Lib.hid (bdrewN HX.out _)⟩
                      case measure => simp [intOf]; omega
                · have er : (xr == 0) = false := by simpa using hr0
                  obtain rfl : xa = 1 := (Prod.mk.injEq .. ▸ hx1).1
                  clear hr0 hx1
                  obtain ⟨V, hV'⟩ : ∃ V, V = L ++ [⟨⟨#[97, 110, 110]⟩, s0, s0 + n⟩] := ⟨_, rfl⟩
                  have HV := Lib.hid hV'
                  have hVl : V.length = L.length + 1 := by rw [hV']; exact more_len _ _
                  have HME := Lib.hid (show brokenErr R V = if brokenAt R (withTrip L s0 n) L.length = 0 then 12 else 0 by rw [hV']; exact more_fine (t := mkTrip s0 D.lo D.hi) HT.out ann_name (fun hp => (HQ.out.who hp).symm) (show 0 < n by omega) (show s0 + n ≤ 8640000000 by omega))
                  clear hV'
                  have v5 : IntKind.i64.wrap (s0 + n) = s0 + n := by rw [IntKind.wrap_i64]; omega
                  have hLl := HQ.out.len
                  obtain ⟨hi, hz0, hz1, hz2⟩ := HINF.out
                  obtain ⟨t0, t1, t2, t3⟩ := BT.out
                  go_wp2_with fail
                  have KL : Hid (∀ w', Below wf.heap.size wf w' → ArrW w' A' L c') := Lib.hid fun w' hw => (HL.out.keep (Keep.below hw))
                  go_cut [12] from 27 to 139 (fun s wx => ∃ A9 c9, s = .slice A9 V.length c9 ∧ Hid (ArrW wx A9 V c9) ∧ Hid (Below wf.heap.size wf wx))
                  case first =>
                    have HBd : Hid (Below wf.heap.size wf wf.drew) := Lib.hid (Below.refl _ _).drew
                    have MK : Hid (∀ w', Below wf.heap.size wf w' → w'.cell? ⟨g8, 0, none⟩ = some (.int .i64 s0) ∧ Hid (Below wf.heap.size wf w')) :=
                      Lib.hid fun w' hw => ⟨Keep.below hw _ _ t0, Lib.hid hw⟩
                    refine wp_region_held_drew (S := fun w' => w'.cell? ⟨g8, 0, none⟩ = some (.int .i64 s0) ∧ Hid (Below wf.heap.size wf w')) (by kernel_rfl) (MK.out _ HBd.out) (fun hHeld => ?_)
                    refine wpAnyH_take (i := 0) (v := ?val0x22) rfl (by kernel_rfl) (by kernel_rfl) (by kernel_rfl) (fun _ _ _ h => h) (Or.inl ⟨by rfl, fun w9 hS9 => ?yields0x22⟩) (by assumption) ?later0x22
                    case yields0x22 =>
                      dsimp only at hS9
                      go_simp
                      try with_reducible rfl
                    try simp only [Act.put, List.getElem_toArray, List.getElem_cons_succ, List.getElem_cons_zero, List.setIfInBounds_toArray, List.set_cons_zero, List.set_cons_succ]
                    refine wpAnyH_take (i := 2) (v := ?val2x23) rfl (by kernel_rfl) (by kernel_rfl) (by kernel_rfl) (fun _ _ _ h => h) (Or.inl ⟨by rfl, fun w9 hS9 => ?yields2x23⟩) (by assumption) ?later2x23
                    case yields2x23 =>
                      dsimp only at hS9
                      go_simp
                      try with_reducible rfl
                    try simp only [Act.put, List.getElem_toArray, List.getElem_cons_succ, List.getElem_cons_zero, List.setIfInBounds_toArray, List.set_cons_zero, List.set_cons_succ]
                    refine wpAnyH_take (i := 3) (v := ?val3x24) rfl (by kernel_rfl) (by kernel_rfl) (by kernel_rfl) (fun _ _ _ h => h) (Or.inl ⟨by rfl, fun w9 hS9 => ?yields3x24⟩) (by assumption) ?later3x24
                    case yields3x24 =>
                      dsimp only at hS9
                      go_simp
                      try with_reducible rfl
                    try simp only [Act.put, List.getElem_toArray, List.getElem_cons_succ, List.getElem_cons_zero, List.setIfInBounds_toArray, List.set_cons_zero, List.set_cons_succ]
                    refine wpAnyH_take (i := 4) (v := ?val4x25) rfl (by kernel_rfl) (by kernel_rfl) (by kernel_rfl) (fun _ _ _ h => h) (Or.inl ⟨by rfl, fun w9 hS9 => ?yields4x25⟩) (by assumption) ?later4x25
                    case yields4x25 =>
                      dsimp only at hS9
                      go_simp
                      try with_reducible rfl
                    try simp only [Act.put, List.getElem_toArray, List.getElem_cons_succ, List.getElem_cons_zero, List.setIfInBounds_toArray, List.set_cons_zero, List.set_cons_succ]
                    refine wpAnyH_take (i := 5) (v := ?val5x26) rfl (by kernel_rfl) (by kernel_rfl) (by kernel_rfl) (fun _ _ _ h => h) (Or.inl ⟨by rfl, fun w9 hS9 => ?yields5x26⟩) (by assumption) ?later5x26
                    case yields5x26 =>
                      dsimp only at hS9
                      go_simp
                      try with_reducible rfl
                    try simp only [Act.put, List.getElem_toArray, List.getElem_cons_succ, List.getElem_cons_zero, List.setIfInBounds_toArray, List.set_cons_zero, List.set_cons_succ]
                    refine wpAnyH_take (i := 6) (v := ?val6x27) rfl (by kernel_rfl) (by kernel_rfl) (by kernel_rfl) (fun _ _ _ h => h) (Or.inl ⟨by rfl, fun w9 hS9 => ?yields6x27⟩) (by assumption) ?later6x27
                    case yields6x27 =>
                      dsimp only at hS9
                      go_simp
                      try with_reducible rfl
                    try simp only [Act.put, List.getElem_toArray, List.getElem_cons_succ, List.getElem_cons_zero, List.setIfInBounds_toArray, List.set_cons_zero, List.set_cons_succ]
                    refine wpAnyH_take (i := 7) (v := ?val7x28) rfl (by kernel_rfl) (by kernel_rfl) (by kernel_rfl) (fun _ _ _ h => h) (Or.inl ⟨by rfl, fun w9 hS9 => ?yields7x28⟩) (by assumption) ?later7x28
                    case yields7x28 =>
                      dsimp only at hS9
                      go_simp
                      try with_reducible rfl
                    try simp only [Act.put, List.getElem_toArray, List.getElem_cons_succ, List.getElem_cons_zero, List.setIfInBounds_toArray, List.set_cons_zero, List.set_cons_succ]
                    refine wpAnyH_take (i := 8) (v := ?val8x29) rfl (by kernel_rfl) (by kernel_rfl) (by kernel_rfl) (fun _ _ _ h => h) (Or.inl ⟨by rfl, fun w9 hS9 => ?yields8x29⟩) (by assumption) ?later8x29
                    case yields8x29 =>
                      dsimp only at hS9
                      go_simp
                      try with_reducible rfl
                    try simp only [Act.put, List.getElem_toArray, List.getElem_cons_succ, List.getElem_cons_zero, List.setIfInBounds_toArray, List.set_cons_zero, List.set_cons_succ]
                    generalize hyy : World.drew wf = y6 at *
                    clear hyy
                    refine wpAnyH_ready (rs := [1, 9]) (by kernel_rfl) (by simp) ?_
                    refine AllReadyH.cons rfl (fun K hK => ?_) (AllReadyH.cons rfl (fun K hK => ?_) (AllReadyH.nil))
                    · go_simp
                      obtain ⟨-, HBX⟩ := hHeld
                      go_at_call 20
                      refine (rCopyRecords_any L _ _ _ (KL.out _ HBX.out) (by omega)).mono ?_
                      rintro e' y7 ⟨vc, rfl, ho, hb1⟩
                      have HO := Lib.hid (own_low ho HBX.out.size)
                      go_wp2_with fail
                      refine hK.out _ _ (MK.out _ (HBX.out.trans (hb1.mono HBX.out.size))) (fun hHeld => ?_)
                      try simp only [Act.put, List.getElem_toArray, List.getElem_cons_succ, List.getElem_cons_zero, List.setIfInBounds_toArray, List.set_cons_zero, List.set_cons_succ]
                      clear ho hb1 HBX hK K
                      refine wpAnyH_ready (rs := [9]) (by kernel_rfl) (by simp) ?_
                      refine AllReadyH.cons rfl (fun K hK => ?_) (AllReadyH.nil)
                      · go_simp
                        obtain ⟨-, HBX⟩ := hHeld
                        have HL := Lib.hid (oneRecG y7 ⟨#[97, 110, 110]⟩ s0 (s0 + n))
                        have HO := Lib.hid (below_of_own HO.out ((Below.refl _ _).alloc (Nat.le_refl _) (.cells #[.string ⟨#[97, 110, 110]⟩, .int .i64 s0, .int .i64 (s0 + n)] 39)))
                        refine hK.out _ _ (MK.out _ (HBX.out.alloc HBX.out.size _)) (fun hHeld => ?_)
                        try simp only [Act.put, List.getElem_toArray, List.getElem_cons_succ, List.getElem_cons_zero, List.setIfInBounds_toArray, List.set_cons_zero, List.set_cons_succ]
                        clear HBX hK K
                        generalize hyy : World.alloc y7 _ = y8 at *
                        clear hyy
                        refine wpAnyH_ready (rs := [10]) (by kernel_rfl) (by simp) ?_
                        refine AllReadyH.cons rfl (fun K hK => ?_) AllReadyH.nil
                        obtain ⟨-, HBX⟩ := hHeld
                        refine step_append_lies _ rfl (.tmp 101) (.tmp 109) 24 rfl wf.heap.size 39 i0 _ 3 32 Try.underlying24 hi hz0 hz1 hz2 rfl (by decide) _ L.length _ rfl HO.out _ 1 1 (flat 1 3 fun _ j => recCells ⟨⟨#[97, 110, 110]⟩, s0, s0 + n⟩ j) rfl (by simp [flat]) (news_of_arr (by decide) HL.out) (recCells_one _) (by decide) (by unfold maxLen; omega) (by omega) HBX.out.size _ rfl ?_
                        rintro g9 c9 y9 ho9 hg9 - -
                        have hb9 := (Below.refl _ _).grown hg9 HBX.out.size (fun k hk => (HO.out.lt k hk).1)
                        rw [moreFlat HV.out] at ho9
                        have H9 := Lib.hid (own_arrN ho9)
                        refine hK.out _ _ (MK.out _ (HBX.out.trans hb9)) (fun hHeld => ?_)
                        try simp only [Act.put, List.getElem_toArray, List.getElem_cons_succ, List.getElem_cons_zero, List.setIfInBounds_toArray, List.set_cons_zero, List.set_cons_succ]
                        clear ho9 hb9 hg9 HBX hK K
                        refine wpAnyH_take (i := 11) (v := ?val11x30) rfl (by kernel_rfl) (by kernel_rfl) (by kernel_rfl) (fun _ _ _ h => h) (Or.inl ⟨by rfl, fun w9 hS9 => ?yields11x30⟩) (by assumption) ?later11x30
                        case yields11x30 =>
                          dsimp only at hS9
                          go_simp
                          try with_reducible rfl
                        try simp only [Act.put, List.getElem_toArray, List.getElem_cons_succ, List.getElem_cons_zero, List.setIfInBounds_toArray, List.set_cons_zero, List.set_cons_succ]
                        refine wpAnyH_done (by kernel_rfl) ?_ _
                        obtain ⟨-, hbb⟩ := hHeld
                        go_wp2_with fail
                        go_meet
                        exact ⟨_, c9, by rw [hVl], Lib.hid (show Arr _ _ V.length c9 3 _ by rw [hVl]; exact H9.out), hbb⟩
                    · go_simp
                      obtain ⟨-, HBX⟩ := hHeld
                      have HL := Lib.hid (oneRecG y6 ⟨#[97, 110, 110]⟩ s0 (s0 + n))
                      refine hK.out _ _ (MK.out _ (HBX.out.alloc HBX.out.size _)) (fun hHeld => ?_)
                      try simp only [Act.put, List.getElem_toArray, List.getElem_cons_succ, List.getElem_cons_zero, List.setIfInBounds_toArray, List.set_cons_zero, List.set_cons_succ]
                      clear HBX hK K
                      generalize hyy : World.alloc y6 _ = y9 at *
                      clear hyy
                      refine wpAnyH_ready (rs := [1]) (by kernel_rfl) (by simp) ?_
                      refine AllReadyH.cons rfl (fun K hK => ?_) (AllReadyH.nil)
                      · go_simp
                        obtain ⟨-, HBX⟩ := hHeld
                        go_at_call 20
                        refine (rCopyRecords_any L _ _ _ (KL.out _ HBX.out) (by omega)).mono ?_
                        rintro e' y10 ⟨vc, rfl, ho, hb1⟩
                        have HO := Lib.hid (own_low ho HBX.out.size)
                        have HL := Lib.hid (Arr.keep (Keep.below hb1) HL.out)
                        go_wp2_with fail
                        refine hK.out _ _ (MK.out _ (HBX.out.trans (hb1.mono HBX.out.size))) (fun hHeld => ?_)
                        try simp only [Act.put, List.getElem_toArray, List.getElem_cons_succ, List.getElem_cons_zero, List.setIfInBounds_toArray, List.set_cons_zero, List.set_cons_succ]
                        clear ho hb1 HBX hK K
                        refine wpAnyH_ready (rs := [10]) (by kernel_rfl) (by simp) ?_
                        refine AllReadyH.cons rfl (fun K hK => ?_) AllReadyH.nil
                        obtain ⟨-, HBX⟩ := hHeld
                        refine step_append_lies _ rfl (.tmp 101) (.tmp 109) 24 rfl wf.heap.size 39 i0 _ 3 32 Try.underlying24 hi hz0 hz1 hz2 rfl (by decide) _ L.length _ rfl HO.out _ 1 1 (flat 1 3 fun _ j => recCells ⟨⟨#[97, 110, 110]⟩, s0, s0 + n⟩ j) rfl (by simp [flat]) (news_of_arr (by decide) HL.out) (recCells_one _) (by decide) (by unfold maxLen; omega) (by omega) HBX.out.size _ rfl ?_
                        rintro g9 c9 y9 ho9 hg9 - -
                        have hb9 := (Below.refl _ _).grown hg9 HBX.out.size (fun k hk => (HO.out.lt k hk).1)
                        rw [moreFlat HV.out] at ho9
                        have H9 := Lib.hid (own_arrN ho9)
                        refine hK.out _ _ (MK.out _ (HBX.out.trans hb9)) (fun hHeld => ?_)
                        try simp only [Act.put, List.getElem_toArray, List.getElem_cons_succ, List.getElem_cons_zero, List.setIfInBounds_toArray, List.set_cons_zero, List.set_cons_succ]
                        clear ho9 hb9 hg9 HBX hK K
                        refine wpAnyH_take (i := 11) (v := ?val11x31) rfl (by kernel_rfl) (by kernel_rfl) (by kernel_rfl) (fun _ _ _ h => h) (Or.inl ⟨by rfl, fun w9 hS9 => ?yields11x31⟩) (by assumption) ?later11x31
                        case yields11x31 =>
                          dsimp only at hS9
                          go_simp
                          try with_reducible rfl
                        try simp only [Act.put, List.getElem_toArray, List.getElem_cons_succ, List.getElem_cons_zero, List.setIfInBounds_toArray, List.set_cons_zero, List.set_cons_succ]
                        refine wpAnyH_done (by kernel_rfl) ?_ _
                        obtain ⟨-, hbb⟩ := hHeld
                        go_wp2_with fail
                        go_meet
                        exact ⟨_, c9, by rw [hVl], Lib.hid (show Arr _ _ V.length c9 3 _ by rw [hVl]; exact H9.out), hbb⟩
                  case rest =>
                    obtain ⟨A9, c9, rfl, H9, HB⟩ := hcut
                    obtain ⟨wg, hwg⟩ : ∃ wz, wz = wc := ⟨_, rfl⟩
                    subst hwg
                    replace HX := Lib.hid (HX.out.trans (HB.out.mono HX.out.size))
                    replace BD2 := Lib.hid (BD2.out.keep (Keep.below HB.out))
                    replace HL := Lib.hid (HL.out.keep (Keep.below HB.out))
                    replace BT := Lib.hid (BT.out.keep (Keep.below HB.out))
                    clear HB t0 t1 t2 t3
                    have HVB := Lib.hid (show V.length ≤ 1000000 by omega)
                    clear hVl
                    have hv1 := H9.out.le.1
                    have hv2 := H9.out.le.2
                    obtain ⟨⟨a0, a1, a2, a3, a4⟩, d5⟩ := BD2.out
                    go_wp2_with fail
                    go_cut [13, 14] from 27 to 139 (fun s1 s2 wx => ∃ g : Nat, s1 = .pointer (some ⟨g, 0, none⟩) ∧ s2 = .int .i64 (brokenErr R V) ∧ wg.heap.size ≤ g ∧ Hid (Below wg.heap.size wg wx))
                    case first =>
                      have HBd : Hid (Below wg.heap.size wg wg.drew) := Lib.hid (Below.refl _ _).drew
                      have MK : Hid (∀ w', Below wg.heap.size wg w' → w'.cell? ⟨w.heap.size, 0, none⟩ = some (.int .i64 R.brk) ∧ w'.cell? ⟨w.heap.size, 1, none⟩ = some (.int .i64 R.rest) ∧ w'.cell? ⟨w.heap.size, 2, none⟩ = some (.int .i64 R.stint) ∧ w'.cell? ⟨w.heap.size, 3, none⟩ = some (.int .i64 R.shift) ∧ w'.cell? ⟨w.heap.size, 4, none⟩ = some (.int .i64 R.week) ∧ Hid (Below wg.heap.size wg w')) :=
                        Lib.hid fun w' hw => ⟨Keep.below hw _ _ a0, Keep.below hw _ _ a1, Keep.below hw _ _ a2, Keep.below hw _ _ a3, Keep.below hw _ _ a4, Lib.hid hw⟩
                      have KV : Hid (∀ w', Below wg.heap.size wg w' → ArrW w' A9 V c9) := Lib.hid fun w' hw => (H9.out.keep (Keep.below hw))
                      go_region_held3 (fun w' => w'.cell? ⟨w.heap.size, 0, none⟩ = some (.int .i64 R.brk) ∧ w'.cell? ⟨w.heap.size, 1, none⟩ = some (.int .i64 R.rest) ∧ w'.cell? ⟨w.heap.size, 2, none⟩ = some (.int .i64 R.stint) ∧ w'.cell? ⟨w.heap.size, 3, none⟩ = some (.int .i64 R.shift) ∧ w'.cell? ⟨w.heap.size, 4, none⟩ = some (.int .i64 R.week) ∧ Hid (Below wg.heap.size wg w'))
                        (first
                          | exact MK.out _ HBd.out
                          | (go_split_ands; exact ⟨by assumption, by assumption, by assumption, by assumption, by assumption, by assumption⟩)
                          | (go_split_ands; exact MK.out _ (Below.trans (Hid.out (by assumption)) (hb1.mono (Hid.out (by assumption) : Below wg.heap.size wg _).size)))
                          | (go_split_ands; exact MK.out _ (Below.alloc (Hid.out (by assumption)) (Hid.out (by assumption) : Below wg.heap.size wg _).size _))
                          | (go_split_ands; exact MK.out _ (below_realloc (Hid.out (by assumption)) hle _))
                          | (go_split_ands; exact MK.out _ (Below.setCell (Below.setCell (Hid.out (by assumption)) (by show wg.heap.size ≤ _; first | exact Nat.le_refl _ | assumption | omega | (simp; done) | (simp; omega)) _) (by show wg.heap.size ≤ _; first | exact Nat.le_refl _ | assumption | omega | (simp; done) | (simp; omega)) _)))
                        ((first
                          | (go_at_call 20
                             go_split_ands
                             refine (copyRecs_any V A9 c9 _ (KV.out _ (Hid.out (by assumption))) HVB.out).mono ?_
                             rintro e' wz5 ⟨⟨A5, c5', rfl, h5⟩, hb1⟩
                             have hle := Nat.le_trans (Hid.out (by assumption) : Below wg.heap.size wg _).size hb1.size
                             have H5 := Lib.hid h5
                             clear h5
                             try (first
                               | (have HT0 := (HT.out.keep hb1 : TreeAt _ _ (.int .i64 0) (.int .i64 0)); (try simp only [size_drew] at HT0); (try simp only [World.size_alloc] at HT0); (try simp only [size_drew] at HT0); have HT := Lib.hid HT0; clear HT0; obtain ⟨q0, q1, qf0, qf1⟩ := HT.out)
                               | (have HT0 := ((TreeAt.new _ _ _ 47).keep hb1 : TreeAt _ _ (.int .i64 0) (.int .i64 0)); (try simp only [size_drew] at HT0); (try simp only [World.size_alloc] at HT0); (try simp only [size_drew] at HT0); have HT := Lib.hid HT0; clear HT0; obtain ⟨q0, q1, qf0, qf1⟩ := HT.out)
                               | (have HT0 := ((TreeAt.new _ _ _ 47).keepD hb1 : TreeAt _ _ (.int .i64 0) (.int .i64 0)); (try simp only [size_drew] at HT0); (try simp only [World.size_alloc] at HT0); (try simp only [size_drew] at HT0); have HT := Lib.hid HT0; clear HT0; obtain ⟨q0, q1, qf0, qf1⟩ := HT.out)))
                          | (go_at_call 29
                             go_split_ands
                             refine (xBroken_any R V _ _ _ (by first | exact H5.out | exact H5.out.keep (Keep.alloc _ _))).mono ?_
                             rintro e' wz7 ⟨rfl, hb1⟩
                             have hle := Nat.le_trans (Hid.out (by assumption) : Below wg.heap.size wg _).size hb1.size
                             try (first
                               | (have HT0 := (HT.out.keep hb1 : TreeAt _ _ (.int .i64 0) (.int .i64 0)); (try simp only [size_drew] at HT0); (try simp only [World.size_alloc] at HT0); (try simp only [size_drew] at HT0); have HT := Lib.hid HT0; clear HT0; obtain ⟨q0, q1, qf0, qf1⟩ := HT.out)
                               | (have HT0 := ((TreeAt.new _ _ _ 47).keep hb1 : TreeAt _ _ (.int .i64 0) (.int .i64 0)); (try simp only [size_drew] at HT0); (try simp only [World.size_alloc] at HT0); (try simp only [size_drew] at HT0); have HT := Lib.hid HT0; clear HT0; obtain ⟨q0, q1, qf0, qf1⟩ := HT.out)
                               | (have HT0 := ((TreeAt.new _ _ _ 47).keepD hb1 : TreeAt _ _ (.int .i64 0) (.int .i64 0)); (try simp only [size_drew] at HT0); (try simp only [World.size_alloc] at HT0); (try simp only [size_drew] at HT0); have HT := Lib.hid HT0; clear HT0; obtain ⟨q0, q1, qf0, qf1⟩ := HT.out)))))
                      all_goals
                        rename_i hS
                        obtain ⟨-, -, -, -, -, hbb⟩ := hS
                        go_wp2_with fail
                        go_meet
                        first
                          | exact ⟨_, rfl, rfl, by omega, hbb⟩
                    case rest =>
                      obtain ⟨g9, rfl, rfl, -, HB⟩ := hcut
                      obtain ⟨wh, hwh⟩ : ∃ wz, wz = wc := ⟨_, rfl⟩
                      subst hwh
                      replace HX := Lib.hid (HX.out.trans (HB.out.mono HX.out.size))
                      replace BD2 := Lib.hid (BD2.out.keep (Keep.below HB.out))
                      replace HL := Lib.hid (HL.out.keep (Keep.below HB.out))
                      replace BT := Lib.hid (BT.out.keep (Keep.below HB.out))
                      replace H9 := Lib.hid (H9.out.keep (Keep.below HB.out))
                      clear HB
                      clear a0 a1 a2 a3 a4 d5
                      rw [HME.out]
                      clear HME
                      clear HV
                      go_wp2_with fail
                      go_roundw
                      case rel => exact ⟨k + 1, L, A', c', z, by omega, rfl, rfl, by go_num, HL, Lib.hid HQ.out.next, HX⟩
                      case measure => simp [intOf]; omega
                · have er : (xr == 0) = false := by simpa using hr0
                  obtain rfl : xa = 0 := (Prod.mk.injEq .. ▸ hx).1
                  clear hr0 hx
                  obtain ⟨V, hV'⟩ : ∃ V, V = L ++ [⟨⟨#[97, 110, 110]⟩, s0, s0 + n⟩] := ⟨_, rfl⟩
                  have HV := Lib.hid hV'
                  have hVl : V.length = L.length + 1 := by rw [hV']; exact more_len _ _
                  have HME := Lib.hid (show brokenErr R V = if brokenAt R (withTrip L s0 n) L.length = 0 then 12 else 0 by rw [hV']; exact more_fine (t := mkTrip s0 D.lo D.hi) HT.out ann_name (fun hp => (HQ.out.who hp).symm) (show 0 < n by omega) (show s0 + n ≤ 8640000000 by omega))
                  clear hV'
                  have v5 : IntKind.i64.wrap (s0 + n) = s0 + n := by rw [IntKind.wrap_i64]; omega
                  have hLl := HQ.out.len
                  obtain ⟨hi, hz0, hz1, hz2⟩ := HINF.out
                  obtain ⟨t0, t1, t2, t3⟩ := BT.out
                  go_wp2_with fail
                  have KL : Hid (∀ w', Below wf.heap.size wf w' → ArrW w' A' L c') := Lib.hid fun w' hw => (HL.out.keep (Keep.below hw))
                  go_cut [12] from 27 to 139 (fun s wx => ∃ A9 c9, s = .slice A9 V.length c9 ∧ Hid (ArrW wx A9 V c9) ∧ Hid (Below wf.heap.size wf wx))
                  case first =>
                    have HBd : Hid (Below wf.heap.size wf wf.drew) := Lib.hid (Below.refl _ _).drew
                    have MK : Hid (∀ w', Below wf.heap.size wf w' → w'.cell? ⟨g8, 0, none⟩ = some (.int .i64 s0) ∧ Hid (Below wf.heap.size wf w')) :=
                      Lib.hid fun w' hw => ⟨Keep.below hw _ _ t0, Lib.hid hw⟩
                    refine wp_region_held_drew (S := fun w' => w'.cell? ⟨g8, 0, none⟩ = some (.int .i64 s0) ∧ Hid (Below wf.heap.size wf w')) (by kernel_rfl) (MK.out _ HBd.out) (fun hHeld => ?_)
                    refine wpAnyH_take (i := 0) (v := ?val0x32) rfl (by kernel_rfl) (by kernel_rfl) (by kernel_rfl) (fun _ _ _ h => h) (Or.inl ⟨by rfl, fun w9 hS9 => ?yields0x32⟩) (by assumption) ?later0x32
                    case yields0x32 =>
                      dsimp only at hS9
                      go_simp
                      try with_reducible rfl
                    try simp only [Act.put, List.getElem_toArray, List.getElem_cons_succ, List.getElem_cons_zero, List.setIfInBounds_toArray, List.set_cons_zero, List.set_cons_succ]
                    refine wpAnyH_take (i := 2) (v := ?val2x33) rfl (by kernel_rfl) (by kernel_rfl) (by kernel_rfl) (fun _ _ _ h => h) (Or.inl ⟨by rfl, fun w9 hS9 => ?yields2x33⟩) (by assumption) ?later2x33
                    case yields2x33 =>
                      dsimp only at hS9
                      go_simp
                      try with_reducible rfl
                    try simp only [Act.put, List.getElem_toArray, List.getElem_cons_succ, List.getElem_cons_zero, List.setIfInBounds_toArray, List.set_cons_zero, List.set_cons_succ]
                    refine wpAnyH_take (i := 3) (v := ?val3x34) rfl (by kernel_rfl) (by kernel_rfl) (by kernel_rfl) (fun _ _ _ h => h) (Or.inl ⟨by rfl, fun w9 hS9 => ?yields3x34⟩) (by assumption) ?later3x34
                    case yields3x34 =>
                      dsimp only at hS9
                      go_simp
                      try with_reducible rfl
                    try simp only [Act.put, List.getElem_toArray, List.getElem_cons_succ, List.getElem_cons_zero, List.setIfInBounds_toArray, List.set_cons_zero, List.set_cons_succ]
                    refine wpAnyH_take (i := 4) (v := ?val4x35) rfl (by kernel_rfl) (by kernel_rfl) (by kernel_rfl) (fun _ _ _ h => h) (Or.inl ⟨by rfl, fun w9 hS9 => ?yields4x35⟩) (by assumption) ?later4x35
                    case yields4x35 =>
                      dsimp only at hS9
                      go_simp
                      try with_reducible rfl
                    try simp only [Act.put, List.getElem_toArray, List.getElem_cons_succ, List.getElem_cons_zero, List.setIfInBounds_toArray, List.set_cons_zero, List.set_cons_succ]
                    refine wpAnyH_take (i := 5) (v := ?val5x36) rfl (by kernel_rfl) (by kernel_rfl) (by kernel_rfl) (fun _ _ _ h => h) (Or.inl ⟨by rfl, fun w9 hS9 => ?yields5x36⟩) (by assumption) ?later5x36
                    case yields5x36 =>
                      dsimp only at hS9
                      go_simp
                      try with_reducible rfl
                    try simp only [Act.put, List.getElem_toArray, List.getElem_cons_succ, List.getElem_cons_zero, List.setIfInBounds_toArray, List.set_cons_zero, List.set_cons_succ]
                    refine wpAnyH_take (i := 6) (v := ?val6x37) rfl (by kernel_rfl) (by kernel_rfl) (by kernel_rfl) (fun _ _ _ h => h) (Or.inl ⟨by rfl, fun w9 hS9 => ?yields6x37⟩) (by assumption) ?later6x37
                    case yields6x37 =>
                      dsimp only at hS9
                      go_simp
                      try with_reducible rfl
                    try simp only [Act.put, List.getElem_toArray, List.getElem_cons_succ, List.getElem_cons_zero, List.setIfInBounds_toArray, List.set_cons_zero, List.set_cons_succ]
                    refine wpAnyH_take (i := 7) (v := ?val7x38) rfl (by kernel_rfl) (by kernel_rfl) (by kernel_rfl) (fun _ _ _ h => h) (Or.inl ⟨by rfl, fun w9 hS9 => ?yields7x38⟩) (by assumption) ?later7x38
                    case yields7x38 =>
                      dsimp only at hS9
                      go_simp
                      try with_reducible rfl
                    try simp only [Act.put, List.getElem_toArray, List.getElem_cons_succ, List.getElem_cons_zero, List.setIfInBounds_toArray, List.set_cons_zero, List.set_cons_succ]
                    refine wpAnyH_take (i := 8) (v := ?val8x39) rfl (by kernel_rfl) (by kernel_rfl) (by kernel_rfl) (fun _ _ _ h => h) (Or.inl ⟨by rfl, fun w9 hS9 => ?yields8x39⟩) (by assumption) ?later8x39
                    case yields8x39 =>
                      dsimp only at hS9
                      go_simp
                      try with_reducible rfl
                    try simp only [Act.put, List.getElem_toArray, List.getElem_cons_succ, List.getElem_cons_zero, List.setIfInBounds_toArray, List.set_cons_zero, List.set_cons_succ]
                    generalize hyy : World.drew wf = y11 at *
                    clear hyy
                    refine wpAnyH_ready (rs := [1, 9]) (by kernel_rfl) (by simp) ?_
                    refine AllReadyH.cons rfl (fun K hK => ?_) (AllReadyH.cons rfl (fun K hK => ?_) (AllReadyH.nil))
                    · go_simp
                      obtain ⟨-, HBX⟩ := hHeld
                      go_at_call 20
                      refine (rCopyRecords_any L _ _ _ (KL.out _ HBX.out) (by omega)).mono ?_
                      rintro e' y12 ⟨vc, rfl, ho, hb1⟩
                      have HO := Lib.hid (own_low ho HBX.out.size)
                      go_wp2_with fail
                      refine hK.out _ _ (MK.out _ (HBX.out.trans (hb1.mono HBX.out.size))) (fun hHeld => ?_)
                      try simp only [Act.put, List.getElem_toArray, List.getElem_cons_succ, List.getElem_cons_zero, List.setIfInBounds_toArray, List.set_cons_zero, List.set_cons_succ]
                      clear ho hb1 HBX hK K
                      refine wpAnyH_ready (rs := [9]) (by kernel_rfl) (by simp) ?_
                      refine AllReadyH.cons rfl (fun K hK => ?_) (AllReadyH.nil)
                      · go_simp
                        obtain ⟨-, HBX⟩ := hHeld
                        have HL := Lib.hid (oneRecG y12 ⟨#[97, 110, 110]⟩ s0 (s0 + n))
                        have HO := Lib.hid (below_of_own HO.out ((Below.refl _ _).alloc (Nat.le_refl _) (.cells #[.string ⟨#[97, 110, 110]⟩, .int .i64 s0, .int .i64 (s0 + n)] 39)))
                        refine hK.out _ _ (MK.out _ (HBX.out.alloc HBX.out.size _)) (fun hHeld => ?_)
                        try simp only [Act.put, List.getElem_toArray, List.getElem_cons_succ, List.getElem_cons_zero, List.setIfInBounds_toArray, List.set_cons_zero, List.set_cons_succ]
                        clear HBX hK K
                        generalize hyy : World.alloc y12 _ = y13 at *
                        clear hyy
                        refine wpAnyH_ready (rs := [10]) (by kernel_rfl) (by simp) ?_
                        refine AllReadyH.cons rfl (fun K hK => ?_) AllReadyH.nil
                        obtain ⟨-, HBX⟩ := hHeld
                        refine step_append_lies _ rfl (.tmp 101) (.tmp 109) 24 rfl wf.heap.size 39 i0 _ 3 32 Try.underlying24 hi hz0 hz1 hz2 rfl (by decide) _ L.length _ rfl HO.out _ 1 1 (flat 1 3 fun _ j => recCells ⟨⟨#[97, 110, 110]⟩, s0, s0 + n⟩ j) rfl (by simp [flat]) (news_of_arr (by decide) HL.out) (recCells_one _) (by decide) (by unfold maxLen; omega) (by omega) HBX.out.size _ rfl ?_
                        rintro g9 c9 y9 ho9 hg9 - -
                        have hb9 := (Below.refl _ _).grown hg9 HBX.out.size (fun k hk => (HO.out.lt k hk).1)
                        rw [moreFlat HV.out] at ho9
                        have H9 := Lib.hid (own_arrN ho9)
                        refine hK.out _ _ (MK.out _ (HBX.out.trans hb9)) (fun hHeld => ?_)
                        try simp only [Act.put, List.getElem_toArray, List.getElem_cons_succ, List.getElem_cons_zero, List.setIfInBounds_toArray, List.set_cons_zero, List.set_cons_succ]
                        clear ho9 hb9 hg9 HBX hK K
                        refine wpAnyH_take (i := 11) (v := ?val11x40) rfl (by kernel_rfl) (by kernel_rfl) (by kernel_rfl) (fun _ _ _ h => h) (Or.inl ⟨by rfl, fun w9 hS9 => ?yields11x40⟩) (by assumption) ?later11x40
                        case yields11x40 =>
                          dsimp only at hS9
                          go_simp
                          try with_reducible rfl
                        try simp only [Act.put, List.getElem_toArray, List.getElem_cons_succ, List.getElem_cons_zero, List.setIfInBounds_toArray, List.set_cons_zero, List.set_cons_succ]
                        refine wpAnyH_done (by kernel_rfl) ?_ _
                        obtain ⟨-, hbb⟩ := hHeld
                        go_wp2_with fail
                        go_meet
                        exact ⟨_, c9, by rw [hVl], Lib.hid (show Arr _ _ V.length c9 3 _ by rw [hVl]; exact H9.out), hbb⟩
                    · go_simp
                      obtain ⟨-, HBX⟩ := hHeld
                      have HL := Lib.hid (oneRecG y11 ⟨#[97, 110, 110]⟩ s0 (s0 + n))
                      refine hK.out _ _ (MK.out _ (HBX.out.alloc HBX.out.size _)) (fun hHeld => ?_)
                      try simp only [Act.put, List.getElem_toArray, List.getElem_cons_succ, List.getElem_cons_zero, List.setIfInBounds_toArray, List.set_cons_zero, List.set_cons_succ]
                      clear HBX hK K
                      generalize hyy : World.alloc y11 _ = y14 at *
                      clear hyy
                      refine wpAnyH_ready (rs := [1]) (by kernel_rfl) (by simp) ?_
                      refine AllReadyH.cons rfl (fun K hK => ?_) (AllReadyH.nil)
                      · go_simp
                        obtain ⟨-, HBX⟩ := hHeld
                        go_at_call 20
                        refine (rCopyRecords_any L _ _ _ (KL.out _ HBX.out) (by omega)).mono ?_
                        rintro e' y15 ⟨vc, rfl, ho, hb1⟩
                        have HO := Lib.hid (own_low ho HBX.out.size)
                        have HL := Lib.hid (Arr.keep (Keep.below hb1) HL.out)
                        go_wp2_with fail
                        refine hK.out _ _ (MK.out _ (HBX.out.trans (hb1.mono HBX.out.size))) (fun hHeld => ?_)
                        try simp only [Act.put, List.getElem_toArray, List.getElem_cons_succ, List.getElem_cons_zero, List.setIfInBounds_toArray, List.set_cons_zero, List.set_cons_succ]
                        clear ho hb1 HBX hK K
                        refine wpAnyH_ready (rs := [10]) (by kernel_rfl) (by simp) ?_
                        refine AllReadyH.cons rfl (fun K hK => ?_) AllReadyH.nil
                        obtain ⟨-, HBX⟩ := hHeld
                        refine step_append_lies _ rfl (.tmp 101) (.tmp 109) 24 rfl wf.heap.size 39 i0 _ 3 32 Try.underlying24 hi hz0 hz1 hz2 rfl (by decide) _ L.length _ rfl HO.out _ 1 1 (flat 1 3 fun _ j => recCells ⟨⟨#[97, 110, 110]⟩, s0, s0 + n⟩ j) rfl (by simp [flat]) (news_of_arr (by decide) HL.out) (recCells_one _) (by decide) (by unfold maxLen; omega) (by omega) HBX.out.size _ rfl ?_
                        rintro g9 c9 y9 ho9 hg9 - -
                        have hb9 := (Below.refl _ _).grown hg9 HBX.out.size (fun k hk => (HO.out.lt k hk).1)
                        rw [moreFlat HV.out] at ho9
                        have H9 := Lib.hid (own_arrN ho9)
                        refine hK.out _ _ (MK.out _ (HBX.out.trans hb9)) (fun hHeld => ?_)
                        try simp only [Act.put, List.getElem_toArray, List.getElem_cons_succ, List.getElem_cons_zero, List.setIfInBounds_toArray, List.set_cons_zero, List.set_cons_succ]
                        clear ho9 hb9 hg9 HBX hK K
                        refine wpAnyH_take (i := 11) (v := ?val11x41) rfl (by kernel_rfl) (by kernel_rfl) (by kernel_rfl) (fun _ _ _ h => h) (Or.inl ⟨by rfl, fun w9 hS9 => ?yields11x41⟩) (by assumption) ?later11x41
                        case yields11x41 =>
                          dsimp only at hS9
                          go_simp
                          try with_reducible rfl
                        try simp only [Act.put, List.getElem_toArray, List.getElem_cons_succ, List.getElem_cons_zero, List.setIfInBounds_toArray, List.set_cons_zero, List.set_cons_succ]
                        refine wpAnyH_done (by kernel_rfl) ?_ _
                        obtain ⟨-, hbb⟩ := hHeld
                        go_wp2_with fail
                        go_meet
                        exact ⟨_, c9, by rw [hVl], Lib.hid (show Arr _ _ V.length c9 3 _ by rw [hVl]; exact H9.out), hbb⟩
                  case rest =>
                    obtain ⟨A9, c9, rfl, H9, HB⟩ := hcut
                    obtain ⟨wg, hwg⟩ : ∃ wz, wz = wc := ⟨_, rfl⟩
                    subst hwg
                    replace HX := Lib.hid (HX.out.trans (HB.out.mono HX.out.size))
                    replace BD2 := Lib.hid (BD2.out.keep (Keep.below HB.out))
                    replace HL := Lib.hid (HL.out.keep (Keep.below HB.out))
                    replace BT := Lib.hid (BT.out.keep (Keep.below HB.out))
                    clear HB t0 t1 t2 t3
                    have HVB := Lib.hid (show V.length ≤ 1000000 by omega)
                    clear hVl
                    have hv1 := H9.out.le.1
                    have hv2 := H9.out.le.2
                    obtain ⟨⟨a0, a1, a2, a3, a4⟩, d5⟩ := BD2.out
                    go_wp2_with fail
                    go_cut [13, 14] from 27 to 139 (fun s1 s2 wx => ∃ g : Nat, s1 = .pointer (some ⟨g, 0, none⟩) ∧ s2 = .int .i64 (brokenErr R V) ∧ wg.heap.size ≤ g ∧ Hid (Below wg.heap.size wg wx))
                    case first =>
                      have HBd : Hid (Below wg.heap.size wg wg.drew) := Lib.hid (Below.refl _ _).drew
                      have MK : Hid (∀ w', Below wg.heap.size wg w' → w'.cell? ⟨w.heap.size, 0, none⟩ = some (.int .i64 R.brk) ∧ w'.cell? ⟨w.heap.size, 1, none⟩ = some (.int .i64 R.rest) ∧ w'.cell? ⟨w.heap.size, 2, none⟩ = some (.int .i64 R.stint) ∧ w'.cell? ⟨w.heap.size, 3, none⟩ = some (.int .i64 R.shift) ∧ w'.cell? ⟨w.heap.size, 4, none⟩ = some (.int .i64 R.week) ∧ Hid (Below wg.heap.size wg w')) :=
                        Lib.hid fun w' hw => ⟨Keep.below hw _ _ a0, Keep.below hw _ _ a1, Keep.below hw _ _ a2, Keep.below hw _ _ a3, Keep.below hw _ _ a4, Lib.hid hw⟩
                      have KV : Hid (∀ w', Below wg.heap.size wg w' → ArrW w' A9 V c9) := Lib.hid fun w' hw => (H9.out.keep (Keep.below hw))
                      go_region_held3 (fun w' => w'.cell? ⟨w.heap.size, 0, none⟩ = some (.int .i64 R.brk) ∧ w'.cell? ⟨w.heap.size, 1, none⟩ = some (.int .i64 R.rest) ∧ w'.cell? ⟨w.heap.size, 2, none⟩ = some (.int .i64 R.stint) ∧ w'.cell? ⟨w.heap.size, 3, none⟩ = some (.int .i64 R.shift) ∧ w'.cell? ⟨w.heap.size, 4, none⟩ = some (.int .i64 R.week) ∧ Hid (Below wg.heap.size wg w'))
                        (first
                          | exact MK.out _ HBd.out
                          | (go_split_ands; exact ⟨by assumption, by assumption, by assumption, by assumption, by assumption, by assumption⟩)
                          | (go_split_ands; exact MK.out _ (Below.trans (Hid.out (by assumption)) (hb1.mono (Hid.out (by assumption) : Below wg.heap.size wg _).size)))
                          | (go_split_ands; exact MK.out _ (Below.alloc (Hid.out (by assumption)) (Hid.out (by assumption) : Below wg.heap.size wg _).size _))
                          | (go_split_ands; exact MK.out _ (below_realloc (Hid.out (by assumption)) hle _))
                          | (go_split_ands; exact MK.out _ (Below.setCell (Below.setCell (Hid.out (by assumption)) (by show wg.heap.size ≤ _; first | exact Nat.le_refl _ | assumption | omega | (simp; done) | (simp; omega)) _) (by show wg.heap.size ≤ _; first | exact Nat.le_refl _ | assumption | omega | (simp; done) | (simp; omega)) _)))
                        ((first
                          | (go_at_call 20
                             go_split_ands
                             refine (copyRecs_any V A9 c9 _ (KV.out _ (Hid.out (by assumption))) HVB.out).mono ?_
                             rintro e' wz5 ⟨⟨A5, c5', rfl, h5⟩, hb1⟩
                             have hle := Nat.le_trans (Hid.out (by assumption) : Below wg.heap.size wg _).size hb1.size
                             have H5 := Lib.hid h5
                             clear h5
                             try (first
                               | (have HT0 := (HT.out.keep hb1 : TreeAt _ _ (.int .i64 0) (.int .i64 0)); (try simp only [size_drew] at HT0); (try simp only [World.size_alloc] at HT0); (try simp only [size_drew] at HT0); have HT := Lib.hid HT0; clear HT0; obtain ⟨q0, q1, qf0, qf1⟩ := HT.out)
                               | (have HT0 := ((TreeAt.new _ _ _ 47).keep hb1 : TreeAt _ _ (.int .i64 0) (.int .i64 0)); (try simp only [size_drew] at HT0); (try simp only [World.size_alloc] at HT0); (try simp only [size_drew] at HT0); have HT := Lib.hid HT0; clear HT0; obtain ⟨q0, q1, qf0, qf1⟩ := HT.out)
                               | (have HT0 := ((TreeAt.new _ _ _ 47).keepD hb1 : TreeAt _ _ (.int .i64 0) (.int .i64 0)); (try simp only [size_drew] at HT0); (try simp only [World.size_alloc] at HT0); (try simp only [size_drew] at HT0); have HT := Lib.hid HT0; clear HT0; obtain ⟨q0, q1, qf0, qf1⟩ := HT.out)))
                          | (go_at_call 29
                             go_split_ands
                             refine (xBroken_any R V _ _ _ (by first | exact H5.out | exact H5.out.keep (Keep.alloc _ _))).mono ?_
                             rintro e' wz7 ⟨rfl, hb1⟩
                             have hle := Nat.le_trans (Hid.out (by assumption) : Below wg.heap.size wg _).size hb1.size
                             try (first
                               | (have HT0 := (HT.out.keep hb1 : TreeAt _ _ (.int .i64 0) (.int .i64 0)); (try simp only [size_drew] at HT0); (try simp only [World.size_alloc] at HT0); (try simp only [size_drew] at HT0); have HT := Lib.hid HT0; clear HT0; obtain ⟨q0, q1, qf0, qf1⟩ := HT.out)
                               | (have HT0 := ((TreeAt.new _ _ _ 47).keep hb1 : TreeAt _ _ (.int .i64 0) (.int .i64 0)); (try simp only [size_drew] at HT0); (try simp only [World.size_alloc] at HT0); (try simp only [size_drew] at HT0); have HT := Lib.hid HT0; clear HT0; obtain ⟨q0, q1, qf0, qf1⟩ := HT.out)
                               | (have HT0 := ((TreeAt.new _ _ _ 47).keepD hb1 : TreeAt _ _ (.int .i64 0) (.int .i64 0)); (try simp only [size_drew] at HT0); (try simp only [World.size_alloc] at HT0); (try simp only [size_drew] at HT0); have HT := Lib.hid HT0; clear HT0; obtain ⟨q0, q1, qf0, qf1⟩ := HT.out)))))
                      all_goals
                        rename_i hS
                        obtain ⟨-, -, -, -, -, hbb⟩ := hS
                        go_wp2_with fail
                        go_meet
                        first
                          | exact ⟨_, rfl, rfl, by omega, hbb⟩
                    case rest =>
                      obtain ⟨g9, rfl, rfl, -, HB⟩ := hcut
                      obtain ⟨wh, hwh⟩ : ∃ wz, wz = wc := ⟨_, rfl⟩
                      subst hwh
                      replace HX := Lib.hid (HX.out.trans (HB.out.mono HX.out.size))
                      replace BD2 := Lib.hid (BD2.out.keep (Keep.below HB.out))
                      replace HL := Lib.hid (HL.out.keep (Keep.below HB.out))
                      replace BT := Lib.hid (BT.out.keep (Keep.below HB.out))
                      replace H9 := Lib.hid (H9.out.keep (Keep.below HB.out))
                      clear HB
                      clear a0 a1 a2 a3 a4 d5
                      rw [HME.out]
                      clear HME
                      rw [if_neg (fun hh => hbr ((day_breaks (by omega)).2 hh))]
                      clear hbr HV
                      go_wp2_with fail
                      go_roundw
                      case rel => exact ⟨k + 1, L, A', c', z, by omega, rfl, rfl, by go_num, HL, Lib.hid HQ.out.next, HX⟩
                      case measure => simp [intOf]; omega
              · have e1 : decide (D.hi > 50000) = true := decide_eq_true (by omega)
                have e2 : decide (50000 < D.hi) = true := decide_eq_true (by omega)
                go_wp2_with fail
                go_ret
                exact ⟨rfl, HW.out.trans (HX.out.mono HW.out.size)⟩
        · obtain ⟨⟨a0, a1, a2, a3, a4⟩, d5⟩ := BD2.out
          go_wp2_with fail
          go_ret
          exact ⟨rfl, HW.out.trans (HX.out.mono HW.out.size)⟩
    · have e1 : (drulesErr R == 0) = false := by simpa using he
      have e2 : (drulesErr R != 0) = true := by simpa using he
      clear he
      go_wp2_with fail
      go_ret
      exact ⟨rfl, HW.out⟩
  · have s1 : decide ((T.length : Int) > 10) = true := decide_eq_true (by omega)
    have s2 : decide (10 < (T.length : Int)) = true := decide_eq_true (by omega)
    have s3 : decide (10 < T.length) = true := decide_eq_true (by omega)
    clear hs
    go_wp2_with fail
    go_ret
    exact ⟨rfl, HW.out⟩
end Go.Proofs.Ytaihiahoedpbiaa

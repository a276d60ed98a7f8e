/- The reference's error of a road, and the point that has it. No condition. -/
import Derived.Test.YtjmaankkbdpikaaT5
import Derived.Deep.CutRange
namespace Go.Proofs.Ytjmaankkbdpikaa
open Go.RowKit Fs

theorem Fs.ref_order {p q : Pt} (hp : ptRight p = true) (hq : ptRight q = true) (hne : p.hour ≠ q.hour ∨ (p.lo = q.lo ∧ p.hi = q.hi)) :
    inOrder p q = !(decide (q.lo < p.lo - (q.hour - p.hour) % 86400) || decide (q.hi < p.hi - (q.hour - p.hour) % 86400)) := by
  obtain ⟨ph, pl, pp⟩ := ptRight_is hp
  obtain ⟨qh, ql, qq⟩ := ptRight_is hq
  have key : ∀ x y : Int, (0 ≤ x ∧ x ≤ 7200) → (0 ≤ y ∧ y ≤ 7200) → (p.hour ≠ q.hour ∨ x = y) → decide (x - y ≤ secondsTo p.hour q.hour) = !decide (y < x - (q.hour - p.hour) % 86400) := by
    intro x y hx hy hxy
    rw [← decide_not, decide_eq_decide]
    unfold secondsTo
    omega
  unfold inOrder
  rw [key _ _ pl ql (hne.imp id (·.1)), key _ _ pp qq (hne.imp id (·.2)), Bool.not_or]
/-- Neighbours are at different times of the day, or the same point. -/
theorem Fs.pair_apart {l : List Pt} (h : ∀ j, j < l.length → errPoint l j = 0) {k j : Nat} (hk : k < l.length) (hj : j = (k + 1) % l.length) : (listP l k).hour ≠ (listP l j).hour ∨ ((listP l k).lo = (listP l j).lo ∧ (listP l k).hi = (listP l j).hi) := by
  have up : ∀ b, b < l.length → ∀ a, a < b → (listP l a).hour < (listP l b).hour := by
    intro b
    induction b with
    | zero => intro _ a ha; omega
    | succ b ih =>
      intro hb a ha
      have h1 := h (b + 1) hb
      have h2 : ¬ ((listP l (b + 1)).hi < (listP l (b + 1)).lo ∨ (0 < b + 1 ∧ (listP l (b + 1)).hour ≤ (listP l b).hour)) := fun hh => by
        rw [errPoint_order (errPoint_right h1) (by simpa using hh)] at h1; cases h1
      have h3 : (listP l b).hour < (listP l (b + 1)).hour := by omega
      by_cases e : a = b
      · subst e; exact h3
      · have := ih (by omega) a (by omega); omega
  by_cases e : k + 1 = l.length
  · have hj0 : j = 0 := by rw [hj, e, Nat.mod_self]
    subst hj0
    by_cases e0 : k = 0
    · subst e0; exact .inr ⟨rfl, rfl⟩
    · left; have := up k hk 0 (by omega); omega
  · have hj1 : j = k + 1 := by rw [hj, Nat.mod_eq_of_lt (by omega)]
    subst hj1
    left; have := up (k + 1) (by omega) k (by omega); omega

theorem PtAt.new1 (w : World) (A : Obj) (p : Pt) (t : TypeId) : PtAt ((w.alloc A).alloc (.cells #[.int .i64 p.hour, .int .i64 p.lo, .int .i64 p.hi] t)) (w.heap.size + 1) p := ⟨cellNew1 _ _ _ _ 0, cellNew1 _ _ _ _ 1, cellNew1 _ _ _ _ 2⟩

set_option maxHeartbeats 3200000 in
set_option maxRecDepth 100000 in
theorem rRoadErr_any (N : Net) (v : Value) (i : Nat) (w : World) (hN : RdNet w v N) (hi : i < N.roads.length) :
    Calls Try.prog 40 #[v, .int .i64 i] w fun e w' => e = .returned (.tuple #[.int .i64 (errRoad N i).1, .int .i64 (errRoad N i).2]) ∧ Below w.heap.size w w' := by
  have hN0 := Lib.hid hN
  obtain ⟨P, R, pc, rc, a, rfl, m⟩ := hN
  have hr := m.roads
  have b1 := hr.le.1
  have b2 := hr.le.2
  clear m
  have HR := Lib.hid hr
  have hp := Lib.hid (hr.2 i hi)
  have p1 := (hr.2 i hi).le.1
  have p2 := (hr.2 i hi).le.2
  obtain ⟨b, o, rfl, q⟩ := hr.at_ hi
  have HE := Lib.hid (errName_eq (fun j => (listD N.roads j).name) i)
  have c0 := fun x => Keep.alloc w x _ _ q.c0
  have c1 := fun x => Keep.alloc w x _ _ q.c1
  have c2 := fun x => Keep.alloc w x _ _ q.c2
  have c3 := fun x => Keep.alloc w x _ _ q.c3
  have c4 := fun x => Keep.alloc w x _ _ q.c4
  clear q hr
  have BN := Lib.hid ((BoxN.new w N P (some ⟨b, o, none⟩) pc rc 25).keep (Keep.alloc _ (.cells #[.string (listD N.roads i).name, .int .i64 (listD N.roads i).src, .int .i64 (listD N.roads i).dst, .int .i64 (listD N.roads i).metres, .slice (a.p i) (listD N.roads i).pts.length (a.pc i)] 58)))
  have BD := Lib.hid (BoxD.new1 w (.cells #[.slice P N.places.length pc, .slice (some ⟨b, o, none⟩) N.roads.length rc] 25) (listD N.roads i) (a.p i) (a.pc i) 58)
  go_enter Try.func40, Try.ntmps40
  go_upto_region 2 with fail
  generalize hwb : (w.alloc _).alloc _ = wb at *
  have HW : Hid (Below w.heap.size w wb) := by rw [← hwb]; exact Lib.hid (((Below.refl _ _).alloc (Nat.le_refl _) _).alloc (by simp) _)
  have hwbs : w.heap.size + 2 = wb.heap.size := by rw [← hwb]; simp
  clear hwb c0 c1 c2 c3 c4
  obtain ⟨d0, d1, d2, d3, d4⟩ := BD.out
  cases hn : isName (listD N.roads i).name with
  | false =>
    have F := HE.out
    rw [hn, if_neg (by decide)] at F
    have G := Lib.hid (show errRoad N i = (0, 4) by unfold errRoad; rw [if_pos (by rw [F]; decide), F])
    have Z := Lib.hid hn
    clear F hn
    go_wp2_with (go_at_call 38; refine (bIsName_any _ _).mono ?_; rintro e w' ⟨rfl, rfl⟩; rw [Z.out])
    go_ret2
    exact ⟨by rw [G.out]; rfl, HW.out⟩
  | true =>
    have F := HE.out
    rw [hn, if_pos rfl] at F
    have HF := Lib.hid F
    have Z := Lib.hid hn
    clear F hn
    go_wp2_with (go_at_call 38; refine (bIsName_any _ _).mono ?_; rintro e w' ⟨rfl, rfl⟩; rw [Z.out])
    clear d0 d1 d2 d3 d4
    go_loopw [7] (fun u wr => ∃ k : Nat, k ≤ i ∧ u = .int .i64 k ∧ Hid (∀ j, j < k → (listD N.roads j).name ≠ (listD N.roads i).name) ∧ Hid (Below wb.heap.size wb wr)) (fun u _ => i - (intOf u).toNat)
    case atStart => exact ⟨0, Nat.zero_le _, rfl, fun j hj => absurd hj (Nat.not_lt_zero _), Lib.hid (Below.refl _ _)⟩
    case round =>
      obtain ⟨k, hk, rfl, Hn, HB⟩ := hrel
      have HX := Lib.hid (HW.out.trans (HB.out.mono HW.out.size))
      obtain ⟨n0, n1⟩ := BN.out.keep (Keep.below HB.out)
      obtain ⟨d0, d1, d2, d3, d4⟩ := BD.out.keep (Keep.below HB.out)
      by_cases hlt : k < i
      · have hkl : (k : Int) < (N.roads.length : Int) := by omega
        obtain ⟨b', o', e', q⟩ := (HR.out.keep (Keep.below HX.out)).at_ (k := k) (by omega)
        obtain ⟨rfl, rfl⟩ : b = b' ∧ o = o' := by simpa using e'
        clear e'
        have q0 := q.c0
        clear q
        by_cases hq : (listD N.roads k).name = (listD N.roads i).name
        · have F := HF.out
          rw [hasText_yes (f := fun j => (listD N.roads j).name) hlt hq, if_pos rfl] at F
          have G := Lib.hid (show errRoad N i = (0, 5) by unfold errRoad; rw [if_pos (by rw [F]; decide), F])
          have qq := str_eq hq
          clear hq F
          go_wp2_with fail
          go_quiet (fail)
          go_wp2
          go_ret2
          exact ⟨by rw [G.out]; rfl, bdrewN HX.out _⟩
        · have G : Hid (∀ j, j < k + 1 → (listD N.roads j).name ≠ (listD N.roads i).name) := fun j hj => by
            by_cases e : j = k
            · subst e; exact hq
            · exact Hn.out j (by omega)
          have qq := str_ne hq
          clear hq
          go_wp2_with fail
          go_quiet (fail)
          go_wp2
          go_roundw
          case rel => exact ⟨k + 1, by omega, by go_num, G, Lib.hid (bdrewN HB.out _)⟩
          case measure => simp [intOf]; omega
      · have F := HF.out
        rw [hasText_no (f := fun j => (listD N.roads j).name) (n := i) fun j hj => Hn.out j (by omega), if_neg (by decide)] at F
        have HF2 := Lib.hid (show errRoad N i = if errForm N (listD N.roads i) ≠ 0 then (0, errForm N (listD N.roads i)) else errPoints (listD N.roads i).pts by unfold errRoad; rw [if_neg (by rw [F]; decide)])
        clear F HF HE Hn hk
        go_wp2_with fail
        clear hlt
        cases hs : isPlace N (listD N.roads i).src with
        | false =>
          refine (rIsPlace_any N _ _ _ (hN0.out.keep (Keep.below HX.out))).mono ?_
          rintro e w1 ⟨rfl, hb1⟩
          rw [hs]
          have G := Lib.hid (show errForm N (listD N.roads i) = 6 by unfold errForm; rw [hs]; rfl)
          have HX1 := Lib.hid (HX.out.trans (hb1.mono HX.out.size))
          clear hb1 hs n0 n1 d0 d1 d2 d3 d4
          go_wp2_with fail
          go_ret2
          exact ⟨by rw [HF2.out, G.out]; rfl, HX1.out⟩
        | true =>
          refine (rIsPlace_any N _ _ _ (hN0.out.keep (Keep.below HX.out))).mono ?_
          rintro e w1 ⟨rfl, hb1⟩
          rw [hs]
          have HB1 := Lib.hid (HB.out.trans (hb1.mono HB.out.size))
          clear hb1 n0 n1 d0 d1 d2 d3 d4
          have HX1 := Lib.hid (HW.out.trans (HB1.out.mono HW.out.size))
          obtain ⟨n0, n1⟩ := BN.out.keep (Keep.below HB1.out)
          obtain ⟨d0, d1, d2, d3, d4⟩ := BD.out.keep (Keep.below HB1.out)
          have HS := Lib.hid hs
          clear hs
          go_wp2_with fail
          cases hd : isPlace N (listD N.roads i).dst with
          | false =>
            refine (rIsPlace_any N _ _ _ (hN0.out.keep (Keep.below HX1.out))).mono ?_
            rintro e w2 ⟨rfl, hb2⟩
            rw [hd]
            have G := Lib.hid (show errForm N (listD N.roads i) = 6 by unfold errForm; rw [HS.out, hd]; rfl)
            have HX2 := Lib.hid (HX1.out.trans (hb2.mono HX1.out.size))
            clear hb2 hd n0 n1 d0 d1 d2 d3 d4
            go_wp2_with fail
            go_ret2
            exact ⟨by rw [HF2.out, G.out]; rfl, HX2.out⟩
          | true =>
            refine (rIsPlace_any N _ _ _ (hN0.out.keep (Keep.below HX1.out))).mono ?_
            rintro e w2 ⟨rfl, hb2⟩
            rw [hd]
            have HB2 := Lib.hid (HB1.out.trans (hb2.mono HB1.out.size))
            clear hb2 n0 n1 d0 d1 d2 d3 d4
            have HX2 := Lib.hid (HW.out.trans (HB2.out.mono HW.out.size))
            obtain ⟨d0, d1, d2, d3, d4⟩ := BD.out.keep (Keep.below HB2.out)
            have G := Lib.hid (show errForm N (listD N.roads i) = if (listD N.roads i).src = (listD N.roads i).dst then 26 else if !within (listD N.roads i).metres 0 100000 then 2 else if (listD N.roads i).pts.length = 0 then 10 else if 8 < (listD N.roads i).pts.length then 8 else 0 by
              unfold errForm; rw [HS.out, hd]; rfl)
            clear hd
            by_cases e1 : (listD N.roads i).src = (listD N.roads i).dst
            · have G2 := G.out
              rw [if_pos e1] at G2
              have G3 := Lib.hid G2
              have e1' : ((listD N.roads i).src == (listD N.roads i).dst) = true := by simpa using e1
              clear G2 e1
              go_wp2_with fail
              go_ret2
              exact ⟨by rw [HF2.out, G3.out]; rfl, HX2.out⟩
            · have G2 := G.out
              rw [if_neg e1] at G2
              have e1' : ((listD N.roads i).src == (listD N.roads i).dst) = false := by simpa using e1
              clear e1
              cases hm : within (listD N.roads i).metres 0 100000 with
              | false =>
                rw [hm] at G2
                have G3 := Lib.hid G2
                have HM := Lib.hid hm
                clear G2 hm
                go_wp2_with (go_at_call 11; refine (bwithin_any _ _ _ _).mono ?_; rintro e w' ⟨rfl, rfl⟩; rw [HM.out])
                go_ret2
                exact ⟨by rw [HF2.out, G3.out]; rfl, HX2.out⟩
              | true =>
                rw [hm] at G2
                rw [if_neg (by decide)] at G2
                have HM := Lib.hid hm
                clear hm
                by_cases e2 : (listD N.roads i).pts.length = 0
                · rw [if_pos e2] at G2
                  have G3 := Lib.hid G2
                  clear G2
                  go_wp2_with (go_at_call 11; refine (bwithin_any _ _ _ _).mono ?_; rintro e w' ⟨rfl, rfl⟩; rw [HM.out])
                  go_ret2
                  exact ⟨by rw [HF2.out, G3.out]; rfl, HX2.out⟩
                · rw [if_neg e2] at G2
                  have z61 : (((listD N.roads i).pts.length : Int) == 0) = false := by simpa using e2
                  by_cases e3 : 8 < (listD N.roads i).pts.length
                  · rw [if_pos e3] at G2
                    have G3 := Lib.hid G2
                    clear G2
                    go_wp2_with (go_at_call 11; refine (bwithin_any _ _ _ _).mono ?_; rintro e w' ⟨rfl, rfl⟩; rw [HM.out])
                    go_ret2
                    exact ⟨by rw [HF2.out, G3.out]; rfl, HX2.out⟩
                  · rw [if_neg e3] at G2
                    have G3 := Lib.hid (HF2.out.trans (if_neg (fun hh => hh G2)))
                    have z65 : decide ((8 : Int) < ((listD N.roads i).pts.length : Int)) = false := by simp; omega
                    clear G2
                    go_wp2_with (go_at_call 11; refine (bwithin_any _ _ _ _).mono ?_; rintro e w' ⟨rfl, rfl⟩; rw [HM.out])
                    clear d0 d1 d2 d3 d4
                    obtain ⟨wc, hwc⟩ : ∃ wc, wc = w2 := ⟨_, rfl⟩
                    subst hwc
                    have HP := Lib.hid (hp.out.keep (Keep.below HX2.out))
                    have BD2 := Lib.hid (BD.out.keep (Keep.below HB2.out))
                    have hcs : w.heap.size + 2 ≤ wc.heap.size := by have := HB2.out.size; omega
                    go_loopw [8] (fun u wr => ∃ k : Nat, k ≤ (listD N.roads i).pts.length ∧ u = .int .i64 k ∧ Hid (∀ j, j < k → errPoint (listD N.roads i).pts j = 0) ∧ Hid (Below wc.heap.size wc wr)) (fun u _ => (listD N.roads i).pts.length - (intOf u).toNat)
                    case atStart => exact ⟨0, Nat.zero_le _, rfl, fun j hj => absurd hj (Nat.not_lt_zero _), Lib.hid (Below.refl _ _)⟩
                    case round =>
                      obtain ⟨k, hk, rfl, Hn, HB3⟩ := hrel
                      have HX3 := Lib.hid (HX2.out.trans (HB3.out.mono HX2.out.size))
                      obtain ⟨d0, d1, d2, d3, d4⟩ := BD2.out.keep (Keep.below HB3.out)
                      by_cases hlt : k < (listD N.roads i).pts.length
                      · have hr3 := HP.out.keep (Keep.below HB3.out)
                        obtain ⟨b4, o4, hap, c0, c1, c2⟩ := hr3.at_ hlt
                        rw [hap] at d4
                        have HAP := Lib.hid hap
                        clear hap
                        have HBp := Lib.hid (HB3.out.alloc HB3.out.size (.cells #[.int .i64 (listP (listD N.roads i).pts k).hour, .int .i64 (listP (listD N.roads i).pts k).lo, .int .i64 (listP (listD N.roads i).pts k).hi] 116))
                        have HW3 := Lib.hid (HX2.out.trans (HBp.out.mono HX2.out.size))
                        have d4' := Keep.alloc wr (.cells #[.int .i64 (listP (listD N.roads i).pts k).hour, .int .i64 (listP (listD N.roads i).pts k).lo, .int .i64 (listP (listD N.roads i).pts k).hi] 116) _ _ d4
                        cases hpr : ptRight (listP (listD N.roads i).pts k) with
                        | false =>
                          have F0 := errPoint_no hpr
                          have F := Lib.hid (errPoints_hit hlt Hn.out (by rw [F0]; decide))
                          rw [F0] at F
                          clear F0
                          unfold ptRight at hpr
                          cases h1 : within (listP (listD N.roads i).pts k).hour 0 86399 with
                          | false =>
                            have H1 := Lib.hid h1
                            clear h1 hpr
                            go_wp2_with (first | (go_at_call 11; refine (bwithin_any _ _ _ _).mono ?_; rintro e w' ⟨rfl, rfl⟩; first | rw [H1.out]))
                            go_ret2
                            exact ⟨by rw [G3.out, F.out]; rfl, HW3.out⟩
                          | true =>
                            cases h2 : within (listP (listD N.roads i).pts k).lo 0 7200 with
                            | false =>
                              have H1 := Lib.hid h1
                              have H2 := Lib.hid h2
                              clear h1 h2 hpr
                              go_wp2_with (first | (go_at_call 11; refine (bwithin_any _ _ _ _).mono ?_; rintro e w' ⟨rfl, rfl⟩; first | rw [H1.out] | rw [H2.out]))
                              go_ret2
                              exact ⟨by rw [G3.out, F.out]; rfl, HW3.out⟩
                            | true =>
                              cases h3 : within (listP (listD N.roads i).pts k).hi 0 7200 with
                              | false =>
                                have H1 := Lib.hid h1
                                have H2 := Lib.hid h2
                                have H3 := Lib.hid h3
                                clear h1 h2 h3 hpr
                                go_wp2_with (first | (go_at_call 11; refine (bwithin_any _ _ _ _).mono ?_; rintro e w' ⟨rfl, rfl⟩; first | rw [H1.out] | rw [H2.out] | rw [H3.out]))
                                go_ret2
                                exact ⟨by rw [G3.out, F.out]; rfl, HW3.out⟩
                              | true => rw [h1, h2, h3] at hpr; cases hpr
                        | true =>
                          have hp' := hpr
                          unfold ptRight at hp'
                          rw [Bool.and_eq_true, Bool.and_eq_true] at hp'
                          obtain ⟨⟨h1, h2⟩, h3⟩ := hp'
                          have H1 := Lib.hid h1
                          have H2 := Lib.hid h2
                          have H3 := Lib.hid h3
                          have HPR := Lib.hid hpr
                          clear h1 h2 h3 hpr
                          by_cases hlo : (listP (listD N.roads i).pts k).hi < (listP (listD N.roads i).pts k).lo
                          · have F0 := errPoint_order HPR.out (.inl hlo)
                            have F := Lib.hid (errPoints_hit hlt Hn.out (by rw [F0]; decide))
                            rw [F0] at F
                            clear F0
                            have t1 : decide ((listP (listD N.roads i).pts k).hi < (listP (listD N.roads i).pts k).lo) = true := by simpa using hlo
                            clear hlo
                            go_wp2_with (first | (go_at_call 11; refine (bwithin_any _ _ _ _).mono ?_; rintro e w' ⟨rfl, rfl⟩; first | rw [H1.out] | rw [H2.out] | rw [H3.out]))
                            go_quiet (fail)
                            go_wp2
                            go_ret2
                            exact ⟨by rw [G3.out, F.out]; rfl, bdrewN HW3.out _⟩
                          · have t1 : decide ((listP (listD N.roads i).pts k).hi < (listP (listD N.roads i).pts k).lo) = false := by simpa using hlo
                            by_cases h0 : 0 < k
                            · have t0 : decide ((0 : Int) < (k : Int)) = true := by simpa using h0
                              have ib1 : (0 : Int) ≤ (k : Int) - 1 := by omega
                              have ib2 : (k : Int) - 1 < ((listD N.roads i).pts.length : Int) := by omega
                              have ix : ((k : Int) - 1).toNat = k - 1 := by omega
                              obtain ⟨b5, o5, e', p0, -, -⟩ := hr3.at_ (k := k - 1) (by omega)
                              rw [HAP.out] at e'
                              obtain ⟨rfl, rfl⟩ : b4 = b5 ∧ o4 = o5 := by simpa using e'
                              clear e'
                              have p0' := Keep.alloc wr (.cells #[.int .i64 (listP (listD N.roads i).pts k).hour, .int .i64 (listP (listD N.roads i).pts k).lo, .int .i64 (listP (listD N.roads i).pts k).hi] 116) _ _ p0
                              by_cases hq : (listP (listD N.roads i).pts k).hour ≤ (listP (listD N.roads i).pts (k - 1)).hour
                              · have F0 := errPoint_order HPR.out (.inr ⟨h0, hq⟩)
                                have F := Lib.hid (errPoints_hit hlt Hn.out (by rw [F0]; decide))
                                rw [F0] at F
                                clear F0
                                have t2 : decide ((listP (listD N.roads i).pts k).hour ≤ (listP (listD N.roads i).pts (k - 1)).hour) = true := by simpa using hq
                                clear hlo hq
                                go_wp2_with (first | (go_at_call 11; refine (bwithin_any _ _ _ _).mono ?_; rintro e w' ⟨rfl, rfl⟩; first | rw [H1.out] | rw [H2.out] | rw [H3.out]))
                                go_quiet (fail)
                                go_wp2
                                go_ret2
                                exact ⟨by rw [G3.out, F.out]; rfl, bdrewN HW3.out _⟩
                              · have F0 := errPoint_yes HPR.out (fun hh => hh.elim hlo (fun x => hq x.2))
                                have F : Hid (∀ j, j < k + 1 → errPoint (listD N.roads i).pts j = 0) := fun j hj => by
                                  by_cases e : j = k
                                  · subst e; exact F0
                                  · exact Hn.out j (by omega)
                                clear F0
                                have t2 : decide ((listP (listD N.roads i).pts k).hour ≤ (listP (listD N.roads i).pts (k - 1)).hour) = false := by simpa using hq
                                clear hlo hq
                                go_wp2_with (first | (go_at_call 11; refine (bwithin_any _ _ _ _).mono ?_; rintro e w' ⟨rfl, rfl⟩; first | rw [H1.out] | rw [H2.out] | rw [H3.out]))
                                go_quiet (fail)
                                go_wp2
                                go_roundw
                                case rel => exact ⟨k + 1, by omega, by go_num, F, Lib.hid (bdrewN HBp.out _)⟩
                                case measure => simp [intOf]; omega
                            · have t0 : decide ((0 : Int) < (k : Int)) = false := by simpa using h0
                              have F0 := errPoint_yes HPR.out (fun hh => hh.elim hlo (fun x => h0 x.1))
                              have F : Hid (∀ j, j < k + 1 → errPoint (listD N.roads i).pts j = 0) := fun j hj => by
                                by_cases e : j = k
                                · subst e; exact F0
                                · exact Hn.out j (by omega)
                              clear F0 hlo
                              go_wp2_with (first | (go_at_call 11; refine (bwithin_any _ _ _ _).mono ?_; rintro e w' ⟨rfl, rfl⟩; first | rw [H1.out] | rw [H2.out] | rw [H3.out]))
                              go_quiet (fail)
                              go_wp2
                              go_roundw
                              case rel => exact ⟨k + 1, by omega, by go_num, F, Lib.hid (bdrewN HBp.out _)⟩
                              case measure => simp [intOf]; omega
                      · have H0 : Hid (∀ j, j < (listD N.roads i).pts.length → errPoint (listD N.roads i).pts j = 0) := fun j hj => Hn.out j (by omega)
                        clear Hn
                        go_wp2_with fail
                        clear d0 d1 d2 d3 d4 hk hlt
                        obtain ⟨wd, hwd⟩ : ∃ wd, wd = wr := ⟨_, rfl⟩
                        subst hwd
                        have HP2 := Lib.hid (HP.out.keep (Keep.below HB3.out))
                        have BD3 := Lib.hid (BD2.out.keep (Keep.below HB3.out))
                        have hds : w.heap.size + 2 ≤ wd.heap.size := by have := HB3.out.size; omega
                        go_loopw [10] (fun u wr => ∃ k : Nat, k ≤ (listD N.roads i).pts.length ∧ u = .int .i64 k ∧ Hid (∀ j, j < k → errPair (listD N.roads i).pts j = 0) ∧ Hid (Below wd.heap.size wd wr)) (fun u _ => (listD N.roads i).pts.length - (intOf u).toNat)
                        case atStart => exact ⟨0, Nat.zero_le _, rfl, fun j hj => absurd hj (Nat.not_lt_zero _), Lib.hid (Below.refl _ _)⟩
                        case round =>
                          obtain ⟨k, hk, rfl, Hn, HB4⟩ := hrel
                          have HX4 := Lib.hid (HX3.out.trans (HB4.out.mono HX3.out.size))
                          obtain ⟨d0, d1, d2, d3, d4⟩ := BD3.out.keep (Keep.below HB4.out)
                          by_cases hlt : k < (listD N.roads i).pts.length
                          · have hr4 := HP2.out.keep (Keep.below HB4.out)
                            obtain ⟨b4, o4, hap, c0, c1, c2⟩ := hr4.at_ hlt
                            obtain ⟨j, hj, hjl, jx⟩ := next_is hlt
                            obtain ⟨b5, o5, e', q0, q1, q2⟩ := hr4.at_ (k := j) hjl
                            rw [hap] at e' d4
                            obtain ⟨rfl, rfl⟩ : b4 = b5 ∧ o4 = o5 := by simpa using e'
                            clear e' hap
                            have R1 := errPoint_right (H0.out k hlt)
                            have R2 := errPoint_right (H0.out j hjl)
                            have RO := Lib.hid (ref_order R1 R2 (pair_apart H0.out hlt hj))
                            obtain ⟨kh, kl, kk⟩ := ptRight_is R1
                            obtain ⟨jh, jl, jj⟩ := ptRight_is R2
                            have m0 := Int.emod_nonneg ((listP (listD N.roads i).pts j).hour - (listP (listD N.roads i).pts k).hour) (show (86400 : Int) ≠ 0 by decide)
                            have m1 := Int.emod_lt_of_pos ((listP (listD N.roads i).pts j).hour - (listP (listD N.roads i).pts k).hour) (show (0 : Int) < 86400 by decide)
                            have hnil : (listD N.roads i).pts ≠ [] := fun e => by rw [e] at hlt; exact absurd hlt (Nat.not_lt_zero _)
                            have fin : Hid (errPair (listD N.roads i).pts k = if inOrder (listP (listD N.roads i).pts k) (listP (listD N.roads i).pts j) then 0 else 23) := by rw [hj]; exact Lib.hid rfl
                            have HJ := Lib.hid hj
                            clear hj R1 R2
                            have d4b := fun y z => Keep.alloc (wr.alloc y) z _ _ (Keep.alloc wr y _ _ d4)
                            have d4a := fun y => Keep.alloc wr y _ _ d4
                            have c0b := fun y z => Keep.alloc (wr.alloc y) z _ _ (Keep.alloc wr y _ _ c0)
                            have c0a := fun y => Keep.alloc wr y _ _ c0
                            have c1b := fun y z => Keep.alloc (wr.alloc y) z _ _ (Keep.alloc wr y _ _ c1)
                            have c1a := fun y => Keep.alloc wr y _ _ c1
                            have c2b := fun y z => Keep.alloc (wr.alloc y) z _ _ (Keep.alloc wr y _ _ c2)
                            have c2a := fun y => Keep.alloc wr y _ _ c2
                            have q0b := fun y z => Keep.alloc (wr.alloc y) z _ _ (Keep.alloc wr y _ _ q0)
                            have q0a := fun y => Keep.alloc wr y _ _ q0
                            have q1b := fun y z => Keep.alloc (wr.alloc y) z _ _ (Keep.alloc wr y _ _ q1)
                            have q1a := fun y => Keep.alloc wr y _ _ q1
                            have q2b := fun y z => Keep.alloc (wr.alloc y) z _ _ (Keep.alloc wr y _ _ q2)
                            have q2a := fun y => Keep.alloc wr y _ _ q2
                            go_wp2_with fail
                            go_cut [11, 12] from 128 to 142 (fun s1 s2 wx => ∃ g1 g2 : Nat, s1 = .pointer (some ⟨g1, 0, none⟩) ∧ s2 = .pointer (some ⟨g2, 0, none⟩) ∧ Hid (PtAt wx g1 (listP (listD N.roads i).pts k)) ∧ Hid (PtAt wx g2 (listP (listD N.roads i).pts j)) ∧ Hid (Below wr.heap.size wr wx))
                            case first =>
                              go_region
                              all_goals
                                go_wp2_with fail
                                go_meet
                                first
                                    | exact ⟨wr.heap.size, wr.heap.size + 1, rfl, rfl, Lib.hid ((PtAt.new wr _ _).keep ((Keep.alloc _ _).trans (Keep.drew _))), Lib.hid ((PtAt.new1 wr _ _ _).keep (Keep.drew _)), Lib.hid (((Below.refl _ _).alloc (Nat.le_refl _) _).alloc (by simp) _).drew⟩
                                    | exact ⟨wr.heap.size + 1, wr.heap.size, rfl, rfl, Lib.hid ((PtAt.new1 wr _ _ _).keep (Keep.drew _)), Lib.hid ((PtAt.new wr _ _).keep ((Keep.alloc _ _).trans (Keep.drew _))), Lib.hid (((Below.refl _ _).alloc (Nat.le_refl _) _).alloc (by simp) _).drew⟩
                            case rest =>
                              obtain ⟨g1, g2, rfl, rfl, PK, PJ, HBc⟩ := hcut
                              have HB5 := Lib.hid (HB4.out.trans (HBc.out.mono HB4.out.size))
                              have HX5 := Lib.hid (HX4.out.trans (HBc.out.mono HX4.out.size))
                              obtain ⟨k0, k1, k2⟩ := PK.out
                              obtain ⟨j0, j1, j2⟩ := PJ.out
                              clear d0 d1 d2 d3 d4 d4a d4b c0 c0a c0b c1 c1a c1b c2 c2a c2b q0 q0a q0b q1 q1a q1b q2 q2a q2b
                              have R := RO.out
                              by_cases x1 : (listP (listD N.roads i).pts j).lo < (listP (listD N.roads i).pts k).lo - ((listP (listD N.roads i).pts j).hour - (listP (listD N.roads i).pts k).hour) % 86400
                              · have F := fin.out
                                rw [R, decide_eq_true x1, Bool.true_or, if_neg (by decide)] at F
                                have G := Lib.hid (errPoints_pair H0.out hlt Hn.out (by rw [F]; decide))
                                rw [F] at G
                                have y1 : decide ((listP (listD N.roads i).pts j).lo < (listP (listD N.roads i).pts k).lo - ((listP (listD N.roads i).pts j).hour - (listP (listD N.roads i).pts k).hour) % 86400) = true := decide_eq_true x1
                                clear F R x1
                                go_wp2_with (go_at_call 58; refine (mod_any _ _ _ (by omega) (by omega) (by omega) (by omega)).mono ?_; rintro e w' ⟨rfl, rfl⟩)
                                go_ret2
                                exact ⟨by rw [G3.out, G.out]; rfl, HX5.out⟩
                              · have y1 : decide ((listP (listD N.roads i).pts j).lo < (listP (listD N.roads i).pts k).lo - ((listP (listD N.roads i).pts j).hour - (listP (listD N.roads i).pts k).hour) % 86400) = false := decide_eq_false x1
                                by_cases x2 : (listP (listD N.roads i).pts j).hi < (listP (listD N.roads i).pts k).hi - ((listP (listD N.roads i).pts j).hour - (listP (listD N.roads i).pts k).hour) % 86400
                                · have F := fin.out
                                  rw [R, decide_eq_true x2, Bool.or_true, if_neg (by decide)] at F
                                  have G := Lib.hid (errPoints_pair H0.out hlt Hn.out (by rw [F]; decide))
                                  rw [F] at G
                                  have y2 : decide ((listP (listD N.roads i).pts j).hi < (listP (listD N.roads i).pts k).hi - ((listP (listD N.roads i).pts j).hour - (listP (listD N.roads i).pts k).hour) % 86400) = true := decide_eq_true x2
                                  clear F R x1 x2
                                  go_wp2_with (go_at_call 58; refine (mod_any _ _ _ (by omega) (by omega) (by omega) (by omega)).mono ?_; rintro e w' ⟨rfl, rfl⟩)
                                  go_ret2
                                  exact ⟨by rw [G3.out, G.out]; rfl, HX5.out⟩
                                · have F := fin.out
                                  rw [R, decide_eq_false x1, decide_eq_false x2, if_pos (by decide)] at F
                                  have G : Hid (∀ i', i' < k + 1 → errPair (listD N.roads i).pts i' = 0) := fun i' hi' => by
                                    by_cases e : i' = k
                                    · subst e; exact F
                                    · exact Hn.out i' (by omega)
                                  have y2 : decide ((listP (listD N.roads i).pts j).hi < (listP (listD N.roads i).pts k).hi - ((listP (listD N.roads i).pts j).hour - (listP (listD N.roads i).pts k).hour) % 86400) = false := decide_eq_false x2
                                  clear F R x1 x2
                                  go_wp2_with (go_at_call 58; refine (mod_any _ _ _ (by omega) (by omega) (by omega) (by omega)).mono ?_; rintro e w' ⟨rfl, rfl⟩)
                                  go_roundw
                                  case rel => exact ⟨k + 1, by omega, by go_num, G, HB5⟩
                                  case measure => simp [intOf]; omega
                          · have F := Lib.hid (errPoints_none H0.out fun j hj => Hn.out j (by omega))
                            go_wp2_with fail
                            go_ret2
                            exact ⟨by rw [G3.out, F.out]; rfl, HX4.out⟩
end Go.Proofs.Ytjmaankkbdpikaa
/- The reference's error of a net, and its mark. No condition. -/
namespace Go.Proofs.Ytjmaankkbdpikaa
open Go.RowKit Fs

theorem Fs.place_bad {f : Nat → ByteArray} {i : Nat} (h : isName (f i) = false) : errName f i = 4 := by rw [errName_eq, h]; rfl
theorem Fs.place_twice {f : Nat → ByteArray} {i : Nat} (h : isName (f i) = true) (h2 : hasText f i (f i) = true) : errName f i = 5 := by rw [errName_eq, h, h2]; rfl
theorem Fs.place_ok {f : Nat → ByteArray} {i : Nat} (h : isName (f i) = true) (h2 : hasText f i (f i) = false) : errName f i = 0 := by rw [errName_eq, h, h2]; rfl

set_option maxHeartbeats 3200000 in
set_option maxRecDepth 100000 in
theorem rCheckNet_any (N : Net) (v : Value) (w : World) (hN : RdNet w v N) :
    Calls Try.prog 18 #[v] w fun e w' => e = .returned (netBack (checkNet N)) ∧ Below w.heap.size w w' := by
  have hN0 := Lib.hid hN
  obtain ⟨P, R, pc, rc, a, rfl, m⟩ := hN
  have hpl := Lib.hid m.places
  have a1 := m.places.le.1
  have a2 := m.places.le.2
  have b1 := m.roads.le.1
  have b2 := m.roads.le.2
  clear m
  obtain ⟨wx, hwx⟩ : ∃ wx, wx = (w.alloc (.cells #[.slice P N.places.length pc, .slice R N.roads.length rc] 25)).alloc (.cells #[.int .i64 0, .int .i64 0] 60) := ⟨_, rfl⟩
  have hxs : wx.heap.size = w.heap.size + 2 := by rw [hwx]; simp
  have BN := Lib.hid ((BoxN.new w N P R pc rc 25).keep ((Keep.alloc _ (.cells #[.int .i64 0, .int .i64 0] 60)).trans (Keep.alloc _ (.cells #[.int .i64 0, .int .i64 0] 60))))
  have MK := Lib.hid (show MarkAt (((w.alloc (.cells #[.slice P N.places.length pc, .slice R N.roads.length rc] 25)).alloc (.cells #[.int .i64 0, .int .i64 0] 60)).alloc (.cells #[.int .i64 0, .int .i64 0] 60)) (w.heap.size + 1) from
    (show MarkAt ((w.alloc (.cells #[.slice P N.places.length pc, .slice R N.roads.length rc] 25)).alloc (.cells #[.int .i64 0, .int .i64 0] 60)) (w.heap.size + 1) from ⟨cellNew1 _ _ _ _ 0, cellNew1 _ _ _ _ 1, frozenNew1 _ _ _ _ 0, frozenNew1 _ _ _ _ 1⟩).below (B := w.heap.size + 2) ((Below.refl _ _).alloc (by simp) _) (by simp))
  have NN := Lib.hid (show MarkAt (((w.alloc (.cells #[.slice P N.places.length pc, .slice R N.roads.length rc] 25)).alloc (.cells #[.int .i64 0, .int .i64 0] 60)).alloc (.cells #[.int .i64 0, .int .i64 0] 60)) (w.heap.size + 1 + 1) from by
    have := MarkAt.new ((w.alloc (.cells #[.slice P N.places.length pc, .slice R N.roads.length rc] 25)).alloc (.cells #[.int .i64 0, .int .i64 0] 60)) 60
    simpa using this)
  clear hwx hxs wx
  go_enter Try.func18, Try.ntmps18
  go_upto_region 2 with fail
  generalize hwb : ((w.alloc _).alloc _).alloc _ = wb at *
  have HW : Hid (Below w.heap.size w wb) := by rw [← hwb]; exact Lib.hid ((((Below.refl _ _).alloc (Nat.le_refl _) _).alloc (by simp) _).alloc (by simp; omega) _)
  have hbs : wb.heap.size = w.heap.size + 3 := by rw [← hwb]; simp
  clear hwb
  obtain ⟨n0, n1⟩ := BN.out
  obtain ⟨m0, m1, mf0, mf1⟩ := MK.out
  obtain ⟨k0, k1, -, -⟩ := NN.out
  by_cases h0 : N.places.length = 0
  · have F := Lib.hid (net_none h0)
    have z : ((N.places.length : Int) == 0) = true := by simpa using h0
    clear h0
    go_wp2_with fail
    refine bodyPost_ret (v := .tuple #[.agg #[.int .i64 0, .int .i64 0], .int .i64 10]) (by simp [results, Try.results18, go_sem, m0, m1]) rfl ⟨by rw [F.out]; rfl, ?_⟩
    exact ((HW.out.setCell (p := ⟨w.heap.size + 1, 0, none⟩) (by simp) _).setCell (p := ⟨w.heap.size + 1, 1, none⟩) (by simp) _)
  · have z : ((N.places.length : Int) == 0) = false := by simpa using h0
    by_cases h1 : 20 < N.places.length
    · have F := Lib.hid (net_many h1)
      go_wp2_with fail
      refine bodyPost_ret (v := .tuple #[.agg #[.int .i64 0, .int .i64 0], .int .i64 8]) (by simp [results, Try.results18, go_sem, m0, m1]) rfl ⟨by rw [F.out]; rfl, ?_⟩
      exact ((HW.out.setCell (p := ⟨w.heap.size + 1, 0, none⟩) (by simp) _).setCell (p := ⟨w.heap.size + 1, 1, none⟩) (by simp) _)
    · have z15 : decide ((20 : Int) < (N.places.length : Int)) = false := by simp; omega
      go_wp2_with fail
      clear n0 n1 m0 m1 mf0 mf1 k0 k1
      go_loopw [5] (fun u wr => ∃ k : Nat, k ≤ N.places.length ∧ u = .int .i64 k ∧ Hid (∀ j, j < k → errName (listS N.places) j = 0) ∧ Hid (Below wb.heap.size wb wr)) (fun u _ => N.places.length - (intOf u).toNat)
      case atStart => exact ⟨0, Nat.zero_le _, rfl, fun j hj => absurd hj (Nat.not_lt_zero _), Lib.hid (Below.refl _ _)⟩
      case round =>
        obtain ⟨k, hk, rfl, Hn, HB⟩ := hrel
        have HX := Lib.hid (HW.out.trans (HB.out.mono HW.out.size))
        have MK2 := Lib.hid (MK.out.below HB.out MK.out.lt)
        obtain ⟨n0, n1⟩ := BN.out.keep (Keep.below HB.out)
        by_cases hlt : k < N.places.length
        · have hpr := hpl.out.keep (Keep.below HX.out)
          have HPR := Lib.hid hpr
          obtain ⟨b, o, hP, q0⟩ := hpr.at_ hlt
          have HPA := Lib.hid hP
          have hkp : k ≤ pc := by omega
          cases hn : isName (listS N.places k) with
          | false =>
            have F0 := place_bad hn
            have F := Lib.hid (net_place h0 h1 hlt Hn.out (by rw [F0]; decide))
            rw [F0] at F
            have Z := Lib.hid hn
            clear hn F0
            rw [hP] at n0
            clear hP
            obtain ⟨m0, m1, mf0, mf1⟩ := MK2.out
            go_wp2_with (go_at_call 38; refine (bIsName_any _ _).mono ?_; rintro e w' ⟨rfl, rfl⟩; rw [Z.out])
            refine bodyPost_ret (v := .tuple #[.agg #[.int .i64 k, .int .i64 0], .int .i64 4]) (by simp [results, Try.results18, go_sem, m0, m1]) rfl ⟨by rw [F.out]; rfl, ?_⟩
            exact ((HX.out.setCell (p := ⟨w.heap.size + 1, 0, none⟩) (by simp) _).setCell (p := ⟨w.heap.size + 1, 1, none⟩) (by simp) _)
          | true =>
            have Z := Lib.hid hn
            clear hn
            rw [hP] at n0
            rw [hP] at hpr
            have HPR2 := Lib.hid hpr
            clear hP hpr
            cases ht : hasText (listS N.places) k (listS N.places k) with
            | true =>
              have F0 := place_twice Z.out ht
              have F := Lib.hid (net_place h0 h1 hlt Hn.out (by rw [F0]; decide))
              rw [F0] at F
              have T := Lib.hid ht
              clear ht F0
              go_wp2_with (go_at_call 38; refine (bIsName_any _ _).mono ?_; rintro e w' ⟨rfl, rfl⟩; rw [Z.out])
              obtain ⟨C, Ci, Co⟩ := classOf wr
              refine quietC (C := C) (by kernel_rfl) (by kernel_rfl) (Co.out _ (Below.refl _ _).drew) ?_
              repeat (first
                | go_big_quiet_skip
                | (go_big_quiet_want; go_big_quiet_op; go_big_quiet_on)
                | (refine quiet_yes (by rfl) ?_
                   apply Exists.intro
                   refine ⟨fun w' hC => ?_, ?_⟩
                   · have hbb := Ci.out _ hC
                     have q1 := Keep.below hbb _ _ n0
                     have q2 := Keep.below hbb _ _ q0
                     go_simp
                     first
                       | done
                       | rfl
                       | (go_at_call 39
                          refine (hasText_any N.places _ _ k _ _ (HPR2.out.keep (Keep.below hbb)) (by omega)).mono ?_
                          rintro e' w1 ⟨rfl, rfl⟩
                          rw [T.out]
                          exact ⟨rfl, hC⟩)
                   simp only [Act.put, List.setIfInBounds_toArray, List.set_cons_zero, List.set_cons_succ]))
              refine wpQuiet_nil ?_
              intro w1 hC1
              have HQ := Lib.hid (Ci.out _ hC1)
              obtain ⟨m0, m1, mf0, mf1⟩ := MK2.out.below HQ.out MK2.out.lt
              go_wp2
              refine bodyPost_ret (v := .tuple #[.agg #[.int .i64 k, .int .i64 0], .int .i64 5]) (by simp [results, Try.results18, go_sem, m0, m1]) rfl ⟨by rw [F.out]; rfl, ?_⟩
              exact (((HX.out.trans (HQ.out.mono HX.out.size)).setCell (p := ⟨w.heap.size + 1, 0, none⟩) (by simp) _).setCell (p := ⟨w.heap.size + 1, 1, none⟩) (by simp) _)
            | false =>
              have F0 := place_ok Z.out ht
              have G : Hid (∀ j, j < k + 1 → errName (listS N.places) j = 0) := fun j hj => by
                by_cases e : j = k
                · subst e; exact F0
                · exact Hn.out j (by omega)
              have T := Lib.hid ht
              clear ht F0
              go_wp2_with (go_at_call 38; refine (bIsName_any _ _).mono ?_; rintro e w' ⟨rfl, rfl⟩; rw [Z.out])
              obtain ⟨C, Ci, Co⟩ := classOf wr
              refine quietC (C := C) (by kernel_rfl) (by kernel_rfl) (Co.out _ (Below.refl _ _).drew) ?_
              repeat (first
                | go_big_quiet_skip
                | (go_big_quiet_want; go_big_quiet_op; go_big_quiet_on)
                | (refine quiet_yes (by rfl) ?_
                   apply Exists.intro
                   refine ⟨fun w' hC => ?_, ?_⟩
                   · have hbb := Ci.out _ hC
                     have q1 := Keep.below hbb _ _ n0
                     have q2 := Keep.below hbb _ _ q0
                     go_simp
                     first
                       | done
                       | rfl
                       | (go_at_call 39
                          refine (hasText_any N.places _ _ k _ _ (HPR2.out.keep (Keep.below hbb)) (by omega)).mono ?_
                          rintro e' w1 ⟨rfl, rfl⟩
                          rw [T.out]
                          exact ⟨rfl, hC⟩)
                   simp only [Act.put, List.setIfInBounds_toArray, List.set_cons_zero, List.set_cons_succ]))
              refine wpQuiet_nil ?_
              intro w1 hC1
              have HQ := Lib.hid (Ci.out _ hC1)
              go_wp2
              go_roundw
              case rel => exact ⟨k + 1, by omega, by go_num, G, Lib.hid (HB.out.trans (HQ.out.mono HB.out.size))⟩
              case measure => simp [intOf]; omega
        · have HP : Hid (∀ j, j < N.places.length → errName (listS N.places) j = 0) := fun j hj => Hn.out j (by omega)
          clear Hn hk
          by_cases h2 : 60 < N.roads.length
          · have F := Lib.hid (net_roads h0 h1 HP.out h2)
            obtain ⟨m0, m1, mf0, mf1⟩ := MK2.out
            obtain ⟨k0, k1, -, -⟩ := NN.out.below HB.out NN.out.lt
            go_wp2_with fail
            refine bodyPost_ret (v := .tuple #[.agg #[.int .i64 0, .int .i64 0], .int .i64 8]) (by simp [results, Try.results18, go_sem, m0, m1]) rfl ⟨by rw [F.out]; rfl, ?_⟩
            exact ((HX.out.setCell (p := ⟨w.heap.size + 1, 0, none⟩) (by simp) _).setCell (p := ⟨w.heap.size + 1, 1, none⟩) (by simp) _)
          · have z51 : decide ((60 : Int) < (N.roads.length : Int)) = false := by simp; omega
            go_wp2_with fail
            clear n0 n1 hlt
            obtain ⟨wd, hwd⟩ : ∃ wd, wd = wr := ⟨_, rfl⟩
            subst hwd
            have BN2 := Lib.hid (BN.out.keep (Keep.below HB.out))
            have NN2 := Lib.hid (NN.out.below HB.out NN.out.lt)
            have hds : w.heap.size + 3 ≤ wd.heap.size := by have := HB.out.size; omega
            go_loopw [6] (fun u wr => ∃ k : Nat, k ≤ N.roads.length ∧ u = .int .i64 k ∧ Hid (∀ j, j < k → (errRoad N j).2 = 0) ∧ Hid (Below wd.heap.size wd wr)) (fun u _ => N.roads.length - (intOf u).toNat)
            case atStart => exact ⟨0, Nat.zero_le _, rfl, fun j hj => absurd hj (Nat.not_lt_zero _), Lib.hid (Below.refl _ _)⟩
            case round =>
              obtain ⟨k, hk, rfl, Hn, HB2⟩ := hrel
              have HX2 := Lib.hid (HX.out.trans (HB2.out.mono HX.out.size))
              obtain ⟨n0, n1⟩ := BN2.out.keep (Keep.below HB2.out)
              have MK3 := Lib.hid (MK2.out.below HB2.out MK2.out.lt)
              by_cases hlt : k < N.roads.length
              · by_cases hn : (errRoad N k).2 = 0
                · have G : Hid (∀ j, j < k + 1 → (errRoad N j).2 = 0) := fun j hj => by
                    by_cases e : j = k
                    · subst e; exact hn
                    · exact Hn.out j (by omega)
                  have Z := Lib.hid hn
                  clear hn
                  go_wp2_with fail
                  refine (rRoadErr_any N _ k _ (hN0.out.keep (Keep.below HX2.out)) hlt).mono ?_
                  rintro e w1 ⟨rfl, hb1⟩
                  rw [Z.out]
                  have HB3 := Lib.hid (HB2.out.trans (hb1.mono HB2.out.size))
                  clear hb1 n0 n1
                  go_wp2_with fail
                  go_roundw
                  case rel => exact ⟨k + 1, by omega, by go_num, G, HB3⟩
                  case measure => simp [intOf]; omega
                · have F := Lib.hid (net_road h0 h1 HP.out h2 hlt Hn.out hn)
                  have d1 : ((errRoad N k).2 == 0) = false := by simpa using hn
                  clear hn
                  go_wp2_with fail
                  refine (rRoadErr_any N _ k _ (hN0.out.keep (Keep.below HX2.out)) hlt).mono ?_
                  rintro e w1 ⟨rfl, hb1⟩
                  have HX3 := Lib.hid (HX2.out.trans (hb1.mono HX2.out.size))
                  obtain ⟨m0, m1, mf0, mf1⟩ := MK3.out.below hb1 MK3.out.lt
                  clear hb1 n0 n1
                  go_wp2_with fail
                  refine bodyPost_ret (v := .tuple #[.agg #[.int .i64 k, .int .i64 (errRoad N k).1], .int .i64 (errRoad N k).2]) (by simp [results, Try.results18, go_sem, m0, m1]) rfl ⟨by rw [F.out], ?_⟩
                  exact ((HX3.out.setCell (p := ⟨w.heap.size + 1, 0, none⟩) (by simp) _).setCell (p := ⟨w.heap.size + 1, 1, none⟩) (by simp) _)
              · have F := Lib.hid (net_ok h0 h1 HP.out h2 fun j hj => Hn.out j (by omega))
                obtain ⟨m0, m1, mf0, mf1⟩ := MK3.out
                obtain ⟨k0, k1, -, -⟩ := NN2.out.below HB2.out NN2.out.lt
                go_wp2_with fail
                refine bodyPost_ret (v := .tuple #[.agg #[.int .i64 0, .int .i64 0], .int .i64 0]) (by simp [results, Try.results18, go_sem, m0, m1]) rfl ⟨by rw [F.out]; rfl, ?_⟩
                exact ((HX2.out.setCell (p := ⟨w.heap.size + 1, 0, none⟩) (by simp) _).setCell (p := ⟨w.heap.size + 1, 1, none⟩) (by simp) _)
theorem rNetErr_any (N : Net) (v : Value) (w : World) (hN : RdNet w v N) :
    Calls Try.prog 6 #[v] w fun e w' => e = .returned (.int .i64 (netErr N)) ∧ Below w.heap.size w w' := by
  have hN0 := Lib.hid hN
  obtain ⟨P, R, pc, rc, a, rfl, m⟩ := hN
  clear m
  go_enter Try.func6, Try.ntmps6
  go_wp2_with (go_at_call 18; refine (rCheckNet_any N _ _ (hN0.out.keep (Keep.alloc w _))).mono ?_; rintro e w1 ⟨rfl, hb1⟩)
  have HX : Below w.heap.size w w1 := ((Below.refl _ _).alloc (Nat.le_refl _) _).trans (hb1.mono (by simp))
  go_ret
  exact ⟨rfl, HX.alloc HX.size _⟩
end Go.Proofs.Ytjmaankkbdpikaa

/- The reference's heights: going on along all roads as long as something becomes less. Condition: the net is right. -/
import Derived.Test.YtjmaankkbdpikaaT43
import Derived.Test.YtjmaankkbdpikaaT21
import Derived.Test.YtjmaankkbdpikaaT2
namespace Go.Proofs.Ytjmaankkbdpikaa
open Go.RowKit Fs

end Go.Proofs.Ytjmaankkbdpikaa
/- Ways: what is wrong with one, as the program and the reference tell it. Condition: the net can be read. -/
namespace Go.Proofs.Ytjmaankkbdpikaa
open Go.RowKit Fs

def Fs.errHop (N : Net) (l : List Int) (i : Nat) : Int :=
  if isRoad N (listI l i) then (if 0 < i ∧ (listD N.roads (listI l (i - 1)).toNat).dst ≠ (listD N.roads (listI l i).toNat).src then 23 else 0) else 6
def Fs.wayErr (N : Net) (l : List Int) : Int := if 200 < l.length then 8 else fst (errHop N l) l.length
def Fs.wayAt (N : Net) (l : List Int) : Nat := if 200 < l.length then 0 else idx (errHop N l) l.length
def Fs.cwErr (N : Net) (l : List Int) : Int := if netErr N = 0 then wayErr N l else netErr N
def Fs.cwAt (N : Net) (l : List Int) : Nat := if netErr N = 0 then wayAt N l else 0
theorem Fs.isRoad_is {N : Net} {z : Int} (h : isRoad N z = true) : 0 ≤ z ∧ z < N.roads.length := by
  have h := Fs.within_iff.1 h; exact ⟨h.1, by omega⟩
theorem Fs.hop_ok {N : Net} {l : List Int} {i : Nat} (h : errHop N l i = 0) : (0 ≤ listI l i ∧ listI l i < N.roads.length) ∧ (0 < i → (listD N.roads (listI l (i - 1)).toNat).dst = (listD N.roads (listI l i).toNat).src) := by
  unfold errHop at h
  cases hr : isRoad N (listI l i) with
  | false => rw [hr, if_neg (by decide)] at h; exact absurd h (by decide)
  | true =>
    rw [hr, if_pos rfl] at h
    refine ⟨isRoad_is hr, fun hi => ?_⟩
    by_cases e : (listD N.roads (listI l (i - 1)).toNat).dst = (listD N.roads (listI l i).toNat).src
    · exact e
    · rw [if_pos ⟨hi, e⟩] at h; exact absurd h (by decide)
theorem Fs.hop_none {N : Net} {l : List Int} {i : Nat} (h : isRoad N (listI l i) = false) : errHop N l i = 6 := by unfold errHop; rw [h]; rfl
theorem Fs.hop_open {N : Net} {l : List Int} {i : Nat} (h : isRoad N (listI l i) = true) (h1 : 0 < i) (h2 : (listD N.roads (listI l (i - 1)).toNat).dst ≠ (listD N.roads (listI l i).toNat).src) : errHop N l i = 23 := by unfold errHop; rw [h, if_pos rfl, if_pos ⟨h1, h2⟩]
theorem Fs.hop_yes {N : Net} {l : List Int} {i : Nat} (h : isRoad N (listI l i) = true) (h2 : ¬ (0 < i ∧ (listD N.roads (listI l (i - 1)).toNat).dst ≠ (listD N.roads (listI l i).toNat).src)) : errHop N l i = 0 := by unfold errHop; rw [h, if_pos rfl, if_neg h2]
theorem Fs.way_hit {N : Net} {l : List Int} {k : Nat} (h : ¬ 200 < l.length) (hk : k < l.length) (h1 : ∀ j, j < k → errHop N l j = 0) (h2 : errHop N l k ≠ 0) : wayErr N l = errHop N l k ∧ wayAt N l = k := by
  unfold wayErr wayAt
  rw [if_neg h, if_neg h]
  exact fst_hit hk h1 h2
theorem Fs.way_none {N : Net} {l : List Int} (h : ¬ 200 < l.length) (h1 : ∀ j, j < l.length → errHop N l j = 0) : wayErr N l = 0 ∧ wayAt N l = 0 := by
  unfold wayErr wayAt
  rw [if_neg h, if_neg h]
  exact ⟨fst_none h1, idx_none h1⟩
theorem Fs.way_ok {N : Net} {l : List Int} (h : wayErr N l = 0) : l.length ≤ 200 ∧ ∀ j, j < l.length → (0 ≤ listI l j ∧ listI l j < N.roads.length) ∧ (0 < j → (listD N.roads (listI l (j - 1)).toNat).dst = (listD N.roads (listI l j).toNat).src) := by
  unfold wayErr at h
  by_cases h1 : 200 < l.length
  · rw [if_pos h1] at h; exact absurd h (by decide)
  · rw [if_neg h1] at h
    exact ⟨by omega, fun j hj => hop_ok (fst_zero h j hj)⟩
theorem ret2_int {a b : Int} {i j : Nat} (h : a = b) (h2 : i = j) : Ending.returned (.tuple #[.int .i64 (i : Int), .int .i64 a]) = .returned (.tuple #[.int .i64 (j : Int), .int .i64 b]) := by rw [h, h2]

set_option maxHeartbeats 1600000 in
set_option maxRecDepth 100000 in
theorem checkWay_any (N : Net) (v : Value) (l : List Int) (A : Option Addr) (c : Nat) (w : World) (hN : RdNet w v N) (h : ArrI w A l c) :
    Calls Try.prog 55 #[v, .slice A l.length c] w fun e w' => e = .returned (.tuple #[.int .i64 (cwAt N l : Nat), .int .i64 (cwErr N l)]) ∧ Below w.heap.size w w' := by
  have hN0 := Lib.hid hN
  obtain ⟨P, R, pc, rc, ar, rfl, m⟩ := hN
  have M := Lib.hid m
  have rb1 := m.roads.le.1
  have rb2 := m.roads.le.2
  clear m
  have b1 := h.le.1
  have b2 := h.le.2
  have HA := Lib.hid h
  clear h
  have BN := Lib.hid (BoxN.new w N P R pc rc 25)
  go_enter Try.func55, Try.ntmps55
  go_upto_region 1 with fail
  generalize hwb : w.alloc _ = wb at *
  have HW : Hid (Below w.heap.size w wb) := by rw [← hwb]; exact Lib.hid ((Below.refl _ _).alloc (Nat.le_refl _) _)
  clear hwb
  obtain ⟨n0, n1⟩ := BN.out
  go_wp2_with fail
  refine (errNet_any N _ _ (hN0.out.keep (Keep.below HW.out))).mono ?_
  rintro e' w1 ⟨rfl, hb1⟩
  replace BN := Lib.hid (BN.out.keep (Keep.below hb1))
  replace HW := Lib.hid (HW.out.trans (hb1.mono HW.out.size))
  clear hb1 n0 n1
  by_cases he : netErr N = 0
  · have F1 := Lib.hid (show cwErr N l = wayErr N l ∧ cwAt N l = wayAt N l from ⟨if_pos he, if_pos he⟩)
    rw [he]
    clear he
    by_cases hl : 200 < l.length
    · have d1 : decide ((l.length : Int) > 200) = true := decide_eq_true (by omega)
      have d2 : decide (200 < (l.length : Int)) = true := decide_eq_true (by omega)
      have F2 := Lib.hid (show wayErr N l = 8 ∧ wayAt N l = 0 from ⟨if_pos hl, if_pos hl⟩)
      clear hl
      go_wp2_with fail
      go_ret2
      exact ⟨ret2_int (i := 0) (F2.out.1.symm.trans F1.out.1.symm) (F2.out.2.symm.trans F1.out.2.symm), HW.out⟩
    · have d1 : decide ((l.length : Int) > 200) = false := decide_eq_false (by omega)
      have d2 : decide (200 < (l.length : Int)) = false := decide_eq_false (by omega)
      have HL := Lib.hid hl
      clear hl
      go_wp2_with fail
      go_loopw [19] (fun i wr => ∃ k : Nat, k ≤ l.length ∧ i = .int .i64 k ∧ Hid (∀ j, j < k → errHop N l j = 0) ∧ Hid (Below w1.heap.size w1 wr)) (fun i _ => l.length - (intOf i).toNat)
      case atStart => exact ⟨0, Nat.zero_le _, rfl, Lib.hid (fun j hj => absurd hj (Nat.not_lt_zero _)), Lib.hid (Below.refl _ _)⟩
      case round =>
        obtain ⟨k, hk, rfl, HG, HB⟩ := hrel
        have HX := Lib.hid (HW.out.trans (HB.out.mono HW.out.size))
        by_cases hlt : k < l.length
        · have hkn : (k : Int) < (l.length : Int) := by omega
          obtain ⟨b, o, hAe, hc⟩ := (HA.out.keep (Keep.below HX.out)).at_ hlt
          subst hAe
          obtain ⟨n0, n1⟩ := BN.out.keep (Keep.below HB.out)
          go_wp2_with fail
          refine (isRoad_any N _ _ _ (hN0.out.keep (Keep.below HX.out))).mono ?_
          rintro e' w2 ⟨rfl, hb2⟩
          replace HB := Lib.hid (HB.out.trans (hb2.mono HB.out.size))
          replace HX := Lib.hid (HX.out.trans (hb2.mono HX.out.size))
          clear n0 n1 hc hb2
          cases hr : isRoad N (listI l k) with
          | false =>
            have F2 := Lib.hid (way_hit HL.out hlt HG.out (by rw [hop_none hr]; decide))
            have F3 := Lib.hid (hop_none hr)
            clear hr
            go_wp2_with fail
            go_ret2
            exact ⟨ret2_int (F3.out.symm.trans (F2.out.1.symm.trans F1.out.1.symm)) (F2.out.2.symm.trans F1.out.2.symm), HX.out⟩
          | true =>
            obtain ⟨n0, n1⟩ := BN.out.keep (Keep.below HB.out)
            have HR := Lib.hid hr
            have hrr := isRoad_is hr
            clear hr
            by_cases hk0 : 0 < k
            · have d3 : decide ((k : Int) > 0) = true := decide_eq_true (by omega)
              have d4 : decide (0 < (k : Int)) = true := decide_eq_true (by omega)
              have hpp := (hop_ok (HG.out (k - 1) (by omega))).1
              obtain ⟨q, hq⟩ : ∃ q : Nat, listI l k = q := ⟨_, (Int.toNat_of_nonneg hrr.1).symm⟩
              obtain ⟨p, hp⟩ : ∃ p : Nat, listI l (k - 1) = p := ⟨_, (Int.toNat_of_nonneg hpp.1).symm⟩
              have hql : q < N.roads.length := by omega
              have hpl : p < N.roads.length := by omega
              have hqn : (q : Int) < (N.roads.length : Int) := by omega
              have hpn : (p : Int) < (N.roads.length : Int) := by omega
              have hc := (HA.out.keep (Keep.below HX.out)).cells (k := k - 1) (by omega)
              rw [hp] at hc
              have hkp : (k : Int) - 1 = ((k - 1 : Nat) : Int) := by omega
              have hk1 : ((k - 1 : Nat) : Int) < (l.length : Int) := by omega
              have hR := M.out.roads.keep (Keep.below HX.out)
              obtain ⟨rb, ro, hRa, x⟩ := hR.at_ hql
              subst hRa
              have x1 := x.c1
              have y2 := (hR.cells (k := p) hpl).c2
              clear x hR
              have HPQ := Lib.hid (show (listI l k).toNat = q ∧ (listI l (k - 1)).toNat = p by omega)
              rw [hq]
              clear hrr hpp hq hp
              by_cases hj : (listD N.roads p).dst = (listD N.roads q).src
              · have F2 := Lib.hid (hop_yes (i := k) HR.out (fun hh => hh.2 (by rw [HPQ.out.1, HPQ.out.2]; exact hj)))
                have e1 : ((listD N.roads p).dst == (listD N.roads q).src) = true := by simpa using hj
                have e2 : ((listD N.roads p).dst != (listD N.roads q).src) = false := by simpa using hj
                clear hj
                go_wp2_with fail
                go_quiet (fail)
                go_wp2_with fail
                go_roundw
                case rel => exact ⟨k + 1, by omega, by go_num, Lib.hid (fun j hj => if e : j = k then e ▸ F2.out else HG.out j (by omega)), Lib.hid (bdrewN HB.out _)⟩
                case measure => simp [intOf]; omega
              · have F3 := Lib.hid (hop_open (i := k) HR.out hk0 (by rw [HPQ.out.1, HPQ.out.2]; exact hj))
                have F2 := Lib.hid (way_hit HL.out hlt HG.out (by rw [F3.out]; decide))
                have e1 : ((listD N.roads p).dst == (listD N.roads q).src) = false := by simpa using hj
                have e2 : ((listD N.roads p).dst != (listD N.roads q).src) = true := by simpa using hj
                clear hj
                go_wp2_with fail
                go_quiet (fail)
                go_wp2_with fail
                go_ret2
                exact ⟨ret2_int (F3.out.symm.trans (F2.out.1.symm.trans F1.out.1.symm)) (F2.out.2.symm.trans F1.out.2.symm), bdrewN HX.out _⟩
            · have d3 : decide ((k : Int) > 0) = false := decide_eq_false (by omega)
              have d4 : decide (0 < (k : Int)) = false := decide_eq_false (by omega)
              have d5 : decide (0 < k) = false := decide_eq_false hk0
              have d6 : decide (k = 0) = true := decide_eq_true (by omega)
              have F2 := Lib.hid (hop_yes (i := k) HR.out (fun hh => hk0 hh.1))
              clear hk0 hrr
              go_wp2_with fail
              go_quiet (fail)
              go_wp2_with fail
              go_roundw
              case rel => exact ⟨k + 1, by omega, by go_num, Lib.hid (fun j hj => if e : j = k then e ▸ F2.out else HG.out j (by omega)), Lib.hid (bdrewN HB.out _)⟩
              case measure => simp [intOf]; omega
        · obtain rfl : k = l.length := by omega
          have F2 := Lib.hid (way_none HL.out HG.out)
          clear hlt hk
          go_wp2_with fail
          go_ret2
          exact ⟨ret2_int (i := 0) (F2.out.1.symm.trans F1.out.1.symm) (F2.out.2.symm.trans F1.out.2.symm), HX.out⟩
  · have F1 := Lib.hid (show cwErr N l = netErr N ∧ cwAt N l = 0 from ⟨if_neg he, if_neg he⟩)
    have e1 : (netErr N == 0) = false := by simpa using he
    have e2 : (netErr N != 0) = true := by simpa using he
    clear he
    go_wp2_with fail
    go_ret2
    exact ⟨ret2_int (i := 0) F1.out.1.symm F1.out.2.symm, HW.out⟩

set_option maxHeartbeats 400000 in
theorem errWay_any (N : Net) (v : Value) (l : List Int) (A : Option Addr) (c : Nat) (w : World) (hN : RdNet w v N) (h : ArrI w A l c) :
    Calls Try.prog 35 #[v, .slice A l.length c] w fun e w' => e = .returned (.int .i64 (cwErr N l)) ∧ Below w.heap.size w w' := by
  have hN0 := Lib.hid hN
  obtain ⟨P, R, pc, rc, ar, rfl, m⟩ := hN
  clear m
  have HA := Lib.hid h
  clear h
  have BN := Lib.hid (BoxN.new w N P R pc rc 25)
  go_enter Try.func35, Try.ntmps35
  go_upto_region 1 with fail
  generalize hwb : w.alloc _ = wb at *
  have HW : Hid (Below w.heap.size w wb) := by rw [← hwb]; exact Lib.hid ((Below.refl _ _).alloc (Nat.le_refl _) _)
  clear hwb
  obtain ⟨n0, n1⟩ := BN.out
  go_wp2_with fail
  refine (checkWay_any N _ l A c _ (hN0.out.keep (Keep.below HW.out)) (HA.out.keep (Keep.below HW.out))).mono ?_
  rintro e' w1 ⟨rfl, hb1⟩
  go_wp2_with fail
  go_ret
  exact ⟨rfl, HW.out.trans (hb1.mono HW.out.size)⟩
end Go.Proofs.Ytjmaankkbdpikaa
/- Ways and trips: what is wrong with one, as the reference tells it. Condition: the net can be read. -/
namespace Go.Proofs.Ytjmaankkbdpikaa
open Go.RowKit Fs

end Go.Proofs.Ytjmaankkbdpikaa
/- The arrivals of a way, and its metres. Condition: the net can be read. -/
namespace Go.Proofs.Ytjmaankkbdpikaa
open Go.RowKit Fs

def Fs.arrivals (N : Net) (l : List Int) (a : Int) : Int × Int := (alongTo (soonest N) l.length l a, alongTo (latest N) l.length l a)
def Fs.avErr (N : Net) (l : List Int) (a : Int) : Int := fst (listI [cwErr N l, timeErr a]) 2
def Fs.arrOf (N : Net) (l : List Int) (a : Int) : (Int × Int) × Int := if avErr N l a = 0 then (arrivals N l a, 0) else ((0, 0), avErr N l a)
theorem Fs.cwErr_ok {N : Net} {l : List Int} (h : cwErr N l = 0) : netErr N = 0 ∧ wayErr N l = 0 := by
  unfold cwErr at h
  by_cases e : netErr N = 0
  · rw [if_pos e] at h; exact ⟨e, h⟩
  · rw [if_neg e] at h; exact absurd h e
theorem Fs.timeErr_ok {a : Int} (h : timeErr a = 0) : 0 ≤ a ∧ a ≤ 604800 := by
  unfold timeErr at h
  cases hp : within a 0 604800 with
  | true => exact Fs.within_iff.1 hp
  | false => rw [hp] at h; exact absurd h (by decide)
theorem Fs.avErr_ok {N : Net} {l : List Int} {a : Int} (h : avErr N l a = 0) : netErr N = 0 ∧ wayErr N l = 0 ∧ 0 ≤ a ∧ a ≤ 604800 :=
  ⟨(cwErr_ok (fst_zero h 0 (by decide))).1, (cwErr_ok (fst_zero h 0 (by decide))).2, timeErr_ok (fst_zero h 1 (by decide))⟩
theorem few_lens {N : Net} (h : fewN N = true) : N.places.length ≤ 1000000 ∧ N.roads.length ≤ 1000000 ∧ ∀ i, i < N.roads.length → (listD N.roads i).pts.length ≤ 1000000 := by
  obtain ⟨h1, h2, -, h4⟩ := fewN_is h
  exact ⟨by omega, by omega, fun i hi => by have := (h4 i hi).2; omega⟩
theorem MarkAt.keepB {w w' : World} {g : Nat} (m : MarkAt w g) (h : Below w.heap.size w w') : MarkAt w' g := m.below h m.lt

set_option maxHeartbeats 6400000 in
set_option maxRecDepth 100000 in
theorem arrivalOf_any (N : Net) (v : Value) (l : List Int) (A : Option Addr) (c : Nat) (a : Int) (w : World) (hN : RdNet w v N) (h : ArrI w A l c) (hE : netErr N = 0) (hl : ∀ j, j < l.length → 0 ≤ listI l j ∧ listI l j < N.roads.length) (hn : l.length ≤ 1000000) (h0 : 0 ≤ a) (h1 : a ≤ 1000000) :
    Calls Try.prog 37 #[v, .slice A l.length c, .int .i64 a] w fun e w' => e = .returned (.agg #[.int .i64 (arrivals N l a).1, .int .i64 (arrivals N l a).2]) ∧ Below w.heap.size w w' := by
  have hN0 := Lib.hid hN
  obtain ⟨P, R, pc, rc, ar, rfl, m⟩ := hN
  clear m
  have HA := Lib.hid h
  have HLL := Lib.hid hl
  clear h hl
  have BN := Lib.hid ((BoxN.new w N P R pc rc 25).keep (Keep.alloc _ (.cells #[.int .i64 0, .int .i64 0] 36)))
  have RT := Lib.hid (show MarkAt ((w.alloc (.cells #[.slice P N.places.length pc, .slice R N.roads.length rc] 25)).alloc (.cells #[.int .i64 0, .int .i64 0] 36)) (w.heap.size + 1) from by
    have := MarkAt.new (w.alloc (.cells #[.slice P N.places.length pc, .slice R N.roads.length rc] 25)) 36
    simpa using this)
  go_enter Try.func37, Try.ntmps37
  go_upto_region 1 with fail
  generalize hwb : (w.alloc _).alloc _ = wb at *
  have HW : Hid (Below w.heap.size w wb) := by rw [← hwb]; exact Lib.hid (((Below.refl _ _).alloc (Nat.le_refl _) _).alloc (by simp) _)
  have HWS : Hid (w.heap.size + 2 = wb.heap.size) := by rw [← hwb]; exact Lib.hid (by simp)
  clear hwb
  obtain ⟨n0, n1⟩ := BN.out
  have HBd : Hid (Below (w.heap.size + 1) wb wb.drew) := Lib.hid (Below.refl _ _).drew
  have HWB := Lib.hid (show w.heap.size + 1 ≤ wb.heap.size by have := HWS.out; omega)
  have MK : Hid (∀ w', Below (w.heap.size + 1) wb w' → w'.cell? ⟨w.heap.size, 0, none⟩ = some (.slice P N.places.length pc) ∧ w'.cell? ⟨w.heap.size, 1, none⟩ = some (.slice R N.roads.length rc) ∧ Hid (Below (w.heap.size + 1) wb w')) :=
    Lib.hid fun w' hw => ⟨(hw.cell (p := ⟨w.heap.size, 0, none⟩) (Nat.lt_succ_self _)).trans n0, (hw.cell (p := ⟨w.heap.size, 1, none⟩) (Nat.lt_succ_self _)).trans n1, Lib.hid hw⟩
  go_cut [] from 7 to 17 (fun wx => Hid (wx.cell? ⟨w.heap.size + 1, 0, none⟩ = some (.int .i64 (arrivals N l a).1)) ∧ Hid (wx.cell? ⟨w.heap.size + 1, 1, none⟩ = some (.int .i64 (arrivals N l a).2)) ∧ Hid (Below w.heap.size w wx))
  case first =>
    have HT : Hid (MarkAt wb.drew (w.heap.size + 1)) := Lib.hid ⟨RT.out.c0, RT.out.c1, RT.out.f0, RT.out.f1⟩
    go_region_held3 (fun w' => w'.cell? ⟨w.heap.size, 0, none⟩ = some (.slice P N.places.length pc) ∧ w'.cell? ⟨w.heap.size, 1, none⟩ = some (.slice R N.roads.length rc) ∧ Hid (Below (w.heap.size + 1) wb w'))
      (first
        | exact MK.out _ HBd.out
        | (go_split_ands; exact MK.out _ (Below.trans (Hid.out (by assumption)) (hb1.mono (Nat.le_trans HWB.out (Hid.out (by assumption) : Below (w.heap.size + 1) wb _).size))))
        | (go_split_ands; exact MK.out _ (Below.setCell (p := ⟨w.heap.size + 1, 1, none⟩) (Below.setCell (p := ⟨w.heap.size + 1, 0, none⟩) (Hid.out (by assumption)) (Nat.le_refl _) _) (Nat.le_refl _) _)))
      ((first
        | (go_at_call 31
           go_split_ands
           refine (soonest_any N _ _ (hN0.out.keep (Keep.below (HW.out.trans ((Hid.out (by assumption) : Below (w.heap.size + 1) wb _).mono (Nat.le_succ _))))) hE).mono ?_
           rintro e' w1 ⟨f1, rfl, hf1, hb1⟩
           have HT := Lib.hid (MarkAt.keepB (HT.out) hb1)
           have HF1 := Lib.hid hf1
           clear hf1
           try (have HF2 := Lib.hid (HF2.out.below hb1))
           obtain ⟨r0, r1, rf0, rf1⟩ := HT.out)
        | (go_at_call 32
           go_split_ands
           refine (latest_any N _ _ (hN0.out.keep (Keep.below (HW.out.trans ((Hid.out (by assumption) : Below (w.heap.size + 1) wb _).mono (Nat.le_succ _))))) hE).mono ?_
           rintro e' w1 ⟨f2, rfl, hf2, hb1⟩
           have HT := Lib.hid (MarkAt.keepB (HT.out) hb1)
           have HF2 := Lib.hid hf2
           clear hf2
           try (have HF1 := Lib.hid (HF1.out.below hb1))
           obtain ⟨r0, r1, rf0, rf1⟩ := HT.out)
        | (go_at_call 57
           with_reducible show Calls _ _ #[f1, _, _] _ _
           go_split_ands
           refine (along_any N (soonest N) f1 a l A c _ HF1.out (soonest_small hE) (HA.out.keep (Keep.below (HW.out.trans ((Hid.out (by assumption) : Below (w.heap.size + 1) wb _).mono (Nat.le_succ _))))) HLL.out h0 h1 hn).mono ?_
           rintro e' w2 ⟨rfl, hb1⟩
           have HT := Lib.hid (MarkAt.keepB (HT.out) hb1)
           try (have HF2 := Lib.hid (HF2.out.below hb1))
           obtain ⟨r0, r1, rf0, rf1⟩ := HT.out)
        | (go_at_call 57
           with_reducible show Calls _ _ #[f2, _, _] _ _
           go_split_ands
           refine (along_any N (latest N) f2 a l A c _ HF2.out (latest_small hE) (HA.out.keep (Keep.below (HW.out.trans ((Hid.out (by assumption) : Below (w.heap.size + 1) wb _).mono (Nat.le_succ _))))) HLL.out h0 h1 hn).mono ?_
           rintro e' w2 ⟨rfl, hb1⟩
           have HT := Lib.hid (MarkAt.keepB (HT.out) hb1)
           try (have HF1 := Lib.hid (HF1.out.below hb1))
           obtain ⟨r0, r1, rf0, rf1⟩ := HT.out)))
    all_goals
      rename_i hS
      obtain ⟨-, -, hbb⟩ := hS
      go_wp2_with fail
      go_meet
      exact ⟨Lib.hid (mark_two HT.out _ _).1, Lib.hid (mark_two HT.out _ _).2, Lib.hid (HW.out.trans (hbb.out.mono (Nat.le_succ _)))⟩
  case rest =>
    obtain ⟨R0, R1, HB⟩ := hcut
    have r0 := R0.out
    have r1 := R1.out
    go_wp2_with fail
    refine bodyPost_ret (v := .agg #[.int .i64 (arrivals N l a).1, .int .i64 (arrivals N l a).2]) (by simp [results, Try.results37, go_sem, r0, r1]) rfl ⟨rfl, HB.out⟩

set_option maxHeartbeats 3200000 in
set_option maxRecDepth 100000 in
theorem arrOf_any (N : Net) (v : Value) (l : List Int) (A : Option Addr) (c : Nat) (a : Int) (w : World) (hN : RdNet w v N) (h : ArrI w A l c) :
    Calls Try.prog 15 #[v, .slice A l.length c, .int .i64 a] w fun e w' => e = .returned (.tuple #[.agg #[.int .i64 (arrOf N l a).1.1, .int .i64 (arrOf N l a).1.2], .int .i64 (arrOf N l a).2]) ∧ Below w.heap.size w w' := by
  have hN0 := Lib.hid hN
  obtain ⟨P, R, pc, rc, ar, rfl, m⟩ := hN
  clear m
  have HA := Lib.hid h
  clear h
  have BN := Lib.hid ((BoxN.new w N P R pc rc 25).keep (Keep.alloc _ (.cells #[.int .i64 0, .int .i64 0] 36)))
  have RT := Lib.hid (show MarkAt ((w.alloc (.cells #[.slice P N.places.length pc, .slice R N.roads.length rc] 25)).alloc (.cells #[.int .i64 0, .int .i64 0] 36)) (w.heap.size + 1) from by
    have := MarkAt.new (w.alloc (.cells #[.slice P N.places.length pc, .slice R N.roads.length rc] 25)) 36
    simpa using this)
  go_enter Try.func15, Try.ntmps15
  go_upto_region 1 with fail
  generalize hwb : (w.alloc _).alloc _ = wb at *
  have HW : Hid (Below w.heap.size w wb) := by rw [← hwb]; exact Lib.hid (((Below.refl _ _).alloc (Nat.le_refl _) _).alloc (by simp) _)
  clear hwb
  obtain ⟨n0, n1⟩ := BN.out
  go_wp2_with fail
  refine (errWay_any N _ l A c _ (hN0.out.keep (Keep.below HW.out)) (HA.out.keep (Keep.below HW.out))).mono ?_
  rintro e' w1 ⟨rfl, hb1⟩
  replace BN := Lib.hid (BN.out.keep (Keep.below hb1))
  replace RT := Lib.hid (RT.out.keepB hb1)
  replace HW := Lib.hid (HW.out.trans (hb1.mono HW.out.size))
  clear hb1 n0 n1
  go_wp2_with fail
  refine (timeErr_any a _).mono ?_
  rintro e' w2 ⟨rfl, rfl⟩
  go_wp2_with fail
  refine (firstError_any [cwErr N l, timeErr a] _ _ _ (arr2New _ _ _ _)).mono ?_
  rintro e' w2 ⟨hfe, rfl⟩
  obtain rfl : e' = .returned (.int .i64 (avErr N l a)) := hfe
  generalize hw2 : w1.alloc _ = w2 at *
  have HB2 : Hid (Below w1.heap.size w1 w2) := by rw [← hw2]; exact Lib.hid ((Below.refl _ _).alloc (Nat.le_refl _) _)
  clear hw2
  replace BN := Lib.hid (BN.out.keep (Keep.below HB2.out))
  replace RT := Lib.hid (RT.out.keepB HB2.out)
  replace HW := Lib.hid (HW.out.trans (HB2.out.mono HW.out.size))
  clear HB2
  by_cases he : avErr N l a = 0
  · have HF := Lib.hid (show arrOf N l a = (arrivals N l a, 0) from if_pos he)
    have HE := Lib.hid (avErr_ok he)
    rw [he]
    clear he
    obtain ⟨n0, n1⟩ := BN.out
    go_wp2_with fail
    refine (arrivalOf_any N _ l A c a _ (hN0.out.keep (Keep.below HW.out)) (HA.out.keep (Keep.below HW.out)) HE.out.1 (fun j hj => ((way_ok HE.out.2.1).2 j hj).1) (by have := (way_ok HE.out.2.1).1; omega) HE.out.2.2.1 (by have := HE.out.2.2.2; omega)).mono ?_
    rintro e' w3 ⟨rfl, hb3⟩
    obtain ⟨r0, r1, rf0, rf1⟩ := RT.out.keepB hb3
    go_wp2_with fail
    refine bodyPost_ret (v := .tuple #[.agg #[.int .i64 (arrivals N l a).1, .int .i64 (arrivals N l a).2], .int .i64 0]) (by simp [results, Try.results15, go_sem, r0, r1]) rfl ⟨by rw [HF.out], ?_⟩
    exact ((HW.out.trans (hb3.mono HW.out.size)).setCell (p := ⟨w.heap.size + 1, 0, none⟩) (by simp) _).setCell (p := ⟨w.heap.size + 1, 1, none⟩) (by simp) _
  · have HF := Lib.hid (show arrOf N l a = ((0, 0), avErr N l a) from if_neg he)
    have e1 : (avErr N l a == 0) = false := by simpa using he
    have e2 : (avErr N l a != 0) = true := by simpa using he
    clear he
    obtain ⟨r0, r1, rf0, rf1⟩ := RT.out
    go_wp2_with fail
    refine bodyPost_ret (v := .tuple #[.agg #[.int .i64 0, .int .i64 0], .int .i64 (avErr N l a)]) (by simp [results, Try.results15, go_sem, r0, r1]) rfl ⟨by rw [HF.out], ?_⟩
    exact (HW.out.setCell (p := ⟨w.heap.size + 1, 0, none⟩) (by simp) _).setCell (p := ⟨w.heap.size + 1, 1, none⟩) (by simp) _

def Fs.metresTo (N : Net) (l : List Int) : Int := alongTo (further N) l.length l 0
def Fs.metOf (N : Net) (l : List Int) : Int × Int := if cwErr N l = 0 then (metresTo N l, 0) else (0, cwErr N l)
end Go.Proofs.Ytjmaankkbdpikaa

/- Fastest: a way that arrives as early as possible, soon or late. Condition: the net can be read. -/
import Derived.Test.YthipneggplebcaaT31
import Derived.Test.YthipneggplebcaaT52
import Derived.Test.YthipneggplebcaaT64p
namespace Go.Proofs.Ythipneggplebcaa
open Go.RowKit Fs

def Fs.fastErr (N : Net) (nx : Nat → Int → Int) (f t a : Int) : Int := if estErr N f t a = 0 then (if listI (search N f a nx).labels t.toNat = -1 then 12 else 0) else estErr N f t a

set_option maxHeartbeats 6400000 in
set_option maxRecDepth 100000 in
theorem fastS_any (N : Net) (v : Value) (f t a : Int) (w : World) (hN : RdNet w v N) :
    Calls Try.prog 47 #[v, stripV f t a, .bool false] w fun e w' => ∃ (W : List Int) (A : Option Addr) (c : Nat), e = .returned (.tuple #[.slice A W.length c, .int .i64 (fastErr N (soonest N) f t a)]) ∧ ArrI w' A W c ∧
      (fastErr N (soonest N) f t a = 0 → Chain N (search N f a (soonest N)).last t.toNat W.reverse) ∧ (fastErr N (soonest N) f t a ≠ 0 → W = []) ∧ Below w.heap.size w w' := by
  have hN0 := Lib.hid hN
  obtain ⟨P, R, pc, rc, ar, rfl, m⟩ := hN
  clear m
  have BN := Lib.hid ((BoxN.new w N P R pc rc 25).keep (Keep.alloc _ (.cells #[.int .i64 f, .int .i64 t, .int .i64 a] 63)))
  have BT := Lib.hid (TripAt.new1 w (.cells #[.slice P N.places.length pc, .slice R N.roads.length rc] 25) f t a 63)
  go_enter Try.func47, Try.ntmps47
  go_upto_region 1 with fail
  generalize hwb : (w.alloc _).alloc _ = wb at *
  have HW : Hid (Below w.heap.size w wb) := by rw [← hwb]; exact Lib.hid (((Below.refl _ _).alloc (Nat.le_refl _) _).alloc (by simp) _)
  clear hwb
  obtain ⟨n0, n1⟩ := BN.out
  obtain ⟨c0, c1, c2⟩ := BT.out
  go_cut [8] from 11 to 18 (fun s wx => s = .int .i64 (estErr N f t a) ∧ Hid (Below wb.heap.size wb wx))
  case first =>
    have HBd : Hid (Below wb.heap.size wb wb.drew) := Lib.hid (Below.refl _ _).drew
    have MK : Hid (∀ w', Below wb.heap.size wb w' → w'.cell? ⟨w.heap.size, 0, none⟩ = some (.slice P N.places.length pc) ∧ w'.cell? ⟨w.heap.size, 1, none⟩ = some (.slice R N.roads.length rc) ∧ w'.cell? ⟨w.heap.size + 1, 0, none⟩ = some (.int .i64 f) ∧ w'.cell? ⟨w.heap.size + 1, 1, none⟩ = some (.int .i64 t) ∧ w'.cell? ⟨w.heap.size + 1, 2, none⟩ = some (.int .i64 a) ∧ Hid (Below wb.heap.size wb w')) :=
      Lib.hid fun w' hw => ⟨Keep.below hw _ _ n0, Keep.below hw _ _ n1, Keep.below hw _ _ c0, Keep.below hw _ _ c1, Keep.below hw _ _ c2, Lib.hid hw⟩
    have KN : Hid (∀ w', Below wb.heap.size wb w' → RdNet w' (netV N P R pc rc) N) := Lib.hid fun w' hw => (hN0.out.keep (Keep.below (HW.out.trans (hw.mono HW.out.size))))
    go_region_held3 (fun w' => w'.cell? ⟨w.heap.size, 0, none⟩ = some (.slice P N.places.length pc) ∧ w'.cell? ⟨w.heap.size, 1, none⟩ = some (.slice R N.roads.length rc) ∧ w'.cell? ⟨w.heap.size + 1, 0, none⟩ = some (.int .i64 f) ∧ w'.cell? ⟨w.heap.size + 1, 1, none⟩ = some (.int .i64 t) ∧ w'.cell? ⟨w.heap.size + 1, 2, none⟩ = some (.int .i64 a) ∧ Hid (Below wb.heap.size wb w'))
      (first
        | exact MK.out _ HBd.out
        | (go_split_ands; exact ⟨by assumption, by assumption, by assumption, by assumption, by assumption, by assumption⟩)
        | (go_split_ands; exact MK.out _ (Below.trans (Hid.out (by assumption)) (hb1.mono (Hid.out (by assumption) : Below wb.heap.size wb _).size)))
        | (go_split_ands; exact MK.out _ (Below.alloc (Hid.out (by assumption)) (Hid.out (by assumption) : Below wb.heap.size wb _).size _)))
      ((first
        | (go_at_call 80
           go_split_ands
           refine (errNet_any N _ _ (KN.out _ (Hid.out (by assumption)))).mono ?_
           rintro e' w1 ⟨rfl, hb1⟩)
        | (go_at_call 98
           go_split_ands
           refine (tripErr_any N _ f t a _ (KN.out _ (Hid.out (by assumption)))).mono ?_
           rintro e' w1 ⟨rfl, hb1⟩)
        | (go_at_call 79
           go_split_ands
           refine (firstError_any [netErr N, tripErr N f t a] _ _ _ (by first | exact arr2New _ _ _ _ | exact ArrI.keep (Keep.drew _) (arr2New _ _ _ _))).mono ?_
           rintro e' w1 ⟨rfl, rfl⟩)))
    all_goals
      rename_i hS
      obtain ⟨-, -, -, -, -, hbb⟩ := hS
      go_wp2_with fail
      go_meet
      first
        | exact ⟨rfl, hbb⟩
  case rest =>
    obtain ⟨rfl, HB⟩ := hcut
    obtain ⟨wp, hwp⟩ : ∃ wp, wp = wc := ⟨_, rfl⟩
    subst hwp
    replace HW := Lib.hid (HW.out.trans (HB.out.mono HW.out.size))
    replace BN := Lib.hid (BN.out.keep (Keep.below HB.out))
    replace BT := Lib.hid (BT.out.keep (Keep.below HB.out))
    clear HB n0 n1 c0 c1 c2
    by_cases he : estErr N f t a = 0
    · obtain ⟨hE, hT⟩ := estErr_ok he
      have HE := Lib.hid hE
      obtain ⟨hpf, hpt, hta⟩ := tripErr_ok hT
      have hta := timeErr_ok hta
      obtain ⟨f0, f1⟩ := isPlace_in hpf
      obtain ⟨t0, t1⟩ := isPlace_in hpt
      have HF0 := Lib.hid (show fastErr N (soonest N) f t a = if listI (search N f a (soonest N)).labels t.toNat = -1 then 12 else 0 from if_pos he)
      rw [he]
      clear he hE hT hpf hpt
      obtain ⟨X, hX⟩ : ∃ X : Nat, f = X := ⟨_, (Int.toNat_of_nonneg f0).symm⟩
      obtain ⟨Y, hY⟩ : ∃ Y : Nat, t = Y := ⟨_, (Int.toNat_of_nonneg t0).symm⟩
      subst hX; subst hY
      have hXl : X < N.places.length := by omega
      have hYl : Y < N.places.length := by omega
      clear f0 f1 t0 t1
      rw [Int.toNat_natCast] at HF0
      obtain ⟨n0, n1⟩ := BN.out
      go_wp2_with fail
      refine (soonest_any N _ _ (hN0.out.keep (Keep.below HW.out)) HE.out).mono ?_
      rintro e' w2 ⟨f1, rfl, hf1, hb1⟩
      replace HW := Lib.hid (HW.out.trans (hb1.mono HW.out.size))
      replace BN := Lib.hid (BN.out.keep (Keep.below hb1))
      replace BT := Lib.hid (BT.out.keep (Keep.below hb1))
      have HF1 := Lib.hid hf1
      clear hf1
      clear n0 n1
      clear hb1
      obtain ⟨n0, n1⟩ := BN.out
      obtain ⟨c0, c1, c2⟩ := BT.out
      go_wp2_with fail
      refine (search_any N (soonest N) _ f1 X a _ (hN0.out.keep (Keep.below HW.out)) HE.out HF1.out (soonest_small HE.out) hXl hta.1 (by omega)).mono ?_
      rintro e' w4 ⟨gl, ga, rfl, hrl, hra, -, -, hb1⟩
      replace HW := Lib.hid (HW.out.trans (hb1.mono HW.out.size))
      replace BN := Lib.hid (BN.out.keep (Keep.below hb1))
      replace BT := Lib.hid (BT.out.keep (Keep.below hb1))
      have HRL := Lib.hid hrl
      have HRA := Lib.hid hra
      clear hrl hra
      clear n0 n1 c0 c1 c2
      clear hb1
      have HTR := Lib.hid (TreeAt.new w4 (.slice (some ⟨gl, 0, none⟩) N.places.length N.places.length) (.slice (some ⟨ga, 0, none⟩) N.places.length N.places.length) 154)
      have hb8 : Below w4.heap.size w4 (w4.alloc (.cells #[.slice (some ⟨gl, 0, none⟩) N.places.length N.places.length, .slice (some ⟨ga, 0, none⟩) N.places.length N.places.length] 154)) := (Below.refl _ _).alloc (Nat.le_refl _) _
      replace HRL := Lib.hid (HRL.out.keep hb8)
      replace HRA := Lib.hid (HRA.out.keep hb8)
      replace HW := Lib.hid (HW.out.trans (hb8.mono HW.out.size))
      replace BN := Lib.hid (BN.out.keep (Keep.below hb8))
      replace BT := Lib.hid (BT.out.keep (Keep.below hb8))
      clear hb8
      have HZL : Y < (search N X a (soonest N)).labels.length := by rw [search_len.1]; exact hYl
      have t0 := HRL.out.int (i := Y) HZL
      have hun : (Y : Int) < (N.places.length : Int) := by omega
      obtain ⟨n0, n1⟩ := BN.out
      obtain ⟨c0, c1, c2⟩ := BT.out
      obtain ⟨q0, q1, -, -⟩ := HTR.out
      by_cases hl : listI (search N X a (soonest N)).labels Y = -1
      · have e1 : (listI (search N X a (soonest N)).labels Y == -1) = true := by simpa using hl
        have HF := Lib.hid (HF0.out.trans (if_pos hl))
        clear hl
        go_wp2_with fail
        refine bodyPost_ret (v := .tuple #[.slice none 0 0, .int .i64 12]) (by simp [results, Try.results47, go_sem]) rfl ⟨[], none, 0, by rw [HF.out]; rfl, arrNil _, fun h => absurd (show (12 : Int) = 0 by rw [HF.out] at h; exact h) (by decide), fun _ => rfl, HW.out⟩
      · have e1 : (listI (search N X a (soonest N)).labels Y == -1) = false := by simpa using hl
        have HF := Lib.hid (HF0.out.trans (if_neg hl))
        clear hl
        obtain ⟨rk, hbk⟩ := (search_found (N := N) (nx := soonest N) (src := X) (L := a) (net_joined HE.out) (soonest_good HE.out) hXl hta.1).back'
        have HBK := Lib.hid hbk
        clear hbk
        go_wp2_with fail
        refine (wayTo_any N _ _ rk gl ga Y _ (hN0.out.keep (Keep.below HW.out)) HE.out HRA.out HBK.out hYl).mono ?_
        rintro e' w5 ⟨l, A, c, hch, rfl, hA, hb1⟩
        have HX := Lib.hid (HW.out.trans (hb1.mono HW.out.size))
        have HA := Lib.hid hA
        have HCH := Lib.hid hch
        clear hA hch hb1 n0 n1 c0 c1 c2 q0 q1 t0
        go_wp2_with fail
        refine bodyPost_ret (v := .tuple #[.slice A l.length c, .int .i64 0]) (by simp [results, Try.results47, go_sem]) rfl ⟨l.reverse, A, c, by rw [HF.out, List.length_reverse], HA.out, fun _ => by rw [List.reverse_reverse, Int.toNat_natCast]; exact HCH.out, fun h => absurd HF.out h, HX.out⟩
    · have e1 : (estErr N f t a == 0) = false := by simpa using he
      have e2 : (estErr N f t a != 0) = true := by simpa using he
      have HF := Lib.hid (show fastErr N (soonest N) f t a = estErr N f t a from if_neg he)
      have HNE := Lib.hid he
      clear he
      go_wp2_with fail
      refine bodyPost_ret (v := .tuple #[.slice none 0 0, .int .i64 (estErr N f t a)]) (by simp [results, Try.results47, go_sem]) rfl ⟨[], none, 0, by rw [HF.out]; rfl, arrNil _, fun h => absurd (HF.out.symm.trans h) HNE.out, fun _ => rfl, HW.out⟩
set_option maxHeartbeats 6400000 in
set_option maxRecDepth 100000 in
theorem fastL_any (N : Net) (v : Value) (f t a : Int) (w : World) (hN : RdNet w v N) :
    Calls Try.prog 47 #[v, stripV f t a, .bool true] w fun e w' => ∃ (W : List Int) (A : Option Addr) (c : Nat), e = .returned (.tuple #[.slice A W.length c, .int .i64 (fastErr N (latest N) f t a)]) ∧ ArrI w' A W c ∧
      (fastErr N (latest N) f t a = 0 → Chain N (search N f a (latest N)).last t.toNat W.reverse) ∧ (fastErr N (latest N) f t a ≠ 0 → W = []) ∧ Below w.heap.size w w' := by
  have hN0 := Lib.hid hN
  obtain ⟨P, R, pc, rc, ar, rfl, m⟩ := hN
  clear m
  have BN := Lib.hid ((BoxN.new w N P R pc rc 25).keep (Keep.alloc _ (.cells #[.int .i64 f, .int .i64 t, .int .i64 a] 63)))
  have BT := Lib.hid (TripAt.new1 w (.cells #[.slice P N.places.length pc, .slice R N.roads.length rc] 25) f t a 63)
  go_enter Try.func47, Try.ntmps47
  go_upto_region 1 with fail
  generalize hwb : (w.alloc _).alloc _ = wb at *
  have HW : Hid (Below w.heap.size w wb) := by rw [← hwb]; exact Lib.hid (((Below.refl _ _).alloc (Nat.le_refl _) _).alloc (by simp) _)
  clear hwb
  obtain ⟨n0, n1⟩ := BN.out
  obtain ⟨c0, c1, c2⟩ := BT.out
  go_cut [8] from 11 to 18 (fun s wx => s = .int .i64 (estErr N f t a) ∧ Hid (Below wb.heap.size wb wx))
  case first =>
    have HBd : Hid (Below wb.heap.size wb wb.drew) := Lib.hid (Below.refl _ _).drew
    have MK : Hid (∀ w', Below wb.heap.size wb w' → w'.cell? ⟨w.heap.size, 0, none⟩ = some (.slice P N.places.length pc) ∧ w'.cell? ⟨w.heap.size, 1, none⟩ = some (.slice R N.roads.length rc) ∧ w'.cell? ⟨w.heap.size + 1, 0, none⟩ = some (.int .i64 f) ∧ w'.cell? ⟨w.heap.size + 1, 1, none⟩ = some (.int .i64 t) ∧ w'.cell? ⟨w.heap.size + 1, 2, none⟩ = some (.int .i64 a) ∧ Hid (Below wb.heap.size wb w')) :=
      Lib.hid fun w' hw => ⟨Keep.below hw _ _ n0, Keep.below hw _ _ n1, Keep.below hw _ _ c0, Keep.below hw _ _ c1, Keep.below hw _ _ c2, Lib.hid hw⟩
    have KN : Hid (∀ w', Below wb.heap.size wb w' → RdNet w' (netV N P R pc rc) N) := Lib.hid fun w' hw => (hN0.out.keep (Keep.below (HW.out.trans (hw.mono HW.out.size))))
    go_region_held3 (fun w' => w'.cell? ⟨w.heap.size, 0, none⟩ = some (.slice P N.places.length pc) ∧ w'.cell? ⟨w.heap.size, 1, none⟩ = some (.slice R N.roads.length rc) ∧ w'.cell? ⟨w.heap.size + 1, 0, none⟩ = some (.int .i64 f) ∧ w'.cell? ⟨w.heap.size + 1, 1, none⟩ = some (.int .i64 t) ∧ w'.cell? ⟨w.heap.size + 1, 2, none⟩ = some (.int .i64 a) ∧ Hid (Below wb.heap.size wb w'))
      (first
        | exact MK.out _ HBd.out
        | (go_split_ands; exact ⟨by assumption, by assumption, by assumption, by assumption, by assumption, by assumption⟩)
        | (go_split_ands; exact MK.out _ (Below.trans (Hid.out (by assumption)) (hb1.mono (Hid.out (by assumption) : Below wb.heap.size wb _).size)))
        | (go_split_ands; exact MK.out _ (Below.alloc (Hid.out (by assumption)) (Hid.out (by assumption) : Below wb.heap.size wb _).size _)))
      ((first
        | (go_at_call 80
           go_split_ands
           refine (errNet_any N _ _ (KN.out _ (Hid.out (by assumption)))).mono ?_
           rintro e' w1 ⟨rfl, hb1⟩)
        | (go_at_call 98
           go_split_ands
           refine (tripErr_any N _ f t a _ (KN.out _ (Hid.out (by assumption)))).mono ?_
           rintro e' w1 ⟨rfl, hb1⟩)
        | (go_at_call 79
           go_split_ands
           refine (firstError_any [netErr N, tripErr N f t a] _ _ _ (by first | exact arr2New _ _ _ _ | exact ArrI.keep (Keep.drew _) (arr2New _ _ _ _))).mono ?_
           rintro e' w1 ⟨rfl, rfl⟩)))
    all_goals
      rename_i hS
      obtain ⟨-, -, -, -, -, hbb⟩ := hS
      go_wp2_with fail
      go_meet
      first
        | exact ⟨rfl, hbb⟩
  case rest =>
    obtain ⟨rfl, HB⟩ := hcut
    obtain ⟨wp, hwp⟩ : ∃ wp, wp = wc := ⟨_, rfl⟩
    subst hwp
    replace HW := Lib.hid (HW.out.trans (HB.out.mono HW.out.size))
    replace BN := Lib.hid (BN.out.keep (Keep.below HB.out))
    replace BT := Lib.hid (BT.out.keep (Keep.below HB.out))
    clear HB n0 n1 c0 c1 c2
    by_cases he : estErr N f t a = 0
    · obtain ⟨hE, hT⟩ := estErr_ok he
      have HE := Lib.hid hE
      obtain ⟨hpf, hpt, hta⟩ := tripErr_ok hT
      have hta := timeErr_ok hta
      obtain ⟨f0, f1⟩ := isPlace_in hpf
      obtain ⟨t0, t1⟩ := isPlace_in hpt
      have HF0 := Lib.hid (show fastErr N (latest N) f t a = if listI (search N f a (latest N)).labels t.toNat = -1 then 12 else 0 from if_pos he)
      rw [he]
      clear he hE hT hpf hpt
      obtain ⟨X, hX⟩ : ∃ X : Nat, f = X := ⟨_, (Int.toNat_of_nonneg f0).symm⟩
      obtain ⟨Y, hY⟩ : ∃ Y : Nat, t = Y := ⟨_, (Int.toNat_of_nonneg t0).symm⟩
      subst hX; subst hY
      have hXl : X < N.places.length := by omega
      have hYl : Y < N.places.length := by omega
      clear f0 f1 t0 t1
      rw [Int.toNat_natCast] at HF0
      obtain ⟨n0, n1⟩ := BN.out
      go_wp2_with fail
      refine (soonest_any N _ _ (hN0.out.keep (Keep.below HW.out)) HE.out).mono ?_
      rintro e' w2 ⟨f1, rfl, hf1, hb1⟩
      replace HW := Lib.hid (HW.out.trans (hb1.mono HW.out.size))
      replace BN := Lib.hid (BN.out.keep (Keep.below hb1))
      replace BT := Lib.hid (BT.out.keep (Keep.below hb1))
      have HF1 := Lib.hid hf1
      clear hf1
      clear n0 n1
      clear hb1
      obtain ⟨n0, n1⟩ := BN.out
      go_wp2_with fail
      refine (latest_any N _ _ (hN0.out.keep (Keep.below HW.out)) HE.out).mono ?_
      rintro e' w3 ⟨f2, rfl, hf2, hb1⟩
      replace HW := Lib.hid (HW.out.trans (hb1.mono HW.out.size))
      replace BN := Lib.hid (BN.out.keep (Keep.below hb1))
      replace BT := Lib.hid (BT.out.keep (Keep.below hb1))
      have HF2 := Lib.hid hf2
      clear hf2 HF1
      clear n0 n1
      clear hb1
      obtain ⟨n0, n1⟩ := BN.out
      obtain ⟨c0, c1, c2⟩ := BT.out
      go_wp2_with fail
      refine (search_any N (latest N) _ f2 X a _ (hN0.out.keep (Keep.below HW.out)) HE.out HF2.out (latest_small HE.out) hXl hta.1 (by omega)).mono ?_
      rintro e' w4 ⟨gl, ga, rfl, hrl, hra, -, -, hb1⟩
      replace HW := Lib.hid (HW.out.trans (hb1.mono HW.out.size))
      replace BN := Lib.hid (BN.out.keep (Keep.below hb1))
      replace BT := Lib.hid (BT.out.keep (Keep.below hb1))
      have HRL := Lib.hid hrl
      have HRA := Lib.hid hra
      clear hrl hra
      clear n0 n1 c0 c1 c2
      clear hb1
      have HTR := Lib.hid (TreeAt.new w4 (.slice (some ⟨gl, 0, none⟩) N.places.length N.places.length) (.slice (some ⟨ga, 0, none⟩) N.places.length N.places.length) 154)
      have hb8 : Below w4.heap.size w4 (w4.alloc (.cells #[.slice (some ⟨gl, 0, none⟩) N.places.length N.places.length, .slice (some ⟨ga, 0, none⟩) N.places.length N.places.length] 154)) := (Below.refl _ _).alloc (Nat.le_refl _) _
      replace HRL := Lib.hid (HRL.out.keep hb8)
      replace HRA := Lib.hid (HRA.out.keep hb8)
      replace HW := Lib.hid (HW.out.trans (hb8.mono HW.out.size))
      replace BN := Lib.hid (BN.out.keep (Keep.below hb8))
      replace BT := Lib.hid (BT.out.keep (Keep.below hb8))
      clear hb8
      have HZL : Y < (search N X a (latest N)).labels.length := by rw [search_len.1]; exact hYl
      have t0 := HRL.out.int (i := Y) HZL
      have hun : (Y : Int) < (N.places.length : Int) := by omega
      obtain ⟨n0, n1⟩ := BN.out
      obtain ⟨c0, c1, c2⟩ := BT.out
      obtain ⟨q0, q1, -, -⟩ := HTR.out
      by_cases hl : listI (search N X a (latest N)).labels Y = -1
      · have e1 : (listI (search N X a (latest N)).labels Y == -1) = true := by simpa using hl
        have HF := Lib.hid (HF0.out.trans (if_pos hl))
        clear hl
        go_wp2_with fail
        refine bodyPost_ret (v := .tuple #[.slice none 0 0, .int .i64 12]) (by simp [results, Try.results47, go_sem]) rfl ⟨[], none, 0, by rw [HF.out]; rfl, arrNil _, fun h => absurd (show (12 : Int) = 0 by rw [HF.out] at h; exact h) (by decide), fun _ => rfl, HW.out⟩
      · have e1 : (listI (search N X a (latest N)).labels Y == -1) = false := by simpa using hl
        have HF := Lib.hid (HF0.out.trans (if_neg hl))
        clear hl
        obtain ⟨rk, hbk⟩ := (search_found (N := N) (nx := latest N) (src := X) (L := a) (net_joined HE.out) (latest_good HE.out) hXl hta.1).back'
        have HBK := Lib.hid hbk
        clear hbk
        go_wp2_with fail
        refine (wayTo_any N _ _ rk gl ga Y _ (hN0.out.keep (Keep.below HW.out)) HE.out HRA.out HBK.out hYl).mono ?_
        rintro e' w5 ⟨l, A, c, hch, rfl, hA, hb1⟩
        have HX := Lib.hid (HW.out.trans (hb1.mono HW.out.size))
        have HA := Lib.hid hA
        have HCH := Lib.hid hch
        clear hA hch hb1 n0 n1 c0 c1 c2 q0 q1 t0
        go_wp2_with fail
        refine bodyPost_ret (v := .tuple #[.slice A l.length c, .int .i64 0]) (by simp [results, Try.results47, go_sem]) rfl ⟨l.reverse, A, c, by rw [HF.out, List.length_reverse], HA.out, fun _ => by rw [List.reverse_reverse, Int.toNat_natCast]; exact HCH.out, fun h => absurd HF.out h, HX.out⟩
    · have e1 : (estErr N f t a == 0) = false := by simpa using he
      have e2 : (estErr N f t a != 0) = true := by simpa using he
      have HF := Lib.hid (show fastErr N (latest N) f t a = estErr N f t a from if_neg he)
      have HNE := Lib.hid he
      clear he
      go_wp2_with fail
      refine bodyPost_ret (v := .tuple #[.slice none 0 0, .int .i64 (estErr N f t a)]) (by simp [results, Try.results47, go_sem]) rfl ⟨[], none, 0, by rw [HF.out]; rfl, arrNil _, fun h => absurd (HF.out.symm.trans h) HNE.out, fun _ => rfl, HW.out⟩
end Go.Proofs.Ythipneggplebcaa

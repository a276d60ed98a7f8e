/- Shortest: a way back along the last roads, and the label of its end. Condition: the net can be read. -/
import Derived.Test.YtndhpdjcpagghaaGreatDoorT24
namespace Go.Proofs.YtndhpdjcpagghaaGreatDoor
open Go.RowKit Fs

def Fs.shErr (N : Net) (f t : Int) : Int := fst (listI [netErr N, placesErr N [f, t]]) 2
/-- The metres of a shortest way, and why there is none. -/
def Fs.shortest (N : Net) (f t : Int) : Int × Int :=
  if shErr N f t = 0 then (if listI (heights N f) t.toNat = -1 then (0, 12) else (listI (heights N f) t.toNat, 0)) else (0, shErr N f t)
theorem Fs.shErr_ok {N : Net} {f t : Int} (h : shErr N f t = 0) : netErr N = 0 ∧ (0 ≤ f ∧ f < N.places.length) ∧ 0 ≤ t ∧ t < N.places.length := by
  have h1 : placesErr N [f, t] = 0 := fst_zero h 1 (by decide)
  exact ⟨fst_zero h 0 (by decide), place_in h1 (k := 0) (by show 0 < 2; decide), place_in h1 (k := 1) (by show 1 < 2; decide)⟩

set_option maxHeartbeats 6400000 in
set_option maxRecDepth 100000 in
theorem shortest_any (N : Net) (v : Value) (f t : Int) (w : World) (hN : RdNet w v N) :
    Calls Tryz.prog 25 #[v, .int .i64 f, .int .i64 t] w fun e w' => ∃ (l : List Int) (A : Option Addr) (c : Nat), e = .returned (.tuple #[.slice A l.length c, .int .i64 (shortest N f t).1, .int .i64 (shortest N f t).2]) ∧ ArrI w' A l.reverse c ∧
      ((shortest N f t).2 = 0 → Chain N (search N f 0 (further N)).last t.toNat l) ∧ ((shortest N f t).2 ≠ 0 → l = []) ∧ Below w.heap.size w w' := by
  have hN0 := Lib.hid hN
  obtain ⟨P, R, pc, rc, ar, rfl, mm⟩ := hN
  clear mm
  have BN := Lib.hid (BoxN.new w N P R pc rc 25)
  go_enter Tryz.func25, Tryz.ntmps25
  go_upto_region 1 with fail
  generalize hwb : w.alloc _ = wb at *
  have HW : Hid (Below w.heap.size w wb) := by rw [← hwb]; exact Lib.hid ((Below.refl _ _).alloc (Nat.le_refl _) _)
  clear hwb
  obtain ⟨n0, n1⟩ := BN.out
  go_cut [9] from 11 to 19 (fun s wx => s = .int .i64 (shErr N f t) ∧ Hid (Below wb.heap.size wb wx))
  case first =>
    have HBd : Hid (Below wb.heap.size wb wb.drew) := Lib.hid (Below.refl _ _).drew
    have MK : Hid (∀ w', Below wb.heap.size wb w' → w'.cell? ⟨w.heap.size, 0, none⟩ = some (.slice P N.places.length pc) ∧ w'.cell? ⟨w.heap.size, 1, none⟩ = some (.slice R N.roads.length rc) ∧ Hid (Below wb.heap.size wb w')) :=
      Lib.hid fun w' hw => ⟨Keep.below hw _ _ n0, Keep.below hw _ _ n1, Lib.hid hw⟩
    go_region_held3 (fun w' => w'.cell? ⟨w.heap.size, 0, none⟩ = some (.slice P N.places.length pc) ∧ w'.cell? ⟨w.heap.size, 1, none⟩ = some (.slice R N.roads.length rc) ∧ Hid (Below wb.heap.size wb w'))
      (first
        | exact MK.out _ HBd.out
        | (go_split_ands; exact ⟨by assumption, by assumption, by assumption⟩)
        | (go_split_ands; exact MK.out _ (Below.trans (Hid.out (by assumption)) (hb1.mono (Hid.out (by assumption) : Below wb.heap.size wb _).size)))
        | (go_split_ands; exact MK.out _ (Below.alloc (Hid.out (by assumption)) (Hid.out (by assumption) : Below wb.heap.size wb _).size _)))
      ((first
          | (go_at_call 30
             go_split_ands
             refine (errNet_any N _ _ (hN0.out.keep (Keep.below (HW.out.trans ((Hid.out (by assumption) : Below wb.heap.size wb _).mono HW.out.size))))).mono ?_
             rintro e' w1 ⟨rfl, hb1⟩
             have KH := Keep.below hb1)
          | (go_at_call 58
             go_split_ands
             refine (placesErr_any N _ [f, t] _ _ _ (hN0.out.keep (Keep.below (HW.out.trans ((Hid.out (by assumption) : Below wb.heap.size wb _).mono HW.out.size)))) (by first | exact arr2New _ f t _ | exact ArrI.keep (Keep.drew _) (arr2New _ f t _) | exact ArrI.keep KH (arr2New _ f t _) | exact ArrI.keep KH (ArrI.keep (Keep.drew _) (arr2New _ f t _)))).mono ?_
             rintro e' w1 ⟨rfl, hb1⟩)
          | (go_at_call 51
             refine (firstError_any [netErr N, placesErr N [f, t]] _ _ _ (by first | exact arr2New _ _ _ _ | exact ArrI.keep (Keep.drew _) (arr2New _ _ _ _))).mono ?_
             rintro e' w1 ⟨rfl, rfl⟩)))
    all_goals
      rename_i hS
      obtain ⟨-, -, hbb⟩ := hS
      go_wp2_with fail
      go_meet
      exact ⟨rfl, hbb⟩
  case rest =>
    obtain ⟨rfl, HB⟩ := hcut
    obtain ⟨wp, hwp⟩ : ∃ wp, wp = wc := ⟨_, rfl⟩
    subst hwp
    clear n0 n1
    have HX := Lib.hid (HW.out.trans (HB.out.mono HW.out.size))
    by_cases he : shErr N f t = 0
    · have hEE := Lib.hid (shErr_ok he)
      have HF0 := Lib.hid (show shortest N f t = _ from if_pos he)
      rw [he]
      clear he
      obtain ⟨s, hs⟩ : ∃ s : Nat, f = s := ⟨_, (Int.toNat_of_nonneg hEE.out.2.1.1).symm⟩
      obtain ⟨u, hu⟩ : ∃ u : Nat, t = u := ⟨_, (Int.toNat_of_nonneg hEE.out.2.2.1).symm⟩
      have hsl : s < N.places.length := by have := hEE.out.2.1.2; omega
      have hul : u < N.places.length := by have := hEE.out.2.2.2; omega
      subst hs
      subst hu
      have HE := Lib.hid hEE.out.1
      obtain ⟨n0, n1⟩ := BN.out.keep (Keep.below HB.out)
      go_wp2_with fail
      go_cut [10] from 23 to 27 (fun x wx => ∃ g gl ga : Nat, x = .pointer (some ⟨g, 0, none⟩) ∧ Hid (TreeAt wx g (.slice (some ⟨gl, 0, none⟩) N.places.length N.places.length) (.slice (some ⟨ga, 0, none⟩) N.places.length N.places.length)) ∧
        Hid (RowV wx gl 3 ((heights N (s : Int)).map (Value.int .i64))) ∧ Hid (RowV wx ga 3 ((search N s 0 (further N)).last.map (Value.int .i64))) ∧ Hid (Below wp.heap.size wp wx))
      case first =>
        have HBd : Hid (Below wp.heap.size wp wp.drew) := Lib.hid (Below.refl _ _).drew
        have MK : Hid (∀ w', Below wp.heap.size wp w' → w'.cell? ⟨w.heap.size, 0, none⟩ = some (.slice P N.places.length pc) ∧ w'.cell? ⟨w.heap.size, 1, none⟩ = some (.slice R N.roads.length rc) ∧ Hid (Below wp.heap.size wp w')) :=
          Lib.hid fun w' hw => ⟨Keep.below hw _ _ n0, Keep.below hw _ _ n1, Lib.hid hw⟩
        have KN : Hid (∀ w', Below wp.heap.size wp w' → RdNet w' (netV N P R pc rc) N) := Lib.hid fun w' hw => (hN0.out.keep (Keep.below (HX.out.trans (hw.mono HX.out.size))))
        go_region_held3 (fun w' => w'.cell? ⟨w.heap.size, 0, none⟩ = some (.slice P N.places.length pc) ∧ w'.cell? ⟨w.heap.size, 1, none⟩ = some (.slice R N.roads.length rc) ∧ Hid (Below wp.heap.size wp w'))
          (first
            | exact MK.out _ HBd.out
            | (go_split_ands; exact MK.out _ (Below.trans (Hid.out (by assumption)) (hb1.mono (Hid.out (by assumption) : Below wp.heap.size wp _).size)))
            | (go_split_ands; exact MK.out _ (Below.alloc (Hid.out (by assumption)) (Hid.out (by assumption) : Below wp.heap.size wp _).size _))
            | (go_split_ands; exact MK.out _ (below_realloc (Hid.out (by assumption)) hle _))
            | (go_split_ands; exact MK.out _ (Below.setCell (Below.setCell (Hid.out (by assumption)) (by show wp.heap.size ≤ _; first | exact Nat.le_refl _ | assumption | omega | (simp; done) | (simp; omega)) _) (by show wp.heap.size ≤ _; first | exact Nat.le_refl _ | assumption | omega | (simp; done) | (simp; omega)) _)))
          ((first
            | (go_at_call 60
               go_split_ands
               refine (further_any N _ _ (KN.out _ (Hid.out (by assumption))) HE.out).mono ?_
               rintro e' w2 ⟨f1, rfl, hf1, hb1⟩
               have hle := Nat.le_trans (Hid.out (by assumption) : Below wp.heap.size wp _).size hb1.size
               have HF1 := Lib.hid hf1
               clear hf1
               try (first
                 | (have HT0 := ((TreeAt.new _ _ _ 121).keep hb1 : TreeAt _ _ (.slice none 0 0) (.slice none 0 0)); (try simp only [size_drew] at HT0); (try simp only [World.size_alloc] at HT0); (try simp only [size_drew] at HT0); have HT := Lib.hid HT0; clear HT0; obtain ⟨q0, q1, qf0, qf1⟩ := HT.out)
                 | (have HT0 := ((TreeAt.new _ _ _ 121).keepD hb1 : TreeAt _ _ (.slice none 0 0) (.slice none 0 0)); (try simp only [size_drew] at HT0); (try simp only [World.size_alloc] at HT0); (try simp only [size_drew] at HT0); have HT := Lib.hid HT0; clear HT0; obtain ⟨q0, q1, qf0, qf1⟩ := HT.out)))
            | (go_at_call 59
               go_split_ands
               refine (search_any N (further N) _ f1 s 0 _ (KN.out _ (Hid.out (by assumption))) HE.out (by first | exact HF1.out | exact HF1.out.below (Below.refl _ _).drew | exact HF1.out.alloc _) (further_small HE.out) hsl (by decide) (by decide)).mono ?_
               rintro e' w2 ⟨gl, ga, rfl, hrl, hra, hgl1, hga1, hb1⟩
               try (have hTl := HT.out.lt)
               try simp only [size_drew] at hgl1
               try simp only [World.size_alloc] at hgl1
               try simp only [size_drew] at hga1
               try simp only [World.size_alloc] at hga1
               have hle := Nat.le_trans (Hid.out (by assumption) : Below wp.heap.size wp _).size hb1.size
               have HRL := Lib.hid hrl
               have HRA := Lib.hid hra
               clear hrl hra
               try (first
                 | (have HT0 := (HT.out.keep hb1 : TreeAt _ _ (.slice none 0 0) (.slice none 0 0)); (try simp only [size_drew] at HT0); (try simp only [World.size_alloc] at HT0); (try simp only [size_drew] at HT0); have HT := Lib.hid HT0; clear HT0; obtain ⟨q0, q1, qf0, qf1⟩ := HT.out)
                 | (have HT0 := ((TreeAt.new _ _ _ 121).keep hb1 : TreeAt _ _ (.slice none 0 0) (.slice none 0 0)); (try simp only [size_drew] at HT0); (try simp only [World.size_alloc] at HT0); (try simp only [size_drew] at HT0); have HT := Lib.hid HT0; clear HT0; obtain ⟨q0, q1, qf0, qf1⟩ := HT.out)))))
        all_goals
          rename_i hS
          obtain ⟨-, -, hbb⟩ := hS
          go_wp2_with fail
          go_meet
          first
            | exact ⟨_, gl, ga, rfl, Lib.hid (TreeAt.new _ _ _ _), Lib.hid (HRL.out.alloc _), Lib.hid (HRA.out.alloc _), hbb⟩
            | exact ⟨_, gl, ga, rfl, Lib.hid (HT.out.set _ _), Lib.hid ((HRL.out.far (by dsimp only; omega) _).far (by dsimp only; omega) _), Lib.hid ((HRA.out.far (by dsimp only; omega) _).far (by dsimp only; omega) _), hbb⟩
      case rest =>
        obtain ⟨g, gl, ga, rfl, HT, HRL, HRA, HBF⟩ := hcut
        obtain ⟨wq, hwq⟩ : ∃ wq, wq = wc := ⟨_, rfl⟩
        subst hwq
        clear n0 n1
        have HY := Lib.hid (HX.out.trans (HBF.out.mono HX.out.size))
        have HZL : u < (heights N (s : Int)).length := by unfold heights; rw [search_len.1]; exact hul
        have t0 := HRL.out.int (i := u) HZL
        have hun : (u : Int) < (N.places.length : Int) := by omega
        obtain ⟨q0, q1, -, -⟩ := HT.out
        by_cases hl : listI (heights N (s : Int)) u = -1
        · have e1 : (listI (heights N (s : Int)) u == -1) = true := by simpa using hl
          have HF := Lib.hid (show shortest N (s : Int) (u : Int) = (0, 12) from HF0.out.trans (if_pos (by rw [Int.toNat_natCast]; exact hl)))
          clear hl HF0
          go_wp2_with fail
          refine bodyPost_ret (v := .tuple #[.slice none 0 0, .int .i64 0, .int .i64 12]) (by simp [results, Tryz.results25, go_sem]) rfl ⟨[], none, 0, by rw [HF.out]; rfl, arrNil _, fun h => absurd (show (12 : Int) = 0 by rw [HF.out] at h; exact h) (by decide), fun _ => rfl, HY.out⟩
        · have e1 : (listI (heights N (s : Int)) u == -1) = false := by simpa using hl
          have HF := Lib.hid (show shortest N (s : Int) (u : Int) = (listI (heights N (s : Int)) u, 0) from HF0.out.trans ((if_neg (by rw [Int.toNat_natCast]; exact hl)).trans (by rw [Int.toNat_natCast])))
          clear hl HF0
          obtain ⟨rk, hbk⟩ := (search_found (N := N) (nx := further N) (src := s) (L := 0) (net_joined HE.out) (further_good HE.out) hsl (Int.le_refl _)).back'
          have HBK := Lib.hid hbk
          clear hbk
          obtain ⟨n0, n1⟩ := BN.out.keep (Keep.below (HB.out.trans (HBF.out.mono HB.out.size)))
          go_upto_region 7 with fail
          have HBd : Hid (Below wq.heap.size wq wq.drew) := Lib.hid (Below.refl _ _).drew
          have MK : Hid (∀ w', Below wq.heap.size wq w' → w'.cell? ⟨w.heap.size, 0, none⟩ = some (.slice P N.places.length pc) ∧ w'.cell? ⟨w.heap.size, 1, none⟩ = some (.slice R N.roads.length rc) ∧ w'.cell? ⟨g, 0, none⟩ = some (.slice (some ⟨gl, 0, none⟩) N.places.length N.places.length) ∧ w'.cell? ⟨g, 1, none⟩ = some (.slice (some ⟨ga, 0, none⟩) N.places.length N.places.length) ∧ w'.cell? ⟨gl, u, none⟩ = some (.int .i64 (listI (heights N (s : Int)) u)) ∧ Hid (Below wq.heap.size wq w')) :=
            Lib.hid fun w' hw => ⟨Keep.below hw _ _ n0, Keep.below hw _ _ n1, Keep.below hw _ _ q0, Keep.below hw _ _ q1, Keep.below hw _ _ t0, Lib.hid hw⟩
          have KN : Hid (∀ w', Below wq.heap.size wq w' → RdNet w' (netV N P R pc rc) N) := Lib.hid fun w' hw => (hN0.out.keep (Keep.below (HY.out.trans (hw.mono HY.out.size))))
          have KR : Hid (∀ w', Below wq.heap.size wq w' → RowV w' ga 3 ((search N s 0 (further N)).last.map (Value.int .i64))) := Lib.hid fun w' hw => HRA.out.keep hw
          go_region_held3 (fun w' => w'.cell? ⟨w.heap.size, 0, none⟩ = some (.slice P N.places.length pc) ∧ w'.cell? ⟨w.heap.size, 1, none⟩ = some (.slice R N.roads.length rc) ∧ w'.cell? ⟨g, 0, none⟩ = some (.slice (some ⟨gl, 0, none⟩) N.places.length N.places.length) ∧ w'.cell? ⟨g, 1, none⟩ = some (.slice (some ⟨ga, 0, none⟩) N.places.length N.places.length) ∧ w'.cell? ⟨gl, u, none⟩ = some (.int .i64 (listI (heights N (s : Int)) u)) ∧ Hid (Below wq.heap.size wq w'))
            (first
              | exact MK.out _ HBd.out
              | (go_split_ands; exact ⟨by assumption, by assumption, by assumption, by assumption, by assumption, by assumption⟩)
              | (go_split_ands; exact MK.out _ (Below.trans (Hid.out (by assumption)) (hb1.mono (Hid.out (by assumption) : Below wq.heap.size wq _).size))))
            ((first
              | (go_at_call 61
                 go_split_ands
                 refine (wayTo_any N _ _ rk gl ga u _ (KN.out _ (Hid.out (by assumption))) HE.out (KR.out _ (Hid.out (by assumption))) HBK.out hul).mono ?_
                 rintro e' w2 ⟨l, A, c, hch, rfl, hA, hb1⟩
                 have HA := Lib.hid hA
                 have HCH := Lib.hid hch
                 clear hA hch)))
          all_goals
            rename_i hS
            obtain ⟨-, -, -, -, -, hbb⟩ := hS
            go_wp2_with fail
            refine bodyPost_ret (v := .tuple #[.slice A l.length c, .int .i64 (listI (heights N (s : Int)) u), .int .i64 0]) (by simp [results, Tryz.results25, go_sem]) rfl ⟨l, A, c, by rw [HF.out], HA.out, fun _ => by rw [Int.toNat_natCast]; exact HCH.out, fun h => absurd (by rw [HF.out]) h, HY.out.trans (hbb.out.mono HY.out.size)⟩
    · have hz : (shErr N f t == 0) = false := by simpa using he
      have HF := Lib.hid (show shortest N f t = (0, shErr N f t) from if_neg he)
      have HNE := Lib.hid he
      clear he
      go_wp2_with fail
      refine bodyPost_ret (v := .tuple #[.slice none 0 0, .int .i64 0, .int .i64 (shErr N f t)]) (by simp [results, Tryz.results25, go_sem]) rfl ⟨[], none, 0, by rw [HF.out]; rfl, arrNil _, fun h => absurd (by rw [HF.out] at h; exact h) HNE.out, fun _ => rfl, HX.out⟩
end Go.Proofs.YtndhpdjcpagghaaGreatDoor

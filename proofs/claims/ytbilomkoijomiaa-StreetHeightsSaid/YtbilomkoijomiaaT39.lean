/- The arrivals of a way, and its metres. Condition: the net can be read. -/
import Derived.Test.YtbilomkoijomiaaT38
namespace Go.Proofs.Ytbilomkoijomiaa
open Go.RowKit Fs

def Fs.arrivals (N : Net) (l : List Int) (a : Int) : Int × Int := (alongTo (soonest N) l.length l a, alongTo (latest N) l.length l a)
def Fs.avErr (N : Net) (l : List Int) (a : Int) : Int := fst (listI [cwErr N l, timeErr a]) 2
def Fs.arrOf (N : Net) (l : List Int) (a : Int) : (Int × Int) × Int := if avErr N l a = 0 then (arrivals N l a, 0) else ((0, 0), avErr N l a)
theorem Fs.cwErr_ok {N : Net} {l : List Int} (h : cwErr N l = 0) : netErr N = 0 ∧ wayErr N l = 0 := by
  unfold cwErr at h
  by_cases e : netErr N = 0
  · rw [if_pos e] at h; exact ⟨e, h⟩
  · rw [if_neg e] at h; exact absurd h e
theorem Fs.timeErr_ok {a : Int} (h : timeErr a = 0) : 0 ≤ a ∧ a ≤ 604800 := by
  unfold timeErr at h
  cases hp : within a 0 604800 with
  | true => exact Fs.within_iff.1 hp
  | false => rw [hp] at h; exact absurd h (by decide)
theorem Fs.avErr_ok {N : Net} {l : List Int} {a : Int} (h : avErr N l a = 0) : netErr N = 0 ∧ wayErr N l = 0 ∧ 0 ≤ a ∧ a ≤ 604800 :=
  ⟨(cwErr_ok (fst_zero h 0 (by decide))).1, (cwErr_ok (fst_zero h 0 (by decide))).2, timeErr_ok (fst_zero h 1 (by decide))⟩
theorem few_lens {N : Net} (h : fewN N = true) : N.places.length ≤ 1000000 ∧ N.roads.length ≤ 1000000 ∧ ∀ i, i < N.roads.length → (listD N.roads i).pts.length ≤ 1000000 := by
  obtain ⟨h1, h2, -, h4⟩ := fewN_is h
  exact ⟨by omega, by omega, fun i hi => by have := (h4 i hi).2; omega⟩
theorem MarkAt.keepB {w w' : World} {g : Nat} (m : MarkAt w g) (h : Below w.heap.size w w') : MarkAt w' g := m.below h m.lt

set_option maxHeartbeats 6400000 in
set_option maxRecDepth 100000 in
theorem arrivalOf_any (N : Net) (v : Value) (l : List Int) (A : Option Addr) (c : Nat) (a : Int) (w : World) (hN : RdNet w v N) (h : ArrI w A l c) (hE : netErr N = 0) (hl : ∀ j, j < l.length → 0 ≤ listI l j ∧ listI l j < N.roads.length) (hn : l.length ≤ 1000000) (h0 : 0 ≤ a) (h1 : a ≤ 1000000) :
    Calls Try.prog 77 #[v, .slice A l.length c, .int .i64 a] w fun e w' => e = .returned (.agg #[.int .i64 (arrivals N l a).1, .int .i64 (arrivals N l a).2]) ∧ Below w.heap.size w w' := by
  have hN0 := Lib.hid hN
  obtain ⟨P, R, pc, rc, ar, rfl, m⟩ := hN
  clear m
  have HA := Lib.hid h
  have HLL := Lib.hid hl
  clear h hl
  have BN := Lib.hid ((BoxN.new w N P R pc rc 25).keep (Keep.alloc _ (.cells #[.int .i64 0, .int .i64 0] 35)))
  have RT := Lib.hid (show MarkAt ((w.alloc (.cells #[.slice P N.places.length pc, .slice R N.roads.length rc] 25)).alloc (.cells #[.int .i64 0, .int .i64 0] 35)) (w.heap.size + 1) from by
    have := MarkAt.new (w.alloc (.cells #[.slice P N.places.length pc, .slice R N.roads.length rc] 25)) 35
    simpa using this)
  go_enter Try.func77, Try.ntmps77
  go_upto_region 1 with fail
  generalize hwb : (w.alloc _).alloc _ = wb at *
  have HW : Hid (Below w.heap.size w wb) := by rw [← hwb]; exact Lib.hid (((Below.refl _ _).alloc (Nat.le_refl _) _).alloc (by simp) _)
  have HWS : Hid (w.heap.size + 2 = wb.heap.size) := by rw [← hwb]; exact Lib.hid (by simp)
  clear hwb
  obtain ⟨n0, n1⟩ := BN.out
  have HBd : Hid (Below (w.heap.size + 1) wb wb.drew) := Lib.hid (Below.refl _ _).drew
  have HWB := Lib.hid (show w.heap.size + 1 ≤ wb.heap.size by have := HWS.out; omega)
  have MK : Hid (∀ w', Below (w.heap.size + 1) wb w' → w'.cell? ⟨w.heap.size, 0, none⟩ = some (.slice P N.places.length pc) ∧ w'.cell? ⟨w.heap.size, 1, none⟩ = some (.slice R N.roads.length rc) ∧ Hid (Below (w.heap.size + 1) wb w')) :=
    Lib.hid fun w' hw => ⟨(hw.cell (p := ⟨w.heap.size, 0, none⟩) (Nat.lt_succ_self _)).trans n0, (hw.cell (p := ⟨w.heap.size, 1, none⟩) (Nat.lt_succ_self _)).trans n1, Lib.hid hw⟩
  go_cut [] from 7 to 17 (fun wx => Hid (wx.cell? ⟨w.heap.size + 1, 0, none⟩ = some (.int .i64 (arrivals N l a).1)) ∧ Hid (wx.cell? ⟨w.heap.size + 1, 1, none⟩ = some (.int .i64 (arrivals N l a).2)) ∧ Hid (Below w.heap.size w wx))
  case first =>
    have HT : Hid (MarkAt wb.drew (w.heap.size + 1)) := Lib.hid ⟨RT.out.c0, RT.out.c1, RT.out.f0, RT.out.f1⟩
    go_region_held3 (fun w' => w'.cell? ⟨w.heap.size, 0, none⟩ = some (.slice P N.places.length pc) ∧ w'.cell? ⟨w.heap.size, 1, none⟩ = some (.slice R N.roads.length rc) ∧ Hid (Below (w.heap.size + 1) wb w'))
      (first
        | exact MK.out _ HBd.out
        | (go_split_ands; exact MK.out _ (Below.trans (Hid.out (by assumption)) (hb1.mono (Nat.le_trans HWB.out (Hid.out (by assumption) : Below (w.heap.size + 1) wb _).size))))
        | (go_split_ands; exact MK.out _ (Below.setCell (p := ⟨w.heap.size + 1, 1, none⟩) (Below.setCell (p := ⟨w.heap.size + 1, 0, none⟩) (Hid.out (by assumption)) (Nat.le_refl _) _) (Nat.le_refl _) _)))
      ((first
        | (go_at_call 88
           go_split_ands
           refine (soonest_any N _ _ (hN0.out.keep (Keep.below (HW.out.trans ((Hid.out (by assumption) : Below (w.heap.size + 1) wb _).mono (Nat.le_succ _))))) hE).mono ?_
           rintro e' w1 ⟨f1, rfl, hf1, hb1⟩
           have HT := Lib.hid (MarkAt.keepB (HT.out) hb1)
           have HF1 := Lib.hid hf1
           clear hf1
           try (have HF2 := Lib.hid (HF2.out.below hb1))
           obtain ⟨r0, r1, rf0, rf1⟩ := HT.out)
        | (go_at_call 89
           go_split_ands
           refine (latest_any N _ _ (hN0.out.keep (Keep.below (HW.out.trans ((Hid.out (by assumption) : Below (w.heap.size + 1) wb _).mono (Nat.le_succ _))))) hE).mono ?_
           rintro e' w1 ⟨f2, rfl, hf2, hb1⟩
           have HT := Lib.hid (MarkAt.keepB (HT.out) hb1)
           have HF2 := Lib.hid hf2
           clear hf2
           try (have HF1 := Lib.hid (HF1.out.below hb1))
           obtain ⟨r0, r1, rf0, rf1⟩ := HT.out)
        | (go_at_call 78
           with_reducible show Calls _ _ #[f1, _, _] _ _
           go_split_ands
           refine (along_any N (soonest N) f1 a l A c _ HF1.out (soonest_small hE) (HA.out.keep (Keep.below (HW.out.trans ((Hid.out (by assumption) : Below (w.heap.size + 1) wb _).mono (Nat.le_succ _))))) HLL.out h0 h1 hn).mono ?_
           rintro e' w2 ⟨rfl, hb1⟩
           have HT := Lib.hid (MarkAt.keepB (HT.out) hb1)
           try (have HF2 := Lib.hid (HF2.out.below hb1))
           obtain ⟨r0, r1, rf0, rf1⟩ := HT.out)
        | (go_at_call 78
           with_reducible show Calls _ _ #[f2, _, _] _ _
           go_split_ands
           refine (along_any N (latest N) f2 a l A c _ HF2.out (latest_small hE) (HA.out.keep (Keep.below (HW.out.trans ((Hid.out (by assumption) : Below (w.heap.size + 1) wb _).mono (Nat.le_succ _))))) HLL.out h0 h1 hn).mono ?_
           rintro e' w2 ⟨rfl, hb1⟩
           have HT := Lib.hid (MarkAt.keepB (HT.out) hb1)
           try (have HF1 := Lib.hid (HF1.out.below hb1))
           obtain ⟨r0, r1, rf0, rf1⟩ := HT.out)))
    all_goals
      rename_i hS
      obtain ⟨-, -, hbb⟩ := hS
      go_wp2_with fail
      go_meet
      exact ⟨Lib.hid (mark_two HT.out _ _).1, Lib.hid (mark_two HT.out _ _).2, Lib.hid (HW.out.trans (hbb.out.mono (Nat.le_succ _)))⟩
  case rest =>
    obtain ⟨R0, R1, HB⟩ := hcut
    have r0 := R0.out
    have r1 := R1.out
    go_wp2_with fail
    refine bodyPost_ret (v := .agg #[.int .i64 (arrivals N l a).1, .int .i64 (arrivals N l a).2]) (by simp [results, Try.results77, go_sem, r0, r1]) rfl ⟨rfl, HB.out⟩

set_option maxHeartbeats 3200000 in
set_option maxRecDepth 100000 in
theorem arrOf_any (N : Net) (v : Value) (l : List Int) (A : Option Addr) (c : Nat) (a : Int) (w : World) (hN : RdNet w v N) (h : ArrI w A l c) :
    Calls Try.prog 27 #[v, .slice A l.length c, .int .i64 a] w fun e w' => e = .returned (.tuple #[.agg #[.int .i64 (arrOf N l a).1.1, .int .i64 (arrOf N l a).1.2], .int .i64 (arrOf N l a).2]) ∧ Below w.heap.size w w' := by
  have hN0 := Lib.hid hN
  obtain ⟨P, R, pc, rc, ar, rfl, m⟩ := hN
  clear m
  have HA := Lib.hid h
  clear h
  have BN := Lib.hid ((BoxN.new w N P R pc rc 25).keep (Keep.alloc _ (.cells #[.int .i64 0, .int .i64 0] 35)))
  have RT := Lib.hid (show MarkAt ((w.alloc (.cells #[.slice P N.places.length pc, .slice R N.roads.length rc] 25)).alloc (.cells #[.int .i64 0, .int .i64 0] 35)) (w.heap.size + 1) from by
    have := MarkAt.new (w.alloc (.cells #[.slice P N.places.length pc, .slice R N.roads.length rc] 25)) 35
    simpa using this)
  go_enter Try.func27, Try.ntmps27
  go_upto_region 1 with fail
  generalize hwb : (w.alloc _).alloc _ = wb at *
  have HW : Hid (Below w.heap.size w wb) := by rw [← hwb]; exact Lib.hid (((Below.refl _ _).alloc (Nat.le_refl _) _).alloc (by simp) _)
  clear hwb
  obtain ⟨n0, n1⟩ := BN.out
  go_wp2_with fail
  refine (errWay_any N _ l A c _ (hN0.out.keep (Keep.below HW.out)) (HA.out.keep (Keep.below HW.out))).mono ?_
  rintro e' w1 ⟨rfl, hb1⟩
  replace BN := Lib.hid (BN.out.keep (Keep.below hb1))
  replace RT := Lib.hid (RT.out.keepB hb1)
  replace HW := Lib.hid (HW.out.trans (hb1.mono HW.out.size))
  clear hb1 n0 n1
  go_wp2_with fail
  refine (timeErr_any a _).mono ?_
  rintro e' w2 ⟨rfl, rfl⟩
  go_wp2_with fail
  refine (firstError_any [cwErr N l, timeErr a] _ _ _ (arr2New _ _ _ _)).mono ?_
  rintro e' w2 ⟨hfe, rfl⟩
  obtain rfl : e' = .returned (.int .i64 (avErr N l a)) := hfe
  generalize hw2 : w1.alloc _ = w2 at *
  have HB2 : Hid (Below w1.heap.size w1 w2) := by rw [← hw2]; exact Lib.hid ((Below.refl _ _).alloc (Nat.le_refl _) _)
  clear hw2
  replace BN := Lib.hid (BN.out.keep (Keep.below HB2.out))
  replace RT := Lib.hid (RT.out.keepB HB2.out)
  replace HW := Lib.hid (HW.out.trans (HB2.out.mono HW.out.size))
  clear HB2
  by_cases he : avErr N l a = 0
  · have HF := Lib.hid (show arrOf N l a = (arrivals N l a, 0) from if_pos he)
    have HE := Lib.hid (avErr_ok he)
    rw [he]
    clear he
    obtain ⟨n0, n1⟩ := BN.out
    go_wp2_with fail
    refine (arrivalOf_any N _ l A c a _ (hN0.out.keep (Keep.below HW.out)) (HA.out.keep (Keep.below HW.out)) HE.out.1 (fun j hj => ((way_ok HE.out.2.1).2 j hj).1) (by have := (way_ok HE.out.2.1).1; omega) HE.out.2.2.1 (by have := HE.out.2.2.2; omega)).mono ?_
    rintro e' w3 ⟨rfl, hb3⟩
    obtain ⟨r0, r1, rf0, rf1⟩ := RT.out.keepB hb3
    go_wp2_with fail
    refine bodyPost_ret (v := .tuple #[.agg #[.int .i64 (arrivals N l a).1, .int .i64 (arrivals N l a).2], .int .i64 0]) (by simp [results, Try.results27, go_sem, r0, r1]) rfl ⟨by rw [HF.out], ?_⟩
    exact ((HW.out.trans (hb3.mono HW.out.size)).setCell (p := ⟨w.heap.size + 1, 0, none⟩) (by simp) _).setCell (p := ⟨w.heap.size + 1, 1, none⟩) (by simp) _
  · have HF := Lib.hid (show arrOf N l a = ((0, 0), avErr N l a) from if_neg he)
    have e1 : (avErr N l a == 0) = false := by simpa using he
    have e2 : (avErr N l a != 0) = true := by simpa using he
    clear he
    obtain ⟨r0, r1, rf0, rf1⟩ := RT.out
    go_wp2_with fail
    refine bodyPost_ret (v := .tuple #[.agg #[.int .i64 0, .int .i64 0], .int .i64 (avErr N l a)]) (by simp [results, Try.results27, go_sem, r0, r1]) rfl ⟨by rw [HF.out], ?_⟩
    exact (HW.out.setCell (p := ⟨w.heap.size + 1, 0, none⟩) (by simp) _).setCell (p := ⟨w.heap.size + 1, 1, none⟩) (by simp) _

def Fs.metresTo (N : Net) (l : List Int) : Int := alongTo (further N) l.length l 0
def Fs.metOf (N : Net) (l : List Int) : Int × Int := if cwErr N l = 0 then (metresTo N l, 0) else (0, cwErr N l)
set_option maxHeartbeats 1600000 in
set_option maxRecDepth 100000 in
theorem metOf_any (N : Net) (v : Value) (l : List Int) (A : Option Addr) (c : Nat) (w : World) (hN : RdNet w v N) (h : ArrI w A l c) :
    Calls Try.prog 28 #[v, .slice A l.length c] w fun e w' => e = .returned (.tuple #[.int .i64 (metOf N l).1, .int .i64 (metOf N l).2]) ∧ Below w.heap.size w w' := by
  have hN0 := Lib.hid hN
  obtain ⟨P, R, pc, rc, ar, rfl, m⟩ := hN
  clear m
  have HA := Lib.hid h
  clear h
  have BN := Lib.hid (BoxN.new w N P R pc rc 25)
  go_enter Try.func28, Try.ntmps28
  go_upto_region 1 with fail
  generalize hwb : w.alloc _ = wb at *
  have HW : Hid (Below w.heap.size w wb) := by rw [← hwb]; exact Lib.hid ((Below.refl _ _).alloc (Nat.le_refl _) _)
  clear hwb
  obtain ⟨n0, n1⟩ := BN.out
  go_wp2_with fail
  refine (errWay_any N _ l A c _ (hN0.out.keep (Keep.below HW.out)) (HA.out.keep (Keep.below HW.out))).mono ?_
  rintro e' w1 ⟨rfl, hb1⟩
  replace BN := Lib.hid (BN.out.keep (Keep.below hb1))
  replace HW := Lib.hid (HW.out.trans (hb1.mono HW.out.size))
  clear hb1 n0 n1
  by_cases he : cwErr N l = 0
  · have HF := Lib.hid (show metOf N l = (metresTo N l, 0) from if_pos he)
    have HE := Lib.hid (cwErr_ok he)
    rw [he]
    clear he
    obtain ⟨n0, n1⟩ := BN.out
    go_wp2_with fail
    refine (further_any N _ _ (hN0.out.keep (Keep.below HW.out)) HE.out.1).mono ?_
    rintro e' w2 ⟨f, rfl, hf, hb2⟩
    go_wp2_with fail
    refine (along_any N (further N) f 0 l A c _ hf (further_small HE.out.1) (HA.out.keep (Keep.below (HW.out.trans (hb2.mono HW.out.size)))) (fun j hj => ((way_ok HE.out.2).2 j hj).1) (by decide) (by decide) (by have := (way_ok HE.out.2).1; omega)).mono ?_
    rintro e' w3 ⟨rfl, hb3⟩
    go_wp2_with fail
    go_ret2
    exact ⟨by rw [HF.out]; rfl, (HW.out.trans (hb2.mono HW.out.size)).trans (hb3.mono (HW.out.trans (hb2.mono HW.out.size)).size)⟩
  · have HF := Lib.hid (show metOf N l = (0, cwErr N l) from if_neg he)
    have e1 : (cwErr N l == 0) = false := by simpa using he
    have e2 : (cwErr N l != 0) = true := by simpa using he
    clear he
    go_wp2_with fail
    go_ret2
    exact ⟨by rw [HF.out]; rfl, HW.out⟩
end Go.Proofs.Ytbilomkoijomiaa

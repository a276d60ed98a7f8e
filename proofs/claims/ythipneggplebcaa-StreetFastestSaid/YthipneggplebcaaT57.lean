/- Earliest, and labels copied. Condition: the net, or the labels, can be read. -/
import Derived.Test.YthipneggplebcaaT52
import Derived.Test.YthipneggplebcaaT46
import Derived.Test.YthipneggplebcaaT51
import Derived.Deep.RegionHeld3
import Derived.Deep.CutRange
namespace Go.Proofs.Ythipneggplebcaa
open Go.RowKit Fs

/-- A row of numbers is no box of slices: a store into the box leaves it. -/
theorem ArrI.off {w : World} {A : Option Addr} {l : List Int} {c : Nat} (h : ArrI w A l c) {p : Addr} {B : Option Addr} {n k : Nat} (hc : w.cell? p = some (.slice B n k)) (v : Value) : ArrI (w.setCell p v) A l c := by
  refine ⟨h.1, h.2.1, fun hn => ?_⟩
  obtain ⟨b, o, h1, h2⟩ := h.2.2 hn
  refine ⟨b, o, h1, fun i j hi hj => ?_⟩
  have h3 := h2 i j hi hj
  rw [World.cell?_setCell_other _ _ _ _ (fun e => by rw [← e, hc] at h3; cases h3)]
  exact h3
theorem ArrI.off2 {w : World} {A : Option Addr} {l : List Int} {c : Nat} (h : ArrI w A l c) {g : Nat} {B D : Option Addr} {n k m q : Nat} (hc : TreeAt w g (.slice B n k) (.slice D m q)) (u v : Value) : ArrI ((w.setCell ⟨g, 0, none⟩ u).setCell ⟨g, 1, none⟩ v) A l c :=
  (h.off hc.c0 u).off ((World.cell?_setCell_other _ _ _ _ (by simp)).trans hc.c1) v

def Fs.elErr (N : Net) (f a : Int) : Int := fst (listI [netErr N, placesErr N [f], timeErr a]) 3
def Fs.elS (N : Net) (f a : Int) : List Int := if elErr N f a = 0 then (search N f a (soonest N)).labels else []
def Fs.elL (N : Net) (f a : Int) : List Int := if elErr N f a = 0 then (search N f a (latest N)).labels else []
theorem Fs.timeErr_zero {a : Int} (h : timeErr a = 0) : 0 ≤ a ∧ a ≤ 604800 := by
  unfold timeErr at h
  cases hw : within a 0 604800 with
  | true => exact Fs.within_iff.1 hw
  | false => rw [hw] at h; cases h
theorem Fs.elErr_is (N : Net) (f a : Int) : elErr N f a = if netErr N = 0 then (if noPlace N f = 0 then timeErr a else noPlace N f) else netErr N := by
  unfold elErr; rw [fst3, place_one]; rfl
theorem Fs.elErr_ok {N : Net} {f a : Int} (h : elErr N f a = 0) : netErr N = 0 ∧ (0 ≤ f ∧ f < N.places.length) ∧ 0 ≤ a ∧ a ≤ 604800 :=
  ⟨fst_zero h 0 (by decide), place_in (fst_zero h 1 (by decide) : placesErr N [f] = 0) (k := 0) (by show 0 < 1; decide), timeErr_zero (fst_zero h 2 (by decide))⟩

set_option maxHeartbeats 3200000 in
set_option maxRecDepth 100000 in
theorem el_any (N : Net) (v : Value) (f a : Int) (w : World) (hN : RdNet w v N) :
    Calls Try.prog 37 #[v, .int .i64 f, .int .i64 a] w fun e w' => ∃ A1 c1 A2 c2, e = .returned (.tuple #[.agg #[.slice A1 (elS N f a).length c1, .slice A2 (elL N f a).length c2], .int .i64 (elErr N f a)]) ∧ ArrI w' A1 (elS N f a) c1 ∧ ArrI w' A2 (elL N f a) c2 ∧ Below w.heap.size w w' := by
  have hN0 := Lib.hid hN
  obtain ⟨P, R, pc, rc, ar, rfl, m⟩ := hN
  clear m
  have BN := Lib.hid ((BoxN.new w N P R pc rc 25).keep (Keep.alloc _ (.cells #[.slice none 0 0, .slice none 0 0] 65)))
  have RT := Lib.hid (show TreeAt ((w.alloc (.cells #[.slice P N.places.length pc, .slice R N.roads.length rc] 25)).alloc (.cells #[.slice none 0 0, .slice none 0 0] 65)) (w.heap.size + 1) (.slice none 0 0) (.slice none 0 0) from ⟨cellNew1 _ _ _ _ 0, cellNew1 _ _ _ _ 1, frozenNew1 _ _ _ _ 0, frozenNew1 _ _ _ _ 1⟩)
  go_enter Try.func37, Try.ntmps37
  go_upto_region 1 with fail
  generalize hwb : (w.alloc _).alloc _ = wb at *
  have HW : Hid (Below w.heap.size w wb) := by rw [← hwb]; exact Lib.hid (((Below.refl _ _).alloc (Nat.le_refl _) _).alloc (by simp) _)
  clear hwb
  obtain ⟨n0, n1⟩ := BN.out
  go_cut [8] from 9 to 19 (fun s wx => s = .int .i64 (elErr N f a) ∧ Hid (Below wb.heap.size wb wx))
  case first =>
    have HBd : Hid (Below wb.heap.size wb wb.drew) := Lib.hid (Below.refl _ _).drew
    have MK : Hid (∀ w', Below wb.heap.size wb w' → w'.cell? ⟨w.heap.size, 0, none⟩ = some (.slice P N.places.length pc) ∧ w'.cell? ⟨w.heap.size, 1, none⟩ = some (.slice R N.roads.length rc) ∧ Hid (Below wb.heap.size wb w')) :=
      Lib.hid fun w' hw => ⟨Keep.below hw _ _ n0, Keep.below hw _ _ n1, Lib.hid hw⟩
    have KN : Hid (∀ w', Below wb.heap.size wb w' → RdNet w' (netV N P R pc rc) N) := Lib.hid fun w' hw => (hN0.out.keep (Keep.below (HW.out.trans (hw.mono HW.out.size))))
    go_region_held3 (fun w' => w'.cell? ⟨w.heap.size, 0, none⟩ = some (.slice P N.places.length pc) ∧ w'.cell? ⟨w.heap.size, 1, none⟩ = some (.slice R N.roads.length rc) ∧ Hid (Below wb.heap.size wb w'))
      (first
        | exact MK.out _ HBd.out
        | (go_split_ands; exact ⟨by assumption, by assumption, by assumption⟩)
        | (go_split_ands; exact MK.out _ (Below.trans (Hid.out (by assumption)) (hb1.mono (Hid.out (by assumption) : Below wb.heap.size wb _).size)))
        | (go_split_ands; exact MK.out _ (Below.alloc (Hid.out (by assumption)) (Hid.out (by assumption) : Below wb.heap.size wb _).size _)))
      ((first
          | (go_at_call 82
             refine (timeErr_any a _).mono ?_
             rintro e' w1 ⟨rfl, rfl⟩)
          | (go_at_call 80
             go_split_ands
             refine (errNet_any N _ _ (KN.out _ (Hid.out (by assumption)))).mono ?_
             rintro e' w1 ⟨rfl, hb1⟩
             try (first
               | (have HQ0 := ArrI.keep (Keep.below hb1) (arr1New _ f _); (try simp only [size_drew] at HQ0); have HQ := Lib.hid HQ0; clear HQ0)
               | (have HQ0 := ArrI.keep ((Keep.drew _).trans (Keep.below hb1)) (arr1New wb f _); have HQ := Lib.hid HQ0; clear HQ0)))
          | (go_at_call 94
             go_split_ands
             refine (placesErr_any N _ [f] _ 1 _ (KN.out _ (Hid.out (by assumption))) (by first | exact HQ.out | exact arr1New _ f _ | exact ArrI.keep (Keep.drew _) (arr1New wb f _))).mono ?_
             rintro e' w1 ⟨rfl, hb1⟩)
          | (go_at_call 79
             refine (firstError_any [netErr N, placesErr N [f], timeErr a] _ _ _ (by first | exact arr3New _ _ _ _ _ | exact ArrI.keep (Keep.drew _) (arr3New _ _ _ _ _))).mono ?_
             rintro e' w1 ⟨rfl, rfl⟩)))
    all_goals
      rename_i hS
      obtain ⟨-, -, hbb⟩ := hS
      go_wp2_with fail
      go_meet
      exact ⟨rfl, hbb⟩
  case rest =>
    obtain ⟨rfl, HB⟩ := hcut
    obtain ⟨wp, hwp⟩ : ∃ wp, wp = wc := ⟨_, rfl⟩
    subst hwp
    clear n0 n1
    have HX := Lib.hid (HW.out.trans (HB.out.mono HW.out.size))
    replace BN := Lib.hid (BN.out.keep (Keep.below HB.out))
    replace RT := Lib.hid (RT.out.keep HB.out)
    by_cases he : elErr N f a = 0
    · obtain ⟨hE, ⟨f0, f1⟩, a0, a1⟩ := elErr_ok he
      have HF1 := Lib.hid (show elS N f a = (search N f a (soonest N)).labels from if_pos he)
      have HF2 := Lib.hid (show elL N f a = (search N f a (latest N)).labels from if_pos he)
      have HZ := Lib.hid he
      rw [he]
      clear he
      obtain ⟨F, hF⟩ : ∃ F : Nat, f = F := ⟨_, (Int.toNat_of_nonneg f0).symm⟩
      subst hF
      obtain ⟨n0, n1⟩ := BN.out
      go_wp2_with fail
      refine (earliest_any N _ F a _ (hN0.out.keep (Keep.below HX.out)) hE (by omega) a0 (by omega)).mono ?_
      rintro e' w3 ⟨g1, g2, rfl, h1, h2, hb3⟩
      have hp20 := (net_sound hE).2.1
      have H1 := Lib.hid (show ArrI w3 (some ⟨g1, 0, none⟩) (search N F a (soonest N)).labels N.places.length from RowV.arr (ys := []) (by rw [List.append_nil]; exact h1) (by rw [search_len.1]; exact Nat.le_refl _) (by unfold maxLen; omega))
      have H2 := Lib.hid (show ArrI w3 (some ⟨g2, 0, none⟩) (search N F a (latest N)).labels N.places.length from RowV.arr (ys := []) (by rw [List.append_nil]; exact h2) (by rw [search_len.1]; exact Nat.le_refl _) (by unfold maxLen; omega))
      replace RT := Lib.hid (RT.out.keep hb3)
      clear h1 h2 n0 n1
      obtain ⟨r0, r1, rf0, rf1⟩ := RT.out
      go_wp2_with fail
      obtain ⟨s0, s1, -, -⟩ := RT.out.set (.slice (some ⟨g1, 0, none⟩) N.places.length N.places.length) (.slice (some ⟨g2, 0, none⟩) N.places.length N.places.length)
      refine bodyPost_ret (v := .tuple #[.agg #[.slice (some ⟨g1, 0, none⟩) N.places.length N.places.length, .slice (some ⟨g2, 0, none⟩) N.places.length N.places.length], .int .i64 0]) (by simp [results, Try.results37, go_sem, s0, s1]) rfl
        ⟨some ⟨g1, 0, none⟩, N.places.length, some ⟨g2, 0, none⟩, N.places.length, by rw [HF1.out, HF2.out, search_len.1, search_len.1, HZ.out], by rw [HF1.out]; exact H1.out.off2 RT.out _ _, by rw [HF2.out]; exact H2.out.off2 RT.out _ _, ?_⟩
      exact ((HX.out.trans (hb3.mono HX.out.size)).setCell (p := ⟨w.heap.size + 1, 0, none⟩) (by simp) _).setCell (p := ⟨w.heap.size + 1, 1, none⟩) (by simp) _
    · have HF1 := Lib.hid (show elS N f a = [] from if_neg he)
      have HF2 := Lib.hid (show elL N f a = [] from if_neg he)
      have e1 : (elErr N f a == 0) = false := by simpa using he
      have e2 : (elErr N f a != 0) = true := by simpa using he
      clear he
      obtain ⟨r0, r1, rf0, rf1⟩ := RT.out
      go_wp2_with fail
      obtain ⟨s0, s1, -, -⟩ := RT.out.set (.slice none 0 0) (.slice none 0 0)
      refine bodyPost_ret (v := .tuple #[.agg #[.slice none 0 0, .slice none 0 0], .int .i64 (elErr N f a)]) (by simp [results, Try.results37, go_sem, s0, s1]) rfl
        ⟨none, 0, none, 0, by rw [HF1.out, HF2.out]; rfl, by rw [HF1.out]; exact arrNil _, by rw [HF2.out]; exact arrNil _, ?_⟩
      exact (HX.out.setCell (p := ⟨w.heap.size + 1, 0, none⟩) (by simp) _).setCell (p := ⟨w.heap.size + 1, 1, none⟩) (by simp) _

set_option maxHeartbeats 3200000 in
set_option maxRecDepth 100000 in
theorem copyLabels_any (l m : List Int) (A B : Option Addr) (c d : Nat) (w : World) (hA : ArrI w A l c) (hB : ArrI w B m d) (hl : l.length ≤ 1000000) (hm : m.length ≤ 1000000) :
    Calls Try.prog 42 #[.agg #[.slice A l.length c, .slice B m.length d]] w fun e w' => ∃ A1 c1 A2 c2, e = .returned (.agg #[.slice A1 l.length c1, .slice A2 m.length c2]) ∧ ArrI w' A1 l c1 ∧ ArrI w' A2 m c2 ∧ Below w.heap.size w w' := by
  have HA := Lib.hid hA
  have HBB := Lib.hid hB
  clear hA hB
  have BL := Lib.hid (show TreeAt ((w.alloc (.cells #[.slice A l.length c, .slice B m.length d] 65)).alloc (.cells #[.slice none 0 0, .slice none 0 0] 65)) w.heap.size (.slice A l.length c) (.slice B m.length d) from (TreeAt.new w _ _ _).alloc _)
  have RT := Lib.hid (show TreeAt ((w.alloc (.cells #[.slice A l.length c, .slice B m.length d] 65)).alloc (.cells #[.slice none 0 0, .slice none 0 0] 65)) (w.heap.size + 1) (.slice none 0 0) (.slice none 0 0) from ⟨cellNew1 _ _ _ _ 0, cellNew1 _ _ _ _ 1, frozenNew1 _ _ _ _ 0, frozenNew1 _ _ _ _ 1⟩)
  go_enter Try.func42, Try.ntmps42
  go_upto_region 1 with fail
  generalize hwb : (w.alloc _).alloc _ = wb at *
  have HW : Hid (Below w.heap.size w wb) := by rw [← hwb]; exact Lib.hid (((Below.refl _ _).alloc (Nat.le_refl _) _).alloc (by simp) _)
  have HWS : Hid (w.heap.size + 2 = wb.heap.size) := by rw [← hwb]; exact Lib.hid (by simp)
  clear hwb
  obtain ⟨n0, n1, -, -⟩ := BL.out
  have HBd : Hid (Below (w.heap.size + 1) wb wb.drew) := Lib.hid (Below.refl _ _).drew
  have HWB := Lib.hid (show w.heap.size + 1 ≤ wb.heap.size by have := HWS.out; omega)
  have MK : Hid (∀ w', Below (w.heap.size + 1) wb w' → w'.cell? ⟨w.heap.size, 0, none⟩ = some (.slice A l.length c) ∧ w'.cell? ⟨w.heap.size, 1, none⟩ = some (.slice B m.length d) ∧ Hid (Below (w.heap.size + 1) wb w')) :=
    Lib.hid fun w' hw => ⟨(hw.cell (p := ⟨w.heap.size, 0, none⟩) (Nat.lt_succ_self _)).trans n0, (hw.cell (p := ⟨w.heap.size, 1, none⟩) (Nat.lt_succ_self _)).trans n1, Lib.hid hw⟩
  have KA : Hid (∀ w', Below (w.heap.size + 1) wb w' → ArrI w' A l c) := Lib.hid fun w' hw => HA.out.keep (Keep.below (HW.out.trans (hw.mono (Nat.le_succ _))))
  have KB : Hid (∀ w', Below (w.heap.size + 1) wb w' → ArrI w' B m d) := Lib.hid fun w' hw => HBB.out.keep (Keep.below (HW.out.trans (hw.mono (Nat.le_succ _))))
  go_cut [] from 3 to 10 (fun wx => ∃ A1 c1 A2 c2, Hid (TreeAt wx (w.heap.size + 1) (.slice A1 l.length c1) (.slice A2 m.length c2)) ∧ Hid (ArrI wx A1 l c1) ∧ Hid (ArrI wx A2 m c2) ∧ Hid (Below w.heap.size w wx))
  case first =>
    have HT : Hid (TreeAt wb.drew (w.heap.size + 1) (.slice none 0 0) (.slice none 0 0)) := Lib.hid ⟨RT.out.c0, RT.out.c1, RT.out.f0, RT.out.f1⟩
    go_region_held3 (fun w' => w'.cell? ⟨w.heap.size, 0, none⟩ = some (.slice A l.length c) ∧ w'.cell? ⟨w.heap.size, 1, none⟩ = some (.slice B m.length d) ∧ Hid (Below (w.heap.size + 1) wb w'))
      (first
        | exact MK.out _ HBd.out
        | (go_split_ands; exact MK.out _ (Below.trans (Hid.out (by assumption)) (hb1.mono (Nat.le_trans HWB.out (Hid.out (by assumption) : Below (w.heap.size + 1) wb _).size))))
        | (go_split_ands; exact MK.out _ (Below.setCell (p := ⟨w.heap.size + 1, 1, none⟩) (Below.setCell (p := ⟨w.heap.size + 1, 0, none⟩) (Hid.out (by assumption)) (Nat.le_refl _) _) (Nat.le_refl _) _)))
      ((first
        | (go_at_call 29
           with_reducible show Calls _ _ #[.slice A l.length c] _ _
           go_split_ands
           refine (copyInts_any l A c _ (KA.out _ (Hid.out (by assumption))) hl).mono ?_
           rintro e' w2 ⟨A1, c1, rfl, h1, -, hb1⟩
           have HT := Lib.hid (TreeAt.keep (HT.out) hb1)
           have HR1 := Lib.hid h1
           clear h1
           try (have HR2 := Lib.hid (HR2.out.keep (Keep.below hb1)))
           obtain ⟨r0, r1, rf0, rf1⟩ := HT.out)
        | (go_at_call 29
           with_reducible show Calls _ _ #[.slice B m.length d] _ _
           go_split_ands
           refine (copyInts_any m B d _ (KB.out _ (Hid.out (by assumption))) hm).mono ?_
           rintro e' w2 ⟨A2, c2, rfl, h2, -, hb1⟩
           have HT := Lib.hid (TreeAt.keep (HT.out) hb1)
           have HR2 := Lib.hid h2
           clear h2
           try (have HR1 := Lib.hid (HR1.out.keep (Keep.below hb1)))
           obtain ⟨r0, r1, rf0, rf1⟩ := HT.out)))
    all_goals
      rename_i hS
      obtain ⟨-, -, hbb⟩ := hS
      go_wp2_with fail
      go_meet
      exact ⟨A1, c1, A2, c2, Lib.hid (HT.out.set _ _), Lib.hid (HR1.out.off2 HT.out _ _), Lib.hid (HR2.out.off2 HT.out _ _), Lib.hid (HW.out.trans (hbb.out.mono (Nat.le_succ _)))⟩
  case rest =>
    obtain ⟨A1, c1, A2, c2, HT, H1, H2, HB⟩ := hcut
    obtain ⟨r0, r1, rf0, rf1⟩ := HT.out
    go_wp2_with fail
    refine bodyPost_ret (v := .agg #[.slice A1 l.length c1, .slice A2 m.length c2]) (by simp [results, Try.results42, go_sem, r0, r1]) rfl ⟨A1, c1, A2, c2, rfl, H1.out, H2.out, HB.out⟩
end Go.Proofs.Ythipneggplebcaa

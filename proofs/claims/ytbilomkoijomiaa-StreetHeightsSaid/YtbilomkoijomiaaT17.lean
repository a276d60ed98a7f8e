/- Heights from a place, and the earliest arrivals. Conditions: the net is right, the time is small. -/
import Derived.Test.YtbilomkoijomiaaT16
namespace Go.Proofs.Ytbilomkoijomiaa
open Go.RowKit Fs

def treeField0 : Prop := ∀ (gl ga n : Nat) (w : World), (Instr.field 140 (.agg #[.slice (some ⟨gl, 0, none⟩) n n, .slice (some ⟨ga, 0, none⟩) n n]) 0).run Try.prog w = .ok (.slice (some ⟨gl, 0, none⟩) n n) w
theorem treeField0_is : treeField0 := fun _ _ _ _ => by kernel_rfl

set_option maxHeartbeats 3200000 in
set_option maxRecDepth 100000 in
theorem heightsFrom_any (N : Net) (v : Value) (src : Nat) (w : World) (hN : RdNet w v N) (hE : netErr N = 0) (hs : src < N.places.length) :
    Calls Try.prog 99 #[v, .int .i64 src] w fun e w' => ∃ g, e = .returned (.slice (some ⟨g, 0, none⟩) N.places.length N.places.length) ∧ RowV w' g 3 ((heights N src).map (Value.int .i64)) ∧ Below w.heap.size w w' := by
  have hN0 := Lib.hid hN
  obtain ⟨P, R, pc, rc, a, rfl, m⟩ := hN
  clear m
  have BN := Lib.hid (BoxN.new w N P R pc rc 25)
  go_enter Try.func99, Try.ntmps99
  go_upto_region 1 with fail
  generalize hwb : w.alloc _ = wb at *
  have HW : Hid (Below w.heap.size w wb) := by rw [← hwb]; exact Lib.hid ((Below.refl _ _).alloc (Nat.le_refl _) _)
  clear hwb
  obtain ⟨n0, n1⟩ := BN.out
  have HBd : Hid (Below wb.heap.size wb wb.drew) := Lib.hid (Below.refl _ _).drew
  have MK : Hid (∀ w', Below wb.heap.size wb w' → w'.cell? ⟨w.heap.size, 0, none⟩ = some (.slice P N.places.length pc) ∧ w'.cell? ⟨w.heap.size, 1, none⟩ = some (.slice R N.roads.length rc) ∧ Hid (Below wb.heap.size wb w')) := Lib.hid fun w' hw => ⟨Keep.below hw _ _ n0, Keep.below hw _ _ n1, Lib.hid hw⟩
  have hfd : treeField0 := treeField0_is
  unfold treeField0 at hfd
  go_region_held3 (fun w' => w'.cell? ⟨w.heap.size, 0, none⟩ = some (.slice P N.places.length pc) ∧ w'.cell? ⟨w.heap.size, 1, none⟩ = some (.slice R N.roads.length rc) ∧ Hid (Below wb.heap.size wb w'))
    (first
      | exact MK.out _ HBd.out
      | (go_split_ands; exact MK.out _ (Below.trans (Hid.out (by assumption)) (hb1.mono (Hid.out (by assumption) : Below wb.heap.size wb _).size))))
    ((first
        | (go_at_call 79
           go_split_ands
           refine (further_any N _ _ (hN0.out.keep (Keep.below (HW.out.trans ((Hid.out (by assumption) : Below wb.heap.size wb _).mono HW.out.size)))) hE).mono ?_
           rintro e' w1 ⟨f1, rfl, hf1, hb1⟩
           have HF1 := Lib.hid hf1
           clear hf1)
        | (go_at_call 95
           go_split_ands
           refine (search_any N (further N) _ f1 src 0 _ (hN0.out.keep (Keep.below (HW.out.trans ((Hid.out (by assumption) : Below wb.heap.size wb _).mono HW.out.size)))) hE (by first | exact HF1.out | exact HF1.out.below (Below.refl _ _).drew) (further_small hE) hs (by decide) (by decide)).mono ?_
           rintro e' w2 ⟨gl, ga, rfl, hrl, -, -, -, hb1⟩
           have HRL := Lib.hid hrl
           clear hrl)))
  all_goals
    rename_i hS
    obtain ⟨-, -, hbb⟩ := hS
    have HX := Lib.hid (HW.out.trans (hbb.out.mono HW.out.size))
    go_wp2_with fail
    go_ret
    exact ⟨gl, rfl, HRL.out, HX.out⟩

set_option maxHeartbeats 6400000 in
set_option maxRecDepth 100000 in
theorem earliest_any (N : Net) (v : Value) (src : Nat) (L : Int) (w : World) (hN : RdNet w v N) (hE : netErr N = 0) (hs : src < N.places.length) (hL0 : 0 ≤ L) (hL1 : L ≤ 1000000) :
    Calls Try.prog 81 #[v, .int .i64 src, .int .i64 L] w fun e w' => ∃ g1 g2, e = .returned (.agg #[.slice (some ⟨g1, 0, none⟩) N.places.length N.places.length, .slice (some ⟨g2, 0, none⟩) N.places.length N.places.length]) ∧
      RowV w' g1 3 ((search N src L (soonest N)).labels.map (Value.int .i64)) ∧ RowV w' g2 3 ((search N src L (latest N)).labels.map (Value.int .i64)) ∧ Below w.heap.size w w' := by
  have hN0 := Lib.hid hN
  obtain ⟨P, R, pc, rc, a, rfl, m⟩ := hN
  clear m
  have BN := Lib.hid ((BoxN.new w N P R pc rc 25).keep (Keep.alloc _ (.cells #[.slice none 0 0, .slice none 0 0] 65)))
  have RT := Lib.hid (show TreeAt ((w.alloc (.cells #[.slice P N.places.length pc, .slice R N.roads.length rc] 25)).alloc (.cells #[.slice none 0 0, .slice none 0 0] 65)) (w.heap.size + 1) (.slice none 0 0) (.slice none 0 0) from ⟨cellNew1 _ _ _ _ 0, cellNew1 _ _ _ _ 1, frozenNew1 _ _ _ _ 0, frozenNew1 _ _ _ _ 1⟩)
  go_enter Try.func81, Try.ntmps81
  go_upto_region 1 with fail
  generalize hwb : (w.alloc _).alloc _ = wb at *
  have HW : Hid (Below w.heap.size w wb) := by rw [← hwb]; exact Lib.hid (((Below.refl _ _).alloc (Nat.le_refl _) _).alloc (by simp) _)
  have HWS : Hid (w.heap.size + 2 = wb.heap.size) := by rw [← hwb]; exact Lib.hid (by simp)
  clear hwb
  obtain ⟨n0, n1⟩ := BN.out
  obtain ⟨r0, r1, rf0, rf1⟩ := RT.out
  have HBd : Hid (Below (w.heap.size + 1) wb wb.drew) := Lib.hid (Below.refl _ _).drew
  have HWB := Lib.hid (show w.heap.size + 1 ≤ wb.heap.size by have := HWS.out; omega)
  have MK : Hid (∀ w', Below (w.heap.size + 1) wb w' → w'.cell? ⟨w.heap.size, 0, none⟩ = some (.slice P N.places.length pc) ∧ w'.cell? ⟨w.heap.size, 1, none⟩ = some (.slice R N.roads.length rc) ∧ Hid (Below (w.heap.size + 1) wb w')) :=
    Lib.hid fun w' hw => ⟨(hw.cell (p := ⟨w.heap.size, 0, none⟩) (Nat.lt_succ_self _)).trans n0, (hw.cell (p := ⟨w.heap.size, 1, none⟩) (Nat.lt_succ_self _)).trans n1, Lib.hid hw⟩
  have hfd : treeField0 := treeField0_is
  unfold treeField0 at hfd
  clear r0 r1 rf0 rf1
  go_cut [] from 7 to 21 (fun wx => ∃ g1 g2, Hid (TreeAt wx (w.heap.size + 1) (.slice (some ⟨g1, 0, none⟩) N.places.length N.places.length) (.slice (some ⟨g2, 0, none⟩) N.places.length N.places.length)) ∧ Hid (RowV wx g1 3 ((search N src L (soonest N)).labels.map (Value.int .i64))) ∧
    Hid (RowV wx g2 3 ((search N src L (latest N)).labels.map (Value.int .i64))) ∧ Hid (Below w.heap.size w wx))
  case first =>
    have HT : Hid (TreeAt wb.drew (w.heap.size + 1) (.slice none 0 0) (.slice none 0 0)) := Lib.hid ⟨RT.out.c0, RT.out.c1, RT.out.f0, RT.out.f1⟩
    go_region_held3 (fun w' => w'.cell? ⟨w.heap.size, 0, none⟩ = some (.slice P N.places.length pc) ∧ w'.cell? ⟨w.heap.size, 1, none⟩ = some (.slice R N.roads.length rc) ∧ Hid (Below (w.heap.size + 1) wb w'))
      (first
        | exact MK.out _ HBd.out
        | (go_split_ands; exact MK.out _ (Below.trans (Hid.out (by assumption)) (hb1.mono (Nat.le_trans HWB.out (Hid.out (by assumption) : Below (w.heap.size + 1) wb _).size))))
        | (go_split_ands; exact MK.out _ (Below.setCell (p := ⟨w.heap.size + 1, 1, none⟩) (Below.setCell (p := ⟨w.heap.size + 1, 0, none⟩) (Hid.out (by assumption)) (Nat.le_refl _) _) (Nat.le_refl _) _)))
      ((first
        | (go_at_call 88
           go_split_ands
           refine (soonest_any N _ _ (hN0.out.keep (Keep.below (HW.out.trans ((Hid.out (by assumption) : Below (w.heap.size + 1) wb _).mono (Nat.le_succ _))))) hE).mono ?_
           rintro e' w1 ⟨f1, rfl, hf1, hb1⟩
           have HT := Lib.hid (TreeAt.keep (HT.out) hb1)
           have HF1 := Lib.hid hf1
           clear hf1
           try (have HF2 := Lib.hid (HF2.out.below hb1))
           try (have HR2 := Lib.hid (HR2.out.keep hb1))
           obtain ⟨r0, r1, rf0, rf1⟩ := HT.out)
        | (go_at_call 89
           go_split_ands
           refine (latest_any N _ _ (hN0.out.keep (Keep.below (HW.out.trans ((Hid.out (by assumption) : Below (w.heap.size + 1) wb _).mono (Nat.le_succ _))))) hE).mono ?_
           rintro e' w1 ⟨f2, rfl, hf2, hb1⟩
           have HT := Lib.hid (TreeAt.keep (HT.out) hb1)
           have HF2 := Lib.hid hf2
           clear hf2
           try (have HF1 := Lib.hid (HF1.out.below hb1))
           try (have HR1 := Lib.hid (HR1.out.keep hb1))
           obtain ⟨r0, r1, rf0, rf1⟩ := HT.out)
        | (go_at_call 95
           with_reducible show Calls _ _ #[_, _, _, f1] _ _
           go_split_ands
           refine (search_any N (soonest N) _ f1 src L _ (hN0.out.keep (Keep.below (HW.out.trans ((Hid.out (by assumption) : Below (w.heap.size + 1) wb _).mono (Nat.le_succ _))))) hE HF1.out (soonest_small hE) hs hL0 hL1).mono ?_
           rintro e' w2 ⟨gs, ga, rfl, hr1, -, hgs, -, hb1⟩
           have HG1 := Lib.hid (Nat.le_trans (Hid.out (by assumption) : Below (w.heap.size + 1) wb _).size hgs)
           clear hgs
           have HT := Lib.hid (TreeAt.keep (HT.out) hb1)
           have HR1 := Lib.hid hr1
           clear hr1
           try (have HF2 := Lib.hid (HF2.out.below hb1))
           try (have HR2 := Lib.hid (HR2.out.keep hb1))
           obtain ⟨r0, r1, rf0, rf1⟩ := HT.out)
        | (go_at_call 95
           with_reducible show Calls _ _ #[_, _, _, f2] _ _
           go_split_ands
           refine (search_any N (latest N) _ f2 src L _ (hN0.out.keep (Keep.below (HW.out.trans ((Hid.out (by assumption) : Below (w.heap.size + 1) wb _).mono (Nat.le_succ _))))) hE HF2.out (latest_small hE) hs hL0 hL1).mono ?_
           rintro e' w2 ⟨gt, gb, rfl, hr2, -, hgt, -, hb1⟩
           have HG2 := Lib.hid (Nat.le_trans (Hid.out (by assumption) : Below (w.heap.size + 1) wb _).size hgt)
           clear hgt
           have HT := Lib.hid (TreeAt.keep (HT.out) hb1)
           have HR2 := Lib.hid hr2
           clear hr2
           try (have HF1 := Lib.hid (HF1.out.below hb1))
           try (have HR1 := Lib.hid (HR1.out.keep hb1))
           obtain ⟨r0, r1, rf0, rf1⟩ := HT.out)))
    all_goals
      rename_i hS
      obtain ⟨-, -, hbb⟩ := hS
      go_wp2_with fail
      go_meet
      have hne1 : w.heap.size + 1 ≠ gs := by have := HWS.out; have := HG1.out; omega
      have hne2 : w.heap.size + 1 ≠ gt := by have := HWS.out; have := HG2.out; omega
      exact ⟨gs, gt, Lib.hid (HT.out.set _ _), Lib.hid ((HR1.out.far (p := ⟨w.heap.size + 1, 0, none⟩) hne1 _).far (p := ⟨w.heap.size + 1, 1, none⟩) hne1 _), Lib.hid ((HR2.out.far (p := ⟨w.heap.size + 1, 0, none⟩) hne2 _).far (p := ⟨w.heap.size + 1, 1, none⟩) hne2 _), Lib.hid (HW.out.trans (hbb.out.mono (Nat.le_succ _)))⟩
  case rest =>
    obtain ⟨g1, g2, HT, H1, H2, HB⟩ := hcut
    obtain ⟨r0, r1, rf0, rf1⟩ := HT.out
    go_wp2_with fail
    refine bodyPost_ret (v := .agg #[.slice (some ⟨g1, 0, none⟩) N.places.length N.places.length, .slice (some ⟨g2, 0, none⟩) N.places.length N.places.length]) (by simp [results, Try.results81, go_sem, r0, r1]) rfl ⟨g1, g2, rfl, H1.out, H2.out, HB.out⟩
end Go.Proofs.Ytbilomkoijomiaa

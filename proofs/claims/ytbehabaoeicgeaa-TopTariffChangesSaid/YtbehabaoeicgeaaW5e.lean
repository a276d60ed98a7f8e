/- The error of a fixed fare of a tariff. No condition. -/
import Derived.Test.YtbehabaoeicgeaaW5d
namespace Go.Proofs.Ytbehabaoeicgeaa
open Go.RowKit Fs

theorem ArrF.take {w : World} {A : Option Addr} {l : List Fix} {c i : Nat} (h : ArrF w A l c) (hi : i ≤ l.length) : ArrF w A (l.take i) c := by
  have hl : (l.take i).length = i := by simp; omega
  obtain ⟨h1, h2, h3⟩ := h
  refine ⟨by omega, h2, fun hn => ?_⟩
  rw [hl] at hn
  obtain ⟨b, o, e, hc⟩ := h3 (by omega)
  refine ⟨b, o, e, fun k j hk hj => ?_⟩
  rw [hl] at hk
  have : listF (l.take i) k = listF l k := by unfold listF; simp [List.getD_eq_getElem?_getD, hk]
  have hkk := hc k j (by omega) hj
  show w.cell? _ = some (fixCells (listF (l.take i) k) j)
  rw [this]
  exact hkk
theorem Keep.set {w w2 : World} (h : Keep w w2) {p : Addr} (hp : w.heap.size ≤ p.block) (u : Value) : Keep w (w2.setCell p u) := fun q v hq =>
  (World.cell?_setCell_other w2 p q u (fun e => by have := World.block_lt_of_cell? w q hq; subst e; omega)).trans (h q v hq)
set_option maxHeartbeats 1000000 in
set_option maxRecDepth 100000 in
theorem fixErr_any (T : Tar) (v : Value) (i : Nat) (w : World) (hT : RdTar w v T) (hi : i < T.fixed.length) :
    Calls Try.prog 61 #[v, .int .i64 i] w fun e w' => e = .returned (.int .i64 (errFix T i)) ∧ Below w.heap.size w w' := by
  have hT0 := hT
  obtain ⟨z, h, r, e, f, zc, hc, rc, ec, fc, a, rfl, m⟩ := hT
  have hf := m.fixed
  have b1 := hf.le.1
  have b2 := hf.le.2
  obtain ⟨b, o, rfl, q0, q1, q2⟩ := hf.at_ hi
  have c0 := fun x => Keep.alloc w x _ _ q0
  have c1 := fun x => Keep.alloc w x _ _ q1
  have c2 := fun x => Keep.alloc w x _ _ q2
  clear q0 q1 q2
  have BX := BoxT.new w T z h r e (some ⟨b, o, none⟩) zc hc rc ec fc 28
  have FZ := frozenNew w #[.string T.name, .int .i64 T.unit, .int .i64 T.step, .slice z T.zones.length zc, .slice h T.hols.length hc, .slice r T.rules.length rc, .slice e T.extras.length ec, .slice (some ⟨b, o, none⟩) T.fixed.length fc] 28 7
  go_enter Try.func61, Try.ntmps61
  go_wp2_with fail
  refine (isZone_any T _ _ _ (hT0.keep ((Keep.alloc _ _).trans (Keep.alloc _ _)))).mono ?_
  rintro e' w1 ⟨rfl, hb1⟩
  have hs1 : w.heap.size + 1 < w1.heap.size := by have := hb1.size; simp at this; omega
  have hk1 : Keep w w1 := ((Keep.alloc _ _).trans (Keep.alloc _ _)).trans (Keep.below hb1)
  have hbw1 : Below w.heap.size w w1 := (((Below.refl _ _).alloc (Nat.le_refl _) _).alloc (by simp) _).trans (hb1.mono (by simp; omega))
  have BX1 := BX.keep ((Keep.alloc _ _).trans (Keep.below hb1))
  have f1 : w1.cell? ⟨w.heap.size + 1, 1, none⟩ = some (.int .i64 (listF T.fixed i).dst) := Keep.below hb1 _ _ (cellNew1 _ _ _ _ _)
  have f2 : w1.cell? ⟨w.heap.size + 1, 2, none⟩ = some (.int .i64 (listF T.fixed i).amount) := Keep.below hb1 _ _ (cellNew1 _ _ _ _ _)
  have f0 : w1.cell? ⟨w.heap.size + 1, 0, none⟩ = some (.int .i64 (listF T.fixed i).src) := Keep.below hb1 _ _ (cellNew1 _ _ _ _ _)
  have HFZ := Lib.hid ((hb1.frozen (p := ⟨w.heap.size, 7, none⟩) (by simp; omega)).trans ((((Below.refl _ _).alloc (Nat.le_refl _) _).frozen (p := ⟨w.heap.size, 7, none⟩) (by simp)).trans FZ))
  have HK1 := Lib.hid hk1
  clear hb1 c0 c1 c2 hk1 BX FZ
  have HBX1 := Lib.hid BX1
  obtain ⟨t0, t1, t2, t3, t4, t5, t6, t7⟩ := BX1
  go_wp2_with fail
  all_goals first
    | (go_ret; refine ⟨ret_int ?_, hbw1⟩; unfold errFix; simp_all; done)
    | skip
  refine (isZone_any T _ _ _ (hT0.keep (by exact HK1.out))).mono ?_
  rintro e' w2 ⟨rfl, hb2⟩
  clear t0 t1 t2 t3 t4 t5 t6 t7
  obtain ⟨t0, t1, t2, t3, t4, t5, t6, t7⟩ := HBX1.out.keep (Keep.below hb2)
  have f0 := Keep.below hb2 _ _ f0
  have f1 := Keep.below hb2 _ _ f1
  have f2 := Keep.below hb2 _ _ f2
  have hs2 : w1.heap.size ≤ w2.heap.size := hb2.size
  have HK2 := Lib.hid (HK1.out.trans (Keep.below hb2))
  have fz := (hb2.frozen (p := ⟨w.heap.size, 7, none⟩) (by simp; omega)).trans HFZ.out
  have hbw2 : Below w.heap.size w w2 := hbw1.trans (hb2.mono (by omega))
  clear hb2
  have hR : Hid (∀ W, Keep w W → RdTar W (.agg #[.string T.name, .int .i64 T.unit, .int .i64 T.step, .slice z T.zones.length zc, .slice h T.hols.length hc, .slice r T.rules.length rc, .slice e T.extras.length ec, .slice (some ⟨b, o, none⟩) i fc]) (headFix T i)) := fun W hW => by
    have hl : (T.fixed.take i).length = i := by simp; omega
    refine ⟨z, h, r, e, _, zc, hc, rc, ec, fc, a, ?_, m.zones.keep hW, m.hols.keep hW, m.rules.keep hW, m.extras.keep hW, ArrF.take (hf.keep hW) (by omega)⟩
    simp only [tarV, headFix, hl]
  go_wp2_with (go_at_call 31; refine (within_any _ _ _ _).mono ?_; rintro e' w' ⟨rfl, rfl⟩)
  all_goals first
    | (go_ret; refine ⟨ret_int ?_, hbw2⟩; unfold errFix; simp_all; done)
    | skip
  refine (fixedFare_any (headFix T i) _ _ _ _ (hR.out _ (Keep.set HK2.out (p := ⟨w.heap.size, 7, none⟩) (Nat.le_refl _) _))).mono ?_
  rintro e' w3 ⟨rfl, hb3⟩
  have hbw3 : Below w.heap.size w w3 := (hbw2.setCell (p := ⟨w.heap.size, 7, none⟩) (Nat.le_refl _) _).trans (hb3.mono (by simp; omega))
  have F := Lib.hid (fixFound T (listF T.fixed i).src (listF T.fixed i).dst i (by omega))
  clear hb3 t0 t1 t2 t3 t4 t5 t6 t7 f0 f1 f2 fz
  go_wp2_with fail
  all_goals (go_ret; refine ⟨ret_int ?_, hbw3⟩; have F := F.out; unfold errFix; simp_all; done)
end Go.Proofs.Ytbehabaoeicgeaa

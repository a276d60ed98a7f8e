/- The function that hands on the turns of some dates. Condition: the tariff is right. -/
import Derived.Test.YtbehabaoeicgeaaC6
namespace Go.Proofs.Ytbehabaoeicgeaa
open Go.RowKit Fs

set_option maxHeartbeats 1600000 in
set_option maxRecDepth 100000 in
theorem turns_any (T : Tar) (v : Value) (lo hi : Int) (w : World) (hT : RdTar w v T) (hE : errTar T = 0) :
    Calls Try.prog 27 #[v, .agg #[.int .i64 lo, .int .i64 hi]] w fun e w' => ∃ bd bt bz z h r e' f zc hc rc ec fc A c,
      e = .returned (.func (.func 43) #[] #[.pointer (some ⟨bd, 0, none⟩), .pointer (some ⟨bt, 0, none⟩), .pointer (some ⟨bz, 0, none⟩)]) ∧
      Caught w' T bd bt bz lo hi (turnsL T) z h r e' f zc hc rc ec fc A c ∧ Below w.heap.size w w' := by
  have hT0 := hT
  obtain ⟨z, h, r, e, f, zc, hc, rc, ec, fc, a, rfl, m⟩ := hT
  clear m
  have BT := Lib.hid ((BoxT.new w T z h r e f zc hc rc ec fc 28).keep (Keep.alloc _ (.cells #[.int .i64 lo, .int .i64 hi] 48)))
  have BP := Lib.hid (PairAt.new (w.alloc (.cells #[.string T.name, .int .i64 T.unit, .int .i64 T.step, .slice z T.zones.length zc, .slice h T.hols.length hc, .slice r T.rules.length rc, .slice e T.extras.length ec, .slice f T.fixed.length fc] 28)) lo hi 48)
  rw [World.size_alloc] at BP
  go_enter Try.func27, Try.ntmps27
  go_upto_region 1 with fail
  generalize hwb : (w.alloc _).alloc _ = wb at *
  have HBW : Hid (Below w.heap.size w wb) := by rw [← hwb]; exact Lib.hid (((Below.refl _ _).alloc (Nat.le_refl _) _).alloc (by simp) _)
  clear hwb
  obtain ⟨t0, t1, t2, t3, t4, t5, t6, t7⟩ := BT.out
  go_wp2_with fail
  refine (turnTimes_any T _ _ (hT0.keep (Keep.below HBW.out)) hE).mono ?_
  rintro e' w1 ⟨A, c, rfl, ha, hb1⟩
  have HW1 := Lib.hid (HBW.out.trans (hb1.mono HBW.out.size))
  have BT1 := Lib.hid (BT.out.keep (Keep.below hb1))
  have BP1 := Lib.hid (BP.out.below hb1 BP.out.lt)
  have HA1 := Lib.hid ha
  clear hb1 ha t0 t1 t2 t3 t4 t5 t6 t7 BT BP HBW
  have BT2 := Lib.hid (BT1.out.keep (Keep.alloc _ (.cells #[.slice A (turnsL T).length c] 23)))
  have BP2 := Lib.hid (BP1.out.below ((Below.refl _ _).alloc (Nat.le_refl _) (.cells #[.slice A (turnsL T).length c] 23)) BP1.out.lt)
  have HA2 := Lib.hid (HA1.out.keep (Keep.alloc _ (.cells #[.slice A (turnsL T).length c] 23)))
  have HW2 := Lib.hid (HW1.out.alloc HW1.out.size (.cells #[.slice A (turnsL T).length c] 23))
  have HZ2 := Lib.hid (cellNew w1 #[.slice A (turnsL T).length c] 23 0)
  go_upto_region 2 with fail
  generalize w1.alloc _ = w2 at *
  clear BT1 BP1 HA1 HW1
  go_wp2_with fail
  go_ret
  exact ⟨_, _, _, z, h, r, e, f, zc, hc, rc, ec, fc, A, c, rfl, ⟨BT2.out, hT0.keep (Keep.below HW2.out), BP2.out.c0, BP2.out.c1, HZ2.out, HA2.out⟩, HW2.out⟩
end Go.Proofs.Ytbehabaoeicgeaa

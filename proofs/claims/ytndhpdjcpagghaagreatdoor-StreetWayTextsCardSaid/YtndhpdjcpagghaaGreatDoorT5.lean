/- The error of a net, and its mark. No condition. -/
import Derived.Test.YtndhpdjcpagghaaGreatDoorT4
namespace Go.Proofs.YtndhpdjcpagghaaGreatDoor
open Go.RowKit Fs

theorem Fs.net_none {N : Net} (h : N.places.length = 0) : checkNet N = ((0, 0), 10) := by unfold checkNet; rw [if_pos h]
theorem Fs.net_many {N : Net} (h : 20 < N.places.length) : checkNet N = ((0, 0), 8) := by unfold checkNet; rw [if_neg (by omega), if_pos h]
theorem Fs.net_place {N : Net} {k : Nat} (h0 : N.places.length ≠ 0) (h1 : ¬ 20 < N.places.length) (hk : k < N.places.length) (h : ∀ j, j < k → errName (listS N.places) j = 0) (he : errName (listS N.places) k ≠ 0) :
    checkNet N = ((k, 0), errName (listS N.places) k) := by
  obtain ⟨a, b⟩ := fst_hit hk h he
  unfold checkNet
  rw [if_neg h0, if_neg h1, if_pos (by rw [a]; exact he), a, b]
theorem Fs.net_roads {N : Net} (h0 : N.places.length ≠ 0) (h1 : ¬ 20 < N.places.length) (h : ∀ j, j < N.places.length → errName (listS N.places) j = 0) (h2 : 60 < N.roads.length) : checkNet N = ((0, 0), 8) := by
  unfold checkNet
  rw [if_neg h0, if_neg h1, if_neg (fun hh => hh (fst_none h)), if_pos h2]
theorem Fs.net_road {N : Net} {k : Nat} (h0 : N.places.length ≠ 0) (h1 : ¬ 20 < N.places.length) (h : ∀ j, j < N.places.length → errName (listS N.places) j = 0) (h2 : ¬ 60 < N.roads.length) (hk : k < N.roads.length)
    (hr : ∀ j, j < k → (errRoad N j).2 = 0) (he : (errRoad N k).2 ≠ 0) : checkNet N = ((k, (errRoad N k).1), (errRoad N k).2) := by
  obtain ⟨a, b⟩ := fst_hit (f := fun i => (errRoad N i).2) hk hr he
  unfold checkNet
  rw [if_neg h0, if_neg h1, if_neg (fun hh => hh (fst_none h)), if_neg h2, if_pos (by rw [a]; exact he), a, b]
theorem Fs.net_ok {N : Net} (h0 : N.places.length ≠ 0) (h1 : ¬ 20 < N.places.length) (h : ∀ j, j < N.places.length → errName (listS N.places) j = 0) (h2 : ¬ 60 < N.roads.length) (hr : ∀ j, j < N.roads.length → (errRoad N j).2 = 0) : checkNet N = ((0, 0), 0) := by
  unfold checkNet
  rw [if_neg h0, if_neg h1, if_neg (fun hh => hh (fst_none h)), if_neg h2, if_neg (fun hh => hh (fst_none hr))]
abbrev netBack (x : (Nat × Nat) × Int) : Value := .tuple #[.agg #[.int .i64 x.1.1, .int .i64 x.1.2], .int .i64 x.2]

set_option maxHeartbeats 1600000 in
set_option maxRecDepth 100000 in
theorem checkNet_any (N : Net) (v : Value) (w : World) (hN : RdNet w v N) :
    Calls Tryz.prog 67 #[v] w fun e w' => e = .returned (netBack (checkNet N)) ∧ Below w.heap.size w w' := by
  have hN0 := Lib.hid hN
  obtain ⟨P, R, pc, rc, a, rfl, m⟩ := hN
  have hpl := Lib.hid m.places
  have a1 := m.places.le.1
  have a2 := m.places.le.2
  have b1 := m.roads.le.1
  have b2 := m.roads.le.2
  clear m
  have BN := Lib.hid ((BoxN.new w N P R pc rc 25).keep (Keep.alloc _ (.cells #[.int .i64 0, .int .i64 0] 78)))
  have MK := Lib.hid (show MarkAt ((w.alloc (.cells #[.slice P N.places.length pc, .slice R N.roads.length rc] 25)).alloc (.cells #[.int .i64 0, .int .i64 0] 78)) (w.heap.size + 1) from ⟨cellNew1 _ _ _ _ 0, cellNew1 _ _ _ _ 1, frozenNew1 _ _ _ _ 0, frozenNew1 _ _ _ _ 1⟩)
  by_cases h0 : N.places.length = 0
  · have F := Lib.hid (net_none h0)
    go_enter Tryz.func67, Tryz.ntmps67
    go_wp2_with fail
    refine bodyPost_ret (v := .tuple #[.agg #[.int .i64 0, .int .i64 0], .int .i64 10]) (by simp [results, Tryz.results67, go_sem]) rfl ⟨by rw [F.out]; rfl, ?_⟩
    exact ((Below.refl _ _).alloc (Nat.le_refl _) _).alloc (by simp) _
  · by_cases h1 : 20 < N.places.length
    · have F := Lib.hid (net_many h1)
      go_enter Tryz.func67, Tryz.ntmps67
      obtain ⟨n0, n1⟩ := BN.out
      obtain ⟨m0, m1, mf0, mf1⟩ := MK.out
      go_upto_region 1 with fail
      generalize hwb : (w.alloc _).alloc _ = wb at *
      have HW : Hid (Below w.heap.size w wb) := by rw [← hwb]; exact Lib.hid (((Below.refl _ _).alloc (Nat.le_refl _) _).alloc (by simp) _)
      clear hwb
      go_wp2_with fail
      refine bodyPost_ret (v := .tuple #[.agg #[.int .i64 0, .int .i64 0], .int .i64 8]) (by simp [results, Tryz.results67, go_sem, m0, m1]) rfl ⟨by rw [F.out]; rfl, ?_⟩
      exact ((HW.out.setCell (p := ⟨w.heap.size + 1, 0, none⟩) (by simp) _).setCell (p := ⟨w.heap.size + 1, 1, none⟩) (by simp) _)
    · have z9 : ((N.places.length : Int) == 0) = false := by simpa using h0
      have z15 : decide ((20 : Int) < (N.places.length : Int)) = false := by simp; omega
      go_enter Tryz.func67, Tryz.ntmps67
      obtain ⟨n0, n1⟩ := BN.out
      obtain ⟨m0, m1, mf0, mf1⟩ := MK.out
      go_upto_region 1 with fail
      generalize hwb : (w.alloc _).alloc _ = wb at *
      have HW : Hid (Below w.heap.size w wb) := by rw [← hwb]; exact Lib.hid (((Below.refl _ _).alloc (Nat.le_refl _) _).alloc (by simp) _)
      clear hwb
      go_wp2_with fail
      go_loop [24] (fun u => ∃ k : Nat, k ≤ N.places.length ∧ u = .int .i64 k ∧ Hid (∀ j, j < k → errName (listS N.places) j = 0)) (fun u => N.places.length - (intOf u).toNat)
      case atStart => exact ⟨0, Nat.zero_le _, rfl, fun j hj => absurd hj (Nat.not_lt_zero _)⟩
      case round =>
        obtain ⟨k, hk, rfl, Hn⟩ := hrel
        by_cases hlt : k < N.places.length
        · have hcall := callPlaceName
          by_cases hn : errName (listS N.places) k = 0
          · have G : Hid (∀ j, j < k + 1 → errName (listS N.places) j = 0) := fun j hj => by
              by_cases e : j = k
              · subst e; exact hn
              · exact Hn.out j (by omega)
            have Z := Lib.hid hn
            clear hn
            go_wp2_with fail
            refine (errName_any 98 (Lib.hid callPlaceName) (listS N.places) _ k _ (by omega) (fun j hj => placeName_any N.places _ pc _ j _ (hpl.out.keep (Keep.below HW.out)) n0 (by omega))).mono ?_
            rintro e w' ⟨rfl, rfl⟩
            rw [Z.out]
            go_wp2_with fail
            go_round
            case rel => exact ⟨k + 1, by omega, by go_num, G⟩
            case measure => simp [intOf]; omega
          · have F := Lib.hid (net_place h0 h1 hlt Hn.out hn)
            have d1 : (errName (listS N.places) k == 0) = false := by simpa using hn
            clear hn
            go_wp2_with fail
            refine (errName_any 98 (Lib.hid callPlaceName) (listS N.places) _ k _ (by omega) (fun j hj => placeName_any N.places _ pc _ j _ (hpl.out.keep (Keep.below HW.out)) n0 (by omega))).mono ?_
            rintro e w' ⟨rfl, rfl⟩
            go_wp2_with fail
            refine bodyPost_ret (v := .tuple #[.agg #[.int .i64 k, .int .i64 0], .int .i64 (errName (listS N.places) k)]) (by simp [results, Tryz.results67, go_sem, m0, m1]) rfl ⟨by rw [F.out]; rfl, ?_⟩
            exact ((HW.out.setCell (p := ⟨w.heap.size + 1, 0, none⟩) (by simp) _).setCell (p := ⟨w.heap.size + 1, 1, none⟩) (by simp) _)
        · have HP : Hid (∀ j, j < N.places.length → errName (listS N.places) j = 0) := fun j hj => Hn.out j (by omega)
          clear Hn
          by_cases h2 : 60 < N.roads.length
          · have F := Lib.hid (net_roads h0 h1 HP.out h2)
            go_wp2_with fail
            refine bodyPost_ret (v := .tuple #[.agg #[.int .i64 0, .int .i64 0], .int .i64 8]) (by simp [results, Tryz.results67, go_sem, m0, m1]) rfl ⟨by rw [F.out]; rfl, ?_⟩
            exact ((HW.out.setCell (p := ⟨w.heap.size + 1, 0, none⟩) (by simp) _).setCell (p := ⟨w.heap.size + 1, 1, none⟩) (by simp) _)
          · have z39 : decide ((60 : Int) < (N.roads.length : Int)) = false := by simp; omega
            go_wp2_with fail
            clear n0 n1 m0 m1 mf0 mf1
            go_loopw [44] (fun u wr => ∃ k : Nat, k ≤ N.roads.length ∧ u = .int .i64 k ∧ Hid (∀ j, j < k → (errRoad N j).2 = 0) ∧ Hid (Below wb.heap.size wb wr)) (fun u _ => N.roads.length - (intOf u).toNat)
            case atStart => exact ⟨0, Nat.zero_le _, rfl, fun j hj => absurd hj (Nat.not_lt_zero _), Lib.hid (Below.refl _ _)⟩
            case round =>
              clear hk hlt
              obtain ⟨k, hk, rfl, Hn, HB⟩ := hrel
              have HX := Lib.hid (HW.out.trans (HB.out.mono HW.out.size))
              have MK2 := Lib.hid (MK.out.below HB.out MK.out.lt)
              obtain ⟨n0, n1⟩ := BN.out.keep (Keep.below HB.out)
              by_cases hlt : k < N.roads.length
              · by_cases hn : (errRoad N k).2 = 0
                · have G : Hid (∀ j, j < k + 1 → (errRoad N j).2 = 0) := fun j hj => by
                    by_cases e : j = k
                    · subst e; exact hn
                    · exact Hn.out j (by omega)
                  have Z := Lib.hid hn
                  clear hn
                  go_wp2_with fail
                  refine (checkRoad_any N _ k _ (hN0.out.keep (Keep.below HX.out)) hlt).mono ?_
                  rintro e w1 ⟨rfl, hb1⟩
                  rw [Z.out]
                  have HB1 := Lib.hid (HB.out.trans (hb1.mono HB.out.size))
                  clear hb1 n0 n1
                  go_wp2_with fail
                  go_roundw
                  case rel => exact ⟨k + 1, by omega, by go_num, G, HB1⟩
                  case measure => simp [intOf]; omega
                · have F := Lib.hid (net_road h0 h1 HP.out h2 hlt Hn.out hn)
                  have d1 : ((errRoad N k).2 == 0) = false := by simpa using hn
                  clear hn
                  go_wp2_with fail
                  refine (checkRoad_any N _ k _ (hN0.out.keep (Keep.below HX.out)) hlt).mono ?_
                  rintro e w1 ⟨rfl, hb1⟩
                  have HX1 := Lib.hid (HX.out.trans (hb1.mono HX.out.size))
                  obtain ⟨m0, m1, mf0, mf1⟩ := MK2.out.below hb1 MK2.out.lt
                  clear hb1 n0 n1
                  go_wp2_with fail
                  refine bodyPost_ret (v := .tuple #[.agg #[.int .i64 k, .int .i64 (errRoad N k).1], .int .i64 (errRoad N k).2]) (by simp [results, Tryz.results67, go_sem, m0, m1]) rfl ⟨by rw [F.out], ?_⟩
                  exact ((HX1.out.setCell (p := ⟨w.heap.size + 1, 0, none⟩) (by simp) _).setCell (p := ⟨w.heap.size + 1, 1, none⟩) (by simp) _)
              · have F := Lib.hid (net_ok h0 h1 HP.out h2 fun j hj => Hn.out j (by omega))
                obtain ⟨m0, m1, mf0, mf1⟩ := MK2.out
                go_wp2_with fail
                refine bodyPost_ret (v := .tuple #[.agg #[.int .i64 0, .int .i64 0], .int .i64 0]) (by simp [results, Tryz.results67, go_sem, m0, m1]) rfl ⟨by rw [F.out]; rfl, ?_⟩
                exact ((HX.out.setCell (p := ⟨w.heap.size + 1, 0, none⟩) (by simp) _).setCell (p := ⟨w.heap.size + 1, 1, none⟩) (by simp) _)
theorem errNet_any (N : Net) (v : Value) (w : World) (hN : RdNet w v N) :
    Calls Tryz.prog 30 #[v] w fun e w' => e = .returned (.int .i64 (netErr N)) ∧ Below w.heap.size w w' := by
  have hN0 := Lib.hid hN
  obtain ⟨P, R, pc, rc, a, rfl, m⟩ := hN
  clear m
  go_enter Tryz.func30, Tryz.ntmps30
  go_wp2_with (go_at_call 67; refine (checkNet_any N _ _ (hN0.out.keep (Keep.alloc w _))).mono ?_; rintro e w1 ⟨rfl, hb1⟩)
  have HX : Below w.heap.size w w1 := ((Below.refl _ _).alloc (Nat.le_refl _) _).trans (hb1.mono (by simp))
  go_ret
  exact ⟨rfl, HX.alloc HX.size _⟩
end Go.Proofs.YtndhpdjcpagghaaGreatDoor

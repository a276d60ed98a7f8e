/- The steps along roads as function values, the first of several errors, the errors of places. Conditions: the net is right, labels are small. -/
import Derived.Test.YtndhpdjcpagghaaGreatDoorT11
import Derived.Test.YtndhpdjcpagghaaGreatDoorN1
namespace Go.Proofs.YtndhpdjcpagghaaGreatDoor
open Go.RowKit Fs

/-! ### what a right net has -/
theorem Fs.net_sound {N : Net} (h : netErr N = 0) : N.places.length ≠ 0 ∧ N.places.length ≤ 20 ∧ N.roads.length ≤ 60 ∧ ∀ i, i < N.roads.length → (errRoad N i).2 = 0 := by
  unfold netErr checkNet at h
  by_cases h0 : N.places.length = 0
  · rw [if_pos h0] at h; cases h
  · rw [if_neg h0] at h
    by_cases h1 : 20 < N.places.length
    · rw [if_pos h1] at h; cases h
    · rw [if_neg h1] at h
      by_cases h2 : fst (errName (listS N.places)) N.places.length ≠ 0
      · rw [if_pos h2] at h; exact absurd h h2
      · rw [if_neg h2] at h
        by_cases h3 : 60 < N.roads.length
        · rw [if_pos h3] at h; cases h
        · rw [if_neg h3] at h
          by_cases h4 : fst (fun i => (errRoad N i).2) N.roads.length ≠ 0
          · rw [if_pos h4] at h; exact absurd h h4
          · exact ⟨h0, by omega, by omega, fst_zero (Decidable.not_not.1 h4)⟩
structure Fs.RoadOk (N : Net) (r : Rd) : Prop where
  src : 0 ≤ r.src ∧ r.src < N.places.length
  dst : 0 ≤ r.dst ∧ r.dst < N.places.length
  metres : 0 ≤ r.metres ∧ r.metres ≤ 100000
  pts : PtsOk r.pts
theorem Fs.road_sound {N : Net} {i : Nat} (h : (errRoad N i).2 = 0) : RoadOk N (listD N.roads i) := by
  unfold errRoad at h
  by_cases h0 : errName (fun j => (listD N.roads j).name) i ≠ 0
  · rw [if_pos h0] at h; exact absurd h h0
  · rw [if_neg h0] at h
    by_cases h1 : errForm N (listD N.roads i) ≠ 0
    · rw [if_pos h1] at h; exact absurd h h1
    · rw [if_neg h1] at h
      have h1 := Decidable.not_not.1 h1
      unfold errForm at h1
      cases hp : (isPlace N (listD N.roads i).src && isPlace N (listD N.roads i).dst) with
      | false => rw [hp] at h1; cases h1
      | true =>
        rw [hp, if_neg (by decide)] at h1
        rw [Bool.and_eq_true] at hp
        by_cases e1 : (listD N.roads i).src = (listD N.roads i).dst
        · rw [if_pos e1] at h1; cases h1
        · rw [if_neg e1] at h1
          cases hm : within (listD N.roads i).metres 0 100000 with
          | false => rw [hm] at h1; cases h1
          | true =>
            rw [hm, if_neg (by decide)] at h1
            by_cases e2 : (listD N.roads i).pts.length = 0
            · rw [if_pos e2] at h1; cases h1
            · rw [if_neg e2] at h1
              by_cases e3 : 8 < (listD N.roads i).pts.length
              · rw [if_pos e3] at h1; cases h1
              · have a := Fs.within_iff.1 (show within _ _ _ = true from hp.1)
                have b := Fs.within_iff.1 (show within _ _ _ = true from hp.2)
                refine ⟨by omega, by omega, Fs.within_iff.1 hm, e2, by omega, ?_⟩
                unfold errPoints at h
                by_cases e4 : fst (errPoint (listD N.roads i).pts) (listD N.roads i).pts.length ≠ 0
                · rw [if_pos e4] at h; exact absurd h e4
                · exact fst_zero (Decidable.not_not.1 e4)
theorem Fs.net_roads_ok {N : Net} (h : netErr N = 0) : ∀ i, i < N.roads.length → RoadOk N (listD N.roads i) := fun i hi => road_sound ((net_sound h).2.2.2 i hi)
theorem Fs.net_joined {N : Net} (h : netErr N = 0) : Joined N := fun i hi => ⟨(net_roads_ok h i hi).src, (net_roads_ok h i hi).dst⟩
/-- Steps that add from 0 to 100000. -/
def Fs.Small (N : Net) (nx : Nat → Int → Int) : Prop := ∀ i x, i < N.roads.length → 0 ≤ x → x ≤ nx i x ∧ nx i x ≤ x + 100000
theorem Fs.further_small {N : Net} (h : netErr N = 0) : Small N (further N) := fun i x hi hx => by
  have := (net_roads_ok h i hi).metres
  unfold further
  omega
theorem Fs.soonest_small {N : Net} (h : netErr N = 0) : Small N (soonest N) := fun i x hi hx => by
  have := (takesAt_is (net_roads_ok h i hi).pts x).1
  unfold soonest
  omega
theorem Fs.latest_small {N : Net} (h : netErr N = 0) : Small N (latest N) := fun i x hi hx => by
  have := (takesAt_is (net_roads_ok h i hi).pts x).2
  unfold latest
  omega
theorem Fs.further_good {N : Net} (h : netErr N = 0) : Good N (further N) :=
  ⟨fun i x hi hx => (further_small h i x hi hx).1, fun i x y hi hx hy => by unfold further; omega⟩

/-! ### the steps -/
/-- The function K with the variable g steps along the net's roads as nx says, as long as what is below w's end is as it was. -/
def Steps (N : Net) (nx : Nat → Int → Int) (K g : Nat) (w : World) : Prop :=
  ∀ w', Below w.heap.size w w' → ∀ (i : Nat) (x : Int), i < N.roads.length → 0 ≤ x → x ≤ 1000000000000000000 → Calls Tryz.prog K #[.int .i64 i, .int .i64 x, .pointer (some ⟨g, 0, none⟩)] w' fun e w'' => e = .returned (.int .i64 (nx i x)) ∧ Below w'.heap.size w' w''
theorem Steps.below {N : Net} {nx : Nat → Int → Int} {K g : Nat} {w w' : World} (h : Steps N nx K g w) (hb : Below w.heap.size w w') : Steps N nx K g w' :=
  fun w'' hb2 i x hi hx hx2 => h w'' (hb.trans (hb2.mono hb.size)) i x hi hx hx2
set_option maxHeartbeats 400000 in
theorem further_step (N : Net) (P R : Option Addr) (pc rc g : Nat) (a : DA) (w : World) (hB : BoxN w g N P R pc rc) (hR : ArrD w R N.roads rc a) (hN : netErr N = 0) : Steps N (further N) 93 g w := by
  intro w' hb i x hi hx hx2
  obtain ⟨n0, n1⟩ := hB.keep (Keep.below hb)
  obtain ⟨b, o, rfl, q⟩ := (hR.keep (Keep.below hb)).at_ hi
  have c3 := q.c3
  have b1 := hR.le.1
  have b2 := hR.le.2
  have m := (net_roads_ok hN i hi).metres
  clear q
  go_enter Tryz.func93, Tryz.ntmps93
  go_wp2
  go_ret
  exact ⟨rfl, Below.refl _ _⟩
set_option maxHeartbeats 800000 in
set_option maxRecDepth 100000 in
theorem soonest_step (N : Net) (P R : Option Addr) (pc rc g : Nat) (a : DA) (w : World) (hB : BoxN w g N P R pc rc) (hR : ArrD w R N.roads rc a) (hN : netErr N = 0) : Steps N (soonest N) 110 g w := by
  intro w' hb i x hi hx hx2
  obtain ⟨n0, n1⟩ := hB.keep (Keep.below hb)
  have hr := hR.keep (Keep.below hb)
  obtain ⟨b, o, rfl, q⟩ := hr.at_ hi
  have c4 := q.c4
  have b1 := hR.le.1
  have b2 := hR.le.2
  have p := (net_roads_ok hN i hi).pts
  have m := (takesAt_is p x).1
  have HP := Lib.hid p
  have HR := Lib.hid (hr.2 i hi)
  clear q p hr hR
  have hfd : ∀ w : World, (Instr.field 54 (.agg #[.int .i64 (takesAt (listD N.roads i).pts x).1, .int .i64 (takesAt (listD N.roads i).pts x).2]) 0).run Tryz.prog w = .ok (.int .i64 (takesAt (listD N.roads i).pts x).1) w := fun _ => by kernel_rfl
  go_enter Tryz.func110, Tryz.ntmps110
  go_wp2_with (go_at_call 54; refine (takesAt_any (listD N.roads i).pts _ _ x _ HR.out HP.out hx).mono ?_; rintro e w1 ⟨rfl, hb1⟩)
  go_ret
  exact ⟨rfl, hb1⟩
set_option maxHeartbeats 800000 in
set_option maxRecDepth 100000 in
theorem latest_step (N : Net) (P R : Option Addr) (pc rc g : Nat) (a : DA) (w : World) (hB : BoxN w g N P R pc rc) (hR : ArrD w R N.roads rc a) (hN : netErr N = 0) : Steps N (latest N) 95 g w := by
  intro w' hb i x hi hx hx2
  obtain ⟨n0, n1⟩ := hB.keep (Keep.below hb)
  have hr := hR.keep (Keep.below hb)
  obtain ⟨b, o, rfl, q⟩ := hr.at_ hi
  have c4 := q.c4
  have b1 := hR.le.1
  have b2 := hR.le.2
  have p := (net_roads_ok hN i hi).pts
  have m := (takesAt_is p x).2
  have HP := Lib.hid p
  have HR := Lib.hid (hr.2 i hi)
  clear q p hr hR
  have hfd : ∀ w : World, (Instr.field 54 (.agg #[.int .i64 (takesAt (listD N.roads i).pts x).1, .int .i64 (takesAt (listD N.roads i).pts x).2]) 1).run Tryz.prog w = .ok (.int .i64 (takesAt (listD N.roads i).pts x).2) w := fun _ => by kernel_rfl
  go_enter Tryz.func95, Tryz.ntmps95
  go_wp2_with (go_at_call 54; refine (takesAt_any (listD N.roads i).pts _ _ x _ HR.out HP.out hx).mono ?_; rintro e w1 ⟨rfl, hb1⟩)
  go_ret
  exact ⟨rfl, hb1⟩
/-- A function value that steps. -/
def StepV (N : Net) (nx : Nat → Int → Int) (v : Value) (w : World) : Prop := ∃ K g, v = .func (.func K) #[] #[.pointer (some ⟨g, 0, none⟩)] ∧ (∀ (args : Array Value) (w : World), (callFunc K args).run Tryz.prog w = .ok (.enter K args) w) ∧ Steps N nx K g w
theorem StepV.below {N : Net} {nx : Nat → Int → Int} {v : Value} {w w' : World} (h : StepV N nx v w) (hb : Below w.heap.size w w') : StepV N nx v w' := by
  obtain ⟨K, g, hv, hc, hs⟩ := h
  exact ⟨K, g, hv, hc, hs.below hb⟩
set_option maxHeartbeats 400000 in
theorem further_any (N : Net) (v : Value) (w : World) (hN : RdNet w v N) (hE : netErr N = 0) :
    Calls Tryz.prog 60 #[v] w fun e w' => ∃ f, e = .returned f ∧ StepV N (further N) f w' ∧ Below w.heap.size w w' := by
  obtain ⟨P, R, pc, rc, a, rfl, m⟩ := hN
  have HS : Hid (StepV N (further N) (.func (.func 93) #[] #[.pointer (some ⟨w.heap.size, 0, none⟩)]) (w.alloc (.cells #[.slice P N.places.length pc, .slice R N.roads.length rc] 25))) :=
    Lib.hid ⟨_, _, rfl, fun args w => by kernel_rfl, further_step N P R pc rc _ a _ (BoxN.new w N P R pc rc _) (m.roads.keep (Keep.alloc _ _)) hE⟩
  clear m
  go_enter Tryz.func60, Tryz.ntmps60
  go_wp2
  go_ret
  exact ⟨_, rfl, HS.out, (Below.refl _ _).alloc (Nat.le_refl _) _⟩
set_option maxHeartbeats 400000 in
theorem soonest_any (N : Net) (v : Value) (w : World) (hN : RdNet w v N) (hE : netErr N = 0) :
    Calls Tryz.prog 89 #[v] w fun e w' => ∃ f, e = .returned f ∧ StepV N (soonest N) f w' ∧ Below w.heap.size w w' := by
  obtain ⟨P, R, pc, rc, a, rfl, m⟩ := hN
  have HS : Hid (StepV N (soonest N) (.func (.func 110) #[] #[.pointer (some ⟨w.heap.size, 0, none⟩)]) (w.alloc (.cells #[.slice P N.places.length pc, .slice R N.roads.length rc] 25))) :=
    Lib.hid ⟨_, _, rfl, fun args w => by kernel_rfl, soonest_step N P R pc rc _ a _ (BoxN.new w N P R pc rc _) (m.roads.keep (Keep.alloc _ _)) hE⟩
  clear m
  go_enter Tryz.func89, Tryz.ntmps89
  go_wp2
  go_ret
  exact ⟨_, rfl, HS.out, (Below.refl _ _).alloc (Nat.le_refl _) _⟩
set_option maxHeartbeats 400000 in
theorem latest_any (N : Net) (v : Value) (w : World) (hN : RdNet w v N) (hE : netErr N = 0) :
    Calls Tryz.prog 64 #[v] w fun e w' => ∃ f, e = .returned f ∧ StepV N (latest N) f w' ∧ Below w.heap.size w w' := by
  obtain ⟨P, R, pc, rc, a, rfl, m⟩ := hN
  have HS : Hid (StepV N (latest N) (.func (.func 95) #[] #[.pointer (some ⟨w.heap.size, 0, none⟩)]) (w.alloc (.cells #[.slice P N.places.length pc, .slice R N.roads.length rc] 25))) :=
    Lib.hid ⟨_, _, rfl, fun args w => by kernel_rfl, latest_step N P R pc rc _ a _ (BoxN.new w N P R pc rc _) (m.roads.keep (Keep.alloc _ _)) hE⟩
  clear m
  go_enter Tryz.func64, Tryz.ntmps64
  go_wp2
  go_ret
  exact ⟨_, rfl, HS.out, (Below.refl _ _).alloc (Nat.le_refl _) _⟩

/-! ### errors -/
set_option maxHeartbeats 400000 in
theorem firstError_any (l : List Int) (A : Option Addr) (c : Nat) (w : World) (h : ArrI w A l c) :
    Calls Tryz.prog 51 #[.slice A l.length c] w fun e w' => e = .returned (.int .i64 (fst (listI l) l.length)) ∧ w = w' := by
  have b1 := h.le.1
  have b2 := h.le.2
  go_enter Tryz.func51, Tryz.ntmps51
  go_wp2
  go_loop [7] (fun i => ∃ k : Nat, k ≤ l.length ∧ i = .int .i64 k ∧ Hid (∀ j, j < k → listI l j = 0)) (fun i => l.length - (intOf i).toNat)
  case atStart => exact ⟨0, Nat.zero_le _, rfl, fun j hj => absurd hj (Nat.not_lt_zero _)⟩
  case round =>
    obtain ⟨k, hk, rfl, Hn⟩ := hrel
    by_cases hlt : k < l.length
    · obtain ⟨b, o, rfl, hc⟩ := h.at_ hlt
      by_cases h0 : listI l k = 0
      · have F : Hid (∀ j, j < k + 1 → listI l j = 0) := fun j hj => by
          by_cases e : j = k
          · subst e; exact h0
          · exact Hn.out j (by omega)
        have d0 : (listI l k == 0) = true := by simpa using h0
        clear h0
        go_wp2
        go_round
        case rel => exact ⟨k + 1, by omega, by go_num, F⟩
        case measure => simp [intOf]; omega
      · have F := Lib.hid (fst_hit hlt Hn.out h0).1
        have d0 : (listI l k == 0) = false := by simpa using h0
        clear h0
        go_wp2
        go_ret
        exact ⟨ret_int F.out.symm, rfl⟩
    · have F := Lib.hid (show fst (listI l) l.length = 0 from fst_none fun j hj => Hn.out j (by omega))
      go_wp2
      go_ret
      exact ⟨ret_int F.out.symm, rfl⟩
def Fs.placesErr (N : Net) (l : List Int) : Int := fst (fun i => if isPlace N (listI l i) then 0 else 6) l.length
set_option maxHeartbeats 800000 in
theorem placesErr_any (N : Net) (v : Value) (l : List Int) (A : Option Addr) (c : Nat) (w : World) (hN : RdNet w v N) (h : ArrI w A l c) :
    Calls Tryz.prog 58 #[v, .slice A l.length c] w fun e w' => e = .returned (.int .i64 (placesErr N l)) ∧ Below w.heap.size w w' := by
  have hN0 := Lib.hid hN
  obtain ⟨P, R, pc, rc, a, rfl, m⟩ := hN
  clear m
  have b1 := h.le.1
  have b2 := h.le.2
  have BN := Lib.hid (BoxN.new w N P R pc rc 25)
  go_enter Tryz.func58, Tryz.ntmps58
  go_upto_region 1 with fail
  generalize hwb : w.alloc _ = wb at *
  have HW : Hid (Below w.heap.size w wb) := by rw [← hwb]; exact Lib.hid ((Below.refl _ _).alloc (Nat.le_refl _) _)
  clear hwb
  go_wp2_with fail
  go_loopw [9] (fun i wr => ∃ k : Nat, k ≤ l.length ∧ i = .int .i64 k ∧ Hid (∀ j, j < k → isPlace N (listI l j) = true) ∧ Hid (Below wb.heap.size wb wr)) (fun i _ => l.length - (intOf i).toNat)
  case atStart => exact ⟨0, Nat.zero_le _, rfl, fun j hj => absurd hj (Nat.not_lt_zero _), Lib.hid (Below.refl _ _)⟩
  case round =>
    obtain ⟨k, hk, rfl, Hn, HB⟩ := hrel
    have HX := Lib.hid (HW.out.trans (HB.out.mono HW.out.size))
    obtain ⟨n0, n1⟩ := BN.out.keep (Keep.below HB.out)
    by_cases hlt : k < l.length
    · obtain ⟨b, o, rfl, hc⟩ := (h.keep (Keep.below HX.out)).at_ hlt
      cases hp : isPlace N (listI l k) with
      | true =>
        have F : Hid (∀ j, j < k + 1 → isPlace N (listI l j) = true) := fun j hj => by
          by_cases e : j = k
          · subst e; exact hp
          · exact Hn.out j (by omega)
        have Z := Lib.hid hp
        clear hp
        go_wp2_with (go_at_call 90; refine (isPlace_any N _ _ _ (hN0.out.keep (Keep.below HX.out))).mono ?_; rintro e w1 ⟨rfl, hb1⟩; rw [Z.out])
        go_roundw
        case rel => exact ⟨k + 1, by omega, by go_num, F, Lib.hid (HB.out.trans (hb1.mono HB.out.size))⟩
        case measure => simp [intOf]; omega
      | false =>
        have F := Lib.hid (show placesErr N l = 6 from (fst_hit (f := fun i => if isPlace N (listI l i) then 0 else 6) hlt (fun j hj => by rw [if_pos (Hn.out j hj)]) (by rw [hp]; decide)).1.trans (by rw [hp]; rfl))
        have Z := Lib.hid hp
        clear hp
        go_wp2_with (go_at_call 90; refine (isPlace_any N _ _ _ (hN0.out.keep (Keep.below HX.out))).mono ?_; rintro e w1 ⟨rfl, hb1⟩; rw [Z.out])
        go_ret
        exact ⟨ret_int F.out.symm, HX.out.trans (hb1.mono HX.out.size)⟩
    · have F := Lib.hid (show placesErr N l = 0 from fst_none fun j hj => by rw [if_pos (Hn.out j (by omega))])
      go_wp2
      go_ret
      exact ⟨ret_int F.out.symm, HX.out⟩
end Go.Proofs.YtndhpdjcpagghaaGreatDoor

/- The error of a road of a net, and the point that has it. No condition. -/
import Derived.Test.YtndhpdjcpagghaaGreatDoorT3
namespace Go.Proofs.YtndhpdjcpagghaaGreatDoor
open Go.RowKit Fs

/-- A road's cells in the block g. -/
structure BoxD (w : World) (g : Nat) (r : Rd) (p : Option Addr) (pc : Nat) : Prop where
  c0 : w.cell? ⟨g, 0, none⟩ = some (.string r.name)
  c1 : w.cell? ⟨g, 1, none⟩ = some (.int .i64 r.src)
  c2 : w.cell? ⟨g, 2, none⟩ = some (.int .i64 r.dst)
  c3 : w.cell? ⟨g, 3, none⟩ = some (.int .i64 r.metres)
  c4 : w.cell? ⟨g, 4, none⟩ = some (.slice p r.pts.length pc)
theorem BoxD.keep {w w' : World} (k : Keep w w') {g : Nat} {r : Rd} {p : Option Addr} {pc : Nat} (m : BoxD w g r p pc) : BoxD w' g r p pc := ⟨k _ _ m.c0, k _ _ m.c1, k _ _ m.c2, k _ _ m.c3, k _ _ m.c4⟩
theorem BoxD.new (w : World) (r : Rd) (p : Option Addr) (pc : Nat) (t : TypeId) : BoxD (w.alloc (.cells #[.string r.name, .int .i64 r.src, .int .i64 r.dst, .int .i64 r.metres, .slice p r.pts.length pc] t)) w.heap.size r p pc :=
  ⟨cellNew _ _ _ 0, cellNew _ _ _ 1, cellNew _ _ _ 2, cellNew _ _ _ 3, cellNew _ _ _ 4⟩
theorem BoxD.new1 (w : World) (A : Obj) (r : Rd) (p : Option Addr) (pc : Nat) (t : TypeId) : BoxD ((w.alloc A).alloc (.cells #[.string r.name, .int .i64 r.src, .int .i64 r.dst, .int .i64 r.metres, .slice p r.pts.length pc] t)) (w.heap.size + 1) r p pc :=
  ⟨cellNew1 _ _ _ _ 0, cellNew1 _ _ _ _ 1, cellNew1 _ _ _ _ 2, cellNew1 _ _ _ _ 3, cellNew1 _ _ _ _ 4⟩

set_option maxHeartbeats 1600000 in
set_option maxRecDepth 100000 in
theorem checkRoad_any (N : Net) (v : Value) (i : Nat) (w : World) (hN : RdNet w v N) (hi : i < N.roads.length) :
    Calls Tryz.prog 99 #[v, .int .i64 i] w fun e w' => e = .returned (.tuple #[.int .i64 (errRoad N i).1, .int .i64 (errRoad N i).2]) ∧ Below w.heap.size w w' := by
  have hN0 := Lib.hid hN
  obtain ⟨P, R, pc, rc, a, rfl, m⟩ := hN
  have hr := m.roads
  have b1 := hr.le.1
  have b2 := hr.le.2
  clear m
  have hp := Lib.hid (hr.2 i hi)
  have p1 := (hr.2 i hi).le.1
  have p2 := (hr.2 i hi).le.2
  obtain ⟨b, o, rfl, q⟩ := hr.at_ hi
  by_cases hn : errName (fun j => (listD N.roads j).name) i = 0
  · have F := Lib.hid (show errRoad N i = if errForm N (listD N.roads i) ≠ 0 then (0, errForm N (listD N.roads i)) else errPoints (listD N.roads i).pts by unfold errRoad; rw [if_neg (by rw [hn]; decide)])
    have Z := Lib.hid hn
    clear hn
    have c0 := fun x => Keep.alloc w x _ _ q.c0
    have c1 := fun x => Keep.alloc w x _ _ q.c1
    have c2 := fun x => Keep.alloc w x _ _ q.c2
    have c3 := fun x => Keep.alloc w x _ _ q.c3
    have c4 := fun x => Keep.alloc w x _ _ q.c4
    clear q
    have BN := Lib.hid ((BoxN.new w N P (some ⟨b, o, none⟩) pc rc 25).keep (Keep.alloc _ (.cells #[.string (listD N.roads i).name, .int .i64 (listD N.roads i).src, .int .i64 (listD N.roads i).dst, .int .i64 (listD N.roads i).metres, .slice (a.p i) (listD N.roads i).pts.length (a.pc i)] 67)))
    have BD := Lib.hid (BoxD.new1 w (.cells #[.slice P N.places.length pc, .slice (some ⟨b, o, none⟩) N.roads.length rc] 25) (listD N.roads i) (a.p i) (a.pc i) 67)
    go_enter Tryz.func99, Tryz.ntmps99
    go_wp2_with fail
    refine (errName_any 114 (Lib.hid callRoadName) (fun j => (listD N.roads j).name) _ i _ (by omega) (fun j hj => roadName_any N.roads _ rc _ j a _ (hr.keep (Keep.alloc w _)) (cellNew _ _ _ _) (by omega))).mono ?_
    rintro e w' ⟨rfl, rfl⟩
    rw [Z.out]
    go_wp2_with fail
    generalize hwb : (w.alloc _).alloc _ = wb at *
    have HW : Hid (Below w.heap.size w wb) := by rw [← hwb]; exact Lib.hid (((Below.refl _ _).alloc (Nat.le_refl _) _).alloc (by simp) _)
    clear hwb c0 c1 c2 c3 c4
    cases hs : isPlace N (listD N.roads i).src with
    | false =>
      refine (isPlace_any N _ _ _ (hN0.out.keep (Keep.below HW.out))).mono ?_
      rintro e w1 ⟨rfl, hb1⟩
      rw [hs]
      have G := Lib.hid (show errForm N (listD N.roads i) = 6 by unfold errForm; rw [hs]; rfl)
      have HW1 := Lib.hid (HW.out.trans (hb1.mono HW.out.size))
      clear hb1 hs
      go_wp2_with fail
      go_ret2
      exact ⟨by rw [F.out, G.out]; rfl, HW1.out⟩
    | true =>
      refine (isPlace_any N _ _ _ (hN0.out.keep (Keep.below HW.out))).mono ?_
      rintro e w1 ⟨rfl, hb1⟩
      rw [hs]
      have HW1 := Lib.hid (HW.out.trans (hb1.mono HW.out.size))
      have BN1 := Lib.hid (BN.out.keep (Keep.below hb1))
      have BD1 := Lib.hid (BD.out.keep (Keep.below hb1))
      clear hb1 BN BD
      obtain ⟨n0, n1⟩ := BN1.out
      obtain ⟨d0, d1, d2, d3, d4⟩ := BD1.out
      have HS := Lib.hid hs
      clear hs
      go_wp2_with fail
      cases hd : isPlace N (listD N.roads i).dst with
      | false =>
        refine (isPlace_any N _ _ _ (hN0.out.keep (Keep.below HW1.out))).mono ?_
        rintro e w2 ⟨rfl, hb2⟩
        rw [hd]
        have G := Lib.hid (show errForm N (listD N.roads i) = 6 by unfold errForm; rw [HS.out, hd]; rfl)
        have HW2 := Lib.hid (HW1.out.trans (hb2.mono HW1.out.size))
        clear hb2 hd
        go_wp2_with fail
        go_ret2
        exact ⟨by rw [F.out, G.out]; rfl, HW2.out⟩
      | true =>
        refine (isPlace_any N _ _ _ (hN0.out.keep (Keep.below HW1.out))).mono ?_
        rintro e w2 ⟨rfl, hb2⟩
        rw [hd]
        have HW2 := Lib.hid (HW1.out.trans (hb2.mono HW1.out.size))
        have BD2 := Lib.hid (BD1.out.keep (Keep.below hb2))
        clear hb2 BD1 BN1 n0 n1 d0 d1 d2 d3 d4
        obtain ⟨d0, d1, d2, d3, d4⟩ := BD2.out
        have HP2 := Lib.hid (hp.out.keep (Keep.below HW2.out))
        have G := Lib.hid (show errForm N (listD N.roads i) = if (listD N.roads i).src = (listD N.roads i).dst then 26 else if !within (listD N.roads i).metres 0 100000 then 2 else if (listD N.roads i).pts.length = 0 then 10 else if 8 < (listD N.roads i).pts.length then 8 else 0 by
          unfold errForm; rw [HS.out, hd]; rfl)
        clear hd
        by_cases e1 : (listD N.roads i).src = (listD N.roads i).dst
        · have G2 := G.out
          rw [if_pos e1] at G2
          have G3 := Lib.hid G2
          have e1' : ((listD N.roads i).src == (listD N.roads i).dst) = true := by simpa using e1
          clear G2 e1
          go_wp2_with fail
          go_ret2
          exact ⟨by rw [F.out, G3.out]; rfl, HW2.out⟩
        · have G2 := G.out
          rw [if_neg e1] at G2
          have e1' : ((listD N.roads i).src == (listD N.roads i).dst) = false := by simpa using e1
          clear e1
          cases hm : within (listD N.roads i).metres 0 100000 with
          | false =>
            rw [hm] at G2
            have G3 := Lib.hid G2
            have HM := Lib.hid hm
            clear G2 hm
            go_wp2_with (go_at_call 85; refine (within_any _ _ _ _).mono ?_; rintro e w' ⟨rfl, rfl⟩; rw [HM.out])
            go_ret2
            exact ⟨by rw [F.out, G3.out]; rfl, HW2.out⟩
          | true =>
            rw [hm] at G2
            rw [if_neg (by decide)] at G2
            have HM := Lib.hid hm
            clear hm
            by_cases e2 : (listD N.roads i).pts.length = 0
            · rw [if_pos e2] at G2
              have G3 := Lib.hid G2
              clear G2
              go_wp2_with (go_at_call 85; refine (within_any _ _ _ _).mono ?_; rintro e w' ⟨rfl, rfl⟩; rw [HM.out])
              go_ret2
              exact ⟨by rw [F.out, G3.out]; rfl, HW2.out⟩
            · rw [if_neg e2] at G2
              by_cases e3 : 8 < (listD N.roads i).pts.length
              · rw [if_pos e3] at G2
                have G3 := Lib.hid G2
                clear G2
                go_wp2_with (go_at_call 85; refine (within_any _ _ _ _).mono ?_; rintro e w' ⟨rfl, rfl⟩; rw [HM.out])
                go_ret2
                exact ⟨by rw [F.out, G3.out]; rfl, HW2.out⟩
              · rw [if_neg e3] at G2
                have G3 := Lib.hid (F.out.trans (if_neg (fun hh => hh G2)))
                clear G2
                go_wp2_with (first | (go_at_call 85; refine (within_any _ _ _ _).mono ?_; rintro e w' ⟨rfl, rfl⟩; rw [HM.out]) | (go_at_call 115; refine (checkPoints_any (listD N.roads i).pts _ _ _ HP2.out).mono ?_; rintro e w3 ⟨rfl, hb3⟩))
                go_ret2
                exact ⟨by rw [G3.out]; rfl, HW2.out.trans (hb3.mono HW2.out.size)⟩
  · have F := Lib.hid (show errRoad N i = (0, errName (fun j => (listD N.roads j).name) i) by unfold errRoad; rw [if_pos hn])
    have d0 : (errName (fun j => (listD N.roads j).name) i == 0) = false := by simpa using hn
    clear hn q
    go_enter Tryz.func99, Tryz.ntmps99
    go_wp2_with fail
    refine (errName_any 114 (Lib.hid callRoadName) (fun j => (listD N.roads j).name) _ i _ (by omega) (fun j hj => roadName_any N.roads _ rc _ j a _ (hr.keep (Keep.alloc w _)) (cellNew _ _ _ _) (by omega))).mono ?_
    rintro e w' ⟨rfl, rfl⟩
    go_wp2_with fail
    go_ret2
    exact ⟨by rw [F.out]; rfl, (Below.refl _ _).alloc (Nat.le_refl _) _⟩
end Go.Proofs.YtndhpdjcpagghaaGreatDoor

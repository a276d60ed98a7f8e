/- The way back from a place along the last roads of a search. Condition: the roads lead back. -/
import Derived.Test.YtndhpdjcpagghaaGreatDoorT19
namespace Go.Proofs.YtndhpdjcpagghaaGreatDoor
open Go.RowKit Fs

/-- The roads back from a place, as long as there is one. -/
inductive Fs.Chain (N : Net) (last : List Int) : Nat → List Int → Prop
  | stop (z : Nat) : listI last z = -1 → Chain N last z []
  | go (z i : Nat) (l : List Int) : listI last z = (i : Int) → Chain N last (listD N.roads i).src.toNat l → Chain N last z ((i : Int) :: l)
/-- The last roads lead back, by a rank that falls. -/
structure Fs.Back (N : Net) (last : List Int) (rk : Nat → Nat) : Prop where
  len : last.length = N.places.length
  step : ∀ z, z < N.places.length → listI last z ≠ -1 → rk z < N.places.length ∧ ∃ i : Nat, i < N.roads.length ∧ listI last z = (i : Int) ∧ (listD N.roads i).dst = (z : Int) ∧ rk (listD N.roads i).src.toNat < rk z
theorem Fs.Found.back' {N : Net} {nx : Nat → Int → Int} {src : Nat} {L : Int} {s : St} (h : Found N nx src L s) : ∃ rk, Back N s.last rk := by
  obtain ⟨rk, ht⟩ := h.tree
  exact ⟨rk, h.n2, fun z hz hl => by
    obtain ⟨h1, i, a, b, c, -, -, d⟩ := ht z hz hl
    exact ⟨h1, i, a, b, c, d⟩⟩
/-- A row of the call's own of numbers, as the reversal asks for it. -/
theorem own_holds {w : World} {base : Nat} {e : TypeId} {v : Value} {l : List Int} (h : w.ownsRow base e 1 v l.length (intVals l)) (hn : l ≠ []) :
    ∃ g c, v = .slice (some ⟨g, 0, none⟩) l.length c ∧ base ≤ g ∧ g < w.heap.size ∧ l.length ≤ c ∧ c ≤ maxLen ∧ Go.Sort.Holds (Value.int .i64) w g 0 l.toArray := by
  rcases h.2 with ⟨hv, hn0⟩ | ⟨g, cap, cur, hv, hb, hh, h1, h2, h3, h4⟩
  · exact absurd (List.eq_nil_of_length_eq_zero hn0) hn
  · subst hv
    refine ⟨g, cap, rfl, hb, (Array.getElem?_eq_some_iff.1 hh).1, h1, h2, fun j hj => ?_⟩
    have hj' : j < l.length := by simpa using hj
    refine ⟨?_, by rw [Nat.zero_add]; exact h.frozenAt j⟩
    rw [Nat.zero_add, h.cellAt j (by omega)]
    unfold intVals
    simp [hj']
theorem holds_arr {w : World} {g : Nat} {l : List Int} {c : Nat} (h : Go.Sort.Holds (Value.int .i64) w g 0 l.toArray) (h1 : l.length ≤ c) (h2 : c ≤ maxLen) : ArrI w (some ⟨g, 0, none⟩) l c := by
  refine ⟨h1, h2, fun _ => ⟨g, 0, rfl, fun i j hi hj => ?_⟩⟩
  have hj0 : j = 0 := by omega
  subst hj0
  have := (h i (by simpa using hi)).1
  rw [Nat.zero_add] at this
  rw [show 0 + i * 1 + 0 = i by omega, this]
  unfold listI
  simp [hi]
theorem putRow_below {w0 w : World} {g : Nat} {d : Array Int} {B : Nat} (h : Below B w0 w) (n : Nat) (hg : B ≤ g) : Below B w0 (Go.Sort.putRow (Value.int .i64) (Go.Sort.ahead w n) g 0 d) := by
  refine ⟨h.os, h.tape, h.output, by unfold Go.Sort.putRow Go.Sort.mapBlock Go.Sort.ahead; simpa using h.size, fun k hk => ?_⟩
  rw [← h.block k hk]
  unfold Go.Sort.putRow Go.Sort.mapBlock Go.Sort.ahead
  simp only [Array.getElem?_modify]
  rw [if_neg (by omega)]

theorem own_below {w w' : World} {base : Nat} {e : TypeId} {size : Nat} {v : Value} {n : Nat} {xs : List Value} (h : w.ownsRow base e size v n xs) (hb : Below w.heap.size w w') : w'.ownsRow base e size v n xs := by
  obtain ⟨h0, h1⟩ := h
  refine ⟨h0, ?_⟩
  rcases h1 with h1 | ⟨g, cap, cur, hv, hg, hh, hr⟩
  · exact .inl h1
  · refine .inr ⟨g, cap, cur, hv, hg, ?_, hr⟩
    have hlt : g < w.heap.size := by
      rcases Nat.lt_or_ge g w.heap.size with hlt | hge
      · exact hlt
      · rw [Array.getElem?_eq_none hge] at hh; cases hh
    rw [hb.block g hlt]
    exact hh

set_option maxHeartbeats 3200000 in
set_option maxRecDepth 100000 in
theorem wayTo_any (N : Net) (v : Value) (last : List Int) (rk : Nat → Nat) (gl ga z0 : Nat) (w : World) (hN : RdNet w v N) (hE : netErr N = 0) (ha : RowV w ga 3 (last.map (Value.int .i64))) (hB : Back N last rk) (hz : z0 < N.places.length) :
    Calls Tryz.prog 61 #[.agg #[.slice (some ⟨gl, 0, none⟩) N.places.length N.places.length, .slice (some ⟨ga, 0, none⟩) N.places.length N.places.length], v, .int .i64 z0] w fun e w' =>
      ∃ l A c, Chain N last z0 l ∧ e = .returned (.slice A l.length c) ∧ ArrI w' A l.reverse c ∧ Below w.heap.size w w' := by
  have hN0 := Lib.hid hN
  obtain ⟨P, R, pc, rc, ar, rfl, m⟩ := hN
  have M := Lib.hid m
  have rb1 := m.roads.le.1
  have rb2 := m.roads.le.2
  clear m
  obtain ⟨i0, hi, hz0, hz1, hz2⟩ := info_parts Tryz.infoInt
  have hn20 := (net_sound hE).2.1
  have HBK := Lib.hid hB
  have HRD := Lib.hid (net_roads_ok hE)
  clear hB
  have BT := Lib.hid (show ((w.alloc (.cells #[.slice (some ⟨gl, 0, none⟩) N.places.length N.places.length, .slice (some ⟨ga, 0, none⟩) N.places.length N.places.length] 121)).alloc (.cells #[.slice P N.places.length pc, .slice R N.roads.length rc] 25)).cell? ⟨w.heap.size, 1, none⟩ = some (.slice (some ⟨ga, 0, none⟩) N.places.length N.places.length) from Keep.alloc _ _ _ _ (cellNew w _ _ 1))
  have BN := Lib.hid (show ((w.alloc (.cells #[.slice (some ⟨gl, 0, none⟩) N.places.length N.places.length, .slice (some ⟨ga, 0, none⟩) N.places.length N.places.length] 121)).alloc (.cells #[.slice P N.places.length pc, .slice R N.roads.length rc] 25)).cell? ⟨w.heap.size + 1, 1, none⟩ = some (.slice R N.roads.length rc) from cellNew1 _ _ _ _ 1)
  go_enter Tryz.func61, Tryz.ntmps61
  go_upto_region 2 with fail
  generalize hwb : (w.alloc _).alloc _ = wb at *
  have HW : Hid (Below w.heap.size w wb) := by rw [← hwb]; exact Lib.hid (((Below.refl _ _).alloc (Nat.le_refl _) _).alloc (by simp) _)
  clear hwb
  have t1 := BT.out
  have c0 := (ha.keep HW.out).int (i := z0) (by rw [HBK.out.len]; exact hz)
  have hzn : (z0 : Int) < (N.places.length : Int) := by omega
  go_wp2_with fail
  clear t1 c0
  go_loopw [7, 8] (fun u x wr => ∃ (d : List Int) (z : Nat), z < N.places.length ∧ x = .int .i64 (listI last z) ∧ Hid (wr.ownsRow wb.heap.size 3 1 u d.length (intVals d)) ∧ Hid (∀ l, Chain N last z l → Chain N last z0 (d ++ l)) ∧
    Hid ((listI last z = -1 ∧ d.length ≤ N.places.length) ∨ (listI last z ≠ -1 ∧ d.length + rk z + 1 ≤ N.places.length)) ∧ Hid (Below wb.heap.size wb wr)) (fun _ x _ => if intOf x = -1 then 0 else rk (listD N.roads (intOf x).toNat).dst.toNat + 1)
  case atStart =>
    refine ⟨[], z0, hz, rfl, Lib.hid (World.ownsRow_nil _ _ _ _), Lib.hid fun l h => h, Lib.hid ?_, Lib.hid (Below.refl _ _)⟩
    by_cases h : listI last z0 = -1
    · exact .inl ⟨h, Nat.zero_le _⟩
    · have := (HBK.out.step z0 hz h).1
      exact .inr ⟨h, by simp; omega⟩
  case round =>
    obtain ⟨d, z, hzl, rfl, HO, HC, HL, HB⟩ := hrel
    have HX := Lib.hid (HW.out.trans (HB.out.mono HW.out.size))
    by_cases hl : listI last z = -1
    · have e1 : (listI last z == -1) = true := by simpa using hl
      have e1' : (listI last z != -1) = false := by simpa using hl
      have HCC := Lib.hid (HC.out [] (.stop z hl))
      rw [List.append_nil] at HCC
      clear hl HL HC
      by_cases hd : d = []
      · subst hd
        obtain ⟨A, c, hv, harr⟩ := own_arr HO.out
        subst hv
        have HA := Lib.hid harr
        clear harr
        go_wp2_with (go_at_call 94; refine (reverse_empty _ _ _).mono ?_; rintro e w1 ⟨rfl, hw1⟩; obtain rfl : wr = w1 := hw1.symm)
        go_ret
        exact ⟨[], A, c, HCC.out, rfl, HA.out, HX.out⟩
      · obtain ⟨g, c, hv, hg1, hg2, hg3, hg4, hH⟩ := own_holds HO.out hd
        subst hv
        have HH := Lib.hid hH
        have hwg : w.heap.size ≤ g := Nat.le_trans HW.out.size hg1
        clear hH
        go_wp2_with (go_at_call 94; refine (reverse_any _ _ _ d _ HH.out (by unfold maxLen at hg4; omega)).mono ?_; rintro e w1 ⟨rfl, q, hw1⟩)
        have HB1 : Hid (Below w.heap.size w w1) := by rw [hw1]; exact Lib.hid (putRow_below HX.out q hwg)
        have HA1 : Hid (ArrI w1 (some ⟨g, 0, none⟩) d.reverse c) := by
          rw [hw1]
          exact Lib.hid (holds_arr (Go.Sort.holds_putRow _ _ _ _ _ _ (Go.Sort.holds_ahead _ _ _ _ _ _ HH.out) (by simp)) (by simpa using hg3) hg4)
        have hw1 := Lib.hid hw1
        go_ret
        exact ⟨d, _, c, HCC.out, rfl, hw1.out ▸ HA1.out, hw1.out ▸ HB1.out⟩
    · obtain ⟨hr1, i, hi1, hi2, hi3, hi4⟩ := HBK.out.step z hzl hl
      have hlen : d.length + rk z + 1 ≤ N.places.length := by
        rcases HL.out with ⟨h, -⟩ | ⟨-, h⟩
        · exact absurd h hl
        · exact h
      have HOK := Lib.hid (HRD.out i hi1)
      have e1 : ((i : Int) == -1) = false := by simp
      have e1' : ((i : Int) != -1) = true := by simp
      rw [hi2]
      have HI2 := Lib.hid hi2
      have HI3 := Lib.hid hi3
      clear hl HL hi2 hi3
      have hsz1 : w.heap.size ≤ wr.heap.size := HX.out.size
      have hsz2 : wb.heap.size ≤ wr.heap.size := HB.out.size
      go_wp2_with (at_builtin; refine wpList_append_own _ rfl (.tmp 26) (.tmp 28) 26 rfl wb.heap.size 3 i0 (.int .i64 0) 1 8 Tryz.underlying26 hi hz0 hz1 hz2 rfl (by decide) _ _ _ rfl (HO.out.alloc _) ⟨wr.heap.size, 0, none⟩ 1 1 [.int .i64 (i : Int)] rfl rfl ?c1 ?c2 ?c3 ?c4 ?c5 ?_)
      case c1 => exact news0 _ _ _
      case c2 => exact oneInt _
      case c3 => unfold maxLen; omega
      case c4 => omega
      case c5 => simp; omega
      intro v2 w2 hown2 hg2 _
      have HB2 := Lib.hid ((HB.out.alloc hsz2 _).grown hg2 (by simp; omega) (fun j hj => (HO.out.lt j hj).1))
      have HO2 : Hid (w2.ownsRow wb.heap.size 3 1 v2 (d ++ [(i : Int)]).length (intVals (d ++ [(i : Int)]))) := by
        rw [intVals_snoc, List.length_append]
        exact Lib.hid hown2
      clear hown2 hg2
      have HX2 := Lib.hid (HW.out.trans (HB2.out.mono HW.out.size))
      have hrr := M.out.roads.keep (Keep.below HX2.out)
      obtain ⟨b, o, hRa, q⟩ := hrr.at_ hi1
      subst hRa
      have q1 := q.c1
      have hw2s : (listD N.roads i).src < (N.places.length : Int) := HOK.out.src.2
      have hw2t : 0 ≤ (listD N.roads i).src := HOK.out.src.1
      obtain ⟨y, hy⟩ : ∃ y : Nat, (listD N.roads i).src = y := ⟨_, (Int.toNat_of_nonneg hw2t).symm⟩
      rw [hy] at q1 hw2s hi4
      have HY := Lib.hid hy
      clear q hrr hy hw2t
      have hyl : y < N.places.length := by omega
      have c0 := (ha.keep HX2.out).int (i := y) (by rw [HBK.out.len]; exact hyl)
      have t1 := (BT.out : wb.cell? _ = _)
      have t1 := Keep.below HB2.out _ _ t1
      have t2 := Keep.below HB2.out _ _ BN.out
      have hin : (i : Int) < (N.roads.length : Int) := by omega
      go_wp2_with fail
      go_quiet (fail)
      go_roundw
      case rel =>
        refine ⟨v2, .int .i64 (listI last y), _, _, _, _, _, _, _, _, _, _, _, _, _, _, _, _, ⟨d ++ [(i : Int)], y, hyl, rfl, Lib.hid (own_below HO2.out (bdrewN (Below.refl _ _) _)), Lib.hid fun l h => ?_, Lib.hid ?_, Lib.hid (bdrewN HB2.out _)⟩, rfl⟩
        · rw [List.append_assoc]
          exact HC.out _ (.go z i l HI2.out (by rw [HY.out]; exact h))
        · simp only [Int.toNat_natCast] at hi4
          by_cases h : listI last y = -1
          · exact .inl ⟨h, by simp; omega⟩
          · exact .inr ⟨h, by simp; omega⟩
      case measure =>
        show (if listI last y = -1 then 0 else rk (listD N.roads (listI last y).toNat).dst.toNat + 1) < (if (i : Int) = -1 then 0 else rk (listD N.roads (i : Int).toNat).dst.toNat + 1)
        rw [if_neg (show ¬ (i : Int) = -1 by omega), Int.toNat_natCast, HI3.out, Int.toNat_natCast]
        simp only [Int.toNat_natCast] at hi4
        by_cases h : listI last y = -1
        · rw [if_pos h]; omega
        · obtain ⟨-, i2, -, h2, h3, -⟩ := HBK.out.step y hyl h
          rw [if_neg h, h2, Int.toNat_natCast, h3, Int.toNat_natCast]
          omega
end Go.Proofs.YtndhpdjcpagghaaGreatDoor
/- The error of an examination, and what a row of roads comes to. Condition: the roads lie in the net. -/
namespace Go.Proofs.YtndhpdjcpagghaaGreatDoor
open Go.RowKit Fs

/-- Why an examination over the places l that allows m in a thousand more is refused, or nought. -/
def Fs.examErr (N : Net) (l : List Int) (m : Int) : Int := if l.length < 2 then 10 else if 200 < l.length then 8 else if placesErr N l = 0 then (if within m 0 1000 then 0 else 2) else placesErr N l
/-- The two cells of an examination. -/
structure ExamAt (w : World) (g : Nat) (A : Option Addr) (n c : Nat) (m : Int) : Prop where
  c0 : w.cell? ⟨g, 0, none⟩ = some (.slice A n c)
  c1 : w.cell? ⟨g, 1, none⟩ = some (.int .i64 m)
theorem ExamAt.keep {w w' : World} (k : Keep w w') {g : Nat} {A : Option Addr} {n c : Nat} {m : Int} (h : ExamAt w g A n c m) : ExamAt w' g A n c m := ⟨k _ _ h.c0, k _ _ h.c1⟩
theorem ExamAt.new1 (w : World) (B : Obj) (A : Option Addr) (n c : Nat) (m : Int) (ty : TypeId) : ExamAt ((w.alloc B).alloc (.cells #[.slice A n c, .int .i64 m] ty)) (w.heap.size + 1) A n c m := ⟨cellNew1 _ _ _ _ 0, cellNew1 _ _ _ _ 1⟩
abbrev examV (A : Option Addr) (n c : Nat) (m : Int) : Value := .agg #[.slice A n c, .int .i64 m]

/-- The label at the end of a row of roads. -/
def Fs.alongTo (nx : Nat → Int → Int) : Nat → List Int → Int → Int
  | 0, _, x => x
  | k + 1, l, x => nx (listI l k).toNat (alongTo nx k l x)
theorem Fs.alongTo_le {N : Net} {nx : Nat → Int → Int} (hx : Small N nx) {l : List Int} {x : Int} (hl : ∀ j, j < l.length → 0 ≤ listI l j ∧ listI l j < N.roads.length) (h0 : 0 ≤ x) : ∀ k, k ≤ l.length → 0 ≤ alongTo nx k l x ∧ alongTo nx k l x ≤ x + 100000 * k
  | 0, _ => ⟨h0, by unfold alongTo; omega⟩
  | k + 1, hk => by
    have ih := alongTo_le hx hl h0 k (by omega)
    have hr := hl k (by omega)
    have h := hx (listI l k).toNat (alongTo nx k l x) (by omega) ih.1
    unfold alongTo
    omega
end Go.Proofs.YtndhpdjcpagghaaGreatDoor
/- The roads that an examination tells: from each place to the next one the shortest. Conditions: the net is right, the places are two or more. -/
namespace Go.Proofs.YtndhpdjcpagghaaGreatDoor
open Go.RowKit Fs

/-- The first shortest of the first k roads from a to b, or -1. -/
def Fs.bestTo (N : Net) (a b : Int) : Nat → Int
  | 0 => -1
  | k + 1 => if (listD N.roads k).src = a ∧ (listD N.roads k).dst = b ∧ (bestTo N a b k = -1 ∨ (listD N.roads k).metres < (listD N.roads (bestTo N a b k).toNat).metres) then k else bestTo N a b k
theorem Fs.bestTo_is (N : Net) (a b : Int) : ∀ k, bestTo N a b k = -1 ∨ ∃ p : Nat, bestTo N a b k = p ∧ p < k ∧ (listD N.roads p).src = a ∧ (listD N.roads p).dst = b
  | 0 => .inl rfl
  | k + 1 => by
    rw [bestTo]
    by_cases h : (listD N.roads k).src = a ∧ (listD N.roads k).dst = b ∧ (bestTo N a b k = -1 ∨ (listD N.roads k).metres < (listD N.roads (bestTo N a b k).toNat).metres)
    · rw [if_pos h]
      exact .inr ⟨k, rfl, Nat.lt_succ_self _, h.1, h.2.1⟩
    · rw [if_neg h]
      rcases bestTo_is N a b k with h1 | ⟨p, h1, h2, h3⟩
      · exact .inl h1
      · exact .inr ⟨p, h1, by omega, h3⟩
theorem Fs.best_take {N : Net} {a b : Int} {k : Nat} (h : (listD N.roads k).src = a ∧ (listD N.roads k).dst = b ∧ (bestTo N a b k = -1 ∨ (listD N.roads k).metres < (listD N.roads (bestTo N a b k).toNat).metres)) : bestTo N a b (k + 1) = k := by rw [bestTo, if_pos h]
theorem Fs.best_leave {N : Net} {a b : Int} {k : Nat} (h : ¬ ((listD N.roads k).src = a ∧ (listD N.roads k).dst = b ∧ (bestTo N a b k = -1 ∨ (listD N.roads k).metres < (listD N.roads (bestTo N a b k).toNat).metres))) : bestTo N a b (k + 1) = bestTo N a b k := by rw [bestTo, if_neg h]
/-- The shortest road from place k of the list to the next one, or -1. -/
def Fs.bestAt (N : Net) (l : List Int) (k : Nat) : Int := bestTo N (listI l k) (listI l (k + 1)) N.roads.length
def Fs.toldTo (N : Net) (l : List Int) : Nat → List Int
  | 0 => []
  | k + 1 => toldTo N l k ++ [bestAt N l k]
theorem Fs.toldTo_len (N : Net) (l : List Int) : ∀ k, (toldTo N l k).length = k
  | 0 => rfl
  | k + 1 => by rw [toldTo, List.length_append, toldTo_len N l k]; rfl
/-- The roads told, or none and why. -/
def Fs.told (N : Net) (l : List Int) : List Int × Int := if ∀ k, k < l.length - 1 → bestAt N l k ≠ -1 then (toldTo N l (l.length - 1), 0) else ([], 23)

theorem arrNil (w : World) : ArrI w none [] 0 := ⟨Nat.le_refl _, by decide, fun h => absurd h (by simp)⟩
theorem ArrI.cells {w : World} {b o : Nat} {l : List Int} {c : Nat} (h : ArrI w (some ⟨b, o, none⟩) l c) {k : Nat} (hk : k < l.length) : w.cell? ⟨b, o + k, none⟩ = some (.int .i64 (listI l k)) := by
  obtain ⟨b', o', e, hc⟩ := h.at_ hk
  injection e with e
  injection e with e1 e2
  subst e1; subst e2
  exact hc
theorem ArrD.cells {w : World} {b o : Nat} {l : List Rd} {c : Nat} {a : DA} (h : ArrD w (some ⟨b, o, none⟩) l c a) {k : Nat} (hk : k < l.length) : RdAt w b (o + k * 5) (listD l k) (a.p k) (a.pc k) := by
  obtain ⟨b', o', e, hc⟩ := h.at_ hk
  injection e with e
  injection e with e1 e2
  subst e1; subst e2
  exact hc

end Go.Proofs.YtndhpdjcpagghaaGreatDoor
/- What an examination comes to. Condition: the net can be read. -/
namespace Go.Proofs.YtndhpdjcpagghaaGreatDoor
open Go.RowKit Fs

theorem Fs.toldTo_at (N : Net) (l : List Int) : ∀ n k, k < n → listI (toldTo N l n) k = bestAt N l k
  | 0, k, h => absurd h (Nat.not_lt_zero _)
  | n + 1, k, h => by
    have hl := toldTo_len N l n
    rw [toldTo]
    unfold listI
    by_cases e : k < n
    · rw [List.getD_eq_getElem?_getD, List.getElem?_append_left (by omega), ← List.getD_eq_getElem?_getD]
      have := toldTo_at N l n k e
      unfold listI at this
      exact this
    · rw [List.getD_eq_getElem?_getD, List.getElem?_append_right (by omega), show k - (toldTo N l n).length = 0 by omega]
      have : k = n := by omega
      subst this
      rfl
theorem Fs.best_in {N : Net} {l : List Int} {k : Nat} (h : bestAt N l k ≠ -1) : ∃ p : Nat, bestAt N l k = p ∧ p < N.roads.length ∧ (listD N.roads p).src = listI l k ∧ (listD N.roads p).dst = listI l (k + 1) := by
  rcases bestTo_is N (listI l k) (listI l (k + 1)) N.roads.length with h1 | h1
  · exact absurd h1 h
  · exact h1
/-- The metres of the roads told. -/
def Fs.toldM (N : Net) (l : List Int) : Int := alongTo (further N) (told N l).1.length (told N l).1 0
/-- The least metres from the first place to the last one. -/
def Fs.leastM (N : Net) (l : List Int) : Int := listI (heights N (listI l 0)) (listI l (l.length - 1)).toNat
theorem Fs.told_ok {N : Net} {l : List Int} (h : (told N l).2 = 0) : (∀ k, k < l.length - 1 → bestAt N l k ≠ -1) ∧ (told N l).1 = toldTo N l (l.length - 1) := by
  by_cases hh : ∀ k, k < l.length - 1 → bestAt N l k ≠ -1
  · exact ⟨hh, by rw [told, if_pos hh]⟩
  · rw [told, if_neg hh] at h
    exact absurd h (by decide)
/-- Told, never shorter. -/
theorem Fs.told_least {N : Net} {l : List Int} (hE : netErr N = 0) (hs : 0 ≤ listI l 0 ∧ listI l 0 < N.places.length) (h2 : 2 ≤ l.length) (h : (told N l).2 = 0) : 0 ≤ leastM N l ∧ leastM N l ≤ toldM N l ∧ toldM N l ≤ 100000 * (l.length - 1 : Nat) := by
  obtain ⟨hb, ht⟩ := told_ok h
  obtain ⟨s, hs'⟩ : ∃ s : Nat, listI l 0 = s := ⟨_, (Int.toNat_of_nonneg hs.1).symm⟩
  have hF := search_found (N := N) (nx := further N) (src := s) (L := 0) (net_joined hE) (further_good hE) (by omega) (Int.le_refl _)
  have hlen := toldTo_len N l (l.length - 1)
  have hin : ∀ j, j < (toldTo N l (l.length - 1)).length → 0 ≤ listI (toldTo N l (l.length - 1)) j ∧ listI (toldTo N l (l.length - 1)) j < N.roads.length := by
    intro j hj
    rw [toldTo_at N l _ j (by omega)]
    obtain ⟨p, hp, hp1, -⟩ := best_in (hb j (by omega))
    omega
  have hle := alongTo_le (further_small hE) (x := 0) hin (Int.le_refl _) (l.length - 1) (by omega)
  have hH : heights N (listI l 0) = (search N s 0 (further N)).labels := by rw [hs']; rfl
  have key : ∀ k, k ≤ l.length - 1 → listI (heights N (listI l 0)) (listI l k).toNat ≠ -1 ∧ listI (heights N (listI l 0)) (listI l k).toNat ≤ alongTo (further N) k (toldTo N l (l.length - 1)) 0 := by
    intro k
    induction k with
    | zero =>
      intro _
      rw [hH, hs', Int.toNat_natCast, hF.own]
      exact ⟨by decide, Int.le_refl _⟩
    | succ k ih =>
      intro hk
      obtain ⟨i1, i2⟩ := ih (by omega)
      obtain ⟨p, hp, hp1, hp2, hp3⟩ := best_in (hb k (by omega))
      have hst := hF.step p hp1
      rw [hp2, hp3, ← hH] at hst
      obtain ⟨s1, s2⟩ := hst i1
      refine ⟨s1, ?_⟩
      show _ ≤ alongTo (further N) k (toldTo N l (l.length - 1)) 0 + (listD N.roads (listI (toldTo N l (l.length - 1)) k).toNat).metres
      rw [toldTo_at N l _ k (by omega), hp, Int.toNat_natCast]
      have s3 : listI (heights N (listI l 0)) (listI l (k + 1)).toNat ≤ listI (heights N (listI l 0)) (listI l k).toNat + (listD N.roads p).metres := s2
      omega
  obtain ⟨k1, k2⟩ := key (l.length - 1) (Nat.le_refl _)
  have hpl : ∃ z : Nat, listI l (l.length - 1) = z ∧ z < N.places.length := by
    obtain ⟨p, hp, hp1, hp2, hp3⟩ := best_in (hb (l.length - 2) (by omega))
    rw [show l.length - 2 + 1 = l.length - 1 by omega] at hp3
    have hd := (net_roads_ok hE p hp1).dst
    rw [hp3] at hd
    exact ⟨(listI l (l.length - 1)).toNat, (Int.toNat_of_nonneg hd.1).symm, by omega⟩
  obtain ⟨z, hz, hzl⟩ := hpl
  have hL := hF.least z hzl
  unfold leastM toldM
  rw [ht, hlen]
  rw [hz, Int.toNat_natCast] at k1 k2
  rw [hz, Int.toNat_natCast]
  rw [← hH] at hL
  refine ⟨?_, k2, by omega⟩
  rcases hL with hL | hL
  · exact absurd hL k1
  · exact hL
def Fs.exErr (N : Net) (l : List Int) (m : Int) : Int := fst (listI [netErr N, examErr N l m]) 2
/-- What an examination comes to, and why it is refused. -/
def Fs.examined (N : Net) (l : List Int) (m : Int) : (Int × Int × Bool) × Int :=
  if exErr N l m = 0 then (if (told N l).2 = 0 then ((toldM N l, leastM N l, decide (1000 * toldM N l ≤ (1000 + m) * leastM N l)), 0) else ((0, 0, false), (told N l).2)) else ((0, 0, false), exErr N l m)
theorem Fs.exErr_ok {N : Net} {l : List Int} {m : Int} (h : exErr N l m = 0) : netErr N = 0 ∧ examErr N l m = 0 := ⟨fst_zero h 0 (by decide), fst_zero h 1 (by decide)⟩
theorem Fs.examErr_ok {N : Net} {l : List Int} {m : Int} (h : examErr N l m = 0) : 2 ≤ l.length ∧ l.length ≤ 200 ∧ placesErr N l = 0 ∧ 0 ≤ m ∧ m ≤ 1000 := by
  unfold examErr at h
  by_cases h1 : l.length < 2
  · rw [if_pos h1] at h; exact absurd h (by decide)
  · rw [if_neg h1] at h
    by_cases h2 : 200 < l.length
    · rw [if_pos h2] at h; exact absurd h (by decide)
    · rw [if_neg h2] at h
      by_cases h3 : placesErr N l = 0
      · rw [if_pos h3] at h
        cases hw : within m 0 1000 with
        | true => exact ⟨by omega, by omega, h3, (Fs.within_iff.1 hw).1, (Fs.within_iff.1 hw).2⟩
        | false => rw [hw] at h; exact absurd h (by decide)
      · rw [if_neg h3] at h; exact absurd h h3
theorem Fs.place_in {N : Net} {l : List Int} (h : placesErr N l = 0) {k : Nat} (hk : k < l.length) : 0 ≤ listI l k ∧ listI l k < N.places.length := by
  have := fst_zero h k hk
  cases hp : isPlace N (listI l k) with
  | true => have h := Fs.within_iff.1 hp; exact ⟨h.1, by omega⟩
  | false => rw [hp] at this; exact absurd this (by decide)
end Go.Proofs.YtndhpdjcpagghaaGreatDoor

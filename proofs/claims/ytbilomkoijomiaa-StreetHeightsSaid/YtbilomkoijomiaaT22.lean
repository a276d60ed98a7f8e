/- The roads that an examination tells: from each place to the next one the shortest. Conditions: the net is right, the places are two or more. -/
import Derived.Test.YtbilomkoijomiaaT21
namespace Go.Proofs.Ytbilomkoijomiaa
open Go.RowKit Fs

/-- The first shortest of the first k roads from a to b, or -1. -/
def Fs.bestTo (N : Net) (a b : Int) : Nat → Int
  | 0 => -1
  | k + 1 => if (listD N.roads k).src = a ∧ (listD N.roads k).dst = b ∧ (bestTo N a b k = -1 ∨ (listD N.roads k).metres < (listD N.roads (bestTo N a b k).toNat).metres) then k else bestTo N a b k
theorem Fs.bestTo_is (N : Net) (a b : Int) : ∀ k, bestTo N a b k = -1 ∨ ∃ p : Nat, bestTo N a b k = p ∧ p < k ∧ (listD N.roads p).src = a ∧ (listD N.roads p).dst = b
  | 0 => .inl rfl
  | k + 1 => by
    rw [bestTo]
    by_cases h : (listD N.roads k).src = a ∧ (listD N.roads k).dst = b ∧ (bestTo N a b k = -1 ∨ (listD N.roads k).metres < (listD N.roads (bestTo N a b k).toNat).metres)
    · rw [if_pos h]
      exact .inr ⟨k, rfl, Nat.lt_succ_self _, h.1, h.2.1⟩
    · rw [if_neg h]
      rcases bestTo_is N a b k with h1 | ⟨p, h1, h2, h3⟩
      · exact .inl h1
      · exact .inr ⟨p, h1, by omega, h3⟩
theorem Fs.best_take {N : Net} {a b : Int} {k : Nat} (h : (listD N.roads k).src = a ∧ (listD N.roads k).dst = b ∧ (bestTo N a b k = -1 ∨ (listD N.roads k).metres < (listD N.roads (bestTo N a b k).toNat).metres)) : bestTo N a b (k + 1) = k := by rw [bestTo, if_pos h]
theorem Fs.best_leave {N : Net} {a b : Int} {k : Nat} (h : ¬ ((listD N.roads k).src = a ∧ (listD N.roads k).dst = b ∧ (bestTo N a b k = -1 ∨ (listD N.roads k).metres < (listD N.roads (bestTo N a b k).toNat).metres))) : bestTo N a b (k + 1) = bestTo N a b k := by rw [bestTo, if_neg h]
/-- The shortest road from place k of the list to the next one, or -1. -/
def Fs.bestAt (N : Net) (l : List Int) (k : Nat) : Int := bestTo N (listI l k) (listI l (k + 1)) N.roads.length
def Fs.toldTo (N : Net) (l : List Int) : Nat → List Int
  | 0 => []
  | k + 1 => toldTo N l k ++ [bestAt N l k]
theorem Fs.toldTo_len (N : Net) (l : List Int) : ∀ k, (toldTo N l k).length = k
  | 0 => rfl
  | k + 1 => by rw [toldTo, List.length_append, toldTo_len N l k]; rfl
/-- The roads told, or none and why. -/
def Fs.told (N : Net) (l : List Int) : List Int × Int := if ∀ k, k < l.length - 1 → bestAt N l k ≠ -1 then (toldTo N l (l.length - 1), 0) else ([], 23)

theorem arrNil (w : World) : ArrI w none [] 0 := ⟨Nat.le_refl _, by decide, fun h => absurd h (by simp)⟩
theorem ArrI.cells {w : World} {b o : Nat} {l : List Int} {c : Nat} (h : ArrI w (some ⟨b, o, none⟩) l c) {k : Nat} (hk : k < l.length) : w.cell? ⟨b, o + k, none⟩ = some (.int .i64 (listI l k)) := by
  obtain ⟨b', o', e, hc⟩ := h.at_ hk
  injection e with e
  injection e with e1 e2
  subst e1; subst e2
  exact hc
theorem ArrD.cells {w : World} {b o : Nat} {l : List Rd} {c : Nat} {a : DA} (h : ArrD w (some ⟨b, o, none⟩) l c a) {k : Nat} (hk : k < l.length) : RdAt w b (o + k * 5) (listD l k) (a.p k) (a.pc k) := by
  obtain ⟨b', o', e, hc⟩ := h.at_ hk
  injection e with e
  injection e with e1 e2
  subst e1; subst e2
  exact hc

set_option maxHeartbeats 3200000 in
set_option maxRecDepth 100000 in
theorem toldRoads_any (N : Net) (v : Value) (l : List Int) (A : Option Addr) (c : Nat) (w : World) (hN : RdNet w v N) (hE : netErr N = 0) (h : ArrI w A l c) (h2 : 2 ≤ l.length) (h200 : l.length ≤ 200) :
    Calls Try.prog 108 #[v, .slice A l.length c] w fun e w' => ∃ B d, e = .returned (.tuple #[.slice B (told N l).1.length d, .int .i64 (told N l).2]) ∧ ArrI w' B (told N l).1 d ∧ Below w.heap.size w w' := by
  obtain ⟨P, R, pc, rc, ar, rfl, m⟩ := hN
  have M := Lib.hid m
  have rb1 := m.roads.le.1
  have rb2 := m.roads.le.2
  clear m
  have b1 := h.le.1
  have b2 := h.le.2
  obtain ⟨b, o, hAe, -⟩ := h.at_ (k := 0) (by omega)
  subst hAe
  have HA := Lib.hid h
  clear h
  obtain ⟨i0, hi, hz0, hz1, hz2⟩ := info_parts Try.infoInt
  have hn20 := (net_sound hE).2.1
  have BN := Lib.hid (BoxN.new w N P R pc rc 25)
  go_enter Try.func108, Try.ntmps108
  go_upto_region 2 with fail
  generalize hwb : w.alloc _ = wb at *
  have HW : Hid (Below w.heap.size w wb) := by rw [← hwb]; exact Lib.hid ((Below.refl _ _).alloc (Nat.le_refl _) _)
  clear hwb
  go_wp2_with fail
  go_loopw [6, 15] (fun u i wr => ∃ k : Nat, k ≤ l.length - 1 ∧ i = .int .i64 k ∧ Hid (wr.ownsRow wb.heap.size 3 1 u (toldTo N l k).length (intVals (toldTo N l k))) ∧ Hid (∀ j, j < k → bestAt N l j ≠ -1) ∧ Hid (Below wb.heap.size wb wr)) (fun _ i _ => l.length - 1 - (intOf i).toNat)
  case atStart => exact ⟨0, Nat.zero_le _, rfl, Lib.hid (World.ownsRow_nil _ _ _ _), Lib.hid (fun j hj => absurd hj (Nat.not_lt_zero _)), Lib.hid (Below.refl _ _)⟩
  case round =>
    obtain ⟨k, hk, rfl, HO, HG, HB⟩ := hrel
    have HX := Lib.hid (HW.out.trans (HB.out.mono HW.out.size))
    by_cases hlt : k < l.length - 1
    · have hkn : (k : Int) < ((l.length - 1 : Nat) : Int) := by omega
      have c1 : wr.cell? ⟨b, o + 1 + k, none⟩ = some (.int .i64 (listI l (k + 1))) := by
        have := (HA.out.keep (Keep.below HX.out)).cells (k := k + 1) (by omega)
        rwa [show o + (k + 1) = o + 1 + k by omega] at this
      obtain ⟨n0, n1⟩ := BN.out.keep (Keep.below HB.out)
      go_wp2_with fail
      clear c1 n0 n1
      obtain ⟨wp, hwp⟩ : ∃ wp, wp = wr := ⟨_, rfl⟩
      subst hwp
      go_loopw [9, 23] (fun u i wr => ∃ j : Nat, j ≤ N.roads.length ∧ i = .int .i64 j ∧ u = .int .i64 (bestTo N (listI l k) (listI l (k + 1)) j) ∧ Hid (Below wp.heap.size wp wr)) (fun _ i _ => N.roads.length - (intOf i).toNat)
      case atStart => exact ⟨0, Nat.zero_le _, rfl, rfl, Lib.hid (Below.refl _ _)⟩
      case round =>
        obtain ⟨j, hj, rfl, rfl, HBj⟩ := hrel
        have HXj := Lib.hid (HX.out.trans (HBj.out.mono HX.out.size))
        have HWj := Lib.hid (HB.out.trans (HBj.out.mono HB.out.size))
        by_cases hjl : j < N.roads.length
        · have hjn : (j : Int) < (N.roads.length : Int) := by omega
          have hrr := M.out.roads.keep (Keep.below HXj.out)
          obtain ⟨rb, ro, hRa, q⟩ := hrr.at_ hjl
          subst hRa
          have HRR := Lib.hid hrr
          obtain ⟨q0, q1, q2, q3, q4⟩ := q
          clear hrr
          have BX := Lib.hid (BoxD.new wr (listD N.roads j) (ar.p j) (ar.pc j) 45)
          have HB6 := Lib.hid (HBj.out.alloc HBj.out.size (.cells #[.string (listD N.roads j).name, .int .i64 (listD N.roads j).src, .int .i64 (listD N.roads j).dst, .int .i64 (listD N.roads j).metres, .slice (ar.p j) (listD N.roads j).pts.length (ar.pc j)] 45))
          have HW6 := Lib.hid ((Below.refl wr.heap.size wr).alloc (Nat.le_refl _) (.cells #[.string (listD N.roads j).name, .int .i64 (listD N.roads j).src, .int .i64 (listD N.roads j).dst, .int .i64 (listD N.roads j).metres, .slice (ar.p j) (listD N.roads j).pts.length (ar.pc j)] 45))
          go_upto_region 9 with fail
          generalize hw6 : wr.alloc _ = w6 at *
          have HX6 := Lib.hid (HX.out.trans (HB6.out.mono HX.out.size))
          obtain ⟨x0, x1, x2, x3, x4⟩ := BX.out
          have n1 := Keep.below (HB.out.trans (HB6.out.mono HB.out.size)) _ _ BN.out.c1
          have pk := (HA.out.keep (Keep.below HX6.out)).cells (k := k) (by omega)
          clear hw6 q0 q1 q2 q3 q4
          by_cases h1 : (listD N.roads j).src = listI l k
          · have e1 : ((listD N.roads j).src == listI l k) = true := by simpa using h1
            have H1 := Lib.hid h1
            clear h1
            by_cases h2 : (listD N.roads j).dst = listI l (k + 1)
            · have e2 : ((listD N.roads j).dst == listI l (k + 1)) = true := by simpa using h2
              have H2 := Lib.hid h2
              clear h2
              rcases bestTo_is N (listI l k) (listI l (k + 1)) j with hb | ⟨p, hb, hpj, -⟩
              · have F := Lib.hid (best_take (N := N) (a := listI l k) (b := listI l (k + 1)) (k := j) ⟨H1.out, H2.out, .inl hb⟩)
                have e3 : (bestTo N (listI l k) (listI l (k + 1)) j == -1) = true := by simpa using hb
                clear hb
                go_quiet (fail)
                go_wp2_with fail
                go_roundw
                case rel => exact ⟨j + 1, by omega, by go_num, by rw [F.out], Lib.hid (bdrewN HB6.out _)⟩
                case measure => simp [intOf]; omega
              · have e3 : ((p : Int) == -1) = false := by simp
                have hpn : (p : Int) < (N.roads.length : Int) := by omega
                have bm := (HRR.out.keep (Keep.below HW6.out)).cells (k := p) (by omega)
                have bm := bm.c3
                by_cases h3 : (listD N.roads j).metres < (listD N.roads p).metres
                · have F := Lib.hid (best_take (N := N) (a := listI l k) (b := listI l (k + 1)) (k := j) ⟨H1.out, H2.out, .inr (by rw [hb]; exact h3)⟩)
                  have e4 : decide ((listD N.roads j).metres < (listD N.roads p).metres) = true := decide_eq_true h3
                  rw [hb]
                  clear hb h3
                  go_quiet (fail)
                  go_wp2_with fail
                  go_roundw
                  case rel => exact ⟨j + 1, by omega, by go_num, by rw [F.out], Lib.hid (bdrewN HB6.out _)⟩
                  case measure => simp [intOf]; omega
                · have F := Lib.hid ((best_leave (N := N) (a := listI l k) (b := listI l (k + 1)) (k := j) (fun hh => by
                    rcases hh.2.2 with h | h
                    · rw [hb] at h; omega
                    · rw [hb] at h; exact h3 h)).trans hb)
                  have e4 : decide ((listD N.roads j).metres < (listD N.roads p).metres) = false := decide_eq_false h3
                  rw [hb]
                  clear hb h3
                  go_quiet (fail)
                  go_wp2_with fail
                  go_roundw
                  case rel => exact ⟨j + 1, by omega, by go_num, by rw [F.out], Lib.hid (bdrewN HB6.out _)⟩
                  case measure => simp [intOf]; omega
            · have F := Lib.hid (best_leave (N := N) (a := listI l k) (b := listI l (k + 1)) (k := j) (fun hh => h2 hh.2.1))
              have e2 : ((listD N.roads j).dst == listI l (k + 1)) = false := by simpa using h2
              clear h2
              go_quiet (fail)
              go_wp2_with fail
              go_roundw
              case rel => exact ⟨j + 1, by omega, by go_num, by rw [F.out], Lib.hid (bdrewN HB6.out _)⟩
              case measure => simp [intOf]; omega
          · have F := Lib.hid (best_leave (N := N) (a := listI l k) (b := listI l (k + 1)) (k := j) (fun hh => h1 hh.1))
            have e1 : ((listD N.roads j).src == listI l k) = false := by simpa using h1
            clear h1
            go_quiet (fail)
            go_wp2_with fail
            go_roundw
            case rel => exact ⟨j + 1, by omega, by go_num, by rw [F.out], Lib.hid (bdrewN HB6.out _)⟩
            case measure => simp [intOf]; omega
        · obtain rfl : j = N.roads.length := by omega
          clear hjl hj
          have HOj := Lib.hid (own_below HO.out HBj.out)
          by_cases hbe : bestAt N l k = -1
          · have F := Lib.hid (show told N l = ([], 23) from if_neg (fun hh => hh k hlt hbe))
            have hbe' : bestTo N (listI l k) (listI l (k + 1)) N.roads.length = -1 := hbe
            clear hbe
            rw [hbe']
            clear hbe'
            go_wp2_with fail
            go_ret2
            exact ⟨none, 0, by rw [F.out]; rfl, by rw [F.out]; exact arrNil _, HXj.out⟩
          · have e1 : (bestTo N (listI l k) (listI l (k + 1)) N.roads.length == -1) = false := by
              have hbe' : ¬ bestTo N (listI l k) (listI l (k + 1)) N.roads.length = -1 := hbe
              simpa using hbe'
            have HG2 : Hid (∀ j, j < k + 1 → bestAt N l j ≠ -1) := Lib.hid (fun j hj => by
              by_cases e : j = k
              · subst e; exact hbe
              · exact HG.out j (by omega))
            clear hbe
            have hlen := toldTo_len N l k
            have hws : wb.heap.size ≤ wr.heap.size := HWj.out.size
            go_wp2_with (at_builtin; refine wpList_append_own _ rfl (.tmp 60) (.tmp 62) 47 rfl wb.heap.size 3 i0 (.int .i64 0) 1 8 Try.underlying47 hi hz0 hz1 hz2 rfl (by decide) _ _ _ rfl (HOj.out.alloc _) ⟨wr.heap.size, 0, none⟩ 1 1 [.int .i64 (bestTo N (listI l k) (listI l (k + 1)) N.roads.length)] rfl rfl ?c1 ?c2 ?c3 ?c4 ?c5 ?_)
            case c1 => exact news0 _ _ _
            case c2 => exact oneInt _
            case c3 => unfold maxLen; omega
            case c4 => omega
            case c5 => simp; omega
            intro v2 w2 hown2 hg2 _
            have HB2 := Lib.hid ((HWj.out.alloc hws _).grown hg2 (by simp; omega) (fun j hj => (HOj.out.lt j hj).1))
            have HO2 : Hid (w2.ownsRow wb.heap.size 3 1 v2 (toldTo N l (k + 1)).length (intVals (toldTo N l (k + 1)))) := by
              rw [toldTo, intVals_snoc, List.length_append, hlen]
              exact Lib.hid hown2
            clear hown2 hg2 hlen
            go_wp2_with fail
            go_roundw
            case rel => exact ⟨k + 1, by omega, by go_num, HO2, HG2, HB2⟩
            case measure => simp [intOf]; omega
    · obtain rfl : k = l.length - 1 := by omega
      clear hlt hk
      have F := Lib.hid (show told N l = (toldTo N l (l.length - 1), 0) from if_pos HG.out)
      obtain ⟨B, d, hv, harr⟩ := own_arr HO.out
      subst hv
      have HR := Lib.hid harr
      clear harr
      go_wp2_with fail
      go_ret2
      exact ⟨B, d, by rw [F.out]; rfl, by rw [F.out]; exact HR.out, HX.out⟩
end Go.Proofs.Ytbilomkoijomiaa

/- The times at which the rules of a day may change: the walk. Condition: the tariff is right. -/
import Derived.Test.YtbehabaoeicgeaaC3
namespace Go.Proofs.Ytbehabaoeicgeaa
open Go.RowKit Fs

theorem news2 (w : World) (A : Obj) (x y : Value) (t : TypeId) : ∀ j u, [x, y][j]? = some u → ((w.alloc A).alloc (.cells #[x, y] t)).cell? (Addr.add ⟨w.heap.size + 1, 0, none⟩ j) = some u := by
  intro j u hu
  rw [show w.heap.size + 1 = (w.alloc A).heap.size by simp]
  match j with
  | 0 =>
    have : x = u := by simpa using hu
    subst this
    exact cell_of_row _ _ 0 #[x, y] t (0, 0) (heap_alloc_new (w.alloc A) _)
  | 1 =>
    have : y = u := by simpa using hu
    subst this
    exact cell_of_row _ _ 1 #[x, y] t (0, 0) (heap_alloc_new (w.alloc A) _)
  | j + 2 => simp at hu
theorem twoInts (m n : Int) : ∀ u ∈ [Value.int .i64 m, Value.int .i64 n], u.oneCell' = true := by
  intro u hu
  simp only [List.mem_cons, List.not_mem_nil, or_false] at hu
  rcases hu with rfl | rfl <;> rfl
theorem holds_prefix {w : World} {g : Nat} {l m : List Int} (h : Go.Sort.Holds (Value.int .i64) w g 0 (l ++ m).toArray) : Go.Sort.Holds (Value.int .i64) w g 0 l.toArray := by
  intro j hj
  have hj' : j < l.length := by simpa using hj
  have := h j (by simp; omega)
  refine ⟨?_, this.2⟩
  rw [this.1]
  simp [hj', List.getElem?_append]
theorem intVals_two (l : List Int) (x y : Int) : intVals (l ++ [x, y]) = intVals l ++ [.int .i64 x, .int .i64 y] := by simp [intVals]

set_option maxHeartbeats 1600000 in
set_option maxRecDepth 100000 in
theorem turnTimes_any (T : Tar) (v : Value) (w : World) (hT : RdTar w v T) (hE : errTar T = 0) :
    Calls Try.prog 42 #[v] w fun e w' => ∃ A c, e = .returned (.slice A (turnsL T).length c) ∧ ArrI w' A (turnsL T) c ∧ Below w.heap.size w w' := by
  have hn := (rule_sound hE).1
  obtain ⟨z, h, r, e, f, zc, hc, rc, ec, fc, a, rfl, m⟩ := hT
  have hr := m.rules
  have b1 := hr.le.1
  have b2 := hr.le.2
  clear m
  obtain ⟨i0, hi, hz0, hz1, hz2⟩ := info_parts Try.infoInt
  have BX := Lib.hid ((BoxT.new w T z h r e f zc hc rc ec fc 28).keep (Keep.alloc _ (.cells #[.int .i64 0] 3)))
  go_enter Try.func42, Try.ntmps42
  have c5 := BX.out.c5
  have HO0 := Lib.hid (World.ownsRow_lit (base := w.heap.size) (e := 3) (size := 1) (w.alloc (.cells #[.string T.name, .int .i64 T.unit, .int .i64 T.step, .slice z T.zones.length zc, .slice h T.hols.length hc, .slice r T.rules.length rc, .slice e T.extras.length ec, .slice f T.fixed.length fc] 28)) #[.int .i64 0] 1 (by simp) (by unfold maxLen; omega) rfl)
  have HB0 := Lib.hid ((((Below.refl w.heap.size w).alloc (Nat.le_refl _) (.cells #[.string T.name, .int .i64 T.unit, .int .i64 T.step, .slice z T.zones.length zc, .slice h T.hols.length hc, .slice r T.rules.length rc, .slice e T.extras.length ec, .slice f T.fixed.length fc] 28))).alloc (by simp) (.cells #[.int .i64 0] 3))
  rw [World.size_alloc] at HO0
  go_upto_region 2 with fail
  generalize hwb : (w.alloc _).alloc _ = wb at *
  clear hwb
  go_wp2_with fail
  clear c5 BX
  go_loopw [3, 10] (fun s u wr => ∃ k : Nat, k ≤ T.rules.length ∧ u = .int .i64 k ∧ Hid (wr.ownsRow w.heap.size 3 1 s (turnsTo T k).length (intVals (turnsTo T k))) ∧ Hid (Below w.heap.size w wr)) (fun _ u _ => T.rules.length - (intOf u).toNat)
  case atStart => exact ⟨0, Nat.zero_le _, rfl, HO0, HB0⟩
  case round =>
    obtain ⟨k, hk, rfl, HO, HB⟩ := hrel
    by_cases hlt : k < T.rules.length
    · have hrr := hr.keep (Keep.below HB.out)
      obtain ⟨b, o, rfl, q⟩ := hrr.at_ hlt
      obtain ⟨c0, c1, c2, c3, c4, c5, c6, c7, c8, c9⟩ := q
      obtain ⟨⟨g0, g1⟩, f0, f1⟩ := rule_hours hE hlt
      have hkr : decide ((k : Int) < (T.rules.length : Int)) = true := decide_eq_true (by omega)
      have hws : w.heap.size ≤ wr.heap.size := HB.out.size
      have hlen := Lib.hid (turnsTo_len T k)
      have F := Lib.hid (show turnsTo T (k + 1) = turnsTo T k ++ [(listR T.rules k).beg, (listR T.rules k).fin % 86400] from rfl)
      go_wp2_with (first | (at_builtin; refine wpList_append_own _ rfl (.tmp 14) (.tmp 20) 23 rfl w.heap.size 3 i0 (.int .i64 0) 1 8 Try.underlying23 hi hz0 hz1 hz2 rfl (by decide) _ _ _ rfl ((HO.out.alloc _).alloc _) ⟨wr.heap.size + 1, 0, none⟩ 2 2 [.int .i64 (listR T.rules k).beg, .int .i64 ((listR T.rules k).fin % 86400)] rfl rfl ?c1 ?c2 ?c3 ?c4 ?c5 ?_))
      case c1 => exact news2 _ _ _ _ _
      case c2 => exact twoInts _ _
      case c3 => rw [hlen.out]; unfold maxLen; omega
      case c4 => rw [hlen.out]; omega
      case c5 => simp; omega
      intro v2 w2 hown2 hg2 _
      have HB2 := Lib.hid (((HB.out.alloc hws _).alloc (by simp; omega) _).grown hg2 (by simp; omega) (fun j hj => (HO.out.lt j hj).1))
      have HO2 : Hid (w2.ownsRow w.heap.size 3 1 v2 (turnsTo T (k + 1)).length (intVals (turnsTo T (k + 1)))) := by
        rw [F.out, intVals_two, List.length_append]
        exact hown2
      clear hown2 hg2
      go_wp2
      go_roundw
      case rel => exact ⟨k + 1, by omega, by go_num, HO2, HB2⟩
      case measure => simp [intOf]; omega
    · have e : k = T.rules.length := by omega
      subst e
      have hne : turnsTo T T.rules.length ≠ [] := by
        intro hh
        have := turnsTo_len T T.rules.length
        rw [hh] at this
        simp at this
      obtain ⟨g, c, hv, hg1, hg2, hg3, hg4, hH⟩ := own_holds HO.out hne
      subst hv
      obtain ⟨ss, hss⟩ : ∃ ss, ss = (turnsTo T T.rules.length).mergeSort fun x y => decide (x ≤ y) := ⟨_, rfl⟩
      have hsl : ss.length = (turnsTo T T.rules.length).length := by rw [hss, List.length_mergeSort]
      have hl1 := turnsTo_len T T.rules.length
      have HL := Lib.hid (show turnsL T = Lib.compact ss by rw [hss]; rfl)
      have S1 := sort_any g 0 c (turnsTo T T.rules.length) wr hH hg2 (by omega)
      rw [← hss] at S1
      have S1 := Lib.hid S1
      have H1 := Lib.hid hH
      have hl2 := Lib.hid hl1
      have hsl2 := Lib.hid hsl
      clear hH HO hss hsl hl1
      go_wp2_with fail
      refine S1.out.mono ?_
      rintro e' w1 ⟨rfl, nn, os, hw1⟩
      have HB1 : Hid (Below w.heap.size w w1) := by
        rw [hw1]
        refine Lib.hid (grow_below (putRow_below HB.out nn hg1) os ?_)
        have := HB.out.size
        unfold Go.Sort.putRow Go.Sort.mapBlock Go.Sort.ahead
        simpa using this
      have hH2 : Go.Sort.Holds (Value.int .i64) w1 g 0 ss.toArray := by
        rw [hw1]
        refine Go.Sort.holds_grow _ _ _ _ _ _ ?_ (Go.Sort.holds_putRow _ _ _ _ _ _ (Go.Sort.holds_ahead _ _ _ _ _ _ H1.out) (by simp [hsl2.out]))
        unfold Go.Sort.putRow Go.Sort.mapBlock Go.Sort.ahead
        simpa using hg2
      have S2 := compact_any g 0 c ss w1 hH2 (by rw [hsl2.out, hl2.out]; omega) (by rw [hsl2.out]; exact hg3)
      rw [hsl2.out] at S2
      have S2 := Lib.hid S2
      have H2 := Lib.hid hH2
      clear hH2 hw1 S1 H1
      go_wp2_with fail
      refine S2.out.mono ?_
      rintro e' w2 ⟨rfl, qq, hw2⟩
      have hcl := Lib.hid (compact_sub ss).length_le
      have HB2 : Hid (Below w.heap.size w w2) := by rw [hw2]; exact Lib.hid (putRow_below HB1.out qq hg1)
      have H3 : Hid (Go.Sort.Holds (Value.int .i64) w2 g 0 (Lib.compact ss).toArray) := by
        rw [hw2]
        refine Lib.hid (holds_prefix (Go.Sort.holds_putRow _ _ _ _ _ _ (Go.Sort.holds_ahead _ _ _ _ _ _ H2.out) ?_))
        have h1 := hcl.out
        have h2 := hsl2.out
        simp
        omega
      clear hw2
      go_wp2_with fail
      go_ret
      exact ⟨some ⟨g, 0, none⟩, c, by rw [HL.out]; rfl, by rw [HL.out]; exact holds_arr H3.out (Nat.le_trans hcl.out (by rw [hsl2.out]; exact hg3)) hg4, HB2.out⟩
end Go.Proofs.Ytbehabaoeicgeaa

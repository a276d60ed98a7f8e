/- The reference's Joined. Condition: both lists are right. -/
import Derived.Test.YtolicafhbeiciaaD19
namespace Go.Proofs.Ytolicafhbeiciaa
open Go.RowKit Fs

def Fs.mergeL : List WRec → List WRec → List WRec
  | [], b => b
  | x :: a, [] => x :: a
  | x :: a, y :: b => if x.beg < y.beg then x :: mergeL a (y :: b) else y :: mergeL (x :: a) b
termination_by a b => a.length + b.length
open Classical in
noncomputable def Fs.djoinErr (a b : List WRec) : Int :=
  if 0 < a.length ∧ 0 < b.length ∧ (listW a 0).who ≠ (listW b 0).who then 13
  else if ∃ i, i < a.length ∧ ∃ k, k < b.length ∧ overlapB (listW a i) (listW b k) = true then 26
  else if 40 < a.length + b.length then 8 else 0
open Classical in
noncomputable def Fs.clash0 (a b : List WRec) : Bool := decide (0 < a.length ∧ 0 < b.length ∧ (listW a 0).who ≠ (listW b 0).who)
theorem clash0_yes {a b : List WRec} (h : 0 < a.length ∧ 0 < b.length ∧ (listW a 0).who ≠ (listW b 0).who) : clash0 a b = true := by unfold clash0; simpa using h
theorem clash0_no {a b : List WRec} (h : ¬ (0 < a.length ∧ 0 < b.length ∧ (listW a 0).who ≠ (listW b 0).who)) : clash0 a b = false := by unfold clash0; simp only [decide_eq_false_iff_not]; exact h
theorem clash0_is {a b : List WRec} (h : clash0 a b = true) : 0 < a.length ∧ 0 < b.length ∧ (listW a 0).who ≠ (listW b 0).who := by unfold clash0 at h; simpa using h
theorem clash0_isno {a b : List WRec} (h : clash0 a b = false) : ¬ (0 < a.length ∧ 0 < b.length ∧ (listW a 0).who ≠ (listW b 0).who) := by unfold clash0 at h; simpa only [decide_eq_false_iff_not] using h
theorem Fs.drop_w {l : List WRec} {i : Nat} (h : i < l.length) : l.drop i = listW l i :: l.drop (i + 1) := by
  rw [List.drop_eq_getElem_cons h]
  congr 1
  have := listW_get h
  rw [List.getElem?_eq_getElem h] at this
  exact Option.some.inj this
theorem Fs.mergeL_nil (a : List WRec) : mergeL a [] = a := by cases a <;> simp [mergeL]
theorem Fs.mergeL_none (b : List WRec) : mergeL [] b = b := by simp [mergeL]
theorem merge_a {a b out : List WRec} {i k : Nat} (hi : i < a.length) (hk : k < b.length) (h : (listW a i).beg < (listW b k).beg) : out ++ ([listW a i] ++ mergeL (a.drop (i + 1)) (b.drop k)) = out ++ mergeL (a.drop i) (b.drop k) := by
  rw [drop_w hi, drop_w hk, mergeL, if_pos h]
  rfl
theorem merge_b {a b out : List WRec} {i k : Nat} (hi : i < a.length) (hk : k < b.length) (h : ¬ (listW a i).beg < (listW b k).beg) : out ++ ([listW b k] ++ mergeL (a.drop i) (b.drop (k + 1))) = out ++ mergeL (a.drop i) (b.drop k) := by
  rw [drop_w hi, drop_w hk, mergeL, if_neg h]
  rfl
theorem merge_nb {a b out : List WRec} {i k : Nat} (hi : a.length ≤ i) (hk : k < b.length) : out ++ ([listW b k] ++ mergeL (a.drop i) (b.drop (k + 1))) = out ++ mergeL (a.drop i) (b.drop k) := by
  rw [List.drop_eq_nil_of_le hi, mergeL_none, mergeL_none, drop_w hk]
  rfl
theorem merge_na {a b out : List WRec} {i k : Nat} (hi : i < a.length) (hk : b.length ≤ k) : out ++ ([listW a i] ++ mergeL (a.drop (i + 1)) (b.drop k)) = out ++ mergeL (a.drop i) (b.drop k) := by
  rw [List.drop_eq_nil_of_le hk, mergeL_nil, mergeL_nil, drop_w hi]
  rfl
theorem recFlat_more (l : List WRec) (x : WRec) : recFlat (l ++ [x]) = recFlat l ++ [.string x.who, .int .i64 x.beg, .int .i64 x.fin] := by
  rw [show [Value.string x.who, .int .i64 x.beg, .int .i64 x.fin] = flat 1 3 (fun _ j => recCells x j) from rfl]
  unfold recFlat
  have h := flat_join (n := l.length) (m := 1) (size := 3) (C := fun i j => recCells (listW l i) j) (D := fun _ j => recCells x j) (E := fun i j => recCells (listW (l ++ [x]) i) j) (by decide) (fun i j hi _ => by rw [listW_left hi]) (fun i j hi _ => by
    have e : i = 0 := by omega
    subst e
    rw [Nat.add_zero, listW_last])
  rw [h, List.length_append, List.length_singleton]
theorem recOne (x : WRec) : ∀ u ∈ [Value.string x.who, .int .i64 x.beg, .int .i64 x.fin], u.oneCell' = true := by
  intro u hu
  simp at hu
  rcases hu with rfl | rfl | rfl <;> rfl
set_option linter.unusedSimpArgs false in
set_option maxHeartbeats 12800000 in
set_option maxRecDepth 100000 in
theorem rJoined_any (a b : List WRec) (A B : Option Addr) (c d : Nat) (w : World) (h : ArrW w A a c) (h' : ArrW w B b d) (hna : a.length ≤ 40) (hnb : b.length ≤ 40) :
    Calls Try.prog 41 #[.slice A a.length c, .slice B b.length d] w fun e w' => (∃ v, e = .returned (.tuple #[v, .int .i64 (djoinErr a b)]) ∧ (djoinErr a b ≠ 0 → v = .slice none 0 0) ∧ (djoinErr a b = 0 → w'.ownsRow w.heap.size 39 3 v (mergeL a b).length (recFlat (mergeL a b)))) ∧ Below w.heap.size w w' := by
  obtain ⟨i0, hi, hz0, hz1, hz2⟩ := info_parts Try.infoDRec
  have b1 := h.le.1
  have b2 := h.le.2
  have b3 := h'.le.1
  have b4 := h'.le.2
  have HA := Lib.hid h
  have HBB := Lib.hid h'
  clear h h'
  go_enter Try.func41, Try.ntmps41
  go_upto_region 1 with fail
  go_cut [29] from 11 to 29 (fun s wx => s = .bool (clash0 a b) ∧ Hid (Below w.heap.size w wx))
  case first =>
    by_cases ha : 0 < a.length
    · have x1 : decide ((a.length : Int) > 0) = true := decide_eq_true (by omega)
      have x2 : decide (0 < (a.length : Int)) = true := decide_eq_true (by omega)
      have x3 : decide (0 < a.length) = true := decide_eq_true (by omega)
      have x4 : decide (a.length = 0) = false := decide_eq_false (by omega)
      by_cases hb : 0 < b.length
      · have y1 : decide ((b.length : Int) > 0) = true := decide_eq_true (by omega)
        have y2 : decide (0 < (b.length : Int)) = true := decide_eq_true (by omega)
        have y3 : decide (0 < b.length) = true := decide_eq_true (by omega)
        have y4 : decide (b.length = 0) = false := decide_eq_false (by omega)
        have hka : (0 : Int) < (a.length : Int) := by omega
        have hkb : (0 : Int) < (b.length : Int) := by omega
        obtain ⟨b1', o1, rfl, q⟩ := HA.out.at_ ha
        obtain ⟨b2', o2, rfl, r⟩ := HBB.out.at_ hb
        obtain ⟨q0, q1, q2⟩ := q
        obtain ⟨r0, r1, r2⟩ := r
        simp only [Nat.zero_mul, Nat.add_zero] at q0 r0
        by_cases hw : (listW a 0).who = (listW b 0).who
        · have e1 := str_eq hw
          have e2 : ((listW a 0).who.toList != (listW b 0).who.toList) = false := by rw [bne, e1]; rfl
          have Z := Lib.hid (clash0_no (a := a) (b := b) fun hh => hh.2.2 hw)
          clear hw q1 q2 r1 r2
          go_wp2_with fail
          go_quiet (fail)
          go_wp2_with fail
          go_meet
          exact ⟨by rw [Z.out], Lib.hid (bdrewN (Below.refl _ _) _)⟩
        · have e1 := str_ne hw
          have e2 : ((listW a 0).who.toList != (listW b 0).who.toList) = true := by rw [bne, e1]; rfl
          have Z := Lib.hid (clash0_yes ⟨ha, hb, hw⟩)
          clear hw q1 q2 r1 r2
          go_wp2_with fail
          go_quiet (fail)
          go_wp2_with fail
          go_meet
          exact ⟨by rw [Z.out], Lib.hid (bdrewN (Below.refl _ _) _)⟩
      · have y1 : decide ((b.length : Int) > 0) = false := decide_eq_false (by omega)
        have y2 : decide (0 < (b.length : Int)) = false := decide_eq_false (by omega)
        have y3 : decide (0 < b.length) = false := decide_eq_false (by omega)
        have y4 : decide (b.length = 0) = true := decide_eq_true (by omega)
        have Z := Lib.hid (clash0_no (a := a) (b := b) fun hh => hb hh.2.1)
        go_wp2_with fail
        go_quiet (fail)
        go_wp2_with fail
        go_meet
        exact ⟨by rw [Z.out], Lib.hid (bdrewN (Below.refl _ _) _)⟩
    · have x1 : decide ((a.length : Int) > 0) = false := decide_eq_false (by omega)
      have x2 : decide (0 < (a.length : Int)) = false := decide_eq_false (by omega)
      have x3 : decide (0 < a.length) = false := decide_eq_false (by omega)
      have x4 : decide (a.length = 0) = true := decide_eq_true (by omega)
      have Z := Lib.hid (clash0_no (a := a) (b := b) fun hh => ha hh.1)
      go_wp2_with fail
      go_quiet (fail)
      go_wp2_with fail
      go_meet
      exact ⟨by rw [Z.out], Lib.hid (bdrewN (Below.refl _ _) _)⟩
  case rest =>
    obtain ⟨rfl, HB0⟩ := hcut
    cases hz : clash0 a b with
    | true =>
      have F := Lib.hid (show djoinErr a b = 13 from if_pos (clash0_is hz))
      clear hz
      go_wp2_with fail
      go_ret2
      exact ⟨⟨.slice none 0 0, by rw [F.out]; rfl, fun _ => rfl, fun hh => absurd (F.out.symm.trans hh) (by decide)⟩, HB0.out⟩
    | false =>
      have HZ := Lib.hid (clash0_isno hz)
      clear hz
      go_wp2_with fail
      go_loopw [6] (fun s wr => ∃ i : Nat, i ≤ a.length ∧ s = .int .i64 i ∧ Hid (∀ j, j < i → ∀ k, k < b.length → overlapB (listW a j) (listW b k) ≠ true) ∧ Hid (Below w.heap.size w wr)) (fun s _ => a.length - (intOf s).toNat)
      case atStart => exact ⟨0, Nat.zero_le _, rfl, Lib.hid fun j hj => absurd hj (Nat.not_lt_zero _), HB0⟩
      case round =>
        obtain ⟨i, hi', rfl, Hn, HB⟩ := hrel
        by_cases hia : i < a.length
        · have hka : (i : Int) < (a.length : Int) := by omega
          go_wp2_with fail
          go_loopw [7] (fun s wr => ∃ k : Nat, k ≤ b.length ∧ s = .int .i64 k ∧ Hid (∀ j, j < k → overlapB (listW a i) (listW b j) ≠ true) ∧ Hid (Below w.heap.size w wr)) (fun s _ => b.length - (intOf s).toNat)
          case atStart => exact ⟨0, Nat.zero_le _, rfl, Lib.hid fun j hj => absurd hj (Nat.not_lt_zero _), HB⟩
          case round =>
            obtain ⟨k, hk, rfl, Hk, HB⟩ := hrel
            by_cases hib : k < b.length
            · have hkb : (k : Int) < (b.length : Int) := by omega
              obtain ⟨b1', o1, rfl, q⟩ := (HA.out.keep (Keep.below HB.out)).at_ hia
              obtain ⟨b2', o2, rfl, r⟩ := (HBB.out.keep (Keep.below HB.out)).at_ hib
              obtain ⟨q0, q1, q2⟩ := q
              obtain ⟨r0, r1, r2⟩ := r
              by_cases h1 : (listW a i).beg < (listW b k).fin
              · have e1 : decide ((listW a i).beg < (listW b k).fin) = true := decide_eq_true h1
                by_cases h2 : (listW b k).beg < (listW a i).fin
                · have e2 : decide ((listW b k).beg < (listW a i).fin) = true := decide_eq_true h2
                  have F := Lib.hid (show djoinErr a b = 26 by unfold djoinErr; rw [if_neg HZ.out, if_pos ⟨i, hia, k, hib, by unfold overlapB; rw [e1, e2]; rfl⟩])
                  clear h1 h2
                  go_wp2_with fail
                  go_quiet (fail)
                  go_wp2_with fail
                  go_ret2
                  exact ⟨⟨.slice none 0 0, by rw [F.out]; rfl, fun _ => rfl, fun hh => absurd (F.out.symm.trans hh) (by decide)⟩, bdrewN HB.out _⟩
                · have e2 : decide ((listW b k).beg < (listW a i).fin) = false := decide_eq_false h2
                  have G : Hid (overlapB (listW a i) (listW b k) ≠ true) := Lib.hid (by unfold overlapB; rw [e1, e2]; decide)
                  clear h1 h2
                  go_wp2_with fail
                  go_quiet (fail)
                  go_wp2_with fail
                  go_roundw
                  case rel =>
                    exact ⟨k + 1, by omega, by go_num, Lib.hid fun j hj => by
                      by_cases e : j = k
                      · subst e; exact G.out
                      · exact Hk.out j (by omega), Lib.hid (bdrewN HB.out _)⟩
                  case measure => simp [intOf]; omega
              · have e1 : decide ((listW a i).beg < (listW b k).fin) = false := decide_eq_false h1
                have G : Hid (overlapB (listW a i) (listW b k) ≠ true) := Lib.hid (by unfold overlapB; rw [e1, Bool.false_and]; decide)
                clear h1
                go_wp2_with fail
                go_quiet (fail)
                go_wp2_with fail
                go_roundw
                case rel =>
                  exact ⟨k + 1, by omega, by go_num, Lib.hid fun j hj => by
                    by_cases e : j = k
                    · subst e; exact G.out
                    · exact Hk.out j (by omega), Lib.hid (bdrewN HB.out _)⟩
                case measure => simp [intOf]; omega
            · go_wp2_with fail
              go_roundw
              case rel =>
                exact ⟨i + 1, by omega, by go_num, Lib.hid fun j hj => by
                  by_cases e : j = i
                  · subst e; exact fun k hk => Hk.out k (by omega)
                  · exact Hn.out j (by omega), HB⟩
              case measure => simp [intOf]; omega
        · have HNO := Lib.hid (show ¬ ∃ i, i < a.length ∧ ∃ k, k < b.length ∧ overlapB (listW a i) (listW b k) = true from fun ⟨j, h1, k, h2, h3⟩ => Hn.out j (by omega) k h2 h3)
          clear Hn
          have hws : IntKind.i64.wrap ((a.length : Int) + (b.length : Int)) = (a.length : Int) + (b.length : Int) := by rw [IntKind.wrap_i64]; omega
          by_cases h40 : 40 < a.length + b.length
          · have F := Lib.hid (show djoinErr a b = 8 by unfold djoinErr; rw [if_neg HZ.out, if_neg HNO.out, if_pos h40])
            have d1 : decide ((a.length : Int) + (b.length : Int) > 40) = true := decide_eq_true (by omega)
            have d2 : decide (40 < (a.length : Int) + (b.length : Int)) = true := decide_eq_true (by omega)
            clear h40
            go_wp2_with fail
            go_ret2
            exact ⟨⟨.slice none 0 0, by rw [F.out]; rfl, fun _ => rfl, fun hh => absurd (F.out.symm.trans hh) (by decide)⟩, HB.out⟩
          · have F0 := Lib.hid (show djoinErr a b = 0 by unfold djoinErr; rw [if_neg HZ.out, if_neg HNO.out, if_neg h40])
            have d1 : decide ((a.length : Int) + (b.length : Int) > 40) = false := decide_eq_false (by omega)
            have d2 : decide (40 < (a.length : Int) + (b.length : Int)) = false := decide_eq_false (by omega)
            have d3 : decide (40 < a.length + b.length) = false := decide_eq_false (by omega)
            go_wp2_with fail
            clear d1 d2 d3 hws hia hi'
            go_loopw [8, 9, 10] (fun v s u wr => ∃ (i k : Nat) (out : List WRec), i ≤ a.length ∧ k ≤ b.length ∧ s = .int .i64 i ∧ u = .int .i64 k ∧ Hid (out.length = i + k) ∧ Hid (out ++ mergeL (a.drop i) (b.drop k) = mergeL a b) ∧ Hid (wr.ownsRow w.heap.size 39 3 v out.length (recFlat out)) ∧ Hid (Below w.heap.size w wr)) (fun _ s u _ => a.length + b.length - ((intOf s).toNat + (intOf u).toNat))
            case atStart => exact ⟨0, 0, [], Nat.zero_le _, Nat.zero_le _, rfl, rfl, Lib.hid rfl, Lib.hid rfl, Lib.hid (World.ownsRow_nil _ _ _ _), HB⟩
            case round =>
              clear HB
              obtain ⟨i, k, out, hi1, hk1, rfl, rfl, HLO, HM, HO, HB⟩ := hrel
              have hol := HLO.out
              have HD := Lib.hid (fun n => below_of_own HO.out (bdrewN (Below.refl _ _) n))
              by_cases hib : k < b.length
              · have d2 : decide ((k : Int) < (b.length : Int)) = true := decide_eq_true (by omega)
                have d2n : decide (k < b.length) = true := decide_eq_true (by omega)
                have d4 : ((k : Int) == (b.length : Int)) = false := by simp; omega
                have hkb : (k : Int) < (b.length : Int) := by omega
                obtain ⟨b2, o2, rfl, r⟩ := (HBB.out.keep (Keep.below HB.out)).at_ hib
                obtain ⟨r0, r1, r2⟩ := r
                by_cases hia : i < a.length
                · have d1 : decide ((i : Int) < (a.length : Int)) = true := decide_eq_true (by omega)
                  have d1n : decide (i < a.length) = true := decide_eq_true (by omega)
                  have hka : (i : Int) < (a.length : Int) := by omega
                  obtain ⟨b1', o1, rfl, q⟩ := (HA.out.keep (Keep.below HB.out)).at_ hia
                  obtain ⟨q0, q1, q2⟩ := q
                  by_cases hc : (listW a i).beg < (listW b k).beg
                  · have d3 : decide ((listW a i).beg < (listW b k).beg) = true := decide_eq_true hc
                    have HG := Lib.hid ((merge_a (out := out) hia hib hc).trans HM.out)
                    clear hc
                    go_wp2_with fail
                    go_quiet (fail)
                    go_wp2_with (at_builtin
                                 refine wpList_append_own _ rfl (.tmp 105) (.tmp 110) 24 rfl w.heap.size 39 i0 _ 3 32 Try.underlying24 hi hz0 hz1 hz2 rfl (by decide) _ _ _ rfl ((HD.out _).alloc _) ⟨_, 0, none⟩ 1 1 [.string (listW a i).who, .int .i64 (listW a i).beg, .int .i64 (listW a i).fin] rfl rfl ?c1 ?c2 ?c3 ?c4 ?c5 ?_)
                    case c1 => exact World.news_of_block (heap_alloc_new _ _)
                    case c2 => exact recOne _
                    case c3 => unfold maxLen; omega
                    case c4 => omega
                    case c5 => have := HB.out.size; simp; omega
                    intro v9 w9 ho9 hg9 _
                    go_wp2_with fail
                    go_roundw
                    case rel =>
                      refine ⟨i + 1, k, out ++ [listW a i], by omega, by omega, by go_num, by go_num, Lib.hid ?_, Lib.hid ?_, Lib.hid ?_, Lib.hid ?_⟩
                      · rw [List.length_append, HLO.out, List.length_singleton]; omega
                      · rw [List.append_assoc]; exact HG.out
                      · rw [recFlat_more, List.length_append, HLO.out]
                        exact ho9
                      · exact ((bdrewN HB.out _).alloc (bdrewN HB.out _).size _).grown hg9 (by have := HB.out.size; simp; omega) (fun j hj => ((HD.out 0).lt j hj).1)
                    case measure => simp [intOf]; omega
                  · have d3 : decide ((listW a i).beg < (listW b k).beg) = false := decide_eq_false hc
                    have HG := Lib.hid ((merge_b (out := out) hia hib hc).trans HM.out)
                    clear hc
                    go_wp2_with fail
                    go_quiet (fail)
                    go_wp2_with (at_builtin
                                 refine wpList_append_own _ rfl (.tmp 114) (.tmp 119) 24 rfl w.heap.size 39 i0 _ 3 32 Try.underlying24 hi hz0 hz1 hz2 rfl (by decide) _ _ _ rfl ((HD.out _).alloc _) ⟨_, 0, none⟩ 1 1 [.string (listW b k).who, .int .i64 (listW b k).beg, .int .i64 (listW b k).fin] rfl rfl ?c1 ?c2 ?c3 ?c4 ?c5 ?_)
                    case c1 => exact World.news_of_block (heap_alloc_new _ _)
                    case c2 => exact recOne _
                    case c3 => unfold maxLen; omega
                    case c4 => omega
                    case c5 => have := HB.out.size; simp; omega
                    intro v9 w9 ho9 hg9 _
                    go_wp2_with fail
                    go_roundw
                    case rel =>
                      refine ⟨i, k + 1, out ++ [listW b k], by omega, by omega, by go_num, by go_num, Lib.hid ?_, Lib.hid ?_, Lib.hid ?_, Lib.hid ?_⟩
                      · rw [List.length_append, HLO.out, List.length_singleton]; omega
                      · rw [List.append_assoc]; exact HG.out
                      · rw [recFlat_more, List.length_append, HLO.out]
                        exact ho9
                      · exact ((bdrewN HB.out _).alloc (bdrewN HB.out _).size _).grown hg9 (by have := HB.out.size; simp; omega) (fun j hj => ((HD.out 0).lt j hj).1)
                    case measure => simp [intOf]; omega
                · have d1 : decide ((i : Int) < (a.length : Int)) = false := decide_eq_false (by omega)
                  have d1n : decide (i < a.length) = false := decide_eq_false (by omega)
                  have HG := Lib.hid ((merge_nb (out := out) (i := i) (by omega) hib).trans HM.out)
                  go_wp2_with fail
                  go_quiet (fail)
                  go_wp2_with (at_builtin
                               refine wpList_append_own _ rfl (.tmp 114) (.tmp 119) 24 rfl w.heap.size 39 i0 _ 3 32 Try.underlying24 hi hz0 hz1 hz2 rfl (by decide) _ _ _ rfl ((HD.out _).alloc _) ⟨_, 0, none⟩ 1 1 [.string (listW b k).who, .int .i64 (listW b k).beg, .int .i64 (listW b k).fin] rfl rfl ?c1 ?c2 ?c3 ?c4 ?c5 ?_)
                  case c1 => exact World.news_of_block (heap_alloc_new _ _)
                  case c2 => exact recOne _
                  case c3 => unfold maxLen; omega
                  case c4 => omega
                  case c5 => have := HB.out.size; simp; omega
                  intro v9 w9 ho9 hg9 _
                  go_wp2_with fail
                  go_roundw
                  case rel =>
                    refine ⟨i, k + 1, out ++ [listW b k], by omega, by omega, by go_num, by go_num, Lib.hid ?_, Lib.hid ?_, Lib.hid ?_, Lib.hid ?_⟩
                    · rw [List.length_append, HLO.out, List.length_singleton]; omega
                    · rw [List.append_assoc]; exact HG.out
                    · rw [recFlat_more, List.length_append, HLO.out]
                      exact ho9
                    · exact ((bdrewN HB.out _).alloc (bdrewN HB.out _).size _).grown hg9 (by have := HB.out.size; simp; omega) (fun j hj => ((HD.out 0).lt j hj).1)
                  case measure => simp [intOf]; omega
              · by_cases hia : i < a.length
                · have d1 : decide ((i : Int) < (a.length : Int)) = true := decide_eq_true (by omega)
                  have d1n : decide (i < a.length) = true := decide_eq_true (by omega)
                  have d2 : decide ((k : Int) < (b.length : Int)) = false := decide_eq_false (by omega)
                  have d2n : decide (k < b.length) = false := decide_eq_false (by omega)
                  have d4 : ((k : Int) == (b.length : Int)) = true := by simp; omega
                  have hka : (i : Int) < (a.length : Int) := by omega
                  obtain ⟨b1', o1, rfl, q⟩ := (HA.out.keep (Keep.below HB.out)).at_ hia
                  obtain ⟨q0, q1, q2⟩ := q
                  have HG := Lib.hid ((merge_na (out := out) hia (k := k) (by omega)).trans HM.out)
                  go_wp2_with fail
                  go_quiet (fail)
                  go_wp2_with (at_builtin
                               refine wpList_append_own _ rfl (.tmp 105) (.tmp 110) 24 rfl w.heap.size 39 i0 _ 3 32 Try.underlying24 hi hz0 hz1 hz2 rfl (by decide) _ _ _ rfl ((HD.out _).alloc _) ⟨_, 0, none⟩ 1 1 [.string (listW a i).who, .int .i64 (listW a i).beg, .int .i64 (listW a i).fin] rfl rfl ?c1 ?c2 ?c3 ?c4 ?c5 ?_)
                  case c1 => exact World.news_of_block (heap_alloc_new _ _)
                  case c2 => exact recOne _
                  case c3 => unfold maxLen; omega
                  case c4 => omega
                  case c5 => have := HB.out.size; simp; omega
                  intro v9 w9 ho9 hg9 _
                  go_wp2_with fail
                  go_roundw
                  case rel =>
                    refine ⟨i + 1, k, out ++ [listW a i], by omega, by omega, by go_num, by go_num, Lib.hid ?_, Lib.hid ?_, Lib.hid ?_, Lib.hid ?_⟩
                    · rw [List.length_append, HLO.out, List.length_singleton]; omega
                    · rw [List.append_assoc]; exact HG.out
                    · rw [recFlat_more, List.length_append, HLO.out]
                      exact ho9
                    · exact ((bdrewN HB.out _).alloc (bdrewN HB.out _).size _).grown hg9 (by have := HB.out.size; simp; omega) (fun j hj => ((HD.out 0).lt j hj).1)
                  case measure => simp [intOf]; omega
                · have d1 : decide ((i : Int) < (a.length : Int)) = false := decide_eq_false (by omega)
                  have d1n : decide (i < a.length) = false := decide_eq_false (by omega)
                  have d2 : decide ((k : Int) < (b.length : Int)) = false := decide_eq_false (by omega)
                  have d2n : decide (k < b.length) = false := decide_eq_false (by omega)
                  have hend : out = mergeL a b := by have := HM.out; rw [List.drop_eq_nil_of_le (by omega), List.drop_eq_nil_of_le (by omega)] at this; rw [← this, mergeL, List.append_nil]
                  go_wp2_with fail
                  go_ret2
                  exact ⟨⟨_, by rw [F0.out]; rfl, fun hh => absurd F0.out hh, fun _ => by rw [← hend]; exact HO.out⟩, HB.out⟩
end Go.Proofs.Ytolicafhbeiciaa
/- The reference's weekly: the work of the week up to a trip's end. Condition: records are right, the numbers small. -/
namespace Go.Proofs.Ytolicafhbeiciaa
open Go.RowKit Fs

def Fs.weekly (l : List WRec) (s n : Int) : Int := n + workTo l (s + n - 604800) s l.length
set_option maxHeartbeats 1600000 in
theorem rWeekly_any (l : List WRec) (s n : Int) (A : Option Addr) (c : Nat) (w : World) (h : ArrW w A l c) (hR : Right l) (hs : 0 ≤ s ∧ s ≤ 8640000000) (hn : 0 ≤ n ∧ n ≤ 200000) :
    Calls Try.prog 95 #[.slice A l.length c, .int .i64 s, .int .i64 n] w fun e w' => e = .returned (.int .i64 (weekly l s n)) ∧ Below w.heap.size w w' := by
  have x1 := workTo_is hR.fit (s + n - 604800) s l.length (Nat.le_refl _)
  have x2 := hR.len
  have F := Lib.hid (show weekly l s n = n + workTo l (s + n - 604800) s l.length from rfl)
  have hw1 : IntKind.i64.wrap (s + n) = s + n := by rw [IntKind.wrap_i64]; omega
  have hw2 : IntKind.i64.wrap (s + n - 604800) = s + n - 604800 := by rw [IntKind.wrap_i64]; omega
  have hw3 : IntKind.i64.wrap (n + workTo l (s + n - 604800) s l.length) = n + workTo l (s + n - 604800) s l.length := by rw [IntKind.wrap_i64]; omega
  go_enter Try.func95, Try.ntmps95
  go_wp2_with fail
  refine (rWorkIn_any l A c l.length (s + n - 604800) s _ h hR.fit (Nat.le_refl _) (by omega) (by omega)).mono ?_
  rintro e' w1 ⟨rfl, hb1⟩
  have HW := Lib.hid hb1
  clear hb1
  go_wp2_with fail
  go_ret
  exact ⟨ret_int F.out.symm, HW.out⟩
/-- Below its end the week's work up to a trip's end has the trip itself: what brokenAt asks. -/
theorem Fs.weekly_is {l : List WRec} (h : Right l) {s n : Int} (hn : 0 ≤ n) (hs : 0 < l.length → (listW l (l.length - 1)).fin ≤ s) : workTo l (s + n - 604800) (s + n) l.length = workTo l (s + n - 604800) s l.length := by
  have hh : ∀ k, k ≤ l.length → workTo l (s + n - 604800) (s + n) k = workTo l (s + n - 604800) s k := by
    intro k
    induction k with
    | zero => intro _; rfl
    | succ k ih =>
      intro hk
      have h1 := fin_le h (l.length - 1) (by omega) k (by omega)
      have h2 := hs (by omega)
      rw [workTo_next, workTo_next, ih (by omega)]
      unfold overlapOf
      omega
  exact hh _ (Nat.le_refl _)
/-- A later start has no more work in its week: weekly does not rise. -/
theorem Fs.weekly_falls {l : List WRec} {s s' n : Int} (h : Right l) (hs : s ≤ s') (hl : 0 < l.length → (listW l (l.length - 1)).fin ≤ s) : weekly l s' n ≤ weekly l s n := by
  unfold weekly
  have hh : ∀ k, k ≤ l.length → workTo l (s' + n - 604800) s' k ≤ workTo l (s + n - 604800) s k := by
    intro k
    induction k with
    | zero => intro _; exact Int.le_refl _
    | succ k ih =>
      intro hk
      have h1 := fin_le h (l.length - 1) (by omega) k (by omega)
      have h2 := hl (by omega)
      have h3 := ih (by omega)
      rw [workTo_next, workTo_next]
      unfold overlapOf
      omega
  have := hh _ (Nat.le_refl _)
  omega
end Go.Proofs.Ytolicafhbeiciaa
/- From which time on a trip is allowed: plain facts for EarliestStart. Condition: records are right. -/
namespace Go.Proofs.Ytolicafhbeiciaa.Fs

/-- The trip from another start. -/
def fromAt (t : DTrip) (z : Int) : DTrip := ⟨z, t.lo, t.hi, t.next⟩
/-- Two starts are as far from the last record as each other, for a gap. -/
def sameSide (l : List WRec) (gap z z' : Int) : Prop := 0 < l.length → (z - (listW l (l.length - 1)).fin < gap ↔ z' - (listW l (l.length - 1)).fin < gap)
theorem withTrip_len (l : List WRec) (z n : Int) : (withTrip l z n).length = l.length + 1 := by simp [withTrip]
theorem first_side {l : List WRec} {gap z z' n : Int} (h : sameSide l gap z z') : firstIn (withTrip l z n) gap l.length = firstIn (withTrip l z' n) gap l.length := by
  rcases Nat.eq_zero_or_pos l.length with h0 | h0
  · rw [h0]; rfl
  · obtain ⟨k, hk⟩ : ∃ k, l.length = k + 1 := ⟨l.length - 1, by omega⟩
    have e1 : ∀ y, (listW (withTrip l y n) (k + 1)).beg = y := fun y => by rw [← hk, withTrip_last]
    have e2 : ∀ y, (listW (withTrip l y n) k).fin = (listW l k).fin := fun y => by rw [withTrip_at (by omega)]
    have hs := h h0
    rw [show l.length - 1 = k by omega] at hs
    rw [hk, firstIn, firstIn, e1, e1, e2, e2]
    by_cases a : z - (listW l k).fin < gap
    · rw [if_pos a, if_pos (hs.1 a)]
      exact firstIn_congr gap k (fun i hi => by rw [withTrip_at (by omega), withTrip_at (by omega)]) (fun i hi => by rw [withTrip_at (by omega), withTrip_at (by omega)])
    · rw [if_neg a, if_neg (fun b => a (hs.2 b))]
/-- In one segment: what is allowed later is allowed earlier, as long as the week allows it. -/
theorem seg_ok {R : DRules} {l : List WRec} {t : DTrip} {z z' : Int} (hr : Right l) (hl : 0 < l.length → (listW l (l.length - 1)).fin ≤ z) (hz : z ≤ z') (hh0 : 0 ≤ t.hi) (hh1 : t.hi ≤ 200000)
    (h1 : sameSide l R.brk z z') (h2 : sameSide l R.rest z z') (hw : 0 < t.hi → weekly l z t.hi ≤ R.week) (hok : breaks R l (fromAt t z') t.hi = 0) : breaks R l (fromAt t z) t.hi = 0 := by
  rw [breaks_zero] at hok ⊢
  refine ⟨fun hp => ?_, fun hx => ?_⟩
  · have a := hok.1 hp
    have hl' : 0 < l.length → (listW l (l.length - 1)).fin ≤ z' := fun h => Int.le_trans (hl h) hz
    rw [show (fromAt t z').start = z' from rfl] at a
    rw [show (fromAt t z).start = z from rfl]
    rw [withTrip_zero hh0 (by omega)] at a ⊢
    obtain ⟨a1, a2, a3⟩ := a
    have hw := hw hp
    unfold weekly at hw
    rw [weekly_is hr hh0 hl]
    rw [first_side h1, first_side h2]
    refine ⟨a1, ?_, by omega⟩
    have hf := firstIn_le (withTrip l z' 0) R.rest l.length
    generalize firstIn (withTrip l z' 0) R.rest l.length = f at *
    by_cases e : f < l.length
    · rw [withTrip_at e] at a2 ⊢
      omega
    · obtain rfl : f = l.length := by omega
      rw [withTrip_last] at a2 ⊢
      dsimp only at a2 ⊢
      omega
  · have b := hok.2 hx
    show R.rest ≤ t.next - (z + t.hi)
    have b' : R.rest ≤ t.next - (z' + t.hi) := b
    omega
/-- Where the week forbids a trip it is not allowed. -/
theorem week_no {R : DRules} {l : List WRec} {t : DTrip} {z : Int} (hr : Right l) (hl : 0 < l.length → (listW l (l.length - 1)).fin ≤ z) (hp : 0 < t.hi) (hh1 : t.hi ≤ 200000) (hw : R.week < weekly l z t.hi) : breaks R l (fromAt t z) t.hi ≠ 0 := by
  intro hok
  rw [breaks_zero] at hok
  have a := hok.1 hp
  rw [show (fromAt t z).start = z from rfl, withTrip_zero (by omega) (by omega), weekly_is hr (by omega) hl] at a
  unfold weekly at hw
  omega
end Go.Proofs.Ytolicafhbeiciaa.Fs

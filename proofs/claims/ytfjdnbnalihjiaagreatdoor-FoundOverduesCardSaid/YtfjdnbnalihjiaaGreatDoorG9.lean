/- Limits: the law's Short. No condition. -/
import Derived.Test.YtfjdnbnalihjiaaGreatDoorG8
namespace Go.Proofs.YtfjdnbnalihjiaaGreatDoor
open Go.RowKit Fs

set_option linter.unusedSimpArgs false in
set_option maxHeartbeats 3200000 in
set_option maxRecDepth 100000 in
theorem lawChain_any (x : Thg) (v : Value) (l : List Evt) (A : Option Addr) (c : Nat) (w : World) (hv : RdThg w v x) (h : ArrEv w A l c) :
    Calls Tryz.prog 54 #[v, .slice A l.length c] w fun e w' => IfB (x.marks.length ≤ 10 ∧ l.length ≤ 32) e ∧ Below w.heap.size w w' := by
  obtain ⟨p, pc, rfl, m⟩ := hv
  have b1 := h.le.1
  have b2 := h.le.2
  have HW := Lib.hid ((Below.refl w.heap.size w).alloc (Nat.le_refl _) (.cells #[.string x.name, .int .i64 x.day, .string x.who, .slice p x.marks.length pc] 24))
  have M := Lib.hid (m.keep (Keep.below HW.out))
  have HA := Lib.hid h
  obtain ⟨q0, q1, q2, q3⟩ := ThgAt.new w x p pc 24
  clear m h
  go_enter Tryz.func54, Tryz.ntmps54
  go_upto_region 1 with fail
  generalize hwb : w.alloc _ = wb at *
  clear hwb
  go_wp2_with fail
  refine (lawItem_any x _ _ ⟨_, _, rfl, M.out⟩).mono ?_
  rintro e' w1 ⟨⟨bb, rfl, hbb⟩, hb1⟩
  replace HW := Lib.hid (HW.out.trans (hb1.mono HW.out.size))
  clear hb1 q0 q1 q2 q3
  cases bb with
  | false =>
    go_wp2_with fail
    go_ret
    exact ⟨⟨_, rfl, fun hh => absurd hh (by decide)⟩, HW.out⟩
  | true =>
    have HM := Lib.hid (hbb rfl)
    clear hbb
    by_cases r1 : l.length ≤ 10
    · have H1 : Hid (l.length ≤ 32) := Lib.hid (by omega)
      have f0 : decide ((l.length : Int) > 10) = false := decide_eq_false (by omega)
      have g0 : decide ((10 : Int) < (l.length : Int)) = false := decide_eq_false (by omega)
      have f1 : decide ((l.length : Int) ≤ 30) = true := decide_eq_true (by omega)
      have f2 : decide ((l.length : Int) > 32) = false := decide_eq_false (by omega)
      have g2 : decide ((32 : Int) < (l.length : Int)) = false := decide_eq_false (by omega)
      go_wp2_with fail
      go_loopw [5] (fun u wr => ∃ k : Nat, k ≤ l.length ∧ u = .int .i64 k ∧ Hid (Below w.heap.size w wr)) (fun u _ => l.length - (intOf u).toNat)
      case atStart => exact ⟨0, Nat.zero_le _, rfl, HW⟩
      case round =>
        obtain ⟨k, hk, rfl, HB⟩ := hrel
        by_cases hlt : k < l.length
        · have hkn : (k : Int) < (l.length : Int) := by omega
          obtain ⟨b, o, rfl, q0, q1, q2, q3, q4⟩ := (HA.out.keep (Keep.below HB.out)).at_ hlt
          by_cases h1 : (20 : Int) < ((lEvt l k).item.size : Int)
          · have e1a : decide ((20 : Int) < ((lEvt l k).item.size : Int)) = true := decide_eq_true h1
            have e1b : decide (((lEvt l k).item.size : Int) > 20) = true := decide_eq_true h1
            go_wp2_with fail
            go_ret
            exact ⟨⟨_, rfl, fun hh => absurd hh (by decide)⟩, HB.out⟩
          · have e1a : decide ((20 : Int) < ((lEvt l k).item.size : Int)) = false := decide_eq_false h1
            have e1b : decide (((lEvt l k).item.size : Int) > 20) = false := decide_eq_false h1
            by_cases h2 : (20 : Int) < ((lEvt l k).src.size : Int)
            · have e2a : decide ((20 : Int) < ((lEvt l k).src.size : Int)) = true := decide_eq_true h2
              have e2b : decide (((lEvt l k).src.size : Int) > 20) = true := decide_eq_true h2
              go_wp2_with fail
              go_ret
              exact ⟨⟨_, rfl, fun hh => absurd hh (by decide)⟩, HB.out⟩
            · have e2a : decide ((20 : Int) < ((lEvt l k).src.size : Int)) = false := decide_eq_false h2
              have e2b : decide (((lEvt l k).src.size : Int) > 20) = false := decide_eq_false h2
              by_cases h3 : (20 : Int) < ((lEvt l k).dst.size : Int)
              · have e3a : decide ((20 : Int) < ((lEvt l k).dst.size : Int)) = true := decide_eq_true h3
                have e3b : decide (((lEvt l k).dst.size : Int) > 20) = true := decide_eq_true h3
                go_wp2_with fail
                go_ret
                exact ⟨⟨_, rfl, fun hh => absurd hh (by decide)⟩, HB.out⟩
              · have e3a : decide ((20 : Int) < ((lEvt l k).dst.size : Int)) = false := decide_eq_false h3
                have e3b : decide (((lEvt l k).dst.size : Int) > 20) = false := decide_eq_false h3
                go_wp2_with fail
                go_roundw
                case rel => exact ⟨k + 1, by omega, by go_num, HB⟩
                case measure => simp [intOf]; omega
        · go_wp2_with fail
          go_ret
          exact ⟨⟨_, rfl, fun _ => ⟨HM.out, H1.out⟩⟩, HB.out⟩
    · by_cases r2 : l.length ≤ 30
      · have f0 : decide ((l.length : Int) > 10) = true := decide_eq_true (by omega)
        have g0 : decide ((10 : Int) < (l.length : Int)) = true := decide_eq_true (by omega)
        have f1 : decide ((l.length : Int) ≤ 30) = true := decide_eq_true (by omega)
        have f2 : decide ((l.length : Int) > 32) = false := decide_eq_false (by omega)
        have g2 : decide ((32 : Int) < (l.length : Int)) = false := decide_eq_false (by omega)
        go_wp2_with fail
        go_ret
        exact ⟨⟨_, rfl, fun hh => absurd hh (by decide)⟩, HW.out⟩
      · by_cases r3 : l.length ≤ 32
        · have H1 : Hid (l.length ≤ 32) := Lib.hid r3
          have f0 : decide ((l.length : Int) > 10) = true := decide_eq_true (by omega)
          have g0 : decide ((10 : Int) < (l.length : Int)) = true := decide_eq_true (by omega)
          have f1 : decide ((l.length : Int) ≤ 30) = false := decide_eq_false (by omega)
          have f2 : decide ((l.length : Int) > 32) = false := decide_eq_false (by omega)
          have g2 : decide ((32 : Int) < (l.length : Int)) = false := decide_eq_false (by omega)
          go_wp2_with fail
          go_loopw [5] (fun u wr => ∃ k : Nat, k ≤ l.length ∧ u = .int .i64 k ∧ Hid (Below w.heap.size w wr)) (fun u _ => l.length - (intOf u).toNat)
          case atStart => exact ⟨0, Nat.zero_le _, rfl, HW⟩
          case round =>
            obtain ⟨k, hk, rfl, HB⟩ := hrel
            by_cases hlt : k < l.length
            · have hkn : (k : Int) < (l.length : Int) := by omega
              obtain ⟨b, o, rfl, q0, q1, q2, q3, q4⟩ := (HA.out.keep (Keep.below HB.out)).at_ hlt
              by_cases h1 : (20 : Int) < ((lEvt l k).item.size : Int)
              · have e1a : decide ((20 : Int) < ((lEvt l k).item.size : Int)) = true := decide_eq_true h1
                have e1b : decide (((lEvt l k).item.size : Int) > 20) = true := decide_eq_true h1
                go_wp2_with fail
                go_ret
                exact ⟨⟨_, rfl, fun hh => absurd hh (by decide)⟩, HB.out⟩
              · have e1a : decide ((20 : Int) < ((lEvt l k).item.size : Int)) = false := decide_eq_false h1
                have e1b : decide (((lEvt l k).item.size : Int) > 20) = false := decide_eq_false h1
                by_cases h2 : (20 : Int) < ((lEvt l k).src.size : Int)
                · have e2a : decide ((20 : Int) < ((lEvt l k).src.size : Int)) = true := decide_eq_true h2
                  have e2b : decide (((lEvt l k).src.size : Int) > 20) = true := decide_eq_true h2
                  go_wp2_with fail
                  go_ret
                  exact ⟨⟨_, rfl, fun hh => absurd hh (by decide)⟩, HB.out⟩
                · have e2a : decide ((20 : Int) < ((lEvt l k).src.size : Int)) = false := decide_eq_false h2
                  have e2b : decide (((lEvt l k).src.size : Int) > 20) = false := decide_eq_false h2
                  by_cases h3 : (20 : Int) < ((lEvt l k).dst.size : Int)
                  · have e3a : decide ((20 : Int) < ((lEvt l k).dst.size : Int)) = true := decide_eq_true h3
                    have e3b : decide (((lEvt l k).dst.size : Int) > 20) = true := decide_eq_true h3
                    go_wp2_with fail
                    go_ret
                    exact ⟨⟨_, rfl, fun hh => absurd hh (by decide)⟩, HB.out⟩
                  · have e3a : decide ((20 : Int) < ((lEvt l k).dst.size : Int)) = false := decide_eq_false h3
                    have e3b : decide (((lEvt l k).dst.size : Int) > 20) = false := decide_eq_false h3
                    go_wp2_with fail
                    go_roundw
                    case rel => exact ⟨k + 1, by omega, by go_num, HB⟩
                    case measure => simp [intOf]; omega
            · go_wp2_with fail
              go_ret
              exact ⟨⟨_, rfl, fun _ => ⟨HM.out, H1.out⟩⟩, HB.out⟩
        · have f0 : decide ((l.length : Int) > 10) = true := decide_eq_true (by omega)
          have g0 : decide ((10 : Int) < (l.length : Int)) = true := decide_eq_true (by omega)
          have f1 : decide ((l.length : Int) ≤ 30) = false := decide_eq_false (by omega)
          have f2 : decide ((l.length : Int) > 32) = true := decide_eq_true (by omega)
          have g2 : decide ((32 : Int) < (l.length : Int)) = true := decide_eq_true (by omega)
          go_wp2_with fail
          go_ret
          exact ⟨⟨_, rfl, fun hh => absurd hh (by decide)⟩, HW.out⟩
end Go.Proofs.YtfjdnbnalihjiaaGreatDoor
/- The examples of chapter 9: marks, Items, Claims, Chain. No condition. -/
namespace Go.Proofs.YtfjdnbnalihjiaaGreatDoor
open Go.RowKit Fs

def Fs.mrkL (a b s : ByteArray) : List Mrk := [⟨⟨#[99, 111, 108, 111, 114]⟩, a⟩, ⟨⟨#[107, 105, 110, 100]⟩, b⟩] ++ (if s = ⟨#[]⟩ then [] else [⟨⟨#[115, 105, 122, 101]⟩, s⟩])
theorem mrk2 (w : World) (m n : Mrk) (t : TypeId) : (w.alloc (.cells #[.string m.key, .string m.val, .string n.key, .string n.val] t)).ownsRow w.heap.size t 2 (.slice (some ⟨w.heap.size, 0, none⟩) 2 2) 2 (flat 2 2 fun i j => mrkCells (lMrk [m, n] i) j) :=
  ⟨by simp [flat], .inr ⟨w.heap.size, 2, _, rfl, Nat.le_refl _, heap_alloc_new _ _, Nat.le_refl _, by unfold maxLen; omega, rfl, rfl⟩⟩
theorem mrk_one (m : Mrk) : ∀ u ∈ [Value.string m.key, Value.string m.val], u.oneCell' = true := by
  intro u hu
  simp only [List.mem_cons, List.not_mem_nil, or_false] at hu
  rcases hu with rfl | rfl <;> rfl
theorem mrk_news (w : World) (m : Mrk) (t : TypeId) : ∀ j u, [Value.string m.key, Value.string m.val][j]? = some u → (w.alloc (.cells #[.string m.key, .string m.val] t)).cell? (Addr.add ⟨w.heap.size, 0, none⟩ j) = some u := by
  intro j u hu
  match j with
  | 0 => have : Value.string m.key = u := by simpa using hu
         subst this; exact cellNew _ _ _ 0
  | 1 => have : Value.string m.val = u := by simpa using hu
         subst this; exact cellNew _ _ _ 1
  | j + 2 => simp at hu
set_option linter.unusedSimpArgs false in
set_option maxHeartbeats 3200000 in
set_option maxRecDepth 100000 in
theorem lawMarks_any (a b s : ByteArray) (w : World) :
    Calls Tryz.prog 122 #[.string a, .string b, .string s] w fun e w' => (∃ A c, e = .returned (.slice A (mrkL a b s).length c) ∧ ArrMk w' A (mrkL a b s) c ∧ Above w.heap.size A) ∧ Below w.heap.size w w' := by
  obtain ⟨i0, hi, hz0, hz1, hz2⟩ := info_parts Tryz.infoMrk
  have OW := Lib.hid (mrk2 w ⟨⟨#[99, 111, 108, 111, 114]⟩, a⟩ ⟨⟨#[107, 105, 110, 100]⟩, b⟩ 119)
  have HW := Lib.hid ((Below.refl w.heap.size w).alloc (Nat.le_refl _) (.cells #[.string ⟨#[99, 111, 108, 111, 114]⟩, .string a, .string ⟨#[107, 105, 110, 100]⟩, .string b] 119))
  have HWS : Hid (w.heap.size + 1 = (w.alloc (.cells #[.string ⟨#[99, 111, 108, 111, 114]⟩, .string a, .string ⟨#[107, 105, 110, 100]⟩, .string b] 119)).heap.size) := Lib.hid (by simp)
  go_enter Tryz.func122, Tryz.ntmps122
  by_cases hs : s = ⟨#[]⟩
  · have F := Lib.hid (show mrkL a b s = [⟨⟨#[99, 111, 108, 111, 114]⟩, a⟩, ⟨⟨#[107, 105, 110, 100]⟩, b⟩] by unfold mrkL; rw [if_pos hs, List.append_nil])
    subst hs
    go_wp2_with fail
    go_ret
    refine ⟨⟨some ⟨w.heap.size, 0, none⟩, 2, by rw [F.out]; rfl, by rw [F.out]; exact own_arrN OW.out, fun p e => ?_⟩, HW.out⟩
    injection e with e
    subst e
    exact Nat.le_refl _
  · have F := Lib.hid (show mrkL a b s = [⟨⟨#[99, 111, 108, 111, 114]⟩, a⟩, ⟨⟨#[107, 105, 110, 100]⟩, b⟩, ⟨⟨#[115, 105, 122, 101]⟩, s⟩] by unfold mrkL; rw [if_neg hs]; rfl)
    have e1 := str_ne hs
    have e2 : (s.toList != (⟨#[]⟩ : ByteArray).toList) = true := by rw [bne, e1]; rfl
    have e0 : (⟨#[]⟩ : ByteArray).toList = [] := by unfold ByteArray.toList ByteArray.toList.loop; rfl
    have e3 : (s.toList == []) = false := by rw [← e0]; exact e1
    have e4 : (s.toList != []) = true := by rw [bne, e3]; rfl
    clear hs e0
    go_upto_region 2 with fail
    generalize hwa : w.alloc _ = wa at *
    clear hwa
    go_wp2_with (at_builtin
                 refine wpList_append_own _ rfl (.tmp 15) (.tmp 18) 22 rfl w.heap.size 119 i0 _ 2 32 Tryz.underlying22 hi hz0 hz1 hz2 rfl (by decide) _ _ _ rfl (OW.out.alloc _) ⟨_, 0, none⟩ 1 1 [.string ⟨#[115, 105, 122, 101]⟩, .string s] rfl rfl ?c1 ?c2 ?c3 ?c4 ?c5 ?_)
    case c1 => exact mrk_news _ ⟨⟨#[115, 105, 122, 101]⟩, s⟩ _
    case c2 => exact mrk_one ⟨⟨#[115, 105, 122, 101]⟩, s⟩
    case c3 => unfold maxLen; omega
    case c4 => omega
    case c5 => have := HWS.out; simp; omega
    intro v9 w9 ho9 hg9 _
    have HB9 := Lib.hid ((HW.out.alloc HW.out.size (.cells #[.string ⟨#[115, 105, 122, 101]⟩, .string s] 119)).grown hg9 (by have := HWS.out; simp; omega) (fun j hj => (OW.out.lt j hj).1))
    have ho : w9.ownsRow w.heap.size 119 2 v9 3 (flat 3 2 fun i j => mrkCells (lMrk [⟨⟨#[99, 111, 108, 111, 114]⟩, a⟩, ⟨⟨#[107, 105, 110, 100]⟩, b⟩, ⟨⟨#[115, 105, 122, 101]⟩, s⟩] i) j) := ho9
    obtain ⟨A9, c9, rfl, h9⟩ := own_row ho
    have HA9 := Lib.hid (own_above ho)
    have H9 := Lib.hid h9
    clear h9 ho ho9 hg9
    go_wp2_with fail
    go_ret
    refine ⟨⟨A9, c9, by rw [F.out]; rfl, by rw [F.out]; exact H9.out, HA9.out⟩, HB9.out⟩
def Fs.exItems : List Thg := [⟨⟨#[104, 97, 116]⟩, 10, ⟨#[97, 110, 110]⟩, mrkL ⟨#[114, 101, 100]⟩ ⟨#[104, 97, 116]⟩ ⟨#[98, 105, 103]⟩⟩, ⟨⟨#[99, 97, 112]⟩, 12, ⟨#[97, 110, 110]⟩, mrkL ⟨#[114, 101, 100]⟩ ⟨#[99, 97, 112]⟩ ⟨#[]⟩⟩, ⟨⟨#[98, 97, 103]⟩, 11, ⟨#[98, 111, 98]⟩, mrkL ⟨#[114, 101, 100]⟩ ⟨#[104, 97, 116]⟩ ⟨#[]⟩⟩]
set_option linter.unusedSimpArgs false in
set_option maxHeartbeats 3200000 in
set_option maxRecDepth 100000 in
theorem lawItems_any (w : World) :
    Calls Tryz.prog 70 #[] w fun e w' => (∃ A c a, e = .returned (.slice A 3 c) ∧ ArrTh w' A exItems c a) ∧ Below w.heap.size w w' := by
  go_enter Tryz.func70, Tryz.ntmps70
  go_wp2_with fail
  refine (lawMarks_any ⟨#[114, 101, 100]⟩ ⟨#[104, 97, 116]⟩ ⟨#[98, 105, 103]⟩ _).mono ?_
  rintro e' w1 ⟨⟨A1, c1, rfl, h1, -⟩, hb1⟩
  have H1 := Lib.hid h1
  have HB1 := Lib.hid hb1
  clear h1 hb1
  go_wp2_with fail
  refine (lawMarks_any ⟨#[114, 101, 100]⟩ ⟨#[99, 97, 112]⟩ ⟨#[]⟩ _).mono ?_
  rintro e' w2 ⟨⟨A2, c2, rfl, h2, -⟩, hb2⟩
  have H2 := Lib.hid h2
  have HB2 := Lib.hid (HB1.out.trans (hb2.mono HB1.out.size))
  replace H1 := Lib.hid (H1.out.keep (Keep.below hb2))
  clear h2 hb2
  go_wp2_with fail
  refine (lawMarks_any ⟨#[114, 101, 100]⟩ ⟨#[104, 97, 116]⟩ ⟨#[]⟩ _).mono ?_
  rintro e' w3 ⟨⟨A3, c3, rfl, h3, -⟩, hb3⟩
  have H3 := Lib.hid h3
  have HB3 := Lib.hid (HB2.out.trans (hb3.mono HB2.out.size))
  replace H1 := Lib.hid (H1.out.keep (Keep.below hb3))
  replace H2 := Lib.hid (H2.out.keep (Keep.below hb3))
  clear h3 hb3
  have HX := Lib.hid (show ArrTh (w3.alloc (.cells #[.string ⟨#[104, 97, 116]⟩, .int .i64 10, .string ⟨#[97, 110, 110]⟩, .slice A1 (mrkL ⟨#[114, 101, 100]⟩ ⟨#[104, 97, 116]⟩ ⟨#[98, 105, 103]⟩).length c1, .string ⟨#[99, 97, 112]⟩, .int .i64 12, .string ⟨#[97, 110, 110]⟩, .slice A2 (mrkL ⟨#[114, 101, 100]⟩ ⟨#[99, 97, 112]⟩ ⟨#[]⟩).length c2, .string ⟨#[98, 97, 103]⟩, .int .i64 11, .string ⟨#[98, 111, 98]⟩, .slice A3 (mrkL ⟨#[114, 101, 100]⟩ ⟨#[104, 97, 116]⟩ ⟨#[]⟩).length c3] 24)) (some ⟨w3.heap.size, 0, none⟩) exItems 3 ⟨fun i => if i = 0 then A1 else if i = 1 then A2 else A3, fun i => if i = 0 then c1 else if i = 1 then c2 else c3⟩ from
    ⟨⟨Nat.le_refl _, by omega, fun _ => ⟨w3.heap.size, 0, rfl, fun i j hi hj => by
      have key := cellNew w3 #[.string ⟨#[104, 97, 116]⟩, .int .i64 10, .string ⟨#[97, 110, 110]⟩, .slice A1 (mrkL ⟨#[114, 101, 100]⟩ ⟨#[104, 97, 116]⟩ ⟨#[98, 105, 103]⟩).length c1, .string ⟨#[99, 97, 112]⟩, .int .i64 12, .string ⟨#[97, 110, 110]⟩, .slice A2 (mrkL ⟨#[114, 101, 100]⟩ ⟨#[99, 97, 112]⟩ ⟨#[]⟩).length c2, .string ⟨#[98, 97, 103]⟩, .int .i64 11, .string ⟨#[98, 111, 98]⟩, .slice A3 (mrkL ⟨#[114, 101, 100]⟩ ⟨#[104, 97, 116]⟩ ⟨#[]⟩).length c3] 24 (i * 4 + j)
      rw [Nat.zero_add, key]
      have hi3 : i < 3 := hi
      match i, hi3 with
      | 0, _ => match j, hj with | 0, _ => rfl | 1, _ => rfl | 2, _ => rfl | 3, _ => rfl
      | 1, _ => match j, hj with | 0, _ => rfl | 1, _ => rfl | 2, _ => rfl | 3, _ => rfl
      | 2, _ => match j, hj with | 0, _ => rfl | 1, _ => rfl | 2, _ => rfl | 3, _ => rfl⟩⟩, fun i hi => by
      have hi3 : i < 3 := hi
      match i, hi3 with
      | 0, _ => exact H1.out.keep (Keep.alloc _ _)
      | 1, _ => exact H2.out.keep (Keep.alloc _ _)
      | 2, _ => exact H3.out.keep (Keep.alloc _ _)⟩)
  have HBX := Lib.hid (HB3.out.alloc HB3.out.size (.cells #[.string ⟨#[104, 97, 116]⟩, .int .i64 10, .string ⟨#[97, 110, 110]⟩, .slice A1 (mrkL ⟨#[114, 101, 100]⟩ ⟨#[104, 97, 116]⟩ ⟨#[98, 105, 103]⟩).length c1, .string ⟨#[99, 97, 112]⟩, .int .i64 12, .string ⟨#[97, 110, 110]⟩, .slice A2 (mrkL ⟨#[114, 101, 100]⟩ ⟨#[99, 97, 112]⟩ ⟨#[]⟩).length c2, .string ⟨#[98, 97, 103]⟩, .int .i64 11, .string ⟨#[98, 111, 98]⟩, .slice A3 (mrkL ⟨#[114, 101, 100]⟩ ⟨#[104, 97, 116]⟩ ⟨#[]⟩).length c3] 24))
  go_wp2_with fail
  go_ret
  exact ⟨⟨_, _, _, rfl, HX.out⟩, HBX.out⟩
def Fs.exClaims : List Thg := [⟨⟨#[111, 110, 101]⟩, 12, ⟨#[99, 105, 100]⟩, mrkL ⟨#[114, 101, 100]⟩ ⟨#[104, 97, 116]⟩ ⟨#[]⟩⟩, ⟨⟨#[116, 119, 111]⟩, 9, ⟨#[100, 97, 110]⟩, mrkL ⟨#[114, 101, 100]⟩ ⟨#[104, 97, 116]⟩ ⟨#[98, 105, 103]⟩⟩, ⟨⟨#[116, 104, 114, 101, 101]⟩, 9, ⟨#[101, 118, 101]⟩, mrkL ⟨#[98, 108, 117, 101]⟩ ⟨#[104, 97, 116]⟩ ⟨#[]⟩⟩]
set_option linter.unusedSimpArgs false in
set_option maxHeartbeats 3200000 in
set_option maxRecDepth 100000 in
theorem lawClaims_any (w : World) :
    Calls Tryz.prog 71 #[] w fun e w' => (∃ A c a, e = .returned (.slice A 3 c) ∧ ArrTh w' A exClaims c a) ∧ Below w.heap.size w w' := by
  go_enter Tryz.func71, Tryz.ntmps71
  go_wp2_with fail
  refine (lawMarks_any ⟨#[114, 101, 100]⟩ ⟨#[104, 97, 116]⟩ ⟨#[]⟩ _).mono ?_
  rintro e' w1 ⟨⟨A1, c1, rfl, h1, -⟩, hb1⟩
  have H1 := Lib.hid h1
  have HB1 := Lib.hid hb1
  clear h1 hb1
  go_wp2_with fail
  refine (lawMarks_any ⟨#[114, 101, 100]⟩ ⟨#[104, 97, 116]⟩ ⟨#[98, 105, 103]⟩ _).mono ?_
  rintro e' w2 ⟨⟨A2, c2, rfl, h2, -⟩, hb2⟩
  have H2 := Lib.hid h2
  have HB2 := Lib.hid (HB1.out.trans (hb2.mono HB1.out.size))
  replace H1 := Lib.hid (H1.out.keep (Keep.below hb2))
  clear h2 hb2
  go_wp2_with fail
  refine (lawMarks_any ⟨#[98, 108, 117, 101]⟩ ⟨#[104, 97, 116]⟩ ⟨#[]⟩ _).mono ?_
  rintro e' w3 ⟨⟨A3, c3, rfl, h3, -⟩, hb3⟩
  have H3 := Lib.hid h3
  have HB3 := Lib.hid (HB2.out.trans (hb3.mono HB2.out.size))
  replace H1 := Lib.hid (H1.out.keep (Keep.below hb3))
  replace H2 := Lib.hid (H2.out.keep (Keep.below hb3))
  clear h3 hb3
  have HX := Lib.hid (show ArrTh (w3.alloc (.cells #[.string ⟨#[111, 110, 101]⟩, .int .i64 12, .string ⟨#[99, 105, 100]⟩, .slice A1 (mrkL ⟨#[114, 101, 100]⟩ ⟨#[104, 97, 116]⟩ ⟨#[]⟩).length c1, .string ⟨#[116, 119, 111]⟩, .int .i64 9, .string ⟨#[100, 97, 110]⟩, .slice A2 (mrkL ⟨#[114, 101, 100]⟩ ⟨#[104, 97, 116]⟩ ⟨#[98, 105, 103]⟩).length c2, .string ⟨#[116, 104, 114, 101, 101]⟩, .int .i64 9, .string ⟨#[101, 118, 101]⟩, .slice A3 (mrkL ⟨#[98, 108, 117, 101]⟩ ⟨#[104, 97, 116]⟩ ⟨#[]⟩).length c3] 26)) (some ⟨w3.heap.size, 0, none⟩) exClaims 3 ⟨fun i => if i = 0 then A1 else if i = 1 then A2 else A3, fun i => if i = 0 then c1 else if i = 1 then c2 else c3⟩ from
    ⟨⟨Nat.le_refl _, by omega, fun _ => ⟨w3.heap.size, 0, rfl, fun i j hi hj => by
      have key := cellNew w3 #[.string ⟨#[111, 110, 101]⟩, .int .i64 12, .string ⟨#[99, 105, 100]⟩, .slice A1 (mrkL ⟨#[114, 101, 100]⟩ ⟨#[104, 97, 116]⟩ ⟨#[]⟩).length c1, .string ⟨#[116, 119, 111]⟩, .int .i64 9, .string ⟨#[100, 97, 110]⟩, .slice A2 (mrkL ⟨#[114, 101, 100]⟩ ⟨#[104, 97, 116]⟩ ⟨#[98, 105, 103]⟩).length c2, .string ⟨#[116, 104, 114, 101, 101]⟩, .int .i64 9, .string ⟨#[101, 118, 101]⟩, .slice A3 (mrkL ⟨#[98, 108, 117, 101]⟩ ⟨#[104, 97, 116]⟩ ⟨#[]⟩).length c3] 26 (i * 4 + j)
      rw [Nat.zero_add, key]
      have hi3 : i < 3 := hi
      match i, hi3 with
      | 0, _ => match j, hj with | 0, _ => rfl | 1, _ => rfl | 2, _ => rfl | 3, _ => rfl
      | 1, _ => match j, hj with | 0, _ => rfl | 1, _ => rfl | 2, _ => rfl | 3, _ => rfl
      | 2, _ => match j, hj with | 0, _ => rfl | 1, _ => rfl | 2, _ => rfl | 3, _ => rfl⟩⟩, fun i hi => by
      have hi3 : i < 3 := hi
      match i, hi3 with
      | 0, _ => exact H1.out.keep (Keep.alloc _ _)
      | 1, _ => exact H2.out.keep (Keep.alloc _ _)
      | 2, _ => exact H3.out.keep (Keep.alloc _ _)⟩)
  have HBX := Lib.hid (HB3.out.alloc HB3.out.size (.cells #[.string ⟨#[111, 110, 101]⟩, .int .i64 12, .string ⟨#[99, 105, 100]⟩, .slice A1 (mrkL ⟨#[114, 101, 100]⟩ ⟨#[104, 97, 116]⟩ ⟨#[]⟩).length c1, .string ⟨#[116, 119, 111]⟩, .int .i64 9, .string ⟨#[100, 97, 110]⟩, .slice A2 (mrkL ⟨#[114, 101, 100]⟩ ⟨#[104, 97, 116]⟩ ⟨#[98, 105, 103]⟩).length c2, .string ⟨#[116, 104, 114, 101, 101]⟩, .int .i64 9, .string ⟨#[101, 118, 101]⟩, .slice A3 (mrkL ⟨#[98, 108, 117, 101]⟩ ⟨#[104, 97, 116]⟩ ⟨#[]⟩).length c3] 26))
  go_wp2_with fail
  go_ret
  exact ⟨⟨_, _, _, rfl, HX.out⟩, HBX.out⟩
def Fs.exChain : List Evt := [⟨⟨#[104, 97, 116]⟩, 20, 0, ⟨#[97, 110, 110]⟩, ⟨#[111, 102, 102, 105, 99, 101]⟩⟩, ⟨⟨#[104, 97, 116]⟩, 30, 1, ⟨#[111, 102, 102, 105, 99, 101]⟩, ⟨#[100, 101, 112, 111, 116]⟩⟩]
set_option maxHeartbeats 1600000 in
theorem lawEx_any (w : World) :
    Calls Tryz.prog 72 #[] w fun e w' => (∃ A c, e = .returned (.slice A 2 c) ∧ ArrEv w' A exChain c) ∧ Below w.heap.size w w' := by
  have HX := Lib.hid (show ArrEv (w.alloc (.cells #[.string ⟨#[104, 97, 116]⟩, .int .i64 20, .int .i64 0, .string ⟨#[97, 110, 110]⟩, .string ⟨#[111, 102, 102, 105, 99, 101]⟩, .string ⟨#[104, 97, 116]⟩, .int .i64 30, .int .i64 1, .string ⟨#[111, 102, 102, 105, 99, 101]⟩, .string ⟨#[100, 101, 112, 111, 116]⟩] 107)) (some ⟨w.heap.size, 0, none⟩) exChain 2 from
    ⟨Nat.le_refl _, by omega, fun _ => ⟨w.heap.size, 0, rfl, fun i j hi hj => by
      have key := cellNew w #[.string ⟨#[104, 97, 116]⟩, .int .i64 20, .int .i64 0, .string ⟨#[97, 110, 110]⟩, .string ⟨#[111, 102, 102, 105, 99, 101]⟩, .string ⟨#[104, 97, 116]⟩, .int .i64 30, .int .i64 1, .string ⟨#[111, 102, 102, 105, 99, 101]⟩, .string ⟨#[100, 101, 112, 111, 116]⟩] 107 (i * 5 + j)
      rw [Nat.zero_add, key]
      have hi3 : i < 2 := hi
      match i, hi3 with
      | 0, _ => match j, hj with | 0, _ => rfl | 1, _ => rfl | 2, _ => rfl | 3, _ => rfl | 4, _ => rfl
      | 1, _ => match j, hj with | 0, _ => rfl | 1, _ => rfl | 2, _ => rfl | 3, _ => rfl | 4, _ => rfl⟩⟩)
  have HBX := Lib.hid ((Below.refl w.heap.size w).alloc (Nat.le_refl _) (.cells #[.string ⟨#[104, 97, 116]⟩, .int .i64 20, .int .i64 0, .string ⟨#[97, 110, 110]⟩, .string ⟨#[111, 102, 102, 105, 99, 101]⟩, .string ⟨#[104, 97, 116]⟩, .int .i64 30, .int .i64 1, .string ⟨#[111, 102, 102, 105, 99, 101]⟩, .string ⟨#[100, 101, 112, 111, 116]⟩] 107))
  go_enter Tryz.func72, Tryz.ntmps72
  go_wp2_with fail
  go_ret
  exact ⟨⟨_, _, rfl, HX.out⟩, HBX.out⟩
end Go.Proofs.YtfjdnbnalihjiaaGreatDoor

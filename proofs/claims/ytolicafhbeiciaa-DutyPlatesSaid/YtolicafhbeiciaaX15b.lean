/- Searching in ascending numbers. No condition. -/
import Derived.Test.YtolicafhbeiciaaX14
import Derived.Test.YtolicafhbeiciaaX11
import Derived.WalkKit
import Derived.WalkSpells
import Derived.WalkLawsBesides
import Derived.Deep.QuietTactic
import Derived.BigQuiet
import Derived.Lib.Hide
import Derived.Test.YtolicafhbeiciaaProg
import Derived.Test.YtolicafhbeiciaaXT
import Derived.Test.YtolicafhbeiciaaV1
import Derived.Test.YtolicafhbeiciaaT8
namespace Go.Proofs.Ytolicafhbeiciaa
open Go.RowKit Fs

/-! ### searching -/
set_option maxHeartbeats 400000 in
theorem xNaN1_any (x : Int) (w : World) : Calls Try.prog 143 #[.int .i64 x] w fun e w' => e = .returned (.bool false) ∧ w = w' := by
  have hx : (x != x) = false := by simp
  go_enter Try.func143, Try.ntmps143
  go_wp2_with fail
  go_ret
  exact ⟨ret_bool (by simp), rfl⟩
set_option maxHeartbeats 400000 in
theorem xNaN2_any (x : Int) (w : World) : Calls Try.prog 150 #[.int .i64 x] w fun e w' => e = .returned (.bool false) ∧ w = w' := by
  have hx : (x != x) = false := by simp
  go_enter Try.func150, Try.ntmps150
  go_wp2_with fail
  go_ret
  exact ⟨ret_bool (by simp), rfl⟩
set_option maxHeartbeats 400000 in
theorem xLess_any (x y : Int) (w : World) : Calls Try.prog 149 #[.int .i64 x, .int .i64 y] w fun e w' => e = .returned (.bool (decide (x < y))) ∧ w = w' := by
  go_enter Try.func149, Try.ntmps149
  go_wp2_with fail
  refine (xNaN1_any _ _).mono ?_
  rintro e' wx ⟨rfl, rfl⟩
  go_wp2_with fail
  go_ret
  exact ⟨ret_bool (by simp), rfl⟩
structure Fs.FoundAt (L : List Int) (t : Int) (i : Nat) (b : Bool) : Prop where
  le : i ≤ L.length
  lo : ∀ k, k < i → listI L k < t
  hi : ∀ k, i ≤ k → k < L.length → t ≤ listI L k
  is : b = true ↔ i < L.length ∧ listI L i = t
def FoundE (L : List Int) (t : Int) (e : Ending) : Prop := ∃ (i : Nat) (b : Bool), e = .returned (.tuple #[.int .i64 i, .bool b]) ∧ FoundAt L t i b
set_option linter.unusedSimpArgs false in
set_option maxHeartbeats 12800000 in
set_option maxRecDepth 100000 in
theorem xSearch_any (L : List Int) (t : Int) (A : Option Addr) (c : Nat) (w : World) (h : ArrI w A L c) (hn : L.length ≤ 1000000) (ho : ∀ a b, a ≤ b → b < L.length → listI L a ≤ listI L b) :
    Calls Try.prog 118 #[.slice A L.length c, .int .i64 t] w fun e w' => FoundE L t e ∧ w = w' := by
  have b1 := h.le.1
  have b2 := h.le.2
  have HA := Lib.hid h
  have HO := Lib.hid ho
  clear h ho
  obtain ⟨n, hn'⟩ : ∃ n, n = L.length := ⟨_, rfl⟩
  have HN := Lib.hid hn'
  rw [← hn'] at b1 hn ⊢
  clear hn'
  go_enter Try.func118, Try.ntmps118
  go_wp2_with fail
  go_loop [7, 8] (fun s5 s6 => ∃ lo hi : Nat, s5 = .int .i64 lo ∧ s6 = .int .i64 hi ∧ lo ≤ hi ∧ hi ≤ n ∧ Hid ((∀ k, k < lo → listI L k < t) ∧ (∀ k, hi ≤ k → k < n → t ≤ listI L k))) (fun s5 s6 => (intOf s6).toNat - (intOf s5).toNat)
  case atStart => exact ⟨0, n, rfl, rfl, Nat.zero_le _, Nat.le_refl _, Lib.hid ⟨fun t ht => absurd ht (Nat.not_lt_zero _), fun t h1 h2 => by omega⟩⟩
  case round =>
    obtain ⟨lo, hi, rfl, rfl, hlh, hin, I⟩ := hrel
    by_cases hlt : lo < hi
    · obtain ⟨mid, hmid⟩ : ∃ mid : Nat, mid = (lo + hi) / 2 := ⟨_, rfl⟩
      have hm1 : lo ≤ mid := by omega
      have hm2 : mid < hi := by omega
      have hme : ((lo : Int) + (hi : Int)) / 2 = (mid : Int) := by omega
      have hmn : (mid : Int) < (n : Int) := by omega
      obtain ⟨b, o, rfl, q0⟩ := HA.out.at_ (k := mid) (by rw [← HN.out]; omega)
      clear hmid
      by_cases hp : listI L mid < t
      · have HP := Lib.hid hp
        go_wp2_with fail
        refine (xLess_any _ _ _).mono ?_
        rintro e' wx ⟨rfl, rfl⟩
        rw [decide_eq_true HP.out]
        clear hp
        go_wp2_with fail
        go_round
        case rel => exact ⟨mid + 1, hi, by go_num, rfl, by omega, hin, Lib.hid ⟨fun k hk => Int.lt_of_le_of_lt (HO.out k mid (by omega) (by rw [← HN.out]; omega)) HP.out, I.out.2⟩⟩
        case measure => simp [intOf]; omega
      · have HP := Lib.hid hp
        go_wp2_with fail
        refine (xLess_any _ _ _).mono ?_
        rintro e' wx ⟨rfl, rfl⟩
        rw [decide_eq_false (by have := HP.out; omega)]
        clear hp
        go_wp2_with fail
        go_round
        case rel => exact ⟨lo, mid, rfl, rfl, hm1, by omega, Lib.hid ⟨I.out.1, fun k hk hkn => Int.le_trans (show t ≤ listI L mid by have := HP.out; omega) (HO.out mid k hk (by rw [← HN.out]; omega))⟩⟩
        case measure => simp [intOf]; omega
    · obtain rfl : hi = lo := by omega
      clear hlt
      by_cases hl : hi < n
      · have hl' : (hi : Int) < (n : Int) := by omega
        obtain ⟨b, o, rfl, q0⟩ := HA.out.at_ (k := hi) (by rw [← HN.out]; omega)
        by_cases he : listI L hi = t
        · have HF := Lib.hid (show FoundAt L t hi true from ⟨by rw [← HN.out]; exact hin, I.out.1, fun k h1 h2 => I.out.2 k h1 (by rw [HN.out]; exact h2), ⟨fun _ => ⟨by rw [← HN.out]; exact hl, he⟩, fun _ => rfl⟩⟩)
          have e1 : (listI L hi == t) = true := by simpa using he
          clear he
          go_wp2_with fail
          refine bodyPost_ret (v := .tuple #[.int .i64 hi, .bool true]) (by simp [results, Try.results118, go_sem]) rfl ⟨⟨_, _, rfl, HF.out⟩, rfl⟩
        · have HF := Lib.hid (show FoundAt L t hi false from ⟨by rw [← HN.out]; exact hin, I.out.1, fun k h1 h2 => I.out.2 k h1 (by rw [HN.out]; exact h2), ⟨fun h => absurd h (by decide), fun h => absurd h.2 he⟩⟩)
          have e1 : (listI L hi == t) = false := by simpa using he
          clear he
          go_wp2_with fail
          refine (xNaN2_any _ _).mono ?_
          rintro e' wx ⟨rfl, rfl⟩
          go_wp2_with fail
          refine bodyPost_ret (v := .tuple #[.int .i64 hi, .bool false]) (by simp [results, Try.results118, go_sem]) rfl ⟨⟨_, _, rfl, HF.out⟩, rfl⟩
      · have HF := Lib.hid (show FoundAt L t hi false from ⟨by rw [← HN.out]; exact hin, I.out.1, fun k h1 h2 => I.out.2 k h1 (by rw [HN.out]; exact h2), ⟨fun h => absurd h (by decide), fun h => absurd h.1 (by rw [← HN.out]; exact hl)⟩⟩)
        have hl' : ¬ (hi : Int) < (n : Int) := by omega
        go_wp2_with fail
        refine bodyPost_ret (v := .tuple #[.int .i64 hi, .bool false]) (by simp [results, Try.results118, go_sem]) rfl ⟨⟨_, _, rfl, HF.out⟩, rfl⟩

end Go.Proofs.Ytolicafhbeiciaa
/- The next inspection. No condition. -/
namespace Go.Proofs.Ytolicafhbeiciaa
open Go.RowKit Fs

/-! ### the date -/
theorem Fs.lastTo_at {L : List Int} {date : Int} {B : Nat} : ∀ n, B ≤ n → (∀ k, B ≤ k → k < n → date < listI L k) → (0 < B → listI L (B - 1) ≤ date) → lastTo L date n = if B = 0 then -1 else listI L (B - 1)
  | 0, h, _, _ => by obtain rfl : B = 0 := by omega
                     rfl
  | n + 1, h, h1, h2 => by
    by_cases e : B = n + 1
    · subst e
      rw [lastTo, if_pos (show listI L n ≤ date from h2 (by omega)), if_neg (by omega)]
      rfl
    · rw [lastTo, if_neg (by have := h1 n (by omega) (by omega); omega)]
      exact lastTo_at n (by omega) (fun k a b => h1 k a (by omega)) h2
theorem Fs.dates_up {L : List Int} (h : ∀ i, i < L.length → dateBad L i = 0) : ∀ b, b < L.length → ∀ a, a < b → listI L a < listI L b
  | 0, _, a, ha => absurd ha (Nat.not_lt_zero _)
  | b + 1, hb, a, ha => by
    have h1 := h (b + 1) hb
    have h2 : listI L b < listI L (b + 1) := by
      unfold dateBad at h1
      by_cases e : dateErr (listI L (b + 1)) = 0
      · rw [if_neg (fun hh => hh e)] at h1
        by_cases e2 : 0 < b + 1 ∧ listI L (b + 1) ≤ listI L (b + 1 - 1)
        · rw [if_pos e2] at h1; exact absurd h1 (by decide)
        · rw [Nat.add_sub_cancel] at e2
          exact Int.not_le.1 fun hc => e2 ⟨by omega, hc⟩
      · rw [if_pos e] at h1; exact absurd h1 e
    by_cases e : a = b
    · subst e; exact h2
    · exact Int.lt_trans (dates_up h b (by omega) a (by omega)) h2
def Fs.inspErr (L : List Int) (every date : Int) : Int := if manyErr L.length 20 (dateBad L) ≠ 0 then manyErr L.length 20 (dateBad L) else if everyErr every ≠ 0 then everyErr every else dateErr date
theorem Fs.insp_wrong {L : List Int} {every date : Int} (h : inspErr L every date ≠ 0) : inspect L every date = (0, inspErr L every date) := by
  unfold inspErr at h ⊢
  have hm : manyErr L.length 20 (dateBad L) = if 20 < L.length then 8 else fst (dateBad L) L.length := rfl
  by_cases h1 : 20 < L.length
  · rw [if_pos h1] at hm
    rw [hm, if_pos (by decide)]
    unfold inspect
    rw [if_pos h1]
  · rw [if_neg h1] at hm
    rw [hm] at h ⊢
    by_cases h2 : fst (dateBad L) L.length = 0
    · rw [if_neg (fun hh => hh h2)] at h ⊢
      have h3 : ¬ (within every 1 1000 = true ∧ dateErr date = 0) := by
        rintro ⟨a, b⟩
        rw [show everyErr every = 0 from if_pos a, if_neg (fun hh => hh rfl)] at h
        exact h b
      rw [insp_range h1 h2 h3]
      have h4 : (if everyErr every ≠ 0 then everyErr every else dateErr date) = 2 := by
        unfold everyErr dateErr
        by_cases a : within every 1 1000 = true
        · rw [if_pos a, if_neg (fun hh => hh rfl)]
          by_cases b : within date 0 100000 = true
          · exact absurd ⟨a, by unfold dateErr; rw [if_pos b]⟩ h3
          · rw [if_neg b]
        · rw [if_neg a, if_pos (by decide)]
      rw [h4]
    · rw [if_pos h2]
      exact insp_bad h1 rfl h2
theorem Fs.insp_right {L : List Int} {every date : Int} (h : inspErr L every date = 0) : L.length ≤ 20 ∧ (∀ i, i < L.length → dateBad L i = 0) ∧ (1 ≤ every ∧ every ≤ 1000) ∧ (0 ≤ date ∧ date ≤ 100000) ∧
    inspect L every date = if lastTo L date L.length < 0 then (0, 12) else if lastTo L date L.length + every < date then (0, 22) else (lastTo L date L.length + every, 0) := by
  unfold inspErr at h
  have hm : manyErr L.length 20 (dateBad L) = if 20 < L.length then 8 else fst (dateBad L) L.length := rfl
  by_cases h1 : 20 < L.length
  · rw [if_pos h1] at hm
    rw [hm, if_pos (by decide)] at h
    exact absurd h (by decide)
  · rw [if_neg h1] at hm
    rw [hm] at h
    by_cases h2 : fst (dateBad L) L.length = 0
    · rw [if_neg (fun hh => hh h2)] at h
      by_cases a : within every 1 1000 = true
      · rw [show everyErr every = 0 from if_pos a, if_neg (fun hh => hh rfl)] at h
        exact ⟨by omega, fst_zero h2, Fs.within_iff.1 a, dateErr_ok h, insp_ok h1 h2 a h⟩
      · rw [show everyErr every = 2 from if_neg a, if_pos (by decide)] at h
        exact absurd h (by decide)
    · rw [if_pos h2] at h
      exact absurd h h2
set_option linter.unusedSimpArgs false in
set_option maxHeartbeats 12800000 in
set_option maxRecDepth 100000 in
theorem xInspect_any (L : List Int) (A : Option Addr) (c : Nat) (every date : Int) (w : World) (h : ArrI w A L c) :
    Calls Try.prog 57 #[.slice A L.length c, .int .i64 every, .int .i64 date] w fun e w' => e = .returned (.tuple #[.int .i64 (inspect L every date).1, .int .i64 (inspect L every date).2]) ∧ Below w.heap.size w w' := by
  have b1 := h.le.1
  have b2 := h.le.2
  have HA := Lib.hid h
  clear h
  go_enter Try.func57, Try.ntmps57
  go_wp2_with fail
  refine (xDoneErr_any L A c _ HA.out).mono ?_
  rintro e w1 ⟨rfl, hb1⟩
  have HW := Lib.hid hb1
  clear hb1
  go_wp2_with fail
  refine (xEveryErr_any _ _).mono ?_
  rintro e wx ⟨rfl, rfl⟩
  go_wp2_with fail
  refine (xDateErr_any _ _).mono ?_
  rintro e wx ⟨rfl, rfl⟩
  have HL := Lib.hid (arr3New w1 (manyErr L.length 20 (dateBad L)) (everyErr every) (dateErr date) 28)
  have HX := Lib.hid (HW.out.alloc HW.out.size (.cells #[.int .i64 (manyErr L.length 20 (dateBad L)), .int .i64 (everyErr every), .int .i64 (dateErr date)] 28))
  go_wp2_with fail
  refine (firstError_any [manyErr L.length 20 (dateBad L), everyErr every, dateErr date] _ _ _ HL.out).mono ?_
  rintro e wx ⟨rfl, rfl⟩
  rw [show [manyErr L.length 20 (dateBad L), everyErr every, dateErr date].length = 3 from rfl, fst_three, show (if manyErr L.length 20 (dateBad L) ≠ 0 then manyErr L.length 20 (dateBad L) else if everyErr every ≠ 0 then everyErr every else dateErr date) = inspErr L every date from rfl]
  clear HL
  generalize hwy : w1.alloc _ = wy at *
  clear hwy
  by_cases he : inspErr L every date = 0
  · obtain ⟨h1, h2, h3, h4, h5⟩ := insp_right he
    have H5 := Lib.hid h5
    have hup := dates_up h2
    have H2 := Lib.hid h2
    have HUP := Lib.hid hup
    rw [he]
    clear he h5 h2 hup
    go_wp2_with fail
    refine (xSearch_any L date A c _ (HA.out.keep (Keep.below HX.out)) (by omega) (fun a b hab hb => ?_)).mono ?_
    · by_cases e : a = b
      · subst e; exact Int.le_refl _
      · have := HUP.out b hb a (by omega); omega
    · rintro e wx ⟨⟨i, fd, rfl, hfd⟩, rfl⟩
      obtain ⟨B, hB⟩ : ∃ B : Nat, B = if fd = true then i + 1 else i := ⟨_, rfl⟩
      have hBn : B ≤ L.length := by
        cases fd with
        | true => rw [hB, if_pos rfl]; have := (hfd.is.1 rfl).1; omega
        | false => rw [hB, if_neg (by decide)]; exact hfd.le
      have HLT := Lib.hid (lastTo_at (L := L) (date := date) (B := B) L.length hBn (fun k h6 h7 => by
          cases fd with
          | true =>
            rw [hB, if_pos rfl] at h6
            have h8 := hfd.is.1 rfl
            have := HUP.out k h7 i (by omega)
            omega
          | false =>
            rw [hB, if_neg (by decide)] at h6
            have h8 := hfd.hi k h6 h7
            by_cases h9 : listI L k = date
            · by_cases h10 : k = i
              · subst h10; exact absurd (hfd.is.2 ⟨h7, h9⟩) (by decide)
              · have h11 := HUP.out k h7 i (by omega)
                have h12 := hfd.hi i (Nat.le_refl _) (by omega)
                omega
            · omega) (fun hp => by
          cases fd with
          | true => rw [hB, if_pos rfl, Nat.add_sub_cancel]; have := (hfd.is.1 rfl).2; omega
          | false =>
            rw [hB, if_neg (by decide)] at hp ⊢
            have := hfd.lo (i - 1) (by omega)
            omega))
      have HBI := Lib.hid hB
      have hi20 : i ≤ 20 := by have := hfd.le; omega
      have hB21 : B ≤ 20 := by omega
      clear hfd hB
      cases fd with
      | true =>
        have hBi : (i : Int) + 1 = (B : Int) := by rw [HBI.out, if_pos rfl]; omega
        have hBw : IntKind.i64.wrap ((i : Int) + 1) = (B : Int) := by rw [IntKind.wrap_i64]; omega
        by_cases hB0 : B = 0
        · have F := Lib.hid (show inspect L every date = (0, 12) by rw [H5.out, HLT.out, if_pos hB0, if_pos (by decide)])
          have d1 : ((B : Int) == 0) = true := by simp; omega
          have d2 : decide (B = 0) = true := decide_eq_true hB0
          clear hB0
          go_wp2_with fail
          refine bodyPost_ret (v := .tuple #[.int .i64 0, .int .i64 12]) (by simp [results, Try.results57, go_sem]) rfl ⟨by rw [F.out], HX.out⟩
        · have d1 : ((B : Int) == 0) = false := by simp; omega
          have d2 : decide (B = 0) = false := decide_eq_false hB0
          obtain ⟨m, hm⟩ : ∃ m : Nat, m = B - 1 := ⟨_, rfl⟩
          have hm1 : (B : Int) - 1 = (m : Int) := by omega
          have hm2 : (m : Int) < (L.length : Int) := by omega
          have hmw : IntKind.i64.wrap (m : Int) = (m : Int) := by rw [IntKind.wrap_i64]; omega
          obtain ⟨b, o, rfl, q0⟩ := (HA.out.keep (Keep.below HX.out)).at_ (k := m) (by omega)
          have hq := dateBad_ok (H2.out m (by omega))
          have F0 := Lib.hid (show inspect L every date = if listI L m + every < date then (0, 22) else (listI L m + every, 0) by rw [H5.out, HLT.out, if_neg hB0, ← hm, if_neg (by omega)])
          have hw3 : IntKind.i64.wrap (listI L m + every) = listI L m + every := by rw [IntKind.wrap_i64]; omega
          clear hB0 hm
          by_cases hd : listI L m + every < date
          · have F := Lib.hid (F0.out.trans (if_pos hd))
            have d3 := decide_eq_true hd
            go_wp2_with fail
            refine bodyPost_ret (v := .tuple #[.int .i64 0, .int .i64 22]) (by simp [results, Try.results57, go_sem]) rfl ⟨by rw [F.out], HX.out⟩
          · have F := Lib.hid (F0.out.trans (if_neg hd))
            have d3 := decide_eq_false hd
            go_wp2_with fail
            refine bodyPost_ret (v := .tuple #[.int .i64 (listI L m + every), .int .i64 0]) (by simp [results, Try.results57, go_sem]) rfl ⟨by rw [F.out], HX.out⟩
      | false =>
        have hBi : i = B := by rw [HBI.out, if_neg (by decide)]
        rw [hBi]
        clear hBi
        by_cases hB0 : B = 0
        · have F := Lib.hid (show inspect L every date = (0, 12) by rw [H5.out, HLT.out, if_pos hB0, if_pos (by decide)])
          have d1 : ((B : Int) == 0) = true := by simp; omega
          have d2 : decide (B = 0) = true := decide_eq_true hB0
          clear hB0
          go_wp2_with fail
          refine bodyPost_ret (v := .tuple #[.int .i64 0, .int .i64 12]) (by simp [results, Try.results57, go_sem]) rfl ⟨by rw [F.out], HX.out⟩
        · have d1 : ((B : Int) == 0) = false := by simp; omega
          have d2 : decide (B = 0) = false := decide_eq_false hB0
          obtain ⟨m, hm⟩ : ∃ m : Nat, m = B - 1 := ⟨_, rfl⟩
          have hm1 : (B : Int) - 1 = (m : Int) := by omega
          have hm2 : (m : Int) < (L.length : Int) := by omega
          have hmw : IntKind.i64.wrap (m : Int) = (m : Int) := by rw [IntKind.wrap_i64]; omega
          obtain ⟨b, o, rfl, q0⟩ := (HA.out.keep (Keep.below HX.out)).at_ (k := m) (by omega)
          have hq := dateBad_ok (H2.out m (by omega))
          have F0 := Lib.hid (show inspect L every date = if listI L m + every < date then (0, 22) else (listI L m + every, 0) by rw [H5.out, HLT.out, if_neg hB0, ← hm, if_neg (by omega)])
          have hw3 : IntKind.i64.wrap (listI L m + every) = listI L m + every := by rw [IntKind.wrap_i64]; omega
          clear hB0 hm
          by_cases hd : listI L m + every < date
          · have F := Lib.hid (F0.out.trans (if_pos hd))
            have d3 := decide_eq_true hd
            go_wp2_with fail
            refine bodyPost_ret (v := .tuple #[.int .i64 0, .int .i64 22]) (by simp [results, Try.results57, go_sem]) rfl ⟨by rw [F.out], HX.out⟩
          · have F := Lib.hid (F0.out.trans (if_neg hd))
            have d3 := decide_eq_false hd
            go_wp2_with fail
            refine bodyPost_ret (v := .tuple #[.int .i64 (listI L m + every), .int .i64 0]) (by simp [results, Try.results57, go_sem]) rfl ⟨by rw [F.out], HX.out⟩
  · have HO := Lib.hid (insp_wrong he)
    have e1 : (inspErr L every date != 0) = true := by simpa using he
    have e2 : (inspErr L every date == 0) = false := by simpa using he
    clear he
    go_wp2_with fail
    refine bodyPost_ret (v := .tuple #[.int .i64 0, .int .i64 (inspErr L every date)]) (by simp [results, Try.results57, go_sem]) rfl ⟨by rw [HO.out], HX.out⟩
end Go.Proofs.Ytolicafhbeiciaa
/- Contracts of Handed and NextInspection. No condition. -/

/- Two lists that read alike are told to be the same. No condition. -/
namespace Go.Proofs.Ytolicafhbeiciaa
open Go.RowKit Fs

set_option maxHeartbeats 800000 in
set_option maxRecDepth 100000 in
theorem texts_same (l : List ByteArray) (A B : Option Addr) (c e : Nat) (w : World) (hA : ArrS w A l c) (hB : ArrS w B l e) :
    Calls Try.prog 61 #[.slice A l.length c, .slice B l.length e] w fun x w' => x = .returned (.bool true) ∧ Below w.heap.size w w' := by
  have b1 := hA.le.1
  have b2 := hA.le.2
  go_enter Try.func61, Try.ntmps61
  have d1 : ((l.length : Int) != (l.length : Int)) = false := by simp
  go_wp2_with fail
  clear d1
  go_loopw [5] (fun u wr => ∃ k : Nat, k ≤ l.length ∧ u = .int .i64 k ∧ Hid (Below w.heap.size w wr)) (fun u _ => l.length - (intOf u).toNat)
  case atStart => exact ⟨0, Nat.zero_le _, rfl, Lib.hid (Below.refl _ _)⟩
  case round =>
    obtain ⟨k, hk, rfl, HB⟩ := hrel
    by_cases hlt : k < l.length
    · have hkr : decide ((k : Int) < (l.length : Int)) = true := decide_eq_true (by omega)
      obtain ⟨b, o, rfl, h1⟩ := (hA.keep (Keep.below HB.out)).at_ hlt
      obtain ⟨b', o', rfl, h2⟩ := (hB.keep (Keep.below HB.out)).at_ hlt
      have i0 : (0 : Int) ≤ (k : Int) := by omega
      have i1 : (k : Int) < (l.length : Int) := by omega
      go_wp2_with fail
      go_quiet (fail)
      go_wp2_with fail
      go_roundw
      case rel => exact ⟨k + 1, by omega, by go_num, Lib.hid (bdrewN HB.out _)⟩
      case measure => simp [intOf]; omega
    · have hkr : decide ((k : Int) < (l.length : Int)) = false := decide_eq_false (by omega)
      go_wp2_with fail
      go_ret
      exact ⟨rfl, HB.out⟩
end Go.Proofs.Ytolicafhbeiciaa
/- The law of cars: the drivers, and the date up to which a car may be driven, are as specified. No condition. -/
namespace Go.Proofs.Ytolicafhbeiciaa
open Go.RowKit Fs

theorem own_strs {w : World} {B : Nat} {e : TypeId} {v : Value} {l : List ByteArray} (h : w.ownsRow B e 1 v l.length (strVals l)) : ∃ A c, v = .slice A l.length c ∧ ArrS w A l c := by
  have e1 : strVals l = flat l.length 1 fun i _ => .string (listS l i) := by
    apply List.ext_getElem?
    intro t
    by_cases h0 : t < l.length
    · rw [flat_get t (by omega), Nat.div_one]
      show (l.map Value.string)[t]? = _
      rw [List.getElem?_map, List.getElem?_eq_getElem h0]
      unfold listS
      simp [List.getD_eq_getElem?_getD, List.getElem?_eq_getElem h0]
    · rw [List.getElem?_eq_none (by unfold strVals; rw [List.length_map]; omega), List.getElem?_eq_none (by simp [flat]; omega)]
  rw [e1] at h
  exact own_row h
theorem Fs.handed_bad {l : List WRec} (h : recsErr false l ≠ 0) : handedOut l = [] := if_neg h
theorem Fs.handed_good {l : List WRec} (h : recsErr false l = 0) : handedOut l = handedTo l l.length := if_pos h
set_option linter.unusedSimpArgs false in
set_option maxHeartbeats 12800000 in
set_option maxRecDepth 100000 in
theorem lawCars_any (l : List WRec) (L : List Int) (x y : Int) (A B : Option Addr) (c cb : Nat) (w : World) (h : ArrW w A l c) (hL : ArrI w B L cb) :
    Calls Try.prog 13 #[.slice A l.length c, .slice B L.length cb, .agg #[.int .i64 x, .int .i64 y]] w fun e w' => e = .returned (.bool true) ∧ Below w.heap.size w w' := by
  have b1 := h.le.1
  have b2 := h.le.2
  have b3 := hL.le.1
  have b4 := hL.le.2
  have HA := Lib.hid h
  have HL := Lib.hid hL
  clear h hL
  have BT := Lib.hid (TreeAt.new w (.int .i64 x) (.int .i64 y) 37)
  go_enter Try.func13, Try.ntmps13
  go_upto_region 1 with fail
  generalize hwb : w.alloc _ = wb at *
  have HW : Hid (Below w.heap.size w wb) := by rw [← hwb]; exact Lib.hid ((Below.refl _ _).alloc (Nat.le_refl _) _)
  clear hwb
  obtain ⟨c0, c1, -, -⟩ := BT.out
  go_wp2_with fail
  refine (lawAwake_any _).mono ?_
  rintro e' w1 ⟨rfl, hb1⟩
  replace HW := Lib.hid (HW.out.trans (hb1.mono HW.out.size))
  replace BT := Lib.hid (BT.out.keep hb1)
  clear c0 c1
  clear hb1
  go_wp2_with fail
  refine (lawFew_any l A c _ (HA.out.keep (Keep.below HW.out))).mono ?_
  rintro e' wA ⟨rfl, rfl⟩
  cases hf : fewR l with
  | false =>
    go_wp2_with fail
    go_ret
    exact ⟨rfl, HW.out⟩
  | true =>
    have hl := (fewR_is hf).1
    have hl : l.length ≤ 42 := by omega
    clear hf
    obtain ⟨wA, hwA⟩ : ∃ wz, wz = w1 := ⟨_, rfl⟩
    subst hwA
    by_cases hs : L.length ≤ 22
    · have s1 : decide ((L.length : Int) > 22) = false := decide_eq_false (by omega)
      have s2 : decide (22 < (L.length : Int)) = false := decide_eq_false (by omega)
      have s3 : decide (22 < L.length) = false := decide_eq_false (by omega)
      have HS := Lib.hid hs
      clear hs
      obtain ⟨c0, c1, -, -⟩ := BT.out
      go_wp2_with fail
      refine (rCopyRecords_any l A c _ (HA.out.keep (Keep.below HW.out)) (by omega)).mono ?_
      rintro e' w5 ⟨v5, rfl, h5, hb1⟩
      replace HW := Lib.hid (HW.out.trans (hb1.mono HW.out.size))
      replace BT := Lib.hid (BT.out.keep hb1)
      obtain ⟨A5, c5, rfl, h6⟩ := own_recs h5
      have H5 := Lib.hid h6
      clear h5 h6
      clear c0 c1
      clear hb1
      obtain ⟨c0, c1, -, -⟩ := BT.out
      go_wp2_with fail
      refine (xHanded_any l A5 c5 _ H5.out).mono ?_
      rintro e' w6 ⟨⟨A6, c6, rfl, h6⟩, hb1⟩
      replace HW := Lib.hid (HW.out.trans (hb1.mono HW.out.size))
      replace BT := Lib.hid (BT.out.keep hb1)
      have H6 := Lib.hid h6
      clear H5 h6
      clear c0 c1
      clear hb1
      obtain ⟨c0, c1, -, -⟩ := BT.out
      go_wp2_with fail
      have HBd : Hid (Below w6.heap.size w6 w6.drew) := Lib.hid (Below.refl _ _).drew
      have MK : Hid (∀ w', Below w6.heap.size w6 w' → w'.cell? ⟨w.heap.size, 0, none⟩ = some (.int .i64 x) ∧ w'.cell? ⟨w.heap.size, 1, none⟩ = some (.int .i64 y) ∧ Hid (Below w6.heap.size w6 w')) :=
        Lib.hid fun w' hw => ⟨Keep.below hw _ _ c0, Keep.below hw _ _ c1, Lib.hid hw⟩
      have KL : Hid (∀ w', Below w6.heap.size w6 w' → ArrI w' B L cb) := Lib.hid fun w' hw => (HL.out.keep (Keep.below (HW.out.trans (hw.mono HW.out.size))))
      refine wp_region_held_drew (S := fun w' => w'.cell? ⟨w.heap.size, 0, none⟩ = some (.int .i64 x) ∧ w'.cell? ⟨w.heap.size, 1, none⟩ = some (.int .i64 y) ∧ Hid (Below w6.heap.size w6 w')) (by kernel_rfl) (MK.out _ HBd.out) (fun hHeld => ?_)
      refine wpAnyH_take (i := 0) (v := ?val0x1) rfl (by kernel_rfl) (by kernel_rfl) (by kernel_rfl) (fun _ _ _ h => h) (Or.inl ⟨by rfl, fun w9 hS9 => ?yields0x1⟩) (by assumption) ?later0x1
      case yields0x1 =>
        dsimp only at hS9
        go_simp
        try with_reducible rfl
      try simp only [Act.put, List.getElem_toArray, List.getElem_cons_succ, List.getElem_cons_zero, List.setIfInBounds_toArray, List.set_cons_zero, List.set_cons_succ]
      refine wpAnyH_take (i := 2) (v := ?val2x2) rfl (by kernel_rfl) (by kernel_rfl) (by kernel_rfl) (fun _ _ _ h => h) (Or.inl ⟨by rfl, fun w9 hS9 => ?yields2x2⟩) (by assumption) ?later2x2
      case yields2x2 =>
        dsimp only at hS9
        go_simp
        try with_reducible rfl
      try simp only [Act.put, List.getElem_toArray, List.getElem_cons_succ, List.getElem_cons_zero, List.setIfInBounds_toArray, List.set_cons_zero, List.set_cons_succ]
      refine wpAnyH_take (i := 3) (v := ?val3x3) rfl (by kernel_rfl) (by kernel_rfl) (by kernel_rfl) (fun _ _ _ h => h) (Or.inl ⟨by rfl, fun w9 hS9 => ?yields3x3⟩) (by assumption) ?later3x3
      case yields3x3 =>
        dsimp only at hS9
        go_simp
        try with_reducible rfl
      try simp only [Act.put, List.getElem_toArray, List.getElem_cons_succ, List.getElem_cons_zero, List.setIfInBounds_toArray, List.set_cons_zero, List.set_cons_succ]
      refine wpAnyH_take (i := 4) (v := ?val4x4) rfl (by kernel_rfl) (by kernel_rfl) (by kernel_rfl) (fun _ _ _ h => h) (Or.inl ⟨by rfl, fun w9 hS9 => ?yields4x4⟩) (by assumption) ?later4x4
      case yields4x4 =>
        dsimp only at hS9
        go_simp
        try with_reducible rfl
      try simp only [Act.put, List.getElem_toArray, List.getElem_cons_succ, List.getElem_cons_zero, List.setIfInBounds_toArray, List.set_cons_zero, List.set_cons_succ]
      refine wpAnyH_take (i := 5) (v := ?val5x5) rfl (by kernel_rfl) (by kernel_rfl) (by kernel_rfl) (fun _ _ _ h => h) (Or.inl ⟨by rfl, fun w9 hS9 => ?yields5x5⟩) (by assumption) ?later5x5
      case yields5x5 =>
        dsimp only at hS9
        go_simp
        try with_reducible rfl
      try simp only [Act.put, List.getElem_toArray, List.getElem_cons_succ, List.getElem_cons_zero, List.setIfInBounds_toArray, List.set_cons_zero, List.set_cons_succ]
      refine wpAnyH_ready (rs := [1]) (by kernel_rfl) (by simp) ?_
      refine AllReadyH.cons rfl (fun K hK => ?_) AllReadyH.nil
      go_simp
      go_at_call 58
      go_split_ands
      refine (copyInts_any L B cb _ (KL.out _ (Hid.out (by assumption))) (by have := HS.out; omega)).mono ?_
      rintro e' wz5 ⟨A5, c5, rfl, h5, -, hb1⟩
      have H5 := Lib.hid h5
      clear h5
      go_wp2_with fail
      refine hK.out _ _ ?_ (fun hHeld => ?_)
      · (try dsimp only)
        (go_split_ands; exact MK.out _ (Below.trans (Hid.out (by assumption)) (hb1.mono (Hid.out (by assumption) : Below w6.heap.size w6 _).size)))
      clear hK K
      try simp only [Act.put, List.getElem_toArray, List.getElem_cons_succ, List.getElem_cons_zero, List.setIfInBounds_toArray, List.set_cons_zero, List.set_cons_succ]
      refine wpAnyH_ready (rs := [6]) (by kernel_rfl) (by simp) ?_
      refine AllReadyH.cons rfl (fun K hK => ?_) AllReadyH.nil
      go_simp
      go_at_call 57
      go_split_ands
      refine (xInspect_any L A5 c5 x y _ H5.out).mono ?_
      rintro e' wz7 ⟨rfl, hb1⟩
      clear H5
      go_wp2_with fail
      refine hK.out _ _ ?_ (fun hHeld => ?_)
      · (try dsimp only)
        (go_split_ands; exact MK.out _ (Below.trans (Hid.out (by assumption)) (hb1.mono (Hid.out (by assumption) : Below w6.heap.size w6 _).size)))
      clear hK K
      try simp only [Act.put, List.getElem_toArray, List.getElem_cons_succ, List.getElem_cons_zero, List.setIfInBounds_toArray, List.set_cons_zero, List.set_cons_succ]
      refine wpAnyH_take (i := 7) (v := ?val7x6) rfl (by kernel_rfl) (by kernel_rfl) (by kernel_rfl) (fun _ _ _ h => h) (Or.inl ⟨by rfl, fun w9 hS9 => ?yields7x6⟩) (by assumption) ?later7x6
      case yields7x6 =>
        dsimp only at hS9
        go_simp
        try with_reducible rfl
      try simp only [Act.put, List.getElem_toArray, List.getElem_cons_succ, List.getElem_cons_zero, List.setIfInBounds_toArray, List.set_cons_zero, List.set_cons_succ]
      refine wpAnyH_take (i := 8) (v := ?val8x7) rfl (by kernel_rfl) (by kernel_rfl) (by kernel_rfl) (fun _ _ _ h => h) (Or.inl ⟨by rfl, fun w9 hS9 => ?yields8x7⟩) (by assumption) ?later8x7
      case yields8x7 =>
        dsimp only at hS9
        go_simp
        try with_reducible rfl
      try simp only [Act.put, List.getElem_toArray, List.getElem_cons_succ, List.getElem_cons_zero, List.setIfInBounds_toArray, List.set_cons_zero, List.set_cons_succ]
      refine wpAnyH_take (i := 9) (v := ?val9x8) rfl (by kernel_rfl) (by kernel_rfl) (by kernel_rfl) (fun _ _ _ h => h) (Or.inl ⟨by rfl, fun w9 hS9 => ?yields9x8⟩) (by assumption) ?later9x8
      case yields9x8 =>
        dsimp only at hS9
        go_simp
        try with_reducible rfl
      try simp only [Act.put, List.getElem_toArray, List.getElem_cons_succ, List.getElem_cons_zero, List.setIfInBounds_toArray, List.set_cons_zero, List.set_cons_succ]
      refine wpAnyH_take (i := 10) (v := ?val10x9) rfl (by kernel_rfl) (by kernel_rfl) (by kernel_rfl) (fun _ _ _ h => h) (Or.inl ⟨by rfl, fun w9 hS9 => ?yields10x9⟩) (by assumption) ?later10x9
      case yields10x9 =>
        dsimp only at hS9
        go_simp
        try with_reducible rfl
      try simp only [Act.put, List.getElem_toArray, List.getElem_cons_succ, List.getElem_cons_zero, List.setIfInBounds_toArray, List.set_cons_zero, List.set_cons_succ]
      refine wpAnyH_take (i := 11) (v := ?val11x10) rfl (by kernel_rfl) (by kernel_rfl) (by kernel_rfl) (fun _ _ _ h => h) (Or.inl ⟨by rfl, fun w9 hS9 => ?yields11x10⟩) (by assumption) ?later11x10
      case yields11x10 =>
        dsimp only at hS9
        go_simp
        try with_reducible rfl
      try simp only [Act.put, List.getElem_toArray, List.getElem_cons_succ, List.getElem_cons_zero, List.setIfInBounds_toArray, List.set_cons_zero, List.set_cons_succ]
      refine wpAnyH_done (by kernel_rfl) ?_ _
      obtain ⟨-, -, HB⟩ := hHeld
      clear HBd MK
      clear KL
      replace HW := Lib.hid (HW.out.trans (HB.out.mono HW.out.size))
      replace BT := Lib.hid (BT.out.keep HB.out)
      replace H6 := Lib.hid (H6.out.keep (Keep.below HB.out))
      clear HB
      clear c0 c1
      obtain ⟨wB, hwB⟩ : ∃ wz, wz = wz7 := ⟨_, rfl⟩
      subst hwB
      obtain ⟨c0, c1, -, -⟩ := BT.out
      go_wp2_with fail
      refine (rInspect_any L x y B cb _ (HL.out.keep (Keep.below HW.out))).mono ?_
      rintro e' w8 ⟨rfl, hb1⟩
      replace HW := Lib.hid (HW.out.trans (hb1.mono HW.out.size))
      replace BT := Lib.hid (BT.out.keep hb1)
      replace H6 := Lib.hid (H6.out.keep (Keep.below hb1))
      clear c0 c1
      clear hb1
      obtain ⟨c0, c1, -, -⟩ := BT.out
      go_wp2_with fail
      refine (rCarErr_any l A c _ (HA.out.keep (Keep.below HW.out))).mono ?_
      rintro e' w9 ⟨rfl, hb1⟩
      replace HW := Lib.hid (HW.out.trans (hb1.mono HW.out.size))
      replace BT := Lib.hid (BT.out.keep hb1)
      replace H6 := Lib.hid (H6.out.keep (Keep.below hb1))
      clear c0 c1
      clear hb1
      by_cases he : recsErr false l = 0
      · rw [he, handed_good he]
        rw [handed_good he] at H6
        clear he
        obtain ⟨c0, c1, -, -⟩ := BT.out
        go_wp2_with fail
        refine (rHanded_any l A c _ (HA.out.keep (Keep.below HW.out)) (by omega)).mono ?_
        rintro e' wd ⟨⟨v7, rfl, h7⟩, hb1⟩
        replace HW := Lib.hid (HW.out.trans (hb1.mono HW.out.size))
        replace BT := Lib.hid (BT.out.keep hb1)
        replace H6 := Lib.hid (H6.out.keep (Keep.below hb1))
        obtain ⟨A7, c7, rfl, h8⟩ := own_strs h7
        have H7 := Lib.hid h8
        clear h7 h8
        clear c0 c1
        clear hb1
        obtain ⟨c0, c1, -, -⟩ := BT.out
        go_wp2_with fail
        refine (texts_same (handedTo l l.length) A6 A7 c6 c7 _ H6.out H7.out).mono ?_
        rintro e' we ⟨rfl, hb1⟩
        replace HW := Lib.hid (HW.out.trans (hb1.mono HW.out.size))
        replace BT := Lib.hid (BT.out.keep hb1)
        replace H6 := Lib.hid (H6.out.keep (Keep.below hb1))
        replace H7 := Lib.hid (H7.out.keep (Keep.below hb1))
        clear c0 c1
        clear hb1
        go_wp2_with fail
        go_ret
        exact ⟨rfl, HW.out⟩
      · have e1 : (recsErr false l == 0) = false := by simpa using he
        have e2 : (recsErr false l != 0) = true := by simpa using he
        rw [handed_bad he]
        clear he H6
        go_wp2_with fail
        go_ret
        exact ⟨rfl, HW.out⟩
    · have s1 : decide ((L.length : Int) > 22) = true := decide_eq_true (by omega)
      have s2 : decide (22 < (L.length : Int)) = true := decide_eq_true (by omega)
      have s3 : decide (22 < L.length) = true := decide_eq_true (by omega)
      clear hs
      go_wp2_with fail
      go_ret
      exact ⟨rfl, HW.out⟩
end Go.Proofs.Ytolicafhbeiciaa

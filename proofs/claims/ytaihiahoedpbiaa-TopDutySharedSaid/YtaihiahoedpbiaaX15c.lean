/- The next inspection. No condition. -/
import Derived.Test.YtaihiahoedpbiaaX14b
import Derived.Test.YtaihiahoedpbiaaX11
import Derived.Ground.SlsfProg
import Derived.Shelf.SlSortCmp.Insertion
import Derived.Test.YtaihiahoedpbiaaProg
import Derived.Shelf.Small.Bits
import Derived.Ground.Names2Prog
import Derived.Shelf.SlSortCmp.WholeK
import Derived.Shelf.Spec.SlicesGrow
import Derived.Test.YtaihiahoedpbiaaX7
import Derived.Test.YtaihiahoedpbiaaT47
namespace Go.Proofs.Ytaihiahoedpbiaa
open Go.RowKit Fs

/-! ### the date -/
theorem Fs.lastTo_at {L : List Int} {date : Int} {B : Nat} : ∀ n, B ≤ n → (∀ k, B ≤ k → k < n → date < listI L k) → (0 < B → listI L (B - 1) ≤ date) → lastTo L date n = if B = 0 then -1 else listI L (B - 1)
  | 0, h, _, _ => by obtain rfl : B = 0 := by omega
                     rfl
  | n + 1, h, h1, h2 => by
    by_cases e : B = n + 1
    · subst e
      rw [lastTo, if_pos (show listI L n ≤ date from h2 (by omega)), if_neg (by omega)]
      rfl
    · rw [lastTo, if_neg (by have := h1 n (by omega) (by omega); omega)]
      exact lastTo_at n (by omega) (fun k a b => h1 k a (by omega)) h2
theorem Fs.dates_up {L : List Int} (h : ∀ i, i < L.length → dateBad L i = 0) : ∀ b, b < L.length → ∀ a, a < b → listI L a < listI L b
  | 0, _, a, ha => absurd ha (Nat.not_lt_zero _)
  | b + 1, hb, a, ha => by
    have h1 := h (b + 1) hb
    have h2 : listI L b < listI L (b + 1) := by
      unfold dateBad at h1
      by_cases e : dateErr (listI L (b + 1)) = 0
      · rw [if_neg (fun hh => hh e)] at h1
        by_cases e2 : 0 < b + 1 ∧ listI L (b + 1) ≤ listI L (b + 1 - 1)
        · rw [if_pos e2] at h1; exact absurd h1 (by decide)
        · rw [Nat.add_sub_cancel] at e2
          exact Int.not_le.1 fun hc => e2 ⟨by omega, hc⟩
      · rw [if_pos e] at h1; exact absurd h1 e
    by_cases e : a = b
    · subst e; exact h2
    · exact Int.lt_trans (dates_up h b (by omega) a (by omega)) h2
def Fs.inspErr (L : List Int) (every date : Int) : Int := if manyErr L.length 20 (dateBad L) ≠ 0 then manyErr L.length 20 (dateBad L) else if everyErr every ≠ 0 then everyErr every else dateErr date
theorem Fs.insp_wrong {L : List Int} {every date : Int} (h : inspErr L every date ≠ 0) : inspect L every date = (0, inspErr L every date) := by
  unfold inspErr at h ⊢
  have hm : manyErr L.length 20 (dateBad L) = if 20 < L.length then 8 else fst (dateBad L) L.length := rfl
  by_cases h1 : 20 < L.length
  · rw [if_pos h1] at hm
    rw [hm, if_pos (by decide)]
    unfold inspect
    rw [if_pos h1]
  · rw [if_neg h1] at hm
    rw [hm] at h ⊢
    by_cases h2 : fst (dateBad L) L.length = 0
    · rw [if_neg (fun hh => hh h2)] at h ⊢
      have h3 : ¬ (within every 1 1000 = true ∧ dateErr date = 0) := by
        rintro ⟨a, b⟩
        rw [show everyErr every = 0 from if_pos a, if_neg (fun hh => hh rfl)] at h
        exact h b
      rw [insp_range h1 h2 h3]
      have h4 : (if everyErr every ≠ 0 then everyErr every else dateErr date) = 2 := by
        unfold everyErr dateErr
        by_cases a : within every 1 1000 = true
        · rw [if_pos a, if_neg (fun hh => hh rfl)]
          by_cases b : within date 0 100000 = true
          · exact absurd ⟨a, by unfold dateErr; rw [if_pos b]⟩ h3
          · rw [if_neg b]
        · rw [if_neg a, if_pos (by decide)]
      rw [h4]
    · rw [if_pos h2]
      exact insp_bad h1 rfl h2
theorem Fs.insp_right {L : List Int} {every date : Int} (h : inspErr L every date = 0) : L.length ≤ 20 ∧ (∀ i, i < L.length → dateBad L i = 0) ∧ (1 ≤ every ∧ every ≤ 1000) ∧ (0 ≤ date ∧ date ≤ 100000) ∧
    inspect L every date = if lastTo L date L.length < 0 then (0, 12) else if lastTo L date L.length + every < date then (0, 22) else (lastTo L date L.length + every, 0) := by
  unfold inspErr at h
  have hm : manyErr L.length 20 (dateBad L) = if 20 < L.length then 8 else fst (dateBad L) L.length := rfl
  by_cases h1 : 20 < L.length
  · rw [if_pos h1] at hm
    rw [hm, if_pos (by decide)] at h
    exact absurd h (by decide)
  · rw [if_neg h1] at hm
    rw [hm] at h
    by_cases h2 : fst (dateBad L) L.length = 0
    · rw [if_neg (fun hh => hh h2)] at h
      by_cases a : within every 1 1000 = true
      · rw [show everyErr every = 0 from if_pos a, if_neg (fun hh => hh rfl)] at h
        exact ⟨by omega, fst_zero h2, Fs.within_iff.1 a, dateErr_ok h, insp_ok h1 h2 a h⟩
      · rw [show everyErr every = 2 from if_neg a, if_pos (by decide)] at h
        exact absurd h (by decide)
    · rw [if_pos h2] at h
      exact absurd h h2
set_option linter.unusedSimpArgs false in
set_option maxHeartbeats 12800000 in
set_option maxRecDepth 100000 in
theorem xInspect_any (L : List Int) (A : Option Addr) (c : Nat) (every date : Int) (w : World) (h : ArrI w A L c) :
    Calls Try.prog 57 #[.slice A L.length c, .int .i64 every, .int .i64 date] w fun e w' => e = .returned (.tuple #[.int .i64 (inspect L every date).1, .int .i64 (inspect L every date).2]) ∧ Below w.heap.size w w' := by
  have b1 := h.le.1
  have b2 := h.le.2
  have HA := Lib.hid h
  clear h
  go_enter Try.func57, Try.ntmps57
  go_wp2_with fail
  refine (xDoneErr_any L A c _ HA.out).mono ?_
  rintro e w1 ⟨rfl, hb1⟩
  have HW := Lib.hid hb1
  clear hb1
  go_wp2_with fail
  refine (xEveryErr_any _ _).mono ?_
  rintro e wx ⟨rfl, rfl⟩
  go_wp2_with fail
  refine (xDateErr_any _ _).mono ?_
  rintro e wx ⟨rfl, rfl⟩
  have HL := Lib.hid (arr3NewD w1 (manyErr L.length 20 (dateBad L)) (everyErr every) (dateErr date) 28)
  have HX := Lib.hid (HW.out.alloc HW.out.size (.cells #[.int .i64 (manyErr L.length 20 (dateBad L)), .int .i64 (everyErr every), .int .i64 (dateErr date)] 28))
  go_wp2_with fail
  refine (firstError_any [manyErr L.length 20 (dateBad L), everyErr every, dateErr date] _ _ _ HL.out).mono ?_
  rintro e wx ⟨rfl, rfl⟩
  rw [show [manyErr L.length 20 (dateBad L), everyErr every, dateErr date].length = 3 from rfl, fst_three, show (if manyErr L.length 20 (dateBad L) ≠ 0 then manyErr L.length 20 (dateBad L) else if everyErr every ≠ 0 then everyErr every else dateErr date) = inspErr L every date from rfl]
  clear HL
  generalize hwy : w1.alloc _ = wy at *
  clear hwy
  by_cases he : inspErr L every date = 0
  · obtain ⟨h1, h2, h3, h4, h5⟩ := insp_right he
    have H5 := Lib.hid h5
    have hup := dates_up h2
    have H2 := Lib.hid h2
    have HUP := Lib.hid hup
    rw [he]
    clear he h5 h2 hup
    go_wp2_with fail
    refine (xSearch_any L date A c _ (HA.out.keep (Keep.below HX.out)) (by omega) (fun a b hab hb => ?_)).mono ?_
    · by_cases e : a = b
      · subst e; exact Int.le_refl _
      · have := HUP.out b hb a (by omega); omega
    · rintro e wx ⟨⟨i, fd, rfl, hfd⟩, rfl⟩
      obtain ⟨B, hB⟩ : ∃ B : Nat, B = if fd = true then i + 1 else i := ⟨_, rfl⟩
      have hBn : B ≤ L.length := by
        cases fd with
        | true => rw [hB, if_pos rfl]; have := (hfd.is.1 rfl).1; omega
        | false => rw [hB, if_neg (by decide)]; exact hfd.le
      have HLT := Lib.hid (lastTo_at (L := L) (date := date) (B := B) L.length hBn (fun k h6 h7 => by
          cases fd with
          | true =>
            rw [hB, if_pos rfl] at h6
            have h8 := hfd.is.1 rfl
            have := HUP.out k h7 i (by omega)
            omega
          | false =>
            rw [hB, if_neg (by decide)] at h6
            have h8 := hfd.hi k h6 h7
            by_cases h9 : listI L k = date
            · by_cases h10 : k = i
              · subst h10; exact absurd (hfd.is.2 ⟨h7, h9⟩) (by decide)
              · have h11 := HUP.out k h7 i (by omega)
                have h12 := hfd.hi i (Nat.le_refl _) (by omega)
                omega
            · omega) (fun hp => by
          cases fd with
          | true => rw [hB, if_pos rfl, Nat.add_sub_cancel]; have := (hfd.is.1 rfl).2; omega
          | false =>
            rw [hB, if_neg (by decide)] at hp ⊢
            have := hfd.lo (i - 1) (by omega)
            omega))
      have HBI := Lib.hid hB
      have hi20 : i ≤ 20 := by have := hfd.le; omega
      have hB21 : B ≤ 20 := by omega
      clear hfd hB
      cases fd with
      | true =>
        have hBi : (i : Int) + 1 = (B : Int) := by rw [HBI.out, if_pos rfl]; omega
        have hBw : IntKind.i64.wrap ((i : Int) + 1) = (B : Int) := by rw [IntKind.wrap_i64]; omega
        by_cases hB0 : B = 0
        · have F := Lib.hid (show inspect L every date = (0, 12) by rw [H5.out, HLT.out, if_pos hB0, if_pos (by decide)])
          have d1 : ((B : Int) == 0) = true := by simp; omega
          have d2 : decide (B = 0) = true := decide_eq_true hB0
          clear hB0
          go_wp2_with fail
          refine bodyPost_ret (v := .tuple #[.int .i64 0, .int .i64 12]) (by simp [results, Try.results57, go_sem]) rfl ⟨by rw [F.out], HX.out⟩
        · have d1 : ((B : Int) == 0) = false := by simp; omega
          have d2 : decide (B = 0) = false := decide_eq_false hB0
          obtain ⟨m, hm⟩ : ∃ m : Nat, m = B - 1 := ⟨_, rfl⟩
          have hm1 : (B : Int) - 1 = (m : Int) := by omega
          have hm2 : (m : Int) < (L.length : Int) := by omega
          have hmw : IntKind.i64.wrap (m : Int) = (m : Int) := by rw [IntKind.wrap_i64]; omega
          obtain ⟨b, o, rfl, q0⟩ := (HA.out.keep (Keep.below HX.out)).at_ (k := m) (by omega)
          have hq := dateBad_ok (H2.out m (by omega))
          have F0 := Lib.hid (show inspect L every date = if listI L m + every < date then (0, 22) else (listI L m + every, 0) by rw [H5.out, HLT.out, if_neg hB0, ← hm, if_neg (by omega)])
          have hw3 : IntKind.i64.wrap (listI L m + every) = listI L m + every := by rw [IntKind.wrap_i64]; omega
          clear hB0 hm
          by_cases hd : listI L m + every < date
          · have F := Lib.hid (F0.out.trans (if_pos hd))
            have d3 := decide_eq_true hd
            go_wp2_with fail
            refine bodyPost_ret (v := .tuple #[.int .i64 0, .int .i64 22]) (by simp [results, Try.results57, go_sem]) rfl ⟨by rw [F.out], HX.out⟩
          · have F := Lib.hid (F0.out.trans (if_neg hd))
            have d3 := decide_eq_false hd
            go_wp2_with fail
            refine bodyPost_ret (v := .tuple #[.int .i64 (listI L m + every), .int .i64 0]) (by simp [results, Try.results57, go_sem]) rfl ⟨by rw [F.out], HX.out⟩
      | false =>
        have hBi : i = B := by rw [HBI.out, if_neg (by decide)]
        rw [hBi]
        clear hBi
        by_cases hB0 : B = 0
        · have F := Lib.hid (show inspect L every date = (0, 12) by rw [H5.out, HLT.out, if_pos hB0, if_pos (by decide)])
          have d1 : ((B : Int) == 0) = true := by simp; omega
          have d2 : decide (B = 0) = true := decide_eq_true hB0
          clear hB0
          go_wp2_with fail
          refine bodyPost_ret (v := .tuple #[.int .i64 0, .int .i64 12]) (by simp [results, Try.results57, go_sem]) rfl ⟨by rw [F.out], HX.out⟩
        · have d1 : ((B : Int) == 0) = false := by simp; omega
          have d2 : decide (B = 0) = false := decide_eq_false hB0
          obtain ⟨m, hm⟩ : ∃ m : Nat, m = B - 1 := ⟨_, rfl⟩
          have hm1 : (B : Int) - 1 = (m : Int) := by omega
          have hm2 : (m : Int) < (L.length : Int) := by omega
          have hmw : IntKind.i64.wrap (m : Int) = (m : Int) := by rw [IntKind.wrap_i64]; omega
          obtain ⟨b, o, rfl, q0⟩ := (HA.out.keep (Keep.below HX.out)).at_ (k := m) (by omega)
          have hq := dateBad_ok (H2.out m (by omega))
          have F0 := Lib.hid (show inspect L every date = if listI L m + every < date then (0, 22) else (listI L m + every, 0) by rw [H5.out, HLT.out, if_neg hB0, ← hm, if_neg (by omega)])
          have hw3 : IntKind.i64.wrap (listI L m + every) = listI L m + every := by rw [IntKind.wrap_i64]; omega
          clear hB0 hm
          by_cases hd : listI L m + every < date
          · have F := Lib.hid (F0.out.trans (if_pos hd))
            have d3 := decide_eq_true hd
            go_wp2_with fail
            refine bodyPost_ret (v := .tuple #[.int .i64 0, .int .i64 22]) (by simp [results, Try.results57, go_sem]) rfl ⟨by rw [F.out], HX.out⟩
          · have F := Lib.hid (F0.out.trans (if_neg hd))
            have d3 := decide_eq_false hd
            go_wp2_with fail
            refine bodyPost_ret (v := .tuple #[.int .i64 (listI L m + every), .int .i64 0]) (by simp [results, Try.results57, go_sem]) rfl ⟨by rw [F.out], HX.out⟩
  · have HO := Lib.hid (insp_wrong he)
    have e1 : (inspErr L every date != 0) = true := by simpa using he
    have e2 : (inspErr L every date == 0) = false := by simpa using he
    clear he
    go_wp2_with fail
    refine bodyPost_ret (v := .tuple #[.int .i64 0, .int .i64 (inspErr L every date)]) (by simp [results, Try.results57, go_sem]) rfl ⟨by rw [HO.out], HX.out⟩
end Go.Proofs.Ytaihiahoedpbiaa
/- Contracts of Handed and NextInspection. No condition. -/

/- The library's sort by inserting, tied to this program's numbers (laid by the library's own command). -/
namespace Go.Proofs.Ytaihiahoedpbiaa
open Go.Shelf
def insertLays_ren : Go.Shelf.Ren := ⟨fun | 20 => 191 | n => n, fun | 24 => 3 | 22 => 92 | 3 => 3 | 25 => 69 | 4 => 4 | 0 => 0 | n => n, fun | n => n⟩
theorem insertLays : Go.Proofs.SlLaysF.n20 Try.prog insertLays_ren := {
  mixed := by kernel_rfl
  f20 := ⟨Try.f191.name, by decide, Try.func191.trans (congrArg some (by kernel_rfl))⟩
  t0 := Try.underlying0
  a0 := Try.isAgg0
  z0 := Try.sizeOf0
  v0 := Try.zeroValue0
  t3 := Try.underlying3
  a3 := Try.isAgg3
  z3 := Try.sizeOf3
  v3 := Try.zeroValue3
  t4 := Try.underlying4
  a4 := Try.isAgg4
  z4 := Try.sizeOf4
  v4 := Try.zeroValue4
  t22 := Try.underlying92
  a22 := Try.isAgg92
  z22 := Try.sizeOf92
  v22 := Try.zeroValue92
  a24 := Try.isAgg3
  z24 := Try.sizeOf3
  t25 := Try.underlying69
  a25 := Try.isAgg69
  z25 := Try.sizeOf69
  v25 := Try.zeroValue69 }
open Go.RowKit Go.Lib Go.Sort in
theorem insert_any {α : Type} [Inhabited α] (enc : α → Value) (hO : OneCell enc) (cf : α → α → Int) (g : Nat) (cb : Array Value) (blk off cap a b : Nat) (d : Array α) (w : World) (eg : ∀ args w, (callFunc g args).run Try.prog w = .ok (.enter g args) w) (hcmp : CmpReads Try.prog g cb enc cf blk off d.size w) (hH : Holds enc w blk off d) (hab : a ≤ b) (hb : b ≤ d.size) (hsz : d.size < 4611686018427387904) :
    Calls Try.prog 191 #[.slice (some ⟨blk, off, none⟩) d.size cap, .int .i64 a, .int .i64 b, .func (.func g) #[] cb] w fun e w' =>
      e = .returned (.tuple #[]) ∧ ∃ n, w' = (putRow enc w blk off (Sort.insertionSort (ltOf cf) d a b)).drewN n := Any.insertionSortCmpFunc_one insertLays enc hO cf g cb blk off cap a b d w eg hcmp hH hab hb hsz
end Go.Proofs.Ytaihiahoedpbiaa
/- The library's sort of records by a function, tied to this program's numbers (laid by the library's own command). -/
namespace Go.Proofs.Ytaihiahoedpbiaa
open Go.Shelf
def sortRecLays_ren : Go.Shelf.Ren := ⟨fun | 6 => 97 | 15 => 142 | 14 => 141 | 28 => 174 | 29 => 175 | 20 => 166 | 21 => 167 | 22 => 168 | 23 => 169 | 24 => 170 | 25 => 171 | 26 => 172 | 27 => 173 | 46 => 186 | 47 => 187 | 48 => 188 | 49 => 189 | 50 => 190 | 57 => 196 | n => n, fun | 22 => 24 | 24 => 39 | 25 => 145 | 3 => 3 | 39 => 173 | 0 => 0 | 53 => 199 | 55 => 201 | 4 => 4 | 46 => 193 | 45 => 192 | 50 => 157 | 5 => 5 | 9 => 9 | 66 => 209 | 70 => 213 | 76 => 219 | 77 => 58 | n => n, fun | n => n⟩
theorem sortRecLays : Go.Proofs.SlLaysF0.n6 Try.prog sortRecLays_ren := {
  mixed := by kernel_rfl
  f6 := ⟨Try.f97.name, by decide, Try.func97.trans (congrArg some (by kernel_rfl))⟩
  f14 := ⟨Try.f141.name, by decide, Try.func141.trans (congrArg some (by kernel_rfl))⟩
  f15 := Try.func142.trans (congrArg some (by kernel_rfl))
  f20 := ⟨Try.f166.name, by decide, Try.func166.trans (congrArg some (by kernel_rfl))⟩
  f21 := ⟨Try.f167.name, by decide, Try.func167.trans (congrArg some (by kernel_rfl))⟩
  f22 := ⟨Try.f168.name, by decide, Try.func168.trans (congrArg some (by kernel_rfl))⟩
  f23 := ⟨Try.f169.name, by decide, Try.func169.trans (congrArg some (by kernel_rfl))⟩
  f24 := ⟨Try.f170.name, by decide, Try.func170.trans (congrArg some (by kernel_rfl))⟩
  f25 := ⟨Try.f171.name, by decide, Try.func171.trans (congrArg some (by kernel_rfl))⟩
  f26 := ⟨Try.f172.name, by decide, Try.func172.trans (congrArg some (by kernel_rfl))⟩
  f27 := ⟨Try.f173.name, by decide, Try.func173.trans (congrArg some (by kernel_rfl))⟩
  f28 := Try.func174.trans (congrArg some (by kernel_rfl))
  f29 := Try.func175.trans (congrArg some (by kernel_rfl))
  f46 := ⟨Try.f186.name, by decide, Try.func186.trans (congrArg some (by kernel_rfl))⟩
  f47 := Try.func187.trans (congrArg some (by kernel_rfl))
  f48 := Try.func188.trans (congrArg some (by kernel_rfl))
  f49 := ⟨Try.f189.name, by decide, Try.func189.trans (congrArg some (by kernel_rfl))⟩
  f50 := ⟨Try.f190.name, by decide, Try.func190.trans (congrArg some (by kernel_rfl))⟩
  f57 := ⟨Try.f196.name, by decide, Try.func196.trans (congrArg some (by kernel_rfl))⟩
  t0 := Try.underlying0
  a0 := Try.isAgg0
  z0 := Try.sizeOf0
  v0 := Try.zeroValue0
  t3 := Try.underlying3
  a3 := Try.isAgg3
  z3 := Try.sizeOf3
  v3 := Try.zeroValue3
  t4 := Try.underlying4
  a4 := Try.isAgg4
  z4 := Try.sizeOf4
  v4 := Try.zeroValue4
  t5 := Try.underlying5
  a5 := Try.isAgg5
  z5 := Try.sizeOf5
  v5 := Try.zeroValue5
  t9 := Try.underlying9
  a9 := Try.isAgg9
  z9 := Try.sizeOf9
  v9 := Try.zeroValue9
  t22 := Try.underlying24
  a22 := Try.isAgg24
  z22 := Try.sizeOf24
  v22 := Try.zeroValue24
  t25 := Try.underlying145
  a25 := Try.isAgg145
  z25 := Try.sizeOf145
  v25 := Try.zeroValue145
  t39 := Try.underlying173
  a39 := Try.isAgg173
  z39 := Try.sizeOf173
  v39 := Try.zeroValue173
  t45 := Try.underlying192
  a45 := Try.isAgg192
  z45 := Try.sizeOf192
  v45 := Try.zeroValue192
  t46 := Try.underlying193
  a46 := Try.isAgg193
  z46 := Try.sizeOf193
  v46 := Try.zeroValue193
  t50 := Try.underlying157
  a50 := Try.isAgg157
  z50 := Try.sizeOf157
  v50 := Try.zeroValue157
  t53 := Try.underlying199
  a53 := Try.isAgg199
  z53 := Try.sizeOf199
  v53 := Try.zeroValue199
  t55 := Try.underlying201
  a55 := Try.isAgg201
  z55 := Try.sizeOf201
  v55 := Try.zeroValue201
  t66 := Try.underlying209
  a66 := Try.isAgg209
  z66 := Try.sizeOf209
  v66 := Try.zeroValue209
  t70 := Try.underlying213
  a70 := Try.isAgg213
  z70 := Try.sizeOf213
  v70 := Try.zeroValue213
  t76 := Try.underlying219
  a76 := Try.isAgg219
  z76 := Try.sizeOf219
  v76 := Try.zeroValue219
  t77 := Try.underlying58
  a77 := Try.isAgg58
  z77 := Try.sizeOf58
  v77 := Try.zeroValue58 }
open Go.RowKit Go.Lib Go.Sort in
theorem sortRec {α : Type} [Inhabited α] (k : Nat) (aE : ∀ w, (isAgg 39).run Try.prog w = .ok true w) (zE : ∀ w, (Go.sizeOf 39).run Try.prog w = .ok k w) (enc : α → List Value) (hk : ∀ x, (enc x).length = k) (h1 : ∀ x, ∀ v ∈ enc x, v.oneCell' = true) (cf : α → α → Int) (hO : SWO (ltOf cf)) (g : Nat) (cb : Array Value) (blk off cap : Nat) (d : Array α) (w : World) (eg : ∀ args w, (callFunc g args).run Try.prog w = .ok (.enter g args) w) (hcmp : CmpLays Try.prog g cb enc k cf blk off d.size w) (hH : HoldsK enc k w blk off d) (hblk : blk < w.heap.size) (hsz : d.size < 4611686018427387904) :
    Calls Try.prog 97 #[.slice (some ⟨blk, off, none⟩) d.size cap, .func (.func g) #[] cb] w fun e w' =>
      e = .returned (.tuple #[]) ∧ ∃ d' n os, PermIn 0 d.size d d' ∧ SortedIn (ltOf cf) 0 d.size d' ∧ w' = sortWorldK enc k w blk off n d' os := AnyQ.slices_SortFunc sortRecLays k aE zE enc hk h1 cf hO g cb blk off cap d w eg hcmp hH hblk hsz
end Go.Proofs.Ytaihiahoedpbiaa
/- Lists of records joined: slices.Grow and slices.Concat of records. Condition: few lists of few records. -/
namespace Go.Proofs.Ytaihiahoedpbiaa
open Go.RowKit Fs Go.Shelf

def growLaysR_ren : Go.Shelf.Ren := ⟨fun | 4 => 140 | n => n, fun | 22 => 24 | 25 => 39 | 20 => 20 | 9 => 9 | 4 => 4 | 3 => 3 | 0 => 0 | n => n, fun | n => n⟩
theorem growLaysR : Go.Proofs.Lays8.n4 Try.prog growLaysR_ren := {
  mixed := by kernel_rfl
  f4 := ⟨Try.f140.name, by kernel_rfl, Try.func140.trans (congrArg some (by kernel_rfl))⟩
  t0 := Try.underlying0
  a0 := Try.isAgg0
  z0 := Try.sizeOf0
  v0 := Try.zeroValue0
  t3 := Try.underlying3
  a3 := Try.isAgg3
  z3 := Try.sizeOf3
  v3 := Try.zeroValue3
  t4 := Try.underlying4
  a4 := Try.isAgg4
  z4 := Try.sizeOf4
  v4 := Try.zeroValue4
  t9 := Try.underlying9
  a9 := Try.isAgg9
  z9 := Try.sizeOf9
  v9 := Try.zeroValue9
  t20 := Try.underlying20
  a20 := Try.isAgg20
  z20 := Try.sizeOf20
  v20 := Try.zeroValue20
  t22 := Try.underlying24
  a22 := Try.isAgg24
  z22 := Try.sizeOf24
  v22 := Try.zeroValue24 }
theorem xGrow_any (n : Nat) (w : World) (hn : n ≤ 1000000000) :
    Calls Try.prog 140 #[.slice none 0 0, .int .i64 n] w fun e w' => ∃ v, e = .returned v ∧ w'.ownsRow w.heap.size 39 3 v 0 (recFlat []) ∧ Below w.heap.size w w' := by
  obtain ⟨i0, hi, hz0, hz1, hz2⟩ := info_parts Try.infoDRec
  by_cases h0 : n = 0
  · subst h0
    refine (Any8.slices_Grow_room growLaysR none 0 0 0 w (Nat.le_refl _) (by decide) (by decide) (Nat.le_refl _)).mono ?_
    rintro e w' ⟨rfl, rfl⟩
    exact ⟨_, rfl, World.ownsRow_nil _ _ _ _, Below.refl _ _⟩
  · refine (Any8.slices_Grow_grow growLaysR i0 (.agg #[.string ⟨#[]⟩, .int .i64 0, .int .i64 0]) hi hz0 (by rw [hz1]; decide) none 0 0 n [] w (Nat.le_refl _) (by omega) (by rw [hz2]; omega) (by omega) (by simp) (fun _ => rfl) (fun a ha => by cases ha)).mono ?_
    rintro e w' ⟨rfl, rfl⟩
    refine ⟨_, rfl, ⟨rfl, .inr ⟨w.heap.size, grownCap w (0 + n) 0 39, (([] : List Value).toArray ++ Builtin.zeroCells (Value.agg #[.string ⟨#[]⟩, .int .i64 0, .int .i64 0]).cells (0 + n - 0) ++ Builtin.zeroCells (Value.agg #[.string ⟨#[]⟩, .int .i64 0, .int .i64 0]).cells (grownCap w (0 + n) 0 39 - (0 + n))), rfl, Nat.le_refl _, ?_, Nat.zero_le _, grownCap_le_maxLen w (0 + n) 0 _ (by unfold maxLen; omega), ?_, by simp [recFlat, flat]⟩⟩, ((Below.refl _ _).drew).alloc (Nat.le_refl _) _⟩
    · exact heap_alloc_new w.drew _
    · have := grownCap_ge w (0 + n) 0 39
      rw [Nat.zero_add] at this
      simp [Builtin.zeroCells, Value.cells]
      omega
def Fs.listLW (ls : List (List WRec)) (i : Nat) : List WRec := ls.getD i []
def Fs.catTo (ls : List (List WRec)) : Nat → List WRec
  | 0 => []
  | k + 1 => catTo ls k ++ listLW ls k
theorem recFlat_join (l m : List WRec) : recFlat (l ++ m) = recFlat l ++ flat m.length 3 fun i j => recCells (listW m i) j := by
  unfold recFlat
  rw [List.length_append]
  symm
  refine flat_join (by decide) (fun i j hi hj => ?_) (fun i j hi hj => ?_)
  · rw [listW_left hi]
  · unfold listW
    rw [List.getD_eq_getElem?_getD, List.getD_eq_getElem?_getD, List.getElem?_append_right (by omega), Nat.add_sub_cancel_left]
def ArrLW (w : World) (A : Option Addr) (ls : List (List WRec)) (c : Nat) (p : Nat → Option Addr) (pc : Nat → Nat) : Prop :=
  Arr w A ls.length c 1 (fun i _ => .slice (p i) (listLW ls i).length (pc i)) ∧ ∀ i, i < ls.length → ArrW w (p i) (listLW ls i) (pc i)
theorem ArrLW.keep {w w' : World} (k : Keep w w') {A : Option Addr} {ls : List (List WRec)} {c : Nat} {p : Nat → Option Addr} {pc : Nat → Nat} (h : ArrLW w A ls c p pc) : ArrLW w' A ls c p pc := ⟨Arr.keep k h.1, fun i hi => (h.2 i hi).keep k⟩
theorem ArrLW.at_ {w : World} {A : Option Addr} {ls : List (List WRec)} {c : Nat} {p : Nat → Option Addr} {pc : Nat → Nat} (h : ArrLW w A ls c p pc) {k : Nat} (hk : k < ls.length) : ∃ b o, A = some ⟨b, o, none⟩ ∧ w.cell? ⟨b, o + k, none⟩ = some (.slice (p k) (listLW ls k).length (pc k)) := by
  obtain ⟨b, o, e, hc⟩ := Arr.at_ h.1 hk
  refine ⟨b, o, e, ?_⟩
  have := hc 0 (by decide)
  rw [Nat.mul_one] at this
  exact this
theorem Fs.catTo_len {ls : List (List WRec)} {B : Nat} (h : ∀ i, i < ls.length → (listLW ls i).length ≤ B) : ∀ k, k ≤ ls.length → (catTo ls k).length ≤ B * k
  | 0, _ => by simp [catTo]
  | k + 1, hk => by
    have ih := catTo_len h k (by omega)
    have := h k (by omega)
    rw [catTo, List.length_append, Nat.mul_succ]
    omega
set_option maxHeartbeats 3200000 in
set_option maxRecDepth 100000 in
theorem xConcat_any (ls : List (List WRec)) (A : Option Addr) (c : Nat) (p : Nat → Option Addr) (pc : Nat → Nat) (w : World) (h : ArrLW w A ls c p pc) (hn : ls.length ≤ 10) (hl : ∀ i, i < ls.length → (listLW ls i).length ≤ 1000) :
    Calls Try.prog 96 #[.slice A ls.length c] w fun e w' => (∃ v, e = .returned v ∧ w'.ownsRow w.heap.size 39 3 v (catTo ls ls.length).length (recFlat (catTo ls ls.length))) ∧ Below w.heap.size w w' := by
  obtain ⟨i0, hi, hz0, hz1, hz2⟩ := info_parts Try.infoDRec
  have HH := Lib.hid h
  have b1 := h.1.1
  have b2 := h.1.2.1
  have HL := Lib.hid hl
  have HF := Lib.hid (catTo_len hl)
  clear h hl
  go_enter Try.func96, Try.ntmps96
  go_wp2_with fail
  go_loop [3, 11] (fun u i => ∃ k : Nat, k ≤ ls.length ∧ i = .int .i64 k ∧ u = .int .i64 ((catTo ls k).length : Nat)) (fun _ i => ls.length - (intOf i).toNat)
  case atStart => exact ⟨0, Nat.zero_le _, rfl, rfl⟩
  case round =>
    obtain ⟨k, hk, rfl, rfl⟩ := hrel
    by_cases hlt : k < ls.length
    · obtain ⟨b, o, hAe, hc⟩ := HH.out.at_ hlt
      subst hAe
      have f1 := HF.out k hk
      have f2 := HL.out k hlt
      have F := Lib.hid (show ((catTo ls (k + 1)).length : Int) = ((catTo ls k).length : Int) + ((listLW ls k).length : Int) by rw [catTo, List.length_append]; omega)
      have hkn : (k : Int) < (ls.length : Int) := by omega
      have dd : decide (((catTo ls k).length : Int) + ((listLW ls k).length : Int) < 0) = false := decide_eq_false (by omega)
      go_wp2_with fail
      go_round
      case rel => exact ⟨k + 1, by omega, by go_num, by rw [F.out]⟩
      case measure => simp [intOf]; omega
    · obtain rfl : k = ls.length := by omega
      have f1 := HF.out ls.length (Nat.le_refl _)
      clear hlt hk
      go_wp2_with fail
      refine (xGrow_any (catTo ls ls.length).length _ (by omega)).mono ?_
      rintro e' w1 ⟨v1, rfl, ho, hb1⟩
      have HO := Lib.hid ho
      have HB := Lib.hid hb1
      clear ho hb1
      go_wp2_with fail
      go_loopw [6, 27] (fun u i wr => ∃ k : Nat, k ≤ ls.length ∧ i = .int .i64 k ∧ Hid (wr.ownsRow w.heap.size 39 3 u (catTo ls k).length (recFlat (catTo ls k))) ∧ Hid (Below w.heap.size w wr)) (fun _ i _ => ls.length - (intOf i).toNat)
      case atStart => exact ⟨0, Nat.zero_le _, rfl, HO, HB⟩
      case round =>
        obtain ⟨k, hk, rfl, HOk, HBk⟩ := hrel
        by_cases hlt : k < ls.length
        · obtain ⟨b, o, hAe, hc⟩ := (HH.out.keep (Keep.below HBk.out)).at_ hlt
          have HA := Lib.hid ((HH.out.keep (Keep.below HBk.out)).2 k hlt)
          subst hAe
          have f1 := HF.out k hk
          have f2 := HL.out k hlt
          have hkn : (k : Int) < (ls.length : Int) := by omega
          have hws : w.heap.size ≤ wr.heap.size := HBk.out.size
          go_wp2_with (at_builtin; refine wpList_join rfl (.tmp 31) (.tmp 32) 24 rfl 39 i0 (.agg #[.string ⟨#[]⟩, .int .i64 0, .int .i64 0]) 3 32 Try.underlying24 hi hz0 hz1 hz2 rfl (by decide) w.heap.size _ _ _ rfl HOk.out hws (p k) (listLW ls k).length (pc k) _ rfl HA.out (by intro i j; unfold recCells; split <;> rfl) ?c1 ?c2 ?_)
          case c1 => unfold maxLen; omega
          case c2 => omega
          intro v2 w2 hown2 hb2
          have HO2 : Hid (w2.ownsRow w.heap.size 39 3 v2 (catTo ls (k + 1)).length (recFlat (catTo ls (k + 1)))) := by
            rw [catTo, List.length_append, recFlat_join]
            exact Lib.hid hown2
          have HB2 := Lib.hid (HBk.out.trans hb2)
          clear hown2 hb2
          go_wp2_with fail
          go_roundw
          case rel => exact ⟨k + 1, by omega, by go_num, HO2, HB2⟩
          case measure => simp [intOf]; omega
        · obtain rfl : k = ls.length := by omega
          clear hlt hk
          go_wp2_with fail
          go_ret
          exact ⟨⟨_, rfl, HOk.out⟩, HBk.out⟩
end Go.Proofs.Ytaihiahoedpbiaa
/- Records sorted by their beginnings. Condition: the row of the records is one's own. -/
namespace Go.Proofs.Ytaihiahoedpbiaa
open Go.RowKit Fs

def Fs.cmpI (x y : Int) : Int := if x < y then -1 else if y < x then 1 else 0
set_option maxHeartbeats 400000 in
theorem xCompare_any (x y : Int) (w : World) : Calls Try.prog 99 #[.int .i64 x, .int .i64 y] w fun e w' => e = .returned (.int .i64 (cmpI x y)) ∧ w = w' := by
  have hr : Hid (cmpI x y = if x < y then -1 else if y < x then 1 else 0) := Lib.hid rfl
  go_enter Try.func99, Try.ntmps99
  go_wp2_with fail
  refine (xNaN1_any _ _).mono ?_
  rintro e' wx ⟨rfl, rfl⟩
  go_wp2_with fail
  refine (xNaN1_any _ _).mono ?_
  rintro e' wx ⟨rfl, rfl⟩
  by_cases h1 : x < y
  · have F := Lib.hid (hr.out.trans (if_pos h1))
    have d1 := decide_eq_true h1
    go_wp2_with fail
    go_ret
    exact ⟨ret_int F.out.symm, rfl⟩
  · have d1 := decide_eq_false h1
    by_cases h2 : y < x
    · have F := Lib.hid (hr.out.trans ((if_neg h1).trans (if_pos h2)))
      have d2 := decide_eq_true h2
      go_wp2_with fail
      go_ret
      exact ⟨ret_int F.out.symm, rfl⟩
    · have F := Lib.hid (hr.out.trans ((if_neg h1).trans (if_neg h2)))
      have d2 := decide_eq_false h2
      go_wp2_with fail
      go_ret
      exact ⟨ret_int F.out.symm, rfl⟩
instance : Inhabited WRec := ⟨w0⟩
def encW (x : WRec) : List Value := [.string x.who, .int .i64 x.beg, .int .i64 x.fin]
def Fs.cmpW (x y : WRec) : Int := cmpI x.beg y.beg
set_option maxHeartbeats 400000 in
theorem xByBeg_any (x y : WRec) (W : World) : Calls Try.prog 98 #[recV x, recV y] W fun e w' => e = .returned (.int .i64 (cmpW x y)) ∧ ∃ q os', w' = Go.Sort.grow (W.drewN q) os' := by
  have a0 := (Keep.alloc (W.alloc (.cells #[.string x.who, .int .i64 x.beg, .int .i64 x.fin] 39)) (.cells #[.string y.who, .int .i64 y.beg, .int .i64 y.fin] 39)) _ _ (cellNew W #[.string x.who, .int .i64 x.beg, .int .i64 x.fin] 39 1)
  have a1 := cellNew1 W (.cells #[.string x.who, .int .i64 x.beg, .int .i64 x.fin] 39) #[.string y.who, .int .i64 y.beg, .int .i64 y.fin] 39 1
  go_enter Try.func98, Try.ntmps98
  go_wp2_with fail
  refine (xCompare_any _ _ _).mono ?_
  rintro e' wx ⟨rfl, rfl⟩
  go_wp2_with fail
  go_ret
  exact ⟨rfl, 0, _, by rw [Go.Sort.alloc_eq_grow, Go.Sort.alloc_eq_grow, Go.Sort.grow_grow]; rfl⟩
theorem Fs.cmpW_lt (x y : WRec) : ltOf cmpW x y = decide (x.beg < y.beg) := by
  unfold ltOf cmpW cmpI
  by_cases h1 : x.beg < y.beg
  · simp [h1]
  · by_cases h2 : y.beg < x.beg <;> simp [h1, h2]
theorem cmpW_swo : Go.Sort.SWO (ltOf cmpW) where
  irrefl x := by rw [cmpW_lt]; simp
  trans x y z h1 h2 := by rw [cmpW_lt] at *; simp at *; omega
  ntrans x y z h1 h2 := by rw [cmpW_lt] at *; simp at *; omega

theorem listW_bang (l : List WRec) (i : Nat) : l.toArray[i]! = listW l i := by
  unfold listW
  rw [List.getD_eq_getElem?_getD]
  by_cases h : i < l.length
  · rw [List.getElem?_eq_getElem h, getElem!_pos _ i (by simpa using h)]
    simp
  · rw [List.getElem?_eq_none (by omega), getElem!_neg _ i (by simpa using h)]
    rfl
theorem encW_at (x : WRec) {c : Nat} (hc : c < 3) : (encW x)[c]! = recCells x c := by
  obtain rfl | rfl | rfl : c = 0 ∨ c = 1 ∨ c = 2 := by omega
  all_goals rfl
theorem own_holdsK {w : World} {base : Nat} {e : TypeId} {g n cap : Nat} {l : List WRec} (h : w.ownsRow base e 3 (.slice (some ⟨g, 0, none⟩) n cap) n (recFlat l)) (hn : n = l.length) : Go.Sort.HoldsK encW 3 w g 0 l.toArray := by
  intro t ht
  rw [Go.Sort.size_flatK] at ht
  have ht' : t < l.length * 3 := by simpa using ht
  have hc := h.cellAt t (by omega)
  have hf := h.frozenAt t
  rw [Go.Sort.get_flatK _ _ _ _ ht, Nat.zero_add, listW_bang, encW_at _ (Nat.mod_lt _ (by decide))]
  refine ⟨?_, hf⟩
  rw [hc]
  exact flat_get t ht'
theorem holdsK_arr {w : World} {g cap : Nat} {d : Array WRec} (h : Go.Sort.HoldsK encW 3 w g 0 d) (hc : d.size ≤ cap) (hm : cap ≤ 9223372036854775807) : ArrW w (some ⟨g, 0, none⟩) d.toList cap := by
  refine ⟨by simpa using hc, hm, fun _ => ⟨g, 0, rfl, fun i j hi hj => ?_⟩⟩
  have hi' : i < d.size := by simpa using hi
  have := (h.cell hi' hj).1
  rw [encW_at _ hj] at this
  rw [this]
  show some _ = some (recCells (listW d.toList i) j)
  rw [← listW_bang]
theorem xPutBelowK {w0 w : World} {g : Nat} {d : Array WRec} {B : Nat} (h : Below B w0 w) (n : Nat) (hg : B ≤ g) : Below B w0 (Go.Sort.putRowK encW 3 (Go.Sort.ahead w n) g 0 d) := by
  refine ⟨h.os, h.tape, h.output, by unfold Go.Sort.putRowK Go.Sort.putRow Go.Sort.mapBlock Go.Sort.ahead; simpa using h.size, fun k hk => ?_⟩
  rw [← h.block k hk]
  unfold Go.Sort.putRowK Go.Sort.putRow Go.Sort.mapBlock Go.Sort.ahead
  simp only [Array.getElem?_modify]
  rw [if_neg (by omega)]
theorem xGrowBelowK {w0 w : World} {B : Nat} (h : Below B w0 w) (os : Array Obj) (hB : B ≤ w.heap.size) : Below B w0 (Go.Sort.grow w os) := by
  refine ⟨h.os, h.tape, h.output, by unfold Go.Sort.grow; have := h.size; simp; omega, fun k hk => ?_⟩
  rw [← h.block k hk]
  exact Go.Sort.heap_grow_old w os (by omega)
/-- m holds what l holds, by beginnings. -/
structure Fs.ByBeg (l m : List WRec) : Prop where
  perm : m.Perm l
  up : ∀ i j, i < j → j < m.length → (listW m i).beg ≤ (listW m j).beg
set_option maxHeartbeats 800000 in
theorem xSortW_any (base : Nat) (l : List WRec) (v : Value) (w w0 : World) (h : w.ownsRow base 39 3 v l.length (recFlat l)) (hp : 0 < l.length) (hn : l.length ≤ 1000000) (hB : Below base w0 w) :
    Calls Try.prog 97 #[v, .func (.func 98) #[] #[]] w fun e' w' => e' = .returned (.tuple #[]) ∧ (∃ A c m, v = .slice A l.length c ∧ ByBeg l m ∧ ArrW w' A m c) ∧ Below base w0 w' := by
  obtain ⟨g, cap, rfl, hg1, hc1, hc2⟩ := own_is h hp
  have hH := own_holdsK h rfl
  have hg2 := (h.lt g rfl).2
  have hsz : l.toArray.size = l.length := by simp
  have key := sortRec 3 (fun w => by kernel_rfl) (fun w => by kernel_rfl) encW (fun _ => rfl) (fun x v hv => by simp [encW] at hv; rcases hv with rfl | rfl | rfl <;> rfl) cmpW cmpW_swo 98 #[] g 0 cap l.toArray w (fun args w => by kernel_rfl) (fun m os dk hdk x y => xByBeg_any x y _) hH hg2 (by rw [hsz]; omega)
  rw [hsz] at key
  refine key.mono ?_
  rintro e' w' ⟨rfl, d', n, os, hpm, hso, rfl⟩
  obtain ⟨hs, -, hpp⟩ := hpm
  rw [hsz] at hs
  have e1 : (d'.extract 0 l.length).toList = d'.toList := by rw [← hs]; simp
  have e2 : (l.toArray.extract 0 l.length).toList = l := by simp
  rw [e1, e2] at hpp
  have hlt : g < (Go.Sort.putRowK encW 3 (Go.Sort.ahead w n) g 0 d').heap.size := by
    unfold Go.Sort.putRowK Go.Sort.putRow Go.Sort.mapBlock Go.Sort.ahead
    simpa using hg2
  have hH' : Go.Sort.HoldsK encW 3 (Go.Sort.grow (Go.Sort.putRowK encW 3 (Go.Sort.ahead w n) g 0 d') os) g 0 d' :=
    Go.Sort.holdsK_grow _ _ _ _ _ _ _ hlt (Go.Sort.holdsK_putRowK _ _ _ _ _ _ _ (Go.Sort.holdsK_ahead _ _ _ n _ _ _ hH) (by rw [hs, hsz]))
  refine ⟨rfl, ⟨_, cap, d'.toList, rfl, ⟨hpp, fun i j hij hj => ?_⟩, holdsK_arr hH' (by omega) hc2⟩, xGrowBelowK (xPutBelowK hB n hg1) os ?_⟩
  · have hj' : j < l.length := by rw [← hs]; simpa using hj
    have := hso i j (Nat.zero_le _) hij hj'
    rw [cmpW_lt] at this
    have a1 := listW_bang d'.toList i
    have a2 := listW_bang d'.toList j
    simp only [Array.toArray_toList] at a1 a2
    rw [a1, a2] at this
    simpa using this
  · have := hB.size
    unfold Go.Sort.putRowK Go.Sort.putRow Go.Sort.mapBlock Go.Sort.ahead
    simp
    omega
end Go.Proofs.Ytaihiahoedpbiaa

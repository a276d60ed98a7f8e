/- Handed. No condition. -/
import Derived.Test.YtaihiahoedpbiaaX14
import Derived.Test.YtaihiahoedpbiaaD9
import Derived.Test.YtaihiahoedpbiaaX1
import Derived.Test.YtaihiahoedpbiaaD14
import Derived.Test.YtaihiahoedpbiaaD24
namespace Go.Proofs.Ytaihiahoedpbiaa
open Go.RowKit Fs

theorem Fs.list_cars (l : List WRec) : manyErr l.length 40 (wrongRec false l) = recsErr false l := rfl
/-- The drivers of the first k groups. -/
def Fs.whoTo (l : List WRec) (L : List (Int × Int)) (k : Nat) : List ByteArray := (L.take k).map fun p => (listW l p.1.toNat).who
theorem Fs.whoTo_next {l : List WRec} {L : List (Int × Int)} {k : Nat} (h : k < L.length) : whoTo l L (k + 1) = whoTo l L k ++ [(listW l (listJ L k).1.toNat).who] := by
  unfold whoTo
  rw [List.take_add_one, List.getElem?_eq_getElem h, List.map_append]
  have : listJ L k = L[k] := by unfold listJ; rw [List.getD_eq_getElem?_getD, List.getElem?_eq_getElem h]; rfl
  rw [this]
  rfl
theorem Fs.whoTo_len {l : List WRec} {L : List (Int × Int)} {k : Nat} (h : k ≤ L.length) : (whoTo l L k).length = k := by
  unfold whoTo
  rw [List.length_map, List.length_take]
  omega
set_option linter.unusedSimpArgs false in
set_option maxHeartbeats 6400000 in
set_option maxRecDepth 100000 in
theorem xHanded_any (l : List WRec) (A : Option Addr) (c : Nat) (w : World) (h : ArrW w A l c) :
    Calls Try.prog 56 #[.slice A l.length c] w fun e w' => (∃ A' c', e = .returned (.tuple #[.slice A' (handedOut l).length c', .int .i64 (recsErr false l)]) ∧ ArrS w' A' (handedOut l) c') ∧ Below w.heap.size w w' := by
  obtain ⟨i0, hi, hz0, hz1, hz2⟩ := info_parts Try.infoText
  have b1 := h.le.1
  have b2 := h.le.2
  have HA := Lib.hid (h.keep (Keep.alloc w (.cells #[.slice A l.length c] 24)))
  clear h
  have HC := Lib.hid (cellNew w #[.slice A l.length c] 24 0)
  have c0 := HC.out
  go_enter Try.func56, Try.ntmps56
  go_upto_region 1 with fail
  generalize hwb : w.alloc _ = wb at *
  have HW : Hid (Below w.heap.size w wb) := by rw [← hwb]; exact Lib.hid ((Below.refl _ _).alloc (Nat.le_refl _) _)
  clear hwb
  go_wp2_with fail
  refine (xList_any 113 (.pointer (some ⟨w.heap.size, 0, none⟩)) l.length 40 (wrongRec false l) _ (by omega) (by omega) (fun args w => by kernel_rfl) (fun w' hb i hi => xCarBad_any l A c _ i w' (Keep.below hb _ _ HC.out) (HA.out.keep (Keep.below hb)) hi)).mono ?_
  rintro e w1 ⟨rfl, hb1⟩
  rw [list_cars]
  replace HC := Lib.hid (Keep.below hb1 _ _ HC.out)
  replace HA := Lib.hid (HA.out.keep (Keep.below hb1))
  replace HW := Lib.hid (HW.out.trans (hb1.mono HW.out.size))
  clear hb1 c0
  by_cases he : recsErr false l = 0
  · have HE := Lib.hid he
    have HO := Lib.hid (show handedOut l = handedTo l l.length from if_pos he)
    have HR := Lib.hid (recs_right he).fit
    have hlen := (recs_right he).len
    rw [he]
    clear he
    have c0 := HC.out
    go_wp2_with fail
    refine (xGroupsH_any l A c _ HA.out HR.out).mono ?_
    rintro e w2 ⟨⟨v, rfl, ho⟩, hb1⟩
    replace HC := Lib.hid (Keep.below hb1 _ _ HC.out)
    replace HA := Lib.hid (HA.out.keep (Keep.below hb1))
    replace HW := Lib.hid (HW.out.trans (hb1.mono HW.out.size))
    have HG := Lib.hid (handed_groups l l.length)
    have HF := Lib.hid (groups_first (g := sameWho l) rfl l.length)
    have hLl := groupsBy_len (g := sameWho l) rfl l.length
    generalize groupsBy (sameWho l) l.length = L at *
    obtain ⟨A7, c7, rfl, hj⟩ := own_pairs ho
    have HJ := Lib.hid hj
    have hc7 := hj.le
    clear hb1 c0 ho hj
    obtain ⟨n, hn⟩ : ∃ n, n = L.length := ⟨_, rfl⟩
    have HN := Lib.hid hn
    rw [← hn] at hLl hc7 ⊢
    clear hn
    go_wp2_with fail
    go_loopw [6, 22] (fun v i wr => ∃ (k : Nat), k ≤ n ∧ i = .int .i64 k ∧ Hid (wr.ownsRow w2.heap.size 9 1 v k (strVals (whoTo l L k))) ∧ Hid (Below w2.heap.size w2 wr)) (fun _ i _ => n - (intOf i).toNat)
    case atStart => exact ⟨0, Nat.zero_le _, rfl, Lib.hid (World.ownsRow_nil _ _ _ _), Lib.hid (Below.refl _ _)⟩
    case round =>
      obtain ⟨k, hk, rfl, HO2, HB⟩ := hrel
      by_cases hlt : k < n
      · have hkn : (k : Int) < (n : Int) := by omega
        have hkL : k < L.length := by rw [← HN.out]; exact hlt
        obtain ⟨f1, f2⟩ := HF.out k hkL
        have HNX := Lib.hid (whoTo_next (l := l) hkL)
        obtain ⟨b7, o7, rfl, p0, p1⟩ := (HJ.out.keep (Keep.below HB.out)).at_ hkL
        obtain ⟨f, hf⟩ : ∃ f : Nat, f = (listJ L k).1.toNat := ⟨_, rfl⟩
        have hf2 : (listJ L k).1 = (f : Int) := by omega
        rw [hf2] at p0
        rw [← hf] at HNX
        have hfl : f < l.length := by omega
        have hfi : (f : Int) < (l.length : Int) := by omega
        generalize (listJ L k).2 = y at *
        clear hf hf2 f1 f2 hkL
        have p0' := Keep.alloc wr (.cells #[.int .i64 f, .int .i64 y] 37) _ _ p0
        have z0 := cellNew wr #[.int .i64 f, .int .i64 y] 37 0
        have z1 := cellNew wr #[.int .i64 f, .int .i64 y] 37 1
        have hbx := (Below.refl wr.heap.size wr).alloc (Nat.le_refl _) (.cells #[.int .i64 f, .int .i64 y] 37)
        have HB1 := Lib.hid (HB.out.trans (hbx.mono HB.out.size))
        have HOX := Lib.hid (below_of_own HO2.out hbx)
        obtain ⟨b, o, rfl, q⟩ := (HA.out.keep (Keep.below HB1.out)).at_ hfl
        obtain ⟨q0, q1, q2⟩ := q
        have c0 := Keep.below HB1.out _ _ HC.out
        have HSZ := Lib.hid (Nat.le_trans HW.out.size HB.out.size)
        clear hbx hfl p0'
        go_upto_region 8 with fail
        generalize hwx : wr.alloc _ = wx at *
        clear hwx
        go_wp2_with (at_builtin
                     refine wpList_append_own _ rfl (.tmp 26) (.tmp 33) 85 rfl w2.heap.size 9 i0 _ 1 16 Try.underlying85 hi hz0 hz1 hz2 rfl (by decide) _ _ _ rfl ((HOX.out).alloc _) ⟨_, 0, none⟩ 1 1 [.string (listW l f).who] rfl rfl ?c1 ?c2 ?c3 ?c4 ?c5 ?_)
        case c1 => exact news0 _ _ _
        case c2 => exact oneStr _
        case c3 => unfold maxLen; omega
        case c4 => omega
        case c5 => have := HB1.out.size; simp; omega
        intro v9 w9 ho9 hg9 _
        go_wp2_with fail
        go_roundw
        case rel =>
          refine ⟨k + 1, by omega, by go_num, Lib.hid ?_, Lib.hid ?_⟩
          · rw [HNX.out, strVals_snoc]
            exact ho9
          · exact (HB1.out.alloc HB1.out.size _).grown hg9 (by have := HB1.out.size; simp; omega) (fun j hj => ((HOX.out).lt j hj).1)
        case measure => simp [intOf]; omega
      · obtain rfl : k = n := by omega
        have HZ := Lib.hid (show whoTo l L k = handedOut l by rw [HO.out, ← HG.out]; unfold whoTo; rw [HN.out, List.take_length])
        have HZL := Lib.hid (show k = (handedOut l).length by rw [← HZ.out, whoTo_len (by rw [HN.out]; exact Nat.le_refl _)])
        have ho := HO2.out
        rw [HZ.out, HZL.out] at ho
        obtain ⟨A9, c9, rfl, hs⟩ := xown_strs ho
        have HS := Lib.hid hs
        clear ho hs HO2
        go_wp2_with fail
        refine bodyPost_ret (v := .tuple #[.slice A9 (handedOut l).length c9, .int .i64 0]) (by simp [results, Try.results56, go_sem]) rfl ⟨⟨A9, c9, by rw [HE.out], HS.out⟩, HW.out.trans (HB.out.mono HW.out.size)⟩
  · have HO := Lib.hid (show handedOut l = [] from if_neg he)
    have e1 : (recsErr false l != 0) = true := by simpa using he
    have e2 : (recsErr false l == 0) = false := by simpa using he
    clear he
    go_wp2_with fail
    refine bodyPost_ret (v := .tuple #[.slice none 0 0, .int .i64 (recsErr false l)]) (by simp [results, Try.results56, go_sem]) rfl ⟨⟨none, 0, by rw [HO.out]; rfl, by rw [HO.out]; exact ⟨Nat.le_refl _, by decide, fun hh => absurd hh (Nat.lt_irrefl _)⟩⟩, HW.out⟩
end Go.Proofs.Ytaihiahoedpbiaa
/- Licences: their check, which hold on a date, up to when, which kind is missing. No condition. -/
namespace Go.Proofs.Ytaihiahoedpbiaa
open Go.RowKit Fs

set_option maxHeartbeats 400000 in
theorem xIsDate_any (n : Int) (w : World) : Calls Try.prog 104 #[.int .i64 n] w fun e w' => e = .returned (.bool (within n 0 100000)) ∧ w = w' := by
  go_enter Try.func104, Try.ntmps104
  go_wp2_with (go_at_call 93; refine (within_any _ _ _ _).mono ?_; rintro e w' ⟨rfl, rfl⟩)
  go_ret
  exact ⟨rfl, rfl⟩
set_option maxHeartbeats 400000 in
theorem xDateErr_any (n : Int) (w : World) : Calls Try.prog 109 #[.int .i64 n] w fun e w' => e = .returned (.int .i64 (dateErr n)) ∧ w = w' := by
  cases h1 : within n 0 100000 with
  | false =>
    have F := Lib.hid (show dateErr n = 2 by unfold dateErr; rw [h1]; rfl)
    go_enter Try.func109, Try.ntmps109
    go_wp2_with fail
    refine (xIsDate_any _ _).mono ?_
    rintro e w' ⟨rfl, rfl⟩
    rw [h1]
    go_wp2_with fail
    go_ret
    exact ⟨ret_int F.out.symm, rfl⟩
  | true =>
    have F := Lib.hid (show dateErr n = 0 by unfold dateErr; rw [h1]; rfl)
    go_enter Try.func109, Try.ntmps109
    go_wp2_with fail
    refine (xIsDate_any _ _).mono ?_
    rintro e w' ⟨rfl, rfl⟩
    rw [h1]
    go_wp2_with fail
    go_ret
    exact ⟨ret_int F.out.symm, rfl⟩
def Fs.sortErr (s : ByteArray) : Int := if isName s = true then 0 else 4
set_option maxHeartbeats 400000 in
theorem xKindErr_any (s : ByteArray) (w : World) : Calls Try.prog 108 #[.string s] w fun e w' => e = .returned (.int .i64 (sortErr s)) ∧ w = w' := by
  cases h1 : isName s with
  | false =>
    have F := Lib.hid (show sortErr s = 4 by unfold sortErr; rw [h1]; rfl)
    go_enter Try.func108, Try.ntmps108
    go_wp2_with fail
    refine (isName_any _ _).mono ?_
    rintro e w' ⟨rfl, rfl⟩
    rw [h1]
    go_wp2_with fail
    go_ret
    exact ⟨ret_int F.out.symm, rfl⟩
  | true =>
    have F := Lib.hid (show sortErr s = 0 by unfold sortErr; rw [h1]; rfl)
    go_enter Try.func108, Try.ntmps108
    go_wp2_with fail
    refine (isName_any _ _).mono ?_
    rintro e w' ⟨rfl, rfl⟩
    rw [h1]
    go_wp2_with fail
    go_ret
    exact ⟨ret_int F.out.symm, rfl⟩
set_option linter.unusedSimpArgs false in
set_option maxHeartbeats 12800000 in
set_option maxRecDepth 100000 in
theorem xLicBad_any (l : List WRec) (A : Option Addr) (c g k : Nat) (w : World) (hB : w.cell? ⟨g, 0, none⟩ = some (.slice A l.length c)) (h : ArrW w A l c) (hlt : k < l.length) :
    Calls Try.prog 102 #[.int .i64 k, .pointer (some ⟨g, 0, none⟩)] w fun e w' => e = .returned (.int .i64 (licErr (listW l k))) ∧ Below w.heap.size w w' := by
  have b1 := h.le.1
  have b2 := h.le.2
  obtain ⟨b, o, rfl, q⟩ := h.at_ hlt
  obtain ⟨q0, q1, q2⟩ := q
  have hkn : (k : Int) < (l.length : Int) := by omega
  have n0 := cellNew w #[.string (listW l k).who, .int .i64 (listW l k).beg, .int .i64 (listW l k).fin] 148 0
  have n1 := cellNew w #[.string (listW l k).who, .int .i64 (listW l k).beg, .int .i64 (listW l k).fin] 148 1
  have n2 := cellNew w #[.string (listW l k).who, .int .i64 (listW l k).beg, .int .i64 (listW l k).fin] 148 2
  have HW := Lib.hid ((Below.refl w.heap.size w).alloc (Nat.le_refl _) (.cells #[.string (listW l k).who, .int .i64 (listW l k).beg, .int .i64 (listW l k).fin] 148))
  clear h hlt
  generalize hx : listW l k = x at *
  clear hx
  go_enter Try.func102, Try.ntmps102
  go_upto_region 2 with fail
  generalize w.alloc _ = wb at *
  cases h1 : isName x.who with
  | false =>
    have F := Lib.hid (show licErr x = 4 by unfold licErr; rw [h1]; rfl)
    go_wp2_with fail
    refine (isName_any _ _).mono ?_
    rintro e wx ⟨rfl, rfl⟩
    rw [h1]
    go_wp2_with fail
    go_ret
    exact ⟨ret_int F.out.symm, HW.out⟩
  | true =>
    cases h2 : within x.beg 0 100000 with
    | false =>
      have F := Lib.hid (show licErr x = 2 by unfold licErr; rw [h1, if_neg (by decide), if_pos (Or.inl (show dateErr x.beg ≠ 0 by unfold dateErr; rw [h2]; decide))])
      go_wp2_with fail
      refine (isName_any _ _).mono ?_
      rintro e wx ⟨rfl, rfl⟩
      rw [h1]
      go_wp2_with fail
      refine (xIsDate_any _ _).mono ?_
      rintro e wx ⟨rfl, rfl⟩
      rw [h2]
      go_wp2_with fail
      go_ret
      exact ⟨ret_int F.out.symm, HW.out⟩
    | true =>
      cases h3 : within x.fin 0 100000 with
      | false =>
        have F := Lib.hid (show licErr x = 2 by unfold licErr; rw [h1, if_neg (by decide), if_pos (Or.inr (show dateErr x.fin ≠ 0 by unfold dateErr; rw [h3]; decide))])
        go_wp2_with fail
        refine (isName_any _ _).mono ?_
        rintro e wx ⟨rfl, rfl⟩
        rw [h1]
        go_wp2_with fail
        refine (xIsDate_any _ _).mono ?_
        rintro e wx ⟨rfl, rfl⟩
        rw [h2]
        go_wp2_with fail
        refine (xIsDate_any _ _).mono ?_
        rintro e wx ⟨rfl, rfl⟩
        rw [h3]
        go_wp2_with fail
        go_ret
        exact ⟨ret_int F.out.symm, HW.out⟩
      | true =>
        have F0 := Lib.hid (show licErr x = if x.fin < x.beg then 9 else 0 by unfold licErr; rw [h1, if_neg (by decide), if_neg (fun hh => hh.elim (fun h => h (show dateErr x.beg = 0 by unfold dateErr; rw [h2]; decide)) (fun h => h (show dateErr x.fin = 0 by unfold dateErr; rw [h3]; decide)))])
        go_wp2_with fail
        refine (isName_any _ _).mono ?_
        rintro e wx ⟨rfl, rfl⟩
        rw [h1]
        go_wp2_with fail
        refine (xIsDate_any _ _).mono ?_
        rintro e wx ⟨rfl, rfl⟩
        rw [h2]
        go_wp2_with fail
        refine (xIsDate_any _ _).mono ?_
        rintro e wx ⟨rfl, rfl⟩
        rw [h3]
        by_cases h4 : x.fin < x.beg
        · have F := Lib.hid (F0.out.trans (if_pos h4))
          have d1 := decide_eq_true h4
          go_wp2_with fail
          go_ret
          exact ⟨ret_int F.out.symm, HW.out⟩
        · have F := Lib.hid (F0.out.trans (if_neg h4))
          have d1 := decide_eq_false h4
          go_wp2_with fail
          go_ret
          exact ⟨ret_int F.out.symm, HW.out⟩
set_option maxHeartbeats 400000 in
theorem xLicences_any (l : List WRec) (A : Option Addr) (c : Nat) (w : World) (h : ArrW w A l c) :
    Calls Try.prog 44 #[.slice A l.length c] w fun e w' => e = .returned (.tuple #[.int .i64 (licsAt l : Nat), .int .i64 (licsErr l)]) ∧ Below w.heap.size w w' := by
  have b1 := h.le.1
  have b2 := h.le.2
  have HA := Lib.hid (h.keep (Keep.alloc w (.cells #[.slice A l.length c] 75)))
  clear h
  have HC := Lib.hid (cellNew w #[.slice A l.length c] 75 0)
  have c0 := HC.out
  go_enter Try.func44, Try.ntmps44
  go_wp2_with fail
  refine (xList_any 102 (.pointer (some ⟨w.heap.size, 0, none⟩)) l.length 20 (fun i => licErr (listW l i)) _ (by omega) (by omega) (fun args w => by kernel_rfl) (fun w' hb i hi => xLicBad_any l A c _ i w' (Keep.below hb _ _ HC.out) (HA.out.keep (Keep.below hb)) hi)).mono ?_
  rintro e w1 ⟨rfl, hb1⟩
  go_wp2_with fail
  go_ret2
  exact ⟨rfl, ((Below.refl _ _).alloc (Nat.le_refl _) _).trans (hb1.mono (by simp))⟩
set_option maxHeartbeats 400000 in
theorem xLicsErr_any (l : List WRec) (A : Option Addr) (c : Nat) (w : World) (h : ArrW w A l c) :
    Calls Try.prog 107 #[.slice A l.length c] w fun e w' => e = .returned (.int .i64 (licsErr l)) ∧ Below w.heap.size w w' := by
  go_enter Try.func107, Try.ntmps107
  go_wp2_with fail
  refine (xLicences_any l A c _ h).mono ?_
  rintro e w1 ⟨rfl, hb1⟩
  go_wp2_with fail
  go_ret
  exact ⟨rfl, hb1⟩

/-! ### which hold -/
open Classical in
noncomputable def Fs.heldTo (l : List WRec) (s : ByteArray) (d : Int) : Nat → Int
  | 0 => d - 1
  | k + 1 => if holdsAt l s d k then max (heldTo l s d k) (listW l k).fin else heldTo l s d k
theorem Fs.held_ge (l : List WRec) (s : ByteArray) (d : Int) : ∀ n, (∃ k, k < n ∧ holdsAt l s d k ∧ heldTo l s d n = (listW l k).fin ∧ d ≤ heldTo l s d n) ∨ (heldTo l s d n = d - 1 ∧ ∀ k, k < n → ¬ holdsAt l s d k)
  | 0 => Or.inr ⟨rfl, fun k hk => absurd hk (Nat.not_lt_zero _)⟩
  | n + 1 => by
    by_cases h : holdsAt l s d n
    · have e : heldTo l s d (n + 1) = max (heldTo l s d n) (listW l n).fin := if_pos h
      have hw := Fs.within_iff.1 h.2
      rw [e]
      refine Or.inl ?_
      rcases held_ge l s d n with ⟨k, hk, h1, h2, h3⟩ | ⟨h1, h2⟩
      · by_cases hc : (listW l n).fin ≤ heldTo l s d n
        · exact ⟨k, by omega, h1, by omega, by omega⟩
        · exact ⟨n, by omega, h, by omega, by omega⟩
      · exact ⟨n, by omega, h, by omega, by omega⟩
    · have e : heldTo l s d (n + 1) = heldTo l s d n := if_neg h
      rw [e]
      rcases held_ge l s d n with ⟨k, hk, h1, h2, h3⟩ | ⟨h1, h2⟩
      · exact Or.inl ⟨k, by omega, h1, h2, h3⟩
      · refine Or.inr ⟨h1, fun k hk => ?_⟩
        by_cases ek : k = n
        · subst ek; exact h
        · exact h2 k (by omega)
theorem Fs.held_holds (l : List WRec) (s : ByteArray) (d : Int) : decide (d ≤ heldTo l s d l.length) = licHolds l s d := by
  rcases held_ge l s d l.length with ⟨k, hk, h1, h2, h3⟩ | ⟨h1, h2⟩
  · rw [licHolds_yes ⟨k, hk, h1⟩, decide_eq_true h3]
  · rw [licHolds_no h2, decide_eq_false (by omega)]
theorem Fs.held_is {l : List WRec} (hL : licsErr l = 0) {s : ByteArray} {d : Int} (h0 : -1 ≤ d) (h1 : d ≤ 100002) : ∀ n, n ≤ l.length → -2 ≤ heldTo l s d n ∧ heldTo l s d n ≤ 100002 := by
  intro n hn
  rcases held_ge l s d n with ⟨k, hk, h2, h3, h4⟩ | ⟨h2, -⟩
  · have := (licErr_ok ((lics_ok hL).2 k (by omega))).2.2.1
    omega
  · omega
set_option linter.unusedSimpArgs false in
set_option maxHeartbeats 12800000 in
set_option maxRecDepth 100000 in
theorem xHeld_any (l : List WRec) (A : Option Addr) (c : Nat) (s : ByteArray) (d : Int) (w : World) (h : ArrW w A l c) (hL : licsErr l = 0) (h0 : 0 ≤ d) (h1 : d ≤ 100001) :
    Calls Try.prog 111 #[.slice A l.length c, .string s, .int .i64 d] w fun e w' => e = .returned (.int .i64 (heldTo l s d l.length)) ∧ Below w.heap.size w w' := by
  have b1 := h.le.1
  have b2 := h.le.2
  have HA := Lib.hid h
  have HL := Lib.hid hL
  have hl20 := (lics_ok hL).1
  clear h hL
  have hw0 : IntKind.i64.wrap (d - 1) = d - 1 := by rw [IntKind.wrap_i64]; omega
  go_enter Try.func111, Try.ntmps111
  go_wp2_with fail
  go_loopw [7, 14] (fun u i wr => ∃ k : Nat, k ≤ l.length ∧ u = .int .i64 (heldTo l s d k) ∧ i = .int .i64 k ∧ Hid (Below w.heap.size w wr)) (fun _ i _ => l.length - (intOf i).toNat)
  case atStart => exact ⟨0, Nat.zero_le _, rfl, rfl, Lib.hid (Below.refl _ _)⟩
  case round =>
    obtain ⟨k, hk, rfl, rfl, HB⟩ := hrel
    by_cases hlt : k < l.length
    · have hkn : (k : Int) < (l.length : Int) := by omega
      obtain ⟨b, o, rfl, q⟩ := (HA.out.keep (Keep.below HB.out)).at_ hlt
      obtain ⟨q0, q1, q2⟩ := q
      have n0 := cellNew wr #[.string (listW l k).who, .int .i64 (listW l k).beg, .int .i64 (listW l k).fin] 148 0
      have n1 := cellNew wr #[.string (listW l k).who, .int .i64 (listW l k).beg, .int .i64 (listW l k).fin] 148 1
      have n2 := cellNew wr #[.string (listW l k).who, .int .i64 (listW l k).beg, .int .i64 (listW l k).fin] 148 2
      have HB1 := Lib.hid (HB.out.alloc HB.out.size (.cells #[.string (listW l k).who, .int .i64 (listW l k).beg, .int .i64 (listW l k).fin] 148))
      by_cases he : holdsAt l s d k
      · have F := Lib.hid (show heldTo l s d (k + 1) = max (heldTo l s d k) (listW l k).fin from if_pos he)
        obtain ⟨hs, hw⟩ := he
        have e1 := str_eq hs
        have HWI := Lib.hid hw
        clear hs hw
        go_wp2_with fail
        refine (within_any _ _ _ _).mono ?_
        rintro e' wx ⟨rfl, rfl⟩
        rw [HWI.out]
        go_wp2_with fail
        rw [← F.out]
        go_roundw
        case rel => exact ⟨k + 1, by omega, rfl, by go_num, HB1⟩
        case measure => simp [intOf]; omega
      · have F := Lib.hid (show heldTo l s d (k + 1) = heldTo l s d k from if_neg he)
        by_cases hs : (listW l k).who = s
        · have e1 := str_eq hs
          have hw : within d (listW l k).beg (listW l k).fin = false := by
            cases hw : within d (listW l k).beg (listW l k).fin with
            | false => rfl
            | true => exact absurd ⟨hs, hw⟩ he
          have HWI := Lib.hid hw
          clear hs hw he
          go_wp2_with fail
          refine (within_any _ _ _ _).mono ?_
          rintro e' wx ⟨rfl, rfl⟩
          rw [HWI.out]
          go_wp2_with fail
          rw [← F.out]
          go_roundw
          case rel => exact ⟨k + 1, by omega, rfl, by go_num, HB1⟩
          case measure => simp [intOf]; omega
        · have e1 := str_ne hs
          clear hs he
          go_wp2_with fail
          rw [← F.out]
          go_roundw
          case rel => exact ⟨k + 1, by omega, rfl, by go_num, HB1⟩
          case measure => simp [intOf]; omega
    · obtain rfl : k = l.length := by omega
      go_wp2_with fail
      go_ret
      exact ⟨rfl, HB.out⟩
set_option maxHeartbeats 400000 in
theorem xHoldsIn_any (l : List WRec) (A : Option Addr) (c : Nat) (s : ByteArray) (d : Int) (w : World) (h : ArrW w A l c) (hL : licsErr l = 0) (h0 : 0 ≤ d) (h1 : d ≤ 100001) :
    Calls Try.prog 110 #[.slice A l.length c, .string s, .int .i64 d] w fun e w' => e = .returned (.bool (licHolds l s d)) ∧ Below w.heap.size w w' := by
  go_enter Try.func110, Try.ntmps110
  go_wp2_with fail
  refine (xHeld_any l A c s d _ h hL h0 h1).mono ?_
  rintro e' w1 ⟨rfl, hb1⟩
  go_wp2_with fail
  go_ret
  exact ⟨ret_bool (held_holds l s d), hb1⟩
theorem Fs.kindX_is (l : List WRec) (s : ByteArray) (d : Int) : (if licsErr l ≠ 0 then licsErr l else if sortErr s ≠ 0 then sortErr s else dateErr d) = kindErr l s d := by
  unfold kindErr sortErr
  cases h1 : isName s <;> rfl
theorem Fs.kindX_ok {l : List WRec} {s : ByteArray} {d : Int} (h : kindErr l s d = 0) : licsErr l = 0 ∧ 0 ≤ d ∧ d ≤ 100000 := by
  unfold kindErr at h
  by_cases h1 : licsErr l = 0
  · rw [if_neg (fun hh => hh h1)] at h
    cases h2 : isName s with
    | false => rw [h2, if_pos rfl] at h; exact absurd h (by decide)
    | true =>
      rw [h2, if_neg (by decide)] at h
      refine ⟨h1, ?_⟩
      unfold dateErr at h
      by_cases hw : within d 0 100000 = true
      · exact Fs.within_iff.1 hw
      · rw [if_neg hw] at h; exact absurd h (by decide)
  · rw [if_pos h1] at h; exact absurd h h1
set_option linter.unusedSimpArgs false in
set_option maxHeartbeats 12800000 in
set_option maxRecDepth 100000 in
theorem xHolds_any (l : List WRec) (A : Option Addr) (c : Nat) (s : ByteArray) (d : Int) (w : World) (h : ArrW w A l c) :
    Calls Try.prog 47 #[.slice A l.length c, .string s, .int .i64 d] w fun e w' => e = .returned (.tuple #[.bool (holdsOut l s d), .int .i64 (kindErr l s d)]) ∧ Below w.heap.size w w' := by
  have HA := Lib.hid h
  clear h
  go_enter Try.func47, Try.ntmps47
  go_wp2_with fail
  refine (xLicsErr_any l A c _ HA.out).mono ?_
  rintro e w1 ⟨rfl, hb1⟩
  have HW := Lib.hid hb1
  clear hb1
  go_wp2_with fail
  refine (xKindErr_any _ _).mono ?_
  rintro e wx ⟨rfl, rfl⟩
  go_wp2_with fail
  refine (xDateErr_any _ _).mono ?_
  rintro e wx ⟨rfl, rfl⟩
  have HL := Lib.hid (arr3NewD w1 (licsErr l) (sortErr s) (dateErr d) 28)
  have HX := Lib.hid (HW.out.alloc HW.out.size (.cells #[.int .i64 (licsErr l), .int .i64 (sortErr s), .int .i64 (dateErr d)] 28))
  go_wp2_with fail
  refine (firstError_any [licsErr l, sortErr s, dateErr d] _ _ _ HL.out).mono ?_
  rintro e wx ⟨rfl, rfl⟩
  rw [show [licsErr l, sortErr s, dateErr d].length = 3 from rfl, fst_three, kindX_is]
  clear HL
  generalize hwy : w1.alloc _ = wy at *
  clear hwy
  by_cases he : kindErr l s d = 0
  · have HE := Lib.hid he
    have HO := Lib.hid (show holdsOut l s d = licHolds l s d from if_pos he)
    obtain ⟨hL, h0, h1⟩ := kindX_ok he
    have HLL := Lib.hid hL
    rw [he]
    clear he hL
    go_wp2_with fail
    refine (xHoldsIn_any l A c s d _ (HA.out.keep (Keep.below HX.out)) HLL.out h0 (by omega)).mono ?_
    rintro e w2 ⟨rfl, hb2⟩
    go_wp2_with fail
    go_ret2
    exact ⟨by rw [HO.out, HE.out]; rfl, HX.out.trans (hb2.mono HX.out.size)⟩
  · have HO := Lib.hid (show holdsOut l s d = false from if_neg he)
    have e1 : (kindErr l s d != 0) = true := by simpa using he
    have e2 : (kindErr l s d == 0) = false := by simpa using he
    clear he
    go_wp2_with fail
    go_ret2
    exact ⟨by rw [HO.out]; rfl, HX.out⟩
set_option linter.unusedSimpArgs false in
set_option maxHeartbeats 12800000 in
set_option maxRecDepth 100000 in
theorem xLapses_any (l : List WRec) (A : Option Addr) (c : Nat) (s : ByteArray) (d : Int) (w : World) (h : ArrW w A l c) :
    Calls Try.prog 48 #[.slice A l.length c, .string s, .int .i64 d] w fun e w' => (∃ n z, e = .returned (.tuple #[.int .i64 n, .int .i64 z]) ∧ LapsesIs l s d n z) ∧ Below w.heap.size w w' := by
  have HA := Lib.hid h
  clear h
  go_enter Try.func48, Try.ntmps48
  go_wp2_with fail
  refine (xLicsErr_any l A c _ HA.out).mono ?_
  rintro e w1 ⟨rfl, hb1⟩
  have HW := Lib.hid hb1
  clear hb1
  go_wp2_with fail
  refine (xKindErr_any _ _).mono ?_
  rintro e wx ⟨rfl, rfl⟩
  go_wp2_with fail
  refine (xDateErr_any _ _).mono ?_
  rintro e wx ⟨rfl, rfl⟩
  have HL := Lib.hid (arr3NewD w1 (licsErr l) (sortErr s) (dateErr d) 28)
  have HX := Lib.hid (HW.out.alloc HW.out.size (.cells #[.int .i64 (licsErr l), .int .i64 (sortErr s), .int .i64 (dateErr d)] 28))
  go_wp2_with fail
  refine (firstError_any [licsErr l, sortErr s, dateErr d] _ _ _ HL.out).mono ?_
  rintro e wx ⟨rfl, rfl⟩
  rw [show [licsErr l, sortErr s, dateErr d].length = 3 from rfl, fst_three, kindX_is]
  clear HL
  generalize hwy : w1.alloc _ = wy at *
  clear hwy
  by_cases he : kindErr l s d = 0
  · have HE := Lib.hid he
    obtain ⟨hL, h0, h1⟩ := kindX_ok he
    have HLL := Lib.hid hL
    rw [he]
    clear he hL
    go_wp2_with fail
    refine (xHoldsIn_any l A c s d _ (HA.out.keep (Keep.below HX.out)) HLL.out h0 (by omega)).mono ?_
    rintro e w2 ⟨rfl, hb2⟩
    replace HX := Lib.hid (HX.out.trans (hb2.mono HX.out.size))
    clear hb2
    cases hh : licHolds l s d with
    | false =>
      have HN := Lib.hid (licHolds_not hh)
      clear hh
      go_wp2_with fail
      refine bodyPost_ret (v := .tuple #[.int .i64 0, .int .i64 12]) (by simp [results, Try.results48, go_sem]) rfl ⟨⟨_, _, rfl, ⟨fun h => absurd HE.out h, fun _ => ⟨-1, ⟨fun z h2 h3 => absurd h2 (by omega), fun h2 => absurd h2 (by omega), fun _ => ⟨rfl, HN.out⟩, by decide⟩, Or.inl ⟨by omega, rfl, rfl⟩⟩⟩⟩, HX.out⟩
    | true =>
      have HY := Lib.hid (licHolds_is hh)
      clear hh
      go_wp2_with fail
      go_loopw [9] (fun u wr => ∃ z : Int, u = .int .i64 z ∧ d ≤ z ∧ z ≤ 100000 ∧ Hid (∀ y, d ≤ y → y ≤ z → HoldsL l s y) ∧ Hid (Below w.heap.size w wr)) (fun u _ => (100001 - intOf u).toNat)
      case atStart => exact ⟨d, rfl, Int.le_refl _, h1, Lib.hid fun y h2 h3 => by rw [show y = d by omega]; exact HY.out, HX⟩
      case round =>
        obtain ⟨z, rfl, hz0, hz1, Hn, HB⟩ := hrel
        have hw1 : IntKind.i64.wrap (z + 1) = z + 1 := by rw [IntKind.wrap_i64]; omega
        go_wp2_with fail
        refine (xHoldsIn_any l A c s (z + 1) _ (HA.out.keep (Keep.below HB.out)) HLL.out (by omega) (by omega)).mono ?_
        rintro e w3 ⟨rfl, hb2⟩
        have HB1 := Lib.hid (HB.out.trans (hb2.mono HB.out.size))
        clear hb2
        cases hh : licHolds l s (z + 1) with
        | false =>
          have HN := Lib.hid (licHolds_not hh)
          clear hh
          go_wp2_with fail
          refine bodyPost_ret (v := .tuple #[.int .i64 z, .int .i64 0]) (by simp [results, Try.results48, go_sem]) rfl ⟨⟨_, _, rfl, ⟨fun h => absurd HE.out h, fun _ => ⟨z, ⟨Hn.out, fun _ => HN.out, fun h2 => absurd h2 (by omega), hz1⟩, Or.inr ⟨hz0, rfl, rfl⟩⟩⟩⟩, HB1.out⟩
        | true =>
          obtain ⟨m, hm⟩ : ∃ m, m = heldTo l s (z + 1) l.length := ⟨_, rfl⟩
          have HM : Hid (z + 1 ≤ m ∧ m ≤ 100000 ∧ ∀ y, d ≤ y → y ≤ m → HoldsL l s y) := by
            refine Lib.hid ?_
            rw [hm]
            rcases held_ge l s (z + 1) l.length with ⟨k, hk, h2, h3, h4⟩ | ⟨-, h3⟩
            · have h5 := (licErr_ok ((lics_ok HLL.out).2 k hk)).2.2.1
              have h6 := Fs.within_iff.1 h2.2
              refine ⟨h4, by omega, fun y y1 y2 => ?_⟩
              by_cases hy : y ≤ z
              · exact Hn.out y y1 hy
              · exact ⟨k, hk, h2.1, Fs.within_iff.2 ⟨by omega, by omega⟩⟩
            · obtain ⟨k, hk, h4⟩ := licHolds_is hh
              exact absurd h4 (h3 k hk)
          have HMM := Lib.hid hm
          clear hh hm
          go_wp2_with fail
          refine (xHeld_any l A c s (z + 1) _ (HA.out.keep (Keep.below HB1.out)) HLL.out (by omega) (by omega)).mono ?_
          rintro e w4 ⟨rfl, hb2⟩
          rw [← HMM.out]
          go_wp2_with fail
          go_roundw
          case rel => exact ⟨m, rfl, by have := HM.out.1; omega, HM.out.2.1, Lib.hid HM.out.2.2, Lib.hid (HB1.out.trans (hb2.mono HB1.out.size))⟩
          case measure => have := HM.out.1; simp [intOf]; omega
  · have HE := Lib.hid he
    have e1 : (kindErr l s d != 0) = true := by simpa using he
    have e2 : (kindErr l s d == 0) = false := by simpa using he
    clear he
    go_wp2_with fail
    refine bodyPost_ret (v := .tuple #[.int .i64 0, .int .i64 (kindErr l s d)]) (by simp [results, Try.results48, go_sem]) rfl ⟨⟨_, _, rfl, ⟨fun _ => ⟨rfl, rfl⟩, fun h => absurd h HE.out⟩⟩, HX.out⟩
end Go.Proofs.Ytaihiahoedpbiaa
/- The next inspection. No condition. -/
namespace Go.Proofs.Ytaihiahoedpbiaa
open Go.RowKit Fs

def Fs.everyErr (n : Int) : Int := if within n 1 1000 = true then 0 else 2
set_option maxHeartbeats 400000 in
theorem xEveryErr_any (n : Int) (w : World) : Calls Try.prog 117 #[.int .i64 n] w fun e w' => e = .returned (.int .i64 (everyErr n)) ∧ w = w' := by
  cases h1 : within n 1 1000 with
  | false =>
    have F := Lib.hid (show everyErr n = 2 by unfold everyErr; rw [h1]; rfl)
    go_enter Try.func117, Try.ntmps117
    go_wp2_with fail
    refine (within_any _ _ _ _).mono ?_
    rintro e w' ⟨rfl, rfl⟩
    rw [h1]
    go_wp2_with fail
    go_ret
    exact ⟨ret_int F.out.symm, rfl⟩
  | true =>
    have F := Lib.hid (show everyErr n = 0 by unfold everyErr; rw [h1]; rfl)
    go_enter Try.func117, Try.ntmps117
    go_wp2_with fail
    refine (within_any _ _ _ _).mono ?_
    rintro e w' ⟨rfl, rfl⟩
    rw [h1]
    go_wp2_with fail
    go_ret
    exact ⟨ret_int F.out.symm, rfl⟩
set_option linter.unusedSimpArgs false in
set_option maxHeartbeats 12800000 in
set_option maxRecDepth 100000 in
theorem xDoneBad_any (L : List Int) (A : Option Addr) (c g k : Nat) (w : World) (hB : w.cell? ⟨g, 0, none⟩ = some (.slice A L.length c)) (h : ArrI w A L c) (hlt : k < L.length) :
    Calls Try.prog 148 #[.int .i64 k, .pointer (some ⟨g, 0, none⟩)] w fun e w' => e = .returned (.int .i64 (dateBad L k)) ∧ Below w.heap.size w w' := by
  have b1 := h.le.1
  have b2 := h.le.2
  have HA := Lib.hid h
  clear h
  have hkn : (k : Int) < (L.length : Int) := by omega
  obtain ⟨b, o, rfl, q0⟩ := HA.out.at_ hlt
  go_enter Try.func148, Try.ntmps148
  go_wp2_with fail
  refine (xDateErr_any _ _).mono ?_
  rintro e' wx ⟨rfl, rfl⟩
  by_cases he : dateErr (listI L k) = 0
  · have HE := Lib.hid he
    rw [he]
    clear he
    by_cases hk0 : 0 < k
    · have d6 : decide (k = 0) = false := decide_eq_false (by omega)
      have d7 : ((k : Int) == 0) = false := by simp; omega
      obtain ⟨j, hj⟩ : ∃ j, k = j + 1 := ⟨k - 1, by omega⟩
      have hkj : k - 1 = j := by omega
      have hk1 : (j : Int) < (L.length : Int) := by omega
      have hkp : (k : Int) - 1 = (j : Int) := by omega
      have hwj : IntKind.i64.wrap (j : Int) = (j : Int) := by rw [IntKind.wrap_i64]; omega
      obtain ⟨b', o', e', r0⟩ := HA.out.at_ (k := j) (by omega)
      obtain ⟨rfl, rfl⟩ : b = b' ∧ o = o' := by simpa using e'
      clear e' hj
      have F0 := Lib.hid (show dateBad L k = if listI L k ≤ listI L j then 9 else 0 by
        unfold dateBad; rw [if_neg (fun hh => hh HE.out), hkj]
        by_cases hx : listI L k ≤ listI L j
        · rw [if_pos hx, if_pos ⟨hk0, hx⟩]
        · rw [if_neg hx, if_neg (fun hh => hx hh.2)])
      clear hk0
      by_cases hx : listI L k ≤ listI L j
      · have F := Lib.hid (F0.out.trans (if_pos hx))
        have d1 := decide_eq_true hx
        go_wp2_with fail
        go_quiet (fail)
        go_wp2_with fail
        go_ret
        exact ⟨ret_int F.out.symm, bdrewN (Below.refl _ _) _⟩
      · have F := Lib.hid (F0.out.trans (if_neg hx))
        have d1 := decide_eq_false hx
        go_wp2_with fail
        go_quiet (fail)
        go_wp2_with fail
        go_ret
        exact ⟨ret_int F.out.symm, bdrewN (Below.refl _ _) _⟩
    · obtain rfl : k = 0 := by omega
      have F : Hid (dateBad L 0 = 0) := Lib.hid (by unfold dateBad; rw [if_neg (fun hh => hh HE.out), if_neg (fun hh => hk0 hh.1)])
      clear hk0
      go_wp2_with fail
      go_ret
      exact ⟨ret_int F.out.symm, Below.refl _ _⟩
  · have F := Lib.hid (show dateBad L k = dateErr (listI L k) from if_pos he)
    have e2 : (dateErr (listI L k) != 0) = true := by simpa using he
    have e3 : (dateErr (listI L k) == 0) = false := by simpa using he
    clear he
    go_wp2_with fail
    go_ret
    exact ⟨ret_int F.out.symm, Below.refl _ _⟩
set_option maxHeartbeats 400000 in
theorem xDoneErr_any (L : List Int) (A : Option Addr) (c : Nat) (w : World) (h : ArrI w A L c) :
    Calls Try.prog 116 #[.slice A L.length c] w fun e w' => e = .returned (.int .i64 (manyErr L.length 20 (dateBad L))) ∧ Below w.heap.size w w' := by
  have b1 := h.le.1
  have b2 := h.le.2
  have HA := Lib.hid (h.keep (Keep.alloc w (.cells #[.slice A L.length c] 92)))
  clear h
  have HC := Lib.hid (cellNew w #[.slice A L.length c] 92 0)
  have c0 := HC.out
  go_enter Try.func116, Try.ntmps116
  go_wp2_with fail
  refine (xList_any 148 (.pointer (some ⟨w.heap.size, 0, none⟩)) L.length 20 (dateBad L) _ (by omega) (by omega) (fun args w => by kernel_rfl) (fun w' hb i hi => xDoneBad_any L A c _ i w' (Keep.below hb _ _ HC.out) (HA.out.keep (Keep.below hb)) hi)).mono ?_
  rintro e w1 ⟨rfl, hb1⟩
  go_wp2_with fail
  go_ret
  exact ⟨rfl, ((Below.refl _ _).alloc (Nat.le_refl _) _).trans (hb1.mono (by simp))⟩

end Go.Proofs.Ytaihiahoedpbiaa
/- Searching in ascending numbers. No condition. -/
namespace Go.Proofs.Ytaihiahoedpbiaa
open Go.RowKit Fs

/-! ### searching -/
set_option maxHeartbeats 400000 in
theorem xNaN1_any (x : Int) (w : World) : Calls Try.prog 143 #[.int .i64 x] w fun e w' => e = .returned (.bool false) ∧ w = w' := by
  have hx : (x != x) = false := by simp
  go_enter Try.func143, Try.ntmps143
  go_wp2_with fail
  go_ret
  exact ⟨ret_bool (by simp), rfl⟩
set_option maxHeartbeats 400000 in
theorem xNaN2_any (x : Int) (w : World) : Calls Try.prog 150 #[.int .i64 x] w fun e w' => e = .returned (.bool false) ∧ w = w' := by
  have hx : (x != x) = false := by simp
  go_enter Try.func150, Try.ntmps150
  go_wp2_with fail
  go_ret
  exact ⟨ret_bool (by simp), rfl⟩
set_option maxHeartbeats 400000 in
theorem xLess_any (x y : Int) (w : World) : Calls Try.prog 149 #[.int .i64 x, .int .i64 y] w fun e w' => e = .returned (.bool (decide (x < y))) ∧ w = w' := by
  go_enter Try.func149, Try.ntmps149
  go_wp2_with fail
  refine (xNaN1_any _ _).mono ?_
  rintro e' wx ⟨rfl, rfl⟩
  go_wp2_with fail
  go_ret
  exact ⟨ret_bool (by simp), rfl⟩
structure Fs.FoundAt (L : List Int) (t : Int) (i : Nat) (b : Bool) : Prop where
  le : i ≤ L.length
  lo : ∀ k, k < i → listI L k < t
  hi : ∀ k, i ≤ k → k < L.length → t ≤ listI L k
  is : b = true ↔ i < L.length ∧ listI L i = t
def FoundE (L : List Int) (t : Int) (e : Ending) : Prop := ∃ (i : Nat) (b : Bool), e = .returned (.tuple #[.int .i64 i, .bool b]) ∧ FoundAt L t i b
set_option linter.unusedSimpArgs false in
set_option maxHeartbeats 12800000 in
set_option maxRecDepth 100000 in
theorem xSearch_any (L : List Int) (t : Int) (A : Option Addr) (c : Nat) (w : World) (h : ArrI w A L c) (hn : L.length ≤ 1000000) (ho : ∀ a b, a ≤ b → b < L.length → listI L a ≤ listI L b) :
    Calls Try.prog 118 #[.slice A L.length c, .int .i64 t] w fun e w' => FoundE L t e ∧ w = w' := by
  have b1 := h.le.1
  have b2 := h.le.2
  have HA := Lib.hid h
  have HO := Lib.hid ho
  clear h ho
  obtain ⟨n, hn'⟩ : ∃ n, n = L.length := ⟨_, rfl⟩
  have HN := Lib.hid hn'
  rw [← hn'] at b1 hn ⊢
  clear hn'
  go_enter Try.func118, Try.ntmps118
  go_wp2_with fail
  go_loop [7, 8] (fun s5 s6 => ∃ lo hi : Nat, s5 = .int .i64 lo ∧ s6 = .int .i64 hi ∧ lo ≤ hi ∧ hi ≤ n ∧ Hid ((∀ k, k < lo → listI L k < t) ∧ (∀ k, hi ≤ k → k < n → t ≤ listI L k))) (fun s5 s6 => (intOf s6).toNat - (intOf s5).toNat)
  case atStart => exact ⟨0, n, rfl, rfl, Nat.zero_le _, Nat.le_refl _, Lib.hid ⟨fun t ht => absurd ht (Nat.not_lt_zero _), fun t h1 h2 => by omega⟩⟩
  case round =>
    obtain ⟨lo, hi, rfl, rfl, hlh, hin, I⟩ := hrel
    by_cases hlt : lo < hi
    · obtain ⟨mid, hmid⟩ : ∃ mid : Nat, mid = (lo + hi) / 2 := ⟨_, rfl⟩
      have hm1 : lo ≤ mid := by omega
      have hm2 : mid < hi := by omega
      have hme : ((lo : Int) + (hi : Int)) / 2 = (mid : Int) := by omega
      have hmn : (mid : Int) < (n : Int) := by omega
      obtain ⟨b, o, rfl, q0⟩ := HA.out.at_ (k := mid) (by rw [← HN.out]; omega)
      clear hmid
      by_cases hp : listI L mid < t
      · have HP := Lib.hid hp
        go_wp2_with fail
        refine (xLess_any _ _ _).mono ?_
        rintro e' wx ⟨rfl, rfl⟩
        rw [decide_eq_true HP.out]
        clear hp
        go_wp2_with fail
        go_round
        case rel => exact ⟨mid + 1, hi, by go_num, rfl, by omega, hin, Lib.hid ⟨fun k hk => Int.lt_of_le_of_lt (HO.out k mid (by omega) (by rw [← HN.out]; omega)) HP.out, I.out.2⟩⟩
        case measure => simp [intOf]; omega
      · have HP := Lib.hid hp
        go_wp2_with fail
        refine (xLess_any _ _ _).mono ?_
        rintro e' wx ⟨rfl, rfl⟩
        rw [decide_eq_false (by have := HP.out; omega)]
        clear hp
        go_wp2_with fail
        go_round
        case rel => exact ⟨lo, mid, rfl, rfl, hm1, by omega, Lib.hid ⟨I.out.1, fun k hk hkn => Int.le_trans (show t ≤ listI L mid by have := HP.out; omega) (HO.out mid k hk (by rw [← HN.out]; omega))⟩⟩
        case measure => simp [intOf]; omega
    · obtain rfl : hi = lo := by omega
      clear hlt
      by_cases hl : hi < n
      · have hl' : (hi : Int) < (n : Int) := by omega
        obtain ⟨b, o, rfl, q0⟩ := HA.out.at_ (k := hi) (by rw [← HN.out]; omega)
        by_cases he : listI L hi = t
        · have HF := Lib.hid (show FoundAt L t hi true from ⟨by rw [← HN.out]; exact hin, I.out.1, fun k h1 h2 => I.out.2 k h1 (by rw [HN.out]; exact h2), ⟨fun _ => ⟨by rw [← HN.out]; exact hl, he⟩, fun _ => rfl⟩⟩)
          have e1 : (listI L hi == t) = true := by simpa using he
          clear he
          go_wp2_with fail
          refine bodyPost_ret (v := .tuple #[.int .i64 hi, .bool true]) (by simp [results, Try.results118, go_sem]) rfl ⟨⟨_, _, rfl, HF.out⟩, rfl⟩
        · have HF := Lib.hid (show FoundAt L t hi false from ⟨by rw [← HN.out]; exact hin, I.out.1, fun k h1 h2 => I.out.2 k h1 (by rw [HN.out]; exact h2), ⟨fun h => absurd h (by decide), fun h => absurd h.2 he⟩⟩)
          have e1 : (listI L hi == t) = false := by simpa using he
          clear he
          go_wp2_with fail
          refine (xNaN2_any _ _).mono ?_
          rintro e' wx ⟨rfl, rfl⟩
          go_wp2_with fail
          refine bodyPost_ret (v := .tuple #[.int .i64 hi, .bool false]) (by simp [results, Try.results118, go_sem]) rfl ⟨⟨_, _, rfl, HF.out⟩, rfl⟩
      · have HF := Lib.hid (show FoundAt L t hi false from ⟨by rw [← HN.out]; exact hin, I.out.1, fun k h1 h2 => I.out.2 k h1 (by rw [HN.out]; exact h2), ⟨fun h => absurd h (by decide), fun h => absurd h.1 (by rw [← HN.out]; exact hl)⟩⟩)
        have hl' : ¬ (hi : Int) < (n : Int) := by omega
        go_wp2_with fail
        refine bodyPost_ret (v := .tuple #[.int .i64 hi, .bool false]) (by simp [results, Try.results118, go_sem]) rfl ⟨⟨_, _, rfl, HF.out⟩, rfl⟩

end Go.Proofs.Ytaihiahoedpbiaa

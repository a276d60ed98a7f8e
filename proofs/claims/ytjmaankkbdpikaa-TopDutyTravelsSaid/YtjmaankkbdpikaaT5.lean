/- The error of a net, and its mark. No condition. -/
import Derived.Test.YtjmaankkbdpikaaT2
namespace Go.Proofs.Ytjmaankkbdpikaa
open Go.RowKit Fs

theorem Fs.net_none {N : Net} (h : N.places.length = 0) : checkNet N = ((0, 0), 10) := by unfold checkNet; rw [if_pos h]
theorem Fs.net_many {N : Net} (h : 20 < N.places.length) : checkNet N = ((0, 0), 8) := by unfold checkNet; rw [if_neg (by omega), if_pos h]
theorem Fs.net_place {N : Net} {k : Nat} (h0 : N.places.length ≠ 0) (h1 : ¬ 20 < N.places.length) (hk : k < N.places.length) (h : ∀ j, j < k → errName (listS N.places) j = 0) (he : errName (listS N.places) k ≠ 0) :
    checkNet N = ((k, 0), errName (listS N.places) k) := by
  obtain ⟨a, b⟩ := fst_hit hk h he
  unfold checkNet
  rw [if_neg h0, if_neg h1, if_pos (by rw [a]; exact he), a, b]
theorem Fs.net_roads {N : Net} (h0 : N.places.length ≠ 0) (h1 : ¬ 20 < N.places.length) (h : ∀ j, j < N.places.length → errName (listS N.places) j = 0) (h2 : 60 < N.roads.length) : checkNet N = ((0, 0), 8) := by
  unfold checkNet
  rw [if_neg h0, if_neg h1, if_neg (fun hh => hh (fst_none h)), if_pos h2]
theorem Fs.net_road {N : Net} {k : Nat} (h0 : N.places.length ≠ 0) (h1 : ¬ 20 < N.places.length) (h : ∀ j, j < N.places.length → errName (listS N.places) j = 0) (h2 : ¬ 60 < N.roads.length) (hk : k < N.roads.length)
    (hr : ∀ j, j < k → (errRoad N j).2 = 0) (he : (errRoad N k).2 ≠ 0) : checkNet N = ((k, (errRoad N k).1), (errRoad N k).2) := by
  obtain ⟨a, b⟩ := fst_hit (f := fun i => (errRoad N i).2) hk hr he
  unfold checkNet
  rw [if_neg h0, if_neg h1, if_neg (fun hh => hh (fst_none h)), if_neg h2, if_pos (by rw [a]; exact he), a, b]
theorem Fs.net_ok {N : Net} (h0 : N.places.length ≠ 0) (h1 : ¬ 20 < N.places.length) (h : ∀ j, j < N.places.length → errName (listS N.places) j = 0) (h2 : ¬ 60 < N.roads.length) (hr : ∀ j, j < N.roads.length → (errRoad N j).2 = 0) : checkNet N = ((0, 0), 0) := by
  unfold checkNet
  rw [if_neg h0, if_neg h1, if_neg (fun hh => hh (fst_none h)), if_neg h2, if_neg (fun hh => hh (fst_none hr))]
abbrev netBack (x : (Nat × Nat) × Int) : Value := .tuple #[.agg #[.int .i64 x.1.1, .int .i64 x.1.2], .int .i64 x.2]

set_option maxHeartbeats 1600000 in
set_option maxRecDepth 100000 in
theorem checkNet_any (N : Net) (v : Value) (w : World) (hN : RdNet w v N) :
    Calls Try.prog 41 #[v] w fun e w' => e = .returned (netBack (checkNet N)) ∧ Below w.heap.size w w' := by
  have hN0 := Lib.hid hN
  obtain ⟨P, R, pc, rc, a, rfl, m⟩ := hN
  have hpl := Lib.hid m.places
  have a1 := m.places.le.1
  have a2 := m.places.le.2
  have b1 := m.roads.le.1
  have b2 := m.roads.le.2
  clear m
  have BN := Lib.hid ((BoxN.new w N P R pc rc 25).keep (Keep.alloc _ (.cells #[.int .i64 0, .int .i64 0] 60)))
  have MK := Lib.hid (show MarkAt ((w.alloc (.cells #[.slice P N.places.length pc, .slice R N.roads.length rc] 25)).alloc (.cells #[.int .i64 0, .int .i64 0] 60)) (w.heap.size + 1) from ⟨cellNew1 _ _ _ _ 0, cellNew1 _ _ _ _ 1, frozenNew1 _ _ _ _ 0, frozenNew1 _ _ _ _ 1⟩)
  by_cases h0 : N.places.length = 0
  · have F := Lib.hid (net_none h0)
    go_enter Try.func41, Try.ntmps41
    go_wp2_with fail
    refine bodyPost_ret (v := .tuple #[.agg #[.int .i64 0, .int .i64 0], .int .i64 10]) (by simp [results, Try.results41, go_sem]) rfl ⟨by rw [F.out]; rfl, ?_⟩
    exact ((Below.refl _ _).alloc (Nat.le_refl _) _).alloc (by simp) _
  · by_cases h1 : 20 < N.places.length
    · have F := Lib.hid (net_many h1)
      go_enter Try.func41, Try.ntmps41
      obtain ⟨n0, n1⟩ := BN.out
      obtain ⟨m0, m1, mf0, mf1⟩ := MK.out
      go_upto_region 1 with fail
      generalize hwb : (w.alloc _).alloc _ = wb at *
      have HW : Hid (Below w.heap.size w wb) := by rw [← hwb]; exact Lib.hid (((Below.refl _ _).alloc (Nat.le_refl _) _).alloc (by simp) _)
      clear hwb
      go_wp2_with fail
      refine bodyPost_ret (v := .tuple #[.agg #[.int .i64 0, .int .i64 0], .int .i64 8]) (by simp [results, Try.results41, go_sem, m0, m1]) rfl ⟨by rw [F.out]; rfl, ?_⟩
      exact ((HW.out.setCell (p := ⟨w.heap.size + 1, 0, none⟩) (by simp) _).setCell (p := ⟨w.heap.size + 1, 1, none⟩) (by simp) _)
    · have z9 : ((N.places.length : Int) == 0) = false := by simpa using h0
      have z15 : decide ((20 : Int) < (N.places.length : Int)) = false := by simp; omega
      go_enter Try.func41, Try.ntmps41
      obtain ⟨n0, n1⟩ := BN.out
      obtain ⟨m0, m1, mf0, mf1⟩ := MK.out
      go_upto_region 1 with fail
      generalize hwb : (w.alloc _).alloc _ = wb at *
      have HW : Hid (Below w.heap.size w wb) := by rw [← hwb]; exact Lib.hid (((Below.refl _ _).alloc (Nat.le_refl _) _).alloc (by simp) _)
      clear hwb
      go_wp2_with fail
      go_loop [24] (fun u => ∃ k : Nat, k ≤ N.places.length ∧ u = .int .i64 k ∧ Hid (∀ j, j < k → errName (listS N.places) j = 0)) (fun u => N.places.length - (intOf u).toNat)
      case atStart => exact ⟨0, Nat.zero_le _, rfl, fun j hj => absurd hj (Nat.not_lt_zero _)⟩
      case round =>
        obtain ⟨k, hk, rfl, Hn⟩ := hrel
        by_cases hlt : k < N.places.length
        · have hcall := callPlaceName
          by_cases hn : errName (listS N.places) k = 0
          · have G : Hid (∀ j, j < k + 1 → errName (listS N.places) j = 0) := fun j hj => by
              by_cases e : j = k
              · subst e; exact hn
              · exact Hn.out j (by omega)
            have Z := Lib.hid hn
            clear hn
            go_wp2_with fail
            refine (errName_any 60 (Lib.hid callPlaceName) (listS N.places) _ k _ (by omega) (fun j hj => placeName_any N.places _ pc _ j _ (hpl.out.keep (Keep.below HW.out)) n0 (by omega))).mono ?_
            rintro e w' ⟨rfl, rfl⟩
            rw [Z.out]
            go_wp2_with fail
            go_round
            case rel => exact ⟨k + 1, by omega, by go_num, G⟩
            case measure => simp [intOf]; omega
          · have F := Lib.hid (net_place h0 h1 hlt Hn.out hn)
            have d1 : (errName (listS N.places) k == 0) = false := by simpa using hn
            clear hn
            go_wp2_with fail
            refine (errName_any 60 (Lib.hid callPlaceName) (listS N.places) _ k _ (by omega) (fun j hj => placeName_any N.places _ pc _ j _ (hpl.out.keep (Keep.below HW.out)) n0 (by omega))).mono ?_
            rintro e w' ⟨rfl, rfl⟩
            go_wp2_with fail
            refine bodyPost_ret (v := .tuple #[.agg #[.int .i64 k, .int .i64 0], .int .i64 (errName (listS N.places) k)]) (by simp [results, Try.results41, go_sem, m0, m1]) rfl ⟨by rw [F.out]; rfl, ?_⟩
            exact ((HW.out.setCell (p := ⟨w.heap.size + 1, 0, none⟩) (by simp) _).setCell (p := ⟨w.heap.size + 1, 1, none⟩) (by simp) _)
        · have HP : Hid (∀ j, j < N.places.length → errName (listS N.places) j = 0) := fun j hj => Hn.out j (by omega)
          clear Hn
          by_cases h2 : 60 < N.roads.length
          · have F := Lib.hid (net_roads h0 h1 HP.out h2)
            go_wp2_with fail
            refine bodyPost_ret (v := .tuple #[.agg #[.int .i64 0, .int .i64 0], .int .i64 8]) (by simp [results, Try.results41, go_sem, m0, m1]) rfl ⟨by rw [F.out]; rfl, ?_⟩
            exact ((HW.out.setCell (p := ⟨w.heap.size + 1, 0, none⟩) (by simp) _).setCell (p := ⟨w.heap.size + 1, 1, none⟩) (by simp) _)
          · have z39 : decide ((60 : Int) < (N.roads.length : Int)) = false := by simp; omega
            go_wp2_with fail
            clear n0 n1 m0 m1 mf0 mf1
            go_loopw [44] (fun u wr => ∃ k : Nat, k ≤ N.roads.length ∧ u = .int .i64 k ∧ Hid (∀ j, j < k → (errRoad N j).2 = 0) ∧ Hid (Below wb.heap.size wb wr)) (fun u _ => N.roads.length - (intOf u).toNat)
            case atStart => exact ⟨0, Nat.zero_le _, rfl, fun j hj => absurd hj (Nat.not_lt_zero _), Lib.hid (Below.refl _ _)⟩
            case round =>
              clear hk hlt
              obtain ⟨k, hk, rfl, Hn, HB⟩ := hrel
              have HX := Lib.hid (HW.out.trans (HB.out.mono HW.out.size))
              have MK2 := Lib.hid (MK.out.below HB.out MK.out.lt)
              obtain ⟨n0, n1⟩ := BN.out.keep (Keep.below HB.out)
              by_cases hlt : k < N.roads.length
              · by_cases hn : (errRoad N k).2 = 0
                · have G : Hid (∀ j, j < k + 1 → (errRoad N j).2 = 0) := fun j hj => by
                    by_cases e : j = k
                    · subst e; exact hn
                    · exact Hn.out j (by omega)
                  have Z := Lib.hid hn
                  clear hn
                  go_wp2_with fail
                  refine (checkRoad_any N _ k _ (hN0.out.keep (Keep.below HX.out)) hlt).mono ?_
                  rintro e w1 ⟨rfl, hb1⟩
                  rw [Z.out]
                  have HB1 := Lib.hid (HB.out.trans (hb1.mono HB.out.size))
                  clear hb1 n0 n1
                  go_wp2_with fail
                  go_roundw
                  case rel => exact ⟨k + 1, by omega, by go_num, G, HB1⟩
                  case measure => simp [intOf]; omega
                · have F := Lib.hid (net_road h0 h1 HP.out h2 hlt Hn.out hn)
                  have d1 : ((errRoad N k).2 == 0) = false := by simpa using hn
                  clear hn
                  go_wp2_with fail
                  refine (checkRoad_any N _ k _ (hN0.out.keep (Keep.below HX.out)) hlt).mono ?_
                  rintro e w1 ⟨rfl, hb1⟩
                  have HX1 := Lib.hid (HX.out.trans (hb1.mono HX.out.size))
                  obtain ⟨m0, m1, mf0, mf1⟩ := MK2.out.below hb1 MK2.out.lt
                  clear hb1 n0 n1
                  go_wp2_with fail
                  refine bodyPost_ret (v := .tuple #[.agg #[.int .i64 k, .int .i64 (errRoad N k).1], .int .i64 (errRoad N k).2]) (by simp [results, Try.results41, go_sem, m0, m1]) rfl ⟨by rw [F.out], ?_⟩
                  exact ((HX1.out.setCell (p := ⟨w.heap.size + 1, 0, none⟩) (by simp) _).setCell (p := ⟨w.heap.size + 1, 1, none⟩) (by simp) _)
              · have F := Lib.hid (net_ok h0 h1 HP.out h2 fun j hj => Hn.out j (by omega))
                obtain ⟨m0, m1, mf0, mf1⟩ := MK2.out
                go_wp2_with fail
                refine bodyPost_ret (v := .tuple #[.agg #[.int .i64 0, .int .i64 0], .int .i64 0]) (by simp [results, Try.results41, go_sem, m0, m1]) rfl ⟨by rw [F.out]; rfl, ?_⟩
                exact ((HX.out.setCell (p := ⟨w.heap.size + 1, 0, none⟩) (by simp) _).setCell (p := ⟨w.heap.size + 1, 1, none⟩) (by simp) _)
theorem errNet_any (N : Net) (v : Value) (w : World) (hN : RdNet w v N) :
    Calls Try.prog 22 #[v] w fun e w' => e = .returned (.int .i64 (netErr N)) ∧ Below w.heap.size w w' := by
  have hN0 := Lib.hid hN
  obtain ⟨P, R, pc, rc, a, rfl, m⟩ := hN
  clear m
  go_enter Try.func22, Try.ntmps22
  go_wp2_with (go_at_call 41; refine (checkNet_any N _ _ (hN0.out.keep (Keep.alloc w _))).mono ?_; rintro e w1 ⟨rfl, hb1⟩)
  have HX : Below w.heap.size w w1 := ((Below.refl _ _).alloc (Nat.le_refl _) _).trans (hb1.mono (by simp))
  go_ret
  exact ⟨rfl, HX.alloc HX.size _⟩
end Go.Proofs.Ytjmaankkbdpikaa
/- The reference's names, texts in lists, and remainders. No condition. -/
namespace Go.Proofs.Ytjmaankkbdpikaa
open Go.RowKit Fs

theorem Fs.nameByte_no {c : UInt8} (h1 : letter c = false) (h2 : digit c = false) (h3 : c.toNat ≠ 45) : nameByte c = false := by
  unfold nameByte; rw [h1, h2]; simpa using h3
theorem Fs.isName_first {s : ByteArray} (h : 1 ≤ s.size) (h2 : ∀ j, j < s.size → nameByte (byteAt s j) = true) (h3 : letter (byteAt s 0) = true) (h4 : s.size ≤ 12) : isName s = true := isName_yes h h4 h3 h2
theorem letter_iff (c : UInt8) : letter c = true ↔ (97 ≤ c.toNat ∧ c.toNat ≤ 122) ∨ (65 ≤ c.toNat ∧ c.toNat ≤ 90) := by unfold letter; simp
theorem digit_iff (c : UInt8) : digit c = true ↔ 48 ≤ c.toNat ∧ c.toNat ≤ 57 := by unfold digit; simp
theorem nameByte_iff (c : UInt8) : nameByte c = true ↔ ((97 ≤ c.toNat ∧ c.toNat ≤ 122) ∨ (65 ≤ c.toNat ∧ c.toNat ≤ 90)) ∨ (48 ≤ c.toNat ∧ c.toNat ≤ 57) ∨ c.toNat = 45 := by
  unfold nameByte
  rw [Bool.or_eq_true, Bool.or_eq_true, letter_iff, digit_iff]
  simp [or_assoc]
/-- What a round at byte k asks: a letter, or behind the first one a digit or a hyphen. -/
def Fs.fine (k : Nat) (c : UInt8) : Bool := letter c || (decide (k ≠ 0) && nameByte c)
theorem fine_iff (k : Nat) (c : UInt8) : fine k c = true ↔ ((97 ≤ c.toNat ∧ c.toNat ≤ 122) ∨ (65 ≤ c.toNat ∧ c.toNat ≤ 90)) ∨ (k ≠ 0 ∧ ((48 ≤ c.toNat ∧ c.toNat ≤ 57) ∨ c.toNat = 45)) := by
  unfold fine
  rw [Bool.or_eq_true, Bool.and_eq_true, letter_iff, nameByte_iff, decide_eq_true_iff]
  omega
theorem Fs.isName_fine {s : ByteArray} (h1 : 1 ≤ s.size) (h2 : s.size ≤ 12) (h : ∀ j, j < s.size → fine j (byteAt s j) = true) : isName s = true := by
  refine isName_yes h1 h2 ?_ fun j hj => ?_
  · have := (fine_iff _ _).1 (h 0 (by omega))
    rw [letter_iff]
    omega
  · have := (fine_iff _ _).1 (h j hj)
    rw [nameByte_iff]
    omega
theorem Fs.isName_rough {s : ByteArray} {k : Nat} (hk : k < s.size) (h : fine k (byteAt s k) = false) : isName s = false := by
  have h' : ¬ (fine k (byteAt s k) = true) := by rw [h]; decide
  rw [fine_iff] at h'
  by_cases h0 : k = 0
  · subst h0
    refine isName_no3 ?_
    cases hl : letter (byteAt s 0) with
    | false => rfl
    | true => rw [letter_iff] at hl; omega
  · refine isName_no4 hk ?_
    cases hl : nameByte (byteAt s k) with
    | false => rfl
    | true => rw [nameByte_iff] at hl; omega

set_option maxHeartbeats 1600000 in
theorem bIsName_any (s : ByteArray) (w : World) : Calls Try.prog 38 #[.string s] w fun e w' => e = .returned (.bool (isName s)) ∧ w = w' := by
  by_cases h1 : 1 ≤ s.size
  · by_cases h2 : s.size ≤ 12
    · have z1 : decide ((s.size : Int) < 1) = false := by simp; omega
      have z2 : decide ((12 : Int) < (s.size : Int)) = false := by simp; omega
      go_enter Try.func38, Try.ntmps38
      go_wp2
      go_loop [3] (fun i => ∃ k : Nat, k ≤ s.size ∧ i = .int .i64 k ∧ Hid (∀ j, j < k → fine j (byteAt s j) = true)) (fun i => s.size - (intOf i).toNat)
      case atStart => exact ⟨0, Nat.zero_le _, rfl, fun j hj => absurd hj (Nat.not_lt_zero _)⟩
      case round =>
        obtain ⟨k, hk, rfl, Hn⟩ := hrel
        by_cases hlt : k < s.size
        · have gk := byteAt_eq s k hlt
          cases hf : fine k (byteAt s k) with
          | true =>
            have G : Hid (∀ j, j < k + 1 → fine j (byteAt s j) = true) := fun j hj => by
              by_cases e : j = k
              · subst e; exact hf
              · exact Hn.out j (by omega)
            have hi := (fine_iff _ _).1 hf
            rw [← gk] at hi
            have HI := Lib.hid hi
            clear hi hf gk
            go_wp2
            all_goals first
              | (go_round
                 case rel => exact ⟨k + 1, by omega, by go_num, G⟩
                 case measure => simp [intOf]; omega)
              | (exfalso; have := HI.out; simp at *; (try subst_vars); omega)
          | false =>
            have F := Lib.hid (isName_rough hlt hf)
            have hi : ¬ (((97 ≤ s[k].toNat ∧ s[k].toNat ≤ 122) ∨ (65 ≤ s[k].toNat ∧ s[k].toNat ≤ 90)) ∨ (k ≠ 0 ∧ ((48 ≤ s[k].toNat ∧ s[k].toNat ≤ 57) ∨ s[k].toNat = 45))) := by
              rw [gk, ← fine_iff, hf]; decide
            have HI := Lib.hid hi
            clear hi hf gk
            go_wp2
            all_goals first
              | (go_ret; exact ⟨ret_bool F.out.symm, rfl⟩)
              | (exfalso; have := HI.out; simp at *; (try subst_vars); omega)
        · have F := Lib.hid (isName_fine h1 h2 fun j hj => Hn.out j (by omega))
          go_wp2
          go_ret
          exact ⟨ret_bool F.out.symm, rfl⟩
    · have F := Lib.hid (isName_no2 (s := s) (by omega))
      go_enter Try.func38, Try.ntmps38
      go_wp2
      go_ret
      exact ⟨ret_bool F.out.symm, rfl⟩
  · have F := Lib.hid (isName_no1 (s := s) (by omega))
    go_enter Try.func38, Try.ntmps38
    go_wp2
    go_ret
    exact ⟨ret_bool F.out.symm, rfl⟩

/-- One of the first n texts is x. -/
def Fs.hasText (f : Nat → ByteArray) (n : Nat) (x : ByteArray) : Bool := (List.range n).any fun j => decide (f j = x)
theorem Fs.hasText_yes {f : Nat → ByteArray} {n k : Nat} {x : ByteArray} (hk : k < n) (h : f k = x) : hasText f n x = true := by
  unfold hasText; rw [List.any_eq_true]; exact ⟨k, by simpa using hk, by simpa using h⟩
theorem Fs.hasText_no {f : Nat → ByteArray} {n : Nat} {x : ByteArray} (h : ∀ j, j < n → f j ≠ x) : hasText f n x = false := by
  unfold hasText; rw [List.any_eq_false]; intro j hj; simpa using h j (by simpa using hj)
theorem Fs.errName_eq (f : Nat → ByteArray) (i : Nat) : errName f i = if isName (f i) then (if hasText f i (f i) then 5 else 0) else 4 := by
  unfold errName
  cases isName (f i) with
  | false => rfl
  | true =>
    rw [if_pos rfl, if_pos rfl]
    cases h : hasText f i (f i) with
    | false =>
      rw [if_neg (by decide)]
      refine fst_none fun j hj => ?_
      rw [if_neg]
      intro e
      rw [hasText_yes hj e] at h
      cases h
    | true =>
      rw [if_pos rfl]
      unfold hasText at h
      rw [List.any_eq_true] at h
      obtain ⟨j, hj, e⟩ := h
      have hj' : j < i := by simpa using hj
      have e' : f j = f i := by simpa using e
      rcases Decidable.em (fst (fun j => if f j = f i then 5 else 0) i = 0) with h0 | h0
      · have := fst_zero h0 j hj'
        rw [if_pos e'] at this
        cases this
      · have key : ∀ n, fst (fun j => if f j = f i then 5 else 0) n = 0 ∨ fst (fun j => if f j = f i then 5 else 0) n = 5 := by
          intro n
          induction n with
          | zero => exact .inl rfl
          | succ n ih =>
            rw [fst]
            split
            · split
              · exact .inr rfl
              · exact .inl rfl
            · rcases ih with ih | ih
              · exact .inl ih
              · exact .inr ih
        exact (key i).resolve_left h0
set_option maxHeartbeats 400000 in
theorem hasText_any (l : List ByteArray) (A : Option Addr) (c n : Nat) (x : ByteArray) (w : World) (h : ArrS w A l c) (hn : n ≤ l.length) :
    Calls Try.prog 39 #[.slice A n c, .string x] w fun e w' => e = .returned (.bool (hasText (listS l) n x)) ∧ w = w' := by
  have b1 := h.le.1
  have b2 := h.le.2
  go_enter Try.func39, Try.ntmps39
  go_wp2
  go_loop [5] (fun u => ∃ k : Nat, k ≤ n ∧ u = .int .i64 k ∧ Hid (∀ j, j < k → listS l j ≠ x)) (fun u => n - (intOf u).toNat)
  case atStart => exact ⟨0, Nat.zero_le _, rfl, fun j hj => absurd hj (Nat.not_lt_zero _)⟩
  case round =>
    obtain ⟨k, hk, rfl, Hn⟩ := hrel
    by_cases hlt : k < n
    · obtain ⟨b, o, rfl, hc⟩ := h.at_ (k := k) (by omega)
      by_cases hq : listS l k = x
      · have F := Lib.hid (hasText_yes (f := listS l) hlt hq)
        have q := str_eq hq
        clear hq
        go_wp2
        go_ret
        exact ⟨ret_bool F.out.symm, rfl⟩
      · have G : Hid (∀ j, j < k + 1 → listS l j ≠ x) := fun j hj => by
          by_cases e : j = k
          · subst e; exact hq
          · exact Hn.out j (by omega)
        have q := str_ne hq
        clear hq
        go_wp2
        go_round
        case rel => exact ⟨k + 1, by omega, by go_num, G⟩
        case measure => simp [intOf]; omega
    · have F := Lib.hid (hasText_no (f := listS l) (x := x) (n := n) fun j hj => Hn.out j (by omega))
      go_wp2
      go_ret
      exact ⟨ret_bool F.out.symm, rfl⟩
set_option maxHeartbeats 400000 in
theorem mod_any (n b : Int) (w : World) (h0 : -1000000000000000000 ≤ n) (h1 : n ≤ 1000000000000000000) (h2 : 1 ≤ b) (h3 : b ≤ 1000000000) :
    Calls Try.prog 58 #[.int .i64 n, .int .i64 b] w fun e w' => e = .returned (.int .i64 (n % b)) ∧ w = w' := by
  have h5 : (b == 0) = false := by simpa using (show b ≠ 0 by omega)
  have m0 := Int.emod_nonneg n (show b ≠ 0 by omega)
  have m1 := Int.emod_lt_of_pos n (show 0 < b by omega)
  by_cases hn : 0 ≤ n
  · go_enter Try.func58, Try.ntmps58
    go_wp2
    go_ret
    exact ⟨rfl, rfl⟩
  · have t : (n % b = 0 ∧ n.tmod b = 0) ∨ (0 < n % b ∧ n.tmod b = n % b - b) := by
      rw [Int.tmod_eq_emod]
      by_cases hd : b ∣ n
      · left
        have := Int.emod_eq_zero_of_dvd hd
        rw [if_pos (.inr hd), this]
        exact ⟨rfl, rfl⟩
      · right
        rw [if_neg (by rintro (h | h) <;> contradiction)]
        have : n % b ≠ 0 := fun hz => hd (Int.dvd_of_emod_eq_zero hz)
        omega
    rcases t with ⟨t1, t2⟩ | ⟨t1, t2⟩
    · have t3 := Lib.hid t1
      clear t1
      go_enter Try.func58, Try.ntmps58
      go_wp2
      go_ret
      exact ⟨ret_int t3.out.symm, rfl⟩
    · have z : decide (n % b - b < 0) = true := by simp; omega
      go_enter Try.func58, Try.ntmps58
      go_wp2
      go_ret
      exact ⟨ret_int (by omega), rfl⟩
end Go.Proofs.Ytjmaankkbdpikaa

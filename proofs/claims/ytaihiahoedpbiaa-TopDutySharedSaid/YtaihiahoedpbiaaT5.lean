/- The error of a net, and its mark. No condition. -/
import Derived.Test.YtaihiahoedpbiaaT2
namespace Go.Proofs.Ytaihiahoedpbiaa
open Go.RowKit Fs

theorem Fs.net_none {N : Net} (h : N.places.length = 0) : checkNet N = ((0, 0), 10) := by unfold checkNet; rw [if_pos h]
theorem Fs.net_many {N : Net} (h : 20 < N.places.length) : checkNet N = ((0, 0), 8) := by unfold checkNet; rw [if_neg (by omega), if_pos h]
theorem Fs.net_place {N : Net} {k : Nat} (h0 : N.places.length ≠ 0) (h1 : ¬ 20 < N.places.length) (hk : k < N.places.length) (h : ∀ j, j < k → errName (listS N.places) j = 0) (he : errName (listS N.places) k ≠ 0) :
    checkNet N = ((k, 0), errName (listS N.places) k) := by
  obtain ⟨a, b⟩ := fst_hit hk h he
  unfold checkNet
  rw [if_neg h0, if_neg h1, if_pos (by rw [a]; exact he), a, b]
theorem Fs.net_roads {N : Net} (h0 : N.places.length ≠ 0) (h1 : ¬ 20 < N.places.length) (h : ∀ j, j < N.places.length → errName (listS N.places) j = 0) (h2 : 60 < N.roads.length) : checkNet N = ((0, 0), 8) := by
  unfold checkNet
  rw [if_neg h0, if_neg h1, if_neg (fun hh => hh (fst_none h)), if_pos h2]
theorem Fs.net_road {N : Net} {k : Nat} (h0 : N.places.length ≠ 0) (h1 : ¬ 20 < N.places.length) (h : ∀ j, j < N.places.length → errName (listS N.places) j = 0) (h2 : ¬ 60 < N.roads.length) (hk : k < N.roads.length)
    (hr : ∀ j, j < k → (errRoad N j).2 = 0) (he : (errRoad N k).2 ≠ 0) : checkNet N = ((k, (errRoad N k).1), (errRoad N k).2) := by
  obtain ⟨a, b⟩ := fst_hit (f := fun i => (errRoad N i).2) hk hr he
  unfold checkNet
  rw [if_neg h0, if_neg h1, if_neg (fun hh => hh (fst_none h)), if_neg h2, if_pos (by rw [a]; exact he), a, b]
theorem Fs.net_ok {N : Net} (h0 : N.places.length ≠ 0) (h1 : ¬ 20 < N.places.length) (h : ∀ j, j < N.places.length → errName (listS N.places) j = 0) (h2 : ¬ 60 < N.roads.length) (hr : ∀ j, j < N.roads.length → (errRoad N j).2 = 0) : checkNet N = ((0, 0), 0) := by
  unfold checkNet
  rw [if_neg h0, if_neg h1, if_neg (fun hh => hh (fst_none h)), if_neg h2, if_neg (fun hh => hh (fst_none hr))]
abbrev netBack (x : (Nat × Nat) × Int) : Value := .tuple #[.agg #[.int .i64 x.1.1, .int .i64 x.1.2], .int .i64 x.2]

end Go.Proofs.Ytaihiahoedpbiaa
/- The reference's names, texts in lists, and remainders. No condition. -/
namespace Go.Proofs.Ytaihiahoedpbiaa
open Go.RowKit Fs

theorem Fs.nameByte_no {c : UInt8} (h1 : letter c = false) (h2 : digit c = false) (h3 : c.toNat ≠ 45) : nameByte c = false := by
  unfold nameByte; rw [h1, h2]; simpa using h3
theorem Fs.isName_first {s : ByteArray} (h : 1 ≤ s.size) (h2 : ∀ j, j < s.size → nameByte (byteAt s j) = true) (h3 : letter (byteAt s 0) = true) (h4 : s.size ≤ 12) : isName s = true := isName_yes h h4 h3 h2
theorem letter_iff (c : UInt8) : letter c = true ↔ (97 ≤ c.toNat ∧ c.toNat ≤ 122) ∨ (65 ≤ c.toNat ∧ c.toNat ≤ 90) := by unfold letter; simp
theorem digit_iff (c : UInt8) : digit c = true ↔ 48 ≤ c.toNat ∧ c.toNat ≤ 57 := by unfold digit; simp
theorem nameByte_iff (c : UInt8) : nameByte c = true ↔ ((97 ≤ c.toNat ∧ c.toNat ≤ 122) ∨ (65 ≤ c.toNat ∧ c.toNat ≤ 90)) ∨ (48 ≤ c.toNat ∧ c.toNat ≤ 57) ∨ c.toNat = 45 := by
  unfold nameByte
  rw [Bool.or_eq_true, Bool.or_eq_true, letter_iff, digit_iff]
  simp [or_assoc]
/-- What a round at byte k asks: a letter, or behind the first one a digit or a hyphen. -/
def Fs.fine (k : Nat) (c : UInt8) : Bool := letter c || (decide (k ≠ 0) && nameByte c)
theorem fine_iff (k : Nat) (c : UInt8) : fine k c = true ↔ ((97 ≤ c.toNat ∧ c.toNat ≤ 122) ∨ (65 ≤ c.toNat ∧ c.toNat ≤ 90)) ∨ (k ≠ 0 ∧ ((48 ≤ c.toNat ∧ c.toNat ≤ 57) ∨ c.toNat = 45)) := by
  unfold fine
  rw [Bool.or_eq_true, Bool.and_eq_true, letter_iff, nameByte_iff, decide_eq_true_iff]
  omega
theorem Fs.isName_fine {s : ByteArray} (h1 : 1 ≤ s.size) (h2 : s.size ≤ 12) (h : ∀ j, j < s.size → fine j (byteAt s j) = true) : isName s = true := by
  refine isName_yes h1 h2 ?_ fun j hj => ?_
  · have := (fine_iff _ _).1 (h 0 (by omega))
    rw [letter_iff]
    omega
  · have := (fine_iff _ _).1 (h j hj)
    rw [nameByte_iff]
    omega
theorem Fs.isName_rough {s : ByteArray} {k : Nat} (hk : k < s.size) (h : fine k (byteAt s k) = false) : isName s = false := by
  have h' : ¬ (fine k (byteAt s k) = true) := by rw [h]; decide
  rw [fine_iff] at h'
  by_cases h0 : k = 0
  · subst h0
    refine isName_no3 ?_
    cases hl : letter (byteAt s 0) with
    | false => rfl
    | true => rw [letter_iff] at hl; omega
  · refine isName_no4 hk ?_
    cases hl : nameByte (byteAt s k) with
    | false => rfl
    | true => rw [nameByte_iff] at hl; omega

set_option maxHeartbeats 1600000 in
theorem bIsName_any (s : ByteArray) (w : World) : Calls Try.prog 105 #[.string s] w fun e w' => e = .returned (.bool (isName s)) ∧ w = w' := by
  by_cases h1 : 1 ≤ s.size
  · by_cases h2 : s.size ≤ 12
    · have z1 : decide ((s.size : Int) < 1) = false := by simp; omega
      have z2 : decide ((12 : Int) < (s.size : Int)) = false := by simp; omega
      go_enter Try.func105, Try.ntmps105
      go_wp2
      go_loop [3] (fun i => ∃ k : Nat, k ≤ s.size ∧ i = .int .i64 k ∧ Hid (∀ j, j < k → fine j (byteAt s j) = true)) (fun i => s.size - (intOf i).toNat)
      case atStart => exact ⟨0, Nat.zero_le _, rfl, fun j hj => absurd hj (Nat.not_lt_zero _)⟩
      case round =>
        obtain ⟨k, hk, rfl, Hn⟩ := hrel
        by_cases hlt : k < s.size
        · have gk := byteAt_eq s k hlt
          cases hf : fine k (byteAt s k) with
          | true =>
            have G : Hid (∀ j, j < k + 1 → fine j (byteAt s j) = true) := fun j hj => by
              by_cases e : j = k
              · subst e; exact hf
              · exact Hn.out j (by omega)
            have hi := (fine_iff _ _).1 hf
            rw [← gk] at hi
            have HI := Lib.hid hi
            clear hi hf gk
            go_wp2
            all_goals first
              | (go_round
                 case rel => exact ⟨k + 1, by omega, by go_num, G⟩
                 case measure => simp [intOf]; omega)
              | (exfalso; have := HI.out; simp at *; (try subst_vars); omega)
          | false =>
            have F := Lib.hid (isName_rough hlt hf)
            have hi : ¬ (((97 ≤ s[k].toNat ∧ s[k].toNat ≤ 122) ∨ (65 ≤ s[k].toNat ∧ s[k].toNat ≤ 90)) ∨ (k ≠ 0 ∧ ((48 ≤ s[k].toNat ∧ s[k].toNat ≤ 57) ∨ s[k].toNat = 45))) := by
              rw [gk, ← fine_iff, hf]; decide
            have HI := Lib.hid hi
            clear hi hf gk
            go_wp2
            all_goals first
              | (go_ret; exact ⟨ret_bool F.out.symm, rfl⟩)
              | (exfalso; have := HI.out; simp at *; (try subst_vars); omega)
        · have F := Lib.hid (isName_fine h1 h2 fun j hj => Hn.out j (by omega))
          go_wp2
          go_ret
          exact ⟨ret_bool F.out.symm, rfl⟩
    · have F := Lib.hid (isName_no2 (s := s) (by omega))
      go_enter Try.func105, Try.ntmps105
      go_wp2
      go_ret
      exact ⟨ret_bool F.out.symm, rfl⟩
  · have F := Lib.hid (isName_no1 (s := s) (by omega))
    go_enter Try.func105, Try.ntmps105
    go_wp2
    go_ret
    exact ⟨ret_bool F.out.symm, rfl⟩

/-- One of the first n texts is x. -/
def Fs.hasText (f : Nat → ByteArray) (n : Nat) (x : ByteArray) : Bool := (List.range n).any fun j => decide (f j = x)
theorem Fs.hasText_yes {f : Nat → ByteArray} {n k : Nat} {x : ByteArray} (hk : k < n) (h : f k = x) : hasText f n x = true := by
  unfold hasText; rw [List.any_eq_true]; exact ⟨k, by simpa using hk, by simpa using h⟩
theorem Fs.hasText_no {f : Nat → ByteArray} {n : Nat} {x : ByteArray} (h : ∀ j, j < n → f j ≠ x) : hasText f n x = false := by
  unfold hasText; rw [List.any_eq_false]; intro j hj; simpa using h j (by simpa using hj)
theorem Fs.errName_eq (f : Nat → ByteArray) (i : Nat) : errName f i = if isName (f i) then (if hasText f i (f i) then 5 else 0) else 4 := by
  unfold errName
  cases isName (f i) with
  | false => rfl
  | true =>
    rw [if_pos rfl, if_pos rfl]
    cases h : hasText f i (f i) with
    | false =>
      rw [if_neg (by decide)]
      refine fst_none fun j hj => ?_
      rw [if_neg]
      intro e
      rw [hasText_yes hj e] at h
      cases h
    | true =>
      rw [if_pos rfl]
      unfold hasText at h
      rw [List.any_eq_true] at h
      obtain ⟨j, hj, e⟩ := h
      have hj' : j < i := by simpa using hj
      have e' : f j = f i := by simpa using e
      rcases Decidable.em (fst (fun j => if f j = f i then 5 else 0) i = 0) with h0 | h0
      · have := fst_zero h0 j hj'
        rw [if_pos e'] at this
        cases this
      · have key : ∀ n, fst (fun j => if f j = f i then 5 else 0) n = 0 ∨ fst (fun j => if f j = f i then 5 else 0) n = 5 := by
          intro n
          induction n with
          | zero => exact .inl rfl
          | succ n ih =>
            rw [fst]
            split
            · split
              · exact .inr rfl
              · exact .inl rfl
            · rcases ih with ih | ih
              · exact .inl ih
              · exact .inr ih
        exact (key i).resolve_left h0
set_option maxHeartbeats 400000 in
theorem mod_any (n b : Int) (w : World) (h0 : -1000000000000000000 ≤ n) (h1 : n ≤ 1000000000000000000) (h2 : 1 ≤ b) (h3 : b ≤ 1000000000) :
    Calls Try.prog 39 #[.int .i64 n, .int .i64 b] w fun e w' => e = .returned (.int .i64 (n % b)) ∧ w = w' := by
  have h5 : (b == 0) = false := by simpa using (show b ≠ 0 by omega)
  have m0 := Int.emod_nonneg n (show b ≠ 0 by omega)
  have m1 := Int.emod_lt_of_pos n (show 0 < b by omega)
  by_cases hn : 0 ≤ n
  · go_enter Try.func39, Try.ntmps39
    go_wp2
    go_ret
    exact ⟨rfl, rfl⟩
  · have t : (n % b = 0 ∧ n.tmod b = 0) ∨ (0 < n % b ∧ n.tmod b = n % b - b) := by
      rw [Int.tmod_eq_emod]
      by_cases hd : b ∣ n
      · left
        have := Int.emod_eq_zero_of_dvd hd
        rw [if_pos (.inr hd), this]
        exact ⟨rfl, rfl⟩
      · right
        rw [if_neg (by rintro (h | h) <;> contradiction)]
        have : n % b ≠ 0 := fun hz => hd (Int.dvd_of_emod_eq_zero hz)
        omega
    rcases t with ⟨t1, t2⟩ | ⟨t1, t2⟩
    · have t3 := Lib.hid t1
      clear t1
      go_enter Try.func39, Try.ntmps39
      go_wp2
      go_ret
      exact ⟨ret_int t3.out.symm, rfl⟩
    · have z : decide (n % b - b < 0) = true := by simp; omega
      go_enter Try.func39, Try.ntmps39
      go_wp2
      go_ret
      exact ⟨ret_int (by omega), rfl⟩
end Go.Proofs.Ytaihiahoedpbiaa

/- The reference's names, texts in lists, and remainders. No condition. -/
import Derived.Test.YtfjdnbnalihjiaaGreatDoorT4
import Derived.Test.YtfjdnbnalihjiaaGreatDoorFs
import Derived.Maps.AppendAt
import Derived.Deep.AppendLies
import Derived.OwnWalk
namespace Go.Proofs.YtfjdnbnalihjiaaGreatDoor
open Go.RowKit Fs

theorem Fs.nameByte_no {c : UInt8} (h1 : letter c = false) (h2 : digit c = false) (h3 : c.toNat ≠ 45) : nameByte c = false := by
  unfold nameByte; rw [h1, h2]; simpa using h3
theorem Fs.isName_first {s : ByteArray} (h : 1 ≤ s.size) (h2 : ∀ j, j < s.size → nameByte (byteAt s j) = true) (h3 : letter (byteAt s 0) = true) (h4 : s.size ≤ 12) : isName s = true := isName_yes h h4 h3 h2
theorem letter_iff (c : UInt8) : letter c = true ↔ (97 ≤ c.toNat ∧ c.toNat ≤ 122) ∨ (65 ≤ c.toNat ∧ c.toNat ≤ 90) := by unfold letter; simp
theorem digit_iff (c : UInt8) : digit c = true ↔ 48 ≤ c.toNat ∧ c.toNat ≤ 57 := by unfold digit; simp
theorem nameByte_iff (c : UInt8) : nameByte c = true ↔ ((97 ≤ c.toNat ∧ c.toNat ≤ 122) ∨ (65 ≤ c.toNat ∧ c.toNat ≤ 90)) ∨ (48 ≤ c.toNat ∧ c.toNat ≤ 57) ∨ c.toNat = 45 := by
  unfold nameByte
  rw [Bool.or_eq_true, Bool.or_eq_true, letter_iff, digit_iff]
  simp [or_assoc]
/-- What a round at byte k asks: a letter, or behind the first one a digit or a hyphen. -/
def Fs.fine (k : Nat) (c : UInt8) : Bool := letter c || (decide (k ≠ 0) && nameByte c)
theorem fine_iff (k : Nat) (c : UInt8) : fine k c = true ↔ ((97 ≤ c.toNat ∧ c.toNat ≤ 122) ∨ (65 ≤ c.toNat ∧ c.toNat ≤ 90)) ∨ (k ≠ 0 ∧ ((48 ≤ c.toNat ∧ c.toNat ≤ 57) ∨ c.toNat = 45)) := by
  unfold fine
  rw [Bool.or_eq_true, Bool.and_eq_true, letter_iff, nameByte_iff, decide_eq_true_iff]
  omega
theorem Fs.isName_fine {s : ByteArray} (h1 : 1 ≤ s.size) (h2 : s.size ≤ 12) (h : ∀ j, j < s.size → fine j (byteAt s j) = true) : isName s = true := by
  refine isName_yes h1 h2 ?_ fun j hj => ?_
  · have := (fine_iff _ _).1 (h 0 (by omega))
    rw [letter_iff]
    omega
  · have := (fine_iff _ _).1 (h j hj)
    rw [nameByte_iff]
    omega
theorem Fs.isName_rough {s : ByteArray} {k : Nat} (hk : k < s.size) (h : fine k (byteAt s k) = false) : isName s = false := by
  have h' : ¬ (fine k (byteAt s k) = true) := by rw [h]; decide
  rw [fine_iff] at h'
  by_cases h0 : k = 0
  · subst h0
    refine isName_no3 ?_
    cases hl : letter (byteAt s 0) with
    | false => rfl
    | true => rw [letter_iff] at hl; omega
  · refine isName_no4 hk ?_
    cases hl : nameByte (byteAt s k) with
    | false => rfl
    | true => rw [nameByte_iff] at hl; omega

set_option maxHeartbeats 1600000 in
theorem bIsName_any (s : ByteArray) (w : World) : Calls Tryz.prog 79 #[.string s] w fun e w' => e = .returned (.bool (isName s)) ∧ w = w' := by
  by_cases h1 : 1 ≤ s.size
  · by_cases h2 : s.size ≤ 12
    · have z1 : decide ((s.size : Int) < 1) = false := by simp; omega
      have z2 : decide ((12 : Int) < (s.size : Int)) = false := by simp; omega
      go_enter Tryz.func79, Tryz.ntmps79
      go_wp2
      go_loop [3] (fun i => ∃ k : Nat, k ≤ s.size ∧ i = .int .i64 k ∧ Hid (∀ j, j < k → fine j (byteAt s j) = true)) (fun i => s.size - (intOf i).toNat)
      case atStart => exact ⟨0, Nat.zero_le _, rfl, fun j hj => absurd hj (Nat.not_lt_zero _)⟩
      case round =>
        obtain ⟨k, hk, rfl, Hn⟩ := hrel
        by_cases hlt : k < s.size
        · have gk := byteAt_eq s k hlt
          cases hf : fine k (byteAt s k) with
          | true =>
            have G : Hid (∀ j, j < k + 1 → fine j (byteAt s j) = true) := fun j hj => by
              by_cases e : j = k
              · subst e; exact hf
              · exact Hn.out j (by omega)
            have hi := (fine_iff _ _).1 hf
            rw [← gk] at hi
            have HI := Lib.hid hi
            clear hi hf gk
            go_wp2
            all_goals first
              | (go_round
                 case rel => exact ⟨k + 1, by omega, by go_num, G⟩
                 case measure => simp [intOf]; omega)
              | (exfalso; have := HI.out; simp at *; (try subst_vars); omega)
          | false =>
            have F := Lib.hid (isName_rough hlt hf)
            have hi : ¬ (((97 ≤ s[k].toNat ∧ s[k].toNat ≤ 122) ∨ (65 ≤ s[k].toNat ∧ s[k].toNat ≤ 90)) ∨ (k ≠ 0 ∧ ((48 ≤ s[k].toNat ∧ s[k].toNat ≤ 57) ∨ s[k].toNat = 45))) := by
              rw [gk, ← fine_iff, hf]; decide
            have HI := Lib.hid hi
            clear hi hf gk
            go_wp2
            all_goals first
              | (go_ret; exact ⟨ret_bool F.out.symm, rfl⟩)
              | (exfalso; have := HI.out; simp at *; (try subst_vars); omega)
        · have F := Lib.hid (isName_fine h1 h2 fun j hj => Hn.out j (by omega))
          go_wp2
          go_ret
          exact ⟨ret_bool F.out.symm, rfl⟩
    · have F := Lib.hid (isName_no2 (s := s) (by omega))
      go_enter Tryz.func79, Tryz.ntmps79
      go_wp2
      go_ret
      exact ⟨ret_bool F.out.symm, rfl⟩
  · have F := Lib.hid (isName_no1 (s := s) (by omega))
    go_enter Tryz.func79, Tryz.ntmps79
    go_wp2
    go_ret
    exact ⟨ret_bool F.out.symm, rfl⟩

/-- One of the first n texts is x. -/
def Fs.hasText (f : Nat → ByteArray) (n : Nat) (x : ByteArray) : Bool := (List.range n).any fun j => decide (f j = x)
theorem Fs.hasText_yes {f : Nat → ByteArray} {n k : Nat} {x : ByteArray} (hk : k < n) (h : f k = x) : hasText f n x = true := by
  unfold hasText; rw [List.any_eq_true]; exact ⟨k, by simpa using hk, by simpa using h⟩
theorem Fs.hasText_no {f : Nat → ByteArray} {n : Nat} {x : ByteArray} (h : ∀ j, j < n → f j ≠ x) : hasText f n x = false := by
  unfold hasText; rw [List.any_eq_false]; intro j hj; simpa using h j (by simpa using hj)
theorem Fs.errName_eq (f : Nat → ByteArray) (i : Nat) : errName f i = if isName (f i) then (if hasText f i (f i) then 5 else 0) else 4 := by
  unfold errName
  cases isName (f i) with
  | false => rfl
  | true =>
    rw [if_pos rfl, if_pos rfl]
    cases h : hasText f i (f i) with
    | false =>
      rw [if_neg (by decide)]
      refine fst_none fun j hj => ?_
      rw [if_neg]
      intro e
      rw [hasText_yes hj e] at h
      cases h
    | true =>
      rw [if_pos rfl]
      unfold hasText at h
      rw [List.any_eq_true] at h
      obtain ⟨j, hj, e⟩ := h
      have hj' : j < i := by simpa using hj
      have e' : f j = f i := by simpa using e
      rcases Decidable.em (fst (fun j => if f j = f i then 5 else 0) i = 0) with h0 | h0
      · have := fst_zero h0 j hj'
        rw [if_pos e'] at this
        cases this
      · have key : ∀ n, fst (fun j => if f j = f i then 5 else 0) n = 0 ∨ fst (fun j => if f j = f i then 5 else 0) n = 5 := by
          intro n
          induction n with
          | zero => exact .inl rfl
          | succ n ih =>
            rw [fst]
            split
            · split
              · exact .inr rfl
              · exact .inl rfl
            · rcases ih with ih | ih
              · exact .inl ih
              · exact .inr ih
        exact (key i).resolve_left h0
set_option maxHeartbeats 400000 in
theorem hasText_any (l : List ByteArray) (A : Option Addr) (c n : Nat) (x : ByteArray) (w : World) (h : ArrS w A l c) (hn : n ≤ l.length) :
    Calls Tryz.prog 91 #[.slice A n c, .string x] w fun e w' => e = .returned (.bool (hasText (listS l) n x)) ∧ w = w' := by
  have b1 := h.le.1
  have b2 := h.le.2
  go_enter Tryz.func91, Tryz.ntmps91
  go_wp2
  go_loop [5] (fun u => ∃ k : Nat, k ≤ n ∧ u = .int .i64 k ∧ Hid (∀ j, j < k → listS l j ≠ x)) (fun u => n - (intOf u).toNat)
  case atStart => exact ⟨0, Nat.zero_le _, rfl, fun j hj => absurd hj (Nat.not_lt_zero _)⟩
  case round =>
    obtain ⟨k, hk, rfl, Hn⟩ := hrel
    by_cases hlt : k < n
    · obtain ⟨b, o, rfl, hc⟩ := h.at_ (k := k) (by omega)
      by_cases hq : listS l k = x
      · have F := Lib.hid (hasText_yes (f := listS l) hlt hq)
        have q := str_eq hq
        clear hq
        go_wp2
        go_ret
        exact ⟨ret_bool F.out.symm, rfl⟩
      · have G : Hid (∀ j, j < k + 1 → listS l j ≠ x) := fun j hj => by
          by_cases e : j = k
          · subst e; exact hq
          · exact Hn.out j (by omega)
        have q := str_ne hq
        clear hq
        go_wp2
        go_round
        case rel => exact ⟨k + 1, by omega, by go_num, G⟩
        case measure => simp [intOf]; omega
    · have F := Lib.hid (hasText_no (f := listS l) (x := x) (n := n) fun j hj => Hn.out j (by omega))
      go_wp2
      go_ret
      exact ⟨ret_bool F.out.symm, rfl⟩
end Go.Proofs.YtfjdnbnalihjiaaGreatDoor
/- Plain functions about lost property: lists and numbers alone, nothing of the program. No condition. -/
namespace Go.Proofs.YtfjdnbnalihjiaaGreatDoor.Fs

/-- A mark; a thing (an item or a claim); an event. -/
structure Mrk where
  key : ByteArray
  val : ByteArray
structure Thg where
  name : ByteArray
  day : Int
  who : ByteArray
  marks : List Mrk
structure Evt where
  item : ByteArray
  day : Int
  kind : Int
  src : ByteArray
  dst : ByteArray
def mrk0 : Mrk := ⟨ByteArray.empty, ByteArray.empty⟩
def thg0 : Thg := ⟨ByteArray.empty, 0, ByteArray.empty, []⟩
def evt0 : Evt := ⟨ByteArray.empty, 0, 0, ByteArray.empty, ByteArray.empty⟩
def lMrk (l : List Mrk) (i : Nat) : Mrk := l.getD i mrk0
def lThg (l : List Thg) (i : Nat) : Thg := l.getD i thg0
def lEvt (l : List Evt) (i : Nat) : Evt := l.getD i evt0
def isMoney (n : Int) : Bool := within n 0 1000000000
def isDay (n : Int) : Bool := within n 0 100000
/-- a is at most b, byte by byte. -/
def leB (a b : ByteArray) : Bool := Go.Op.bytesLess a.toList b.toList || (a.toList == b.toList)

/-- The error of mark i. -/
def mrkErr (l : List Mrk) (i : Nat) : Int :=
  if isName (lMrk l i).key = false ∨ isName (lMrk l i).val = false then 4
  else if 0 < i ∧ leB (lMrk l i).key (lMrk l (i - 1)).key = true then 9 else 0
def marksErr (l : List Mrk) : Int := if 8 < l.length then 8 else fst (mrkErr l) l.length
def marksAt (l : List Mrk) : Nat := if 8 < l.length then 0 else idx (mrkErr l) l.length
def thgErr (x : Thg) : Int :=
  if isName x.name = false ∨ isName x.who = false then 4 else if isDay x.day = false then 2 else marksErr x.marks
/-- The error of thing i among others. -/
def thgAt (l : List Thg) (i : Nat) : Int :=
  if thgErr (lThg l i) ≠ 0 then thgErr (lThg l i) else if hasText (fun j => (lThg l j).name) i (lThg l i).name = true then 5 else 0
def thgsErr (l : List Thg) : Int := if 12 < l.length then 8 else fst (thgAt l) l.length
def pairErr (l c : List Thg) : Int := if thgsErr l ≠ 0 then thgsErr l else thgsErr c

/-- How many marks of b, below k, agrees with the mark x, and how many differs. -/
def agreeIn (x : Mrk) (b : List Mrk) (k : Nat) : Int := sumTo (fun j => if x.key = (lMrk b j).key ∧ x.val = (lMrk b j).val then 1 else 0) k
def differIn (x : Mrk) (b : List Mrk) (k : Nat) : Int := sumTo (fun j => if x.key = (lMrk b j).key ∧ x.val ≠ (lMrk b j).val then 1 else 0) k
def agreeTo (a b : List Mrk) (k : Nat) : Int := sumTo (fun i => agreeIn (lMrk a i) b b.length) k
def differTo (a b : List Mrk) (k : Nat) : Int := sumTo (fun i => differIn (lMrk a i) b b.length) k
def agrees (a b : List Mrk) : Int := agreeTo a b a.length
def differs (a b : List Mrk) : Int := differTo a b a.length
def canBe (x c : Thg) : Bool := decide (c.day - 3 ≤ x.day) && decide (differs x.marks c.marks = 0) && decide (2 ≤ agrees x.marks c.marks)
/-- The candidates among the first k items. -/
def candTo (l : List Thg) (c : Thg) : Nat → List Int
  | 0 => []
  | k + 1 => if canBe (lThg l k) c = true then candTo l c k ++ [(k : Int)] else candTo l c k
def cands (l : List Thg) (c : Thg) : List Int := candTo l c l.length
def size (n : Int) : Int := if n < 0 then -n else n
/-- Whether item i is a better candidate than item b. -/
def better (l : List Thg) (c : Thg) (i b : Nat) : Bool :=
  decide (agrees (lThg l b).marks c.marks < agrees (lThg l i).marks c.marks) ||
  (decide (agrees (lThg l i).marks c.marks = agrees (lThg l b).marks c.marks) && decide (size ((lThg l i).day - c.day) < size ((lThg l b).day - c.day)))
/-- The best of the first k + 1 candidates of a list. -/
def bstTo (l : List Thg) (c : Thg) (L : List Int) : Nat → Int
  | 0 => listI L 0
  | k + 1 => if better l c (listI L (k + 1)).toNat (bstTo l c L k).toNat = true then listI L (k + 1) else bstTo l c L k
def best (l : List Thg) (c : Thg) : Int := if (cands l c).length = 0 then 0 else bstTo l c (cands l c) ((cands l c).length - 1)
def ambTo (l : List Thg) (c : List Thg) : Nat → List Int
  | 0 => []
  | k + 1 => if 2 ≤ (cands l (lThg c k)).length then ambTo l c k ++ [(k : Int)] else ambTo l c k
def amb (l c : List Thg) : List Int := ambTo l c c.length

/-- Pairs: (an item's number, a claim's). -/
def pr (l : List (Int × Int)) (i : Nat) : Int × Int := l.getD i (0, 0)
open Classical in
noncomputable def pairAt (l c : List Thg) (p : List (Int × Int)) (i : Nat) : Int :=
  if within (pr p i).1 0 (l.length - 1) = false ∨ within (pr p i).2 0 (c.length - 1) = false then 6
  else if 0 < i ∧ (pr p i).1 ≤ (pr p (i - 1)).1 then 9
  else if ∃ k, k < i ∧ (pr p k).2 = (pr p i).2 then 26
  else if canBe (lThg l (pr p i).1.toNat) (lThg c (pr p i).2.toNat) = false then 13 else 0
noncomputable def pairsErr (l c : List Thg) (p : List (Int × Int)) : Int :=
  if pairErr l c ≠ 0 then pairErr l c else if 12 < p.length then 8 else fst (pairAt l c p) p.length
/-- Numbers below a count, ascending. -/
def numAt (l : List Int) (n : Int) (i : Nat) : Int :=
  if within (listI l i) 0 (n - 1) = false then 6 else if 0 < i ∧ listI l i ≤ listI l (i - 1) then 9 else 0
def numsErr (l : List Int) (n : Int) : Int := fst (numAt l n) l.length
open Classical in
noncomputable def coverErr (l c : List Thg) (a b : List Int) : Int :=
  if pairErr l c ≠ 0 then pairErr l c else if numsErr a l.length ≠ 0 then numsErr a l.length else if numsErr b c.length ≠ 0 then numsErr b c.length
  else if ∃ i k : Nat, i < l.length ∧ k < c.length ∧ canBe (lThg l i) (lThg c k) = true ∧ (i : Int) ∉ a ∧ (k : Int) ∉ b then 20 else 0

/-- Chains: the right to a thing by k events, on a day. -/
def isDone (kind : Int) : Bool := decide (2 ≤ kind)
def rightOf (l : List Evt) (k : Nat) (day : Int) : Int :=
  if k = 0 then 1 else if isDone (lEvt l (k - 1)).kind = true then 0
  else if day - (lEvt l 0).day ≤ 180 then 1 else if day - (lEvt l 0).day ≤ 210 then 2 else 3
def dayOf (x : Thg) (l : List Evt) (k : Nat) : Int := if k = 0 then x.day else (lEvt l (k - 1)).day
def holderOf (x : Thg) (l : List Evt) (k : Nat) : ByteArray := if k = 0 then x.who else (lEvt l (k - 1)).dst
def endedOf (l : List Evt) (k : Nat) : Bool := if k = 0 then false else isDone (lEvt l (k - 1)).kind
/-- The error of event k behind those ahead of it. -/
def evtAt (x : Thg) (l : List Evt) (k : Nat) : Int :=
  if (lEvt l k).item ≠ x.name then 6
  else if isDay (lEvt l k).day = false then 2
  else if within (lEvt l k).kind 0 4 = false then 15
  else if isName (lEvt l k).src = false ∨ isName (lEvt l k).dst = false then 4
  else if (lEvt l k).day < dayOf x l k then 9
  else if ((lEvt l k).kind = 0 ↔ k ≠ 0) ∨ endedOf l k = true then 22
  else if (lEvt l k).src ≠ holderOf x l k then 13
  else if (lEvt l k).kind = 3 ∧ (lEvt l k).dst ≠ x.who then 18
  else if ((lEvt l k).kind = 3 ∧ rightOf l k (lEvt l k).day ≠ 2) ∨ ((lEvt l k).kind = 4 ∧ rightOf l k (lEvt l k).day ≠ 3) then 25 else 0
def chainErr (x : Thg) (l : List Evt) : Int := if thgErr x ≠ 0 then thgErr x else if 30 < l.length then 8 else fst (evtAt x l) l.length
def chainAt (x : Thg) (l : List Evt) : Nat := if thgErr x ≠ 0 then 0 else if 30 < l.length then 0 else idx (evtAt x l) l.length
def onErr (x : Thg) (l : List Evt) (day : Int) : Int := if chainErr x l ≠ 0 then chainErr x l else if within day x.day 100000 = true then 0 else 2
/-- How many events, from the first on, are not behind a day. -/
def untilTo (l : List Evt) (day : Int) : Nat → Nat → Nat
  | k, 0 => k
  | k, f + 1 => if k < l.length ∧ (lEvt l k).day ≤ day then untilTo l day (k + 1) f else k
def untilN (l : List Evt) (day : Int) : Nat := untilTo l day 0 l.length
def stateOf (l : List Evt) (k : Nat) : Int :=
  if k = 0 then 0 else if (lEvt l (k - 1)).kind = 2 then 2 else if (lEvt l (k - 1)).kind = 3 then 3 else if (lEvt l (k - 1)).kind = 4 then 4 else 1
def rewErr (v : Int) : Int := if isMoney v = true then 0 else 2
def reward (v : Int) : Int := if isMoney v = true then (5 * min v 50000 + 3 * max 0 (v - 50000)).tdiv 100 else 0
end Go.Proofs.YtfjdnbnalihjiaaGreatDoor.Fs
/- A row that the call itself has made, of numbers, reads as a list. No condition. -/
namespace Go.Proofs.YtfjdnbnalihjiaaGreatDoor
open Go.RowKit Fs

def intVals (l : List Int) : List Value := l.map (Value.int .i64)
theorem own_arr {w : World} {base : Nat} {e : TypeId} {v : Value} {l : List Int} (h : w.ownsRow base e 1 v l.length (intVals l)) :
    ∃ A c, v = .slice A l.length c ∧ ArrI w A l c := by
  rcases h.2 with ⟨hv, hn⟩ | ⟨g, cap, cur, hv, hb, hh, h1, h2, h3, h4⟩
  · have : l = [] := List.eq_nil_of_length_eq_zero hn
    subst this
    exact ⟨none, 0, hv, Nat.le_refl _, by omega, fun hh => absurd hh (by simp)⟩
  · refine ⟨_, cap, hv, h1, h2, fun _ => ⟨g, 0, rfl, fun i j hi hj => ?_⟩⟩
    have hj0 : j = 0 := by omega
    subst hj0
    have hc := h.cells (g := g) (by rw [hv]; rfl) i (.int .i64 (listI l i)) (by
      unfold intVals listI
      rw [List.getElem?_map, List.getElem?_eq_getElem hi]
      simp [List.getD_eq_getElem?_getD, List.getElem?_eq_getElem hi])
    have e1 : (⟨g, 0 + i * 1 + 0, none⟩ : Addr) = Addr.add ⟨g, 0, none⟩ i := by
      unfold Addr.add
      by_cases h0 : i = 0
      · subst h0; rfl
      · rw [if_neg h0]; simp
    rw [e1]
    exact hc
theorem intVals_snoc (l : List Int) (x : Int) : intVals (l ++ [x]) = intVals l ++ [.int .i64 x] := by simp [intVals]
theorem news1 (w : World) (A : Obj) (x : Value) (t : TypeId) : ∀ j u, [x][j]? = some u → ((w.alloc A).alloc (.cells #[x] t)).cell? (Addr.add ⟨w.heap.size + 1, 0, none⟩ j) = some u := by
  intro j u hu
  match j with
  | 0 =>
    rw [show w.heap.size + 1 = (w.alloc A).heap.size by simp]
    have : x = u := by simpa using hu
    subst this
    exact cell_of_row _ _ 0 #[x] t (0, 0) (heap_alloc_new (w.alloc A) _)
  | j + 1 => simp at hu
theorem news0 (w : World) (x : Value) (t : TypeId) : ∀ j u, [x][j]? = some u → (w.alloc (.cells #[x] t)).cell? (Addr.add ⟨w.heap.size, 0, none⟩ j) = some u := by
  intro j u hu
  match j with
  | 0 =>
    have : x = u := by simpa using hu
    subst this
    exact cell_of_row _ _ 0 #[x] t (0, 0) (heap_alloc_new w _)
  | j + 1 => simp at hu
theorem oneInt (n : Int) : ∀ u ∈ [Value.int .i64 n], u.oneCell' = true := by
  intro u hu
  have : u = .int .i64 n := by simpa using hu
  subst this
  rfl
end Go.Proofs.YtfjdnbnalihjiaaGreatDoor
/- A row appended onto an empty row of the call's own reads as the row did. Condition: its bytes are below 2^47. -/
namespace Go.Proofs.YtfjdnbnalihjiaaGreatDoor
open Go.RowKit Fs

/-- The cells of m elements of 'size' cells, one behind the other. -/
def flat (m size : Nat) (C : Nat → Nat → Value) : List Value := (List.range (m * size)).map fun t => C (t / size) (t % size)
theorem flat_get {m size : Nat} {C : Nat → Nat → Value} (t : Nat) (h : t < m * size) : (flat m size C)[t]? = some (C (t / size) (t % size)) := by
  unfold flat
  rw [List.getElem?_map, List.getElem?_range h]
  rfl
theorem place {i j m size : Nat} (hi : i < m) (hj : j < size) : i * size + j < m * size ∧ (i * size + j) / size = i ∧ (i * size + j) % size = j := by
  have hs : 0 < size := by omega
  have h1 : (i + 1) * size ≤ m * size := Nat.mul_le_mul_right _ hi
  rw [Nat.add_mul, Nat.one_mul] at h1
  refine ⟨by omega, ?_, ?_⟩
  · rw [Nat.mul_comm, Nat.mul_add_div hs, Nat.div_eq_of_lt hj, Nat.add_zero]
  · rw [Nat.mul_comm, Nat.mul_add_mod, Nat.mod_eq_of_lt hj]
theorem own_row {w : World} {base m size : Nat} {e : TypeId} {v : Value} {C : Nat → Nat → Value} (h : w.ownsRow base e size v m (flat m size C)) : ∃ A c, v = .slice A m c ∧ Arr w A m c size C := by
  rcases h.2 with ⟨hv, hn⟩ | ⟨g, cap, cur, hv, hb, hh, h1, h2, h3, h4⟩
  · subst hn
    exact ⟨none, 0, hv, Nat.le_refl _, by omega, fun hh => absurd hh (Nat.lt_irrefl 0)⟩
  · subst hv
    refine ⟨_, cap, rfl, h1, h2, fun _ => ⟨g, 0, rfl, fun i j hi hj => ?_⟩⟩
    obtain ⟨p1, p2, p3⟩ := place hi hj
    rw [Nat.zero_add, h.cellAt _ p1, flat_get _ p1, p2, p3]
/-- The address, if there is one, lies in block B or beyond. -/
def Above (B : Nat) (A : Option Addr) : Prop := ∀ ad, A = some ad → B ≤ ad.block
theorem own_above {w : World} {base m size c : Nat} {e : TypeId} {A : Option Addr} {xs : List Value} (h : w.ownsRow base e size (.slice A m c) m xs) : Above base A := by
  rcases h.2 with ⟨hv, -⟩ | ⟨g, cap, cur, hv, hb, -⟩
  · injection hv with hv; subst hv; intro ad h; cases h
  · injection hv with hv; subst hv; intro ad h; injection h with h; subst h; exact hb
theorem own_arrN {w : World} {base m size c : Nat} {e : TypeId} {A : Option Addr} {C : Nat → Nat → Value} (h : w.ownsRow base e size (.slice A m c) m (flat m size C)) : Arr w A m c size C := by
  obtain ⟨A', c', he, ha⟩ := own_row h
  injection he with h1 h2 h3
  subst h1; subst h3
  exact ha
theorem appendNone {P : Program} {w : World} (t ty e : TypeId) (i : TypeInfo) (ht : P.underlying t = some (.slice e)) (hi : P.info? e = some i) (g c : Nat) :
    (Builtin.append_ #[t, t] ty #[.slice (some ⟨g, 0, none⟩) 0 0, .slice none 0 c]).run P w = .ok (.slice (some ⟨g, 0, none⟩) 0 0) w := by
  simp [Builtin.append_, run_underlying ht, sizeOf, typeInfo, hi, Builtin.lenOf, Builtin.firstCells, storeCells]
theorem wpList_copy {P : Program} {w : World} {ops : Array Oper} {rest : List Oper} {o : Oper} {a : Act} {Q : Exit → Act → World → Prop} (hgd : o.guard = none) (s x : Operand) (t : TypeId)
    (ho : o.op = .call { callee := .builtin .append, args := #[s, x], argTypes := #[t, t] })
    (e : TypeId) (i : TypeInfo) (z : Value) (size bytes : Nat) (ht : P.underlying t = some (.slice e)) (hi : P.info? e = some i) (hz : i.zero = some z)
    (hsize : i.size = size) (hby : i.bytes = bytes) (hzs : z.cells.size = size) (hsz : 0 < size)
    (base g : Nat) (hs : a.eval s = .slice (some ⟨g, 0, none⟩) 0 0) (hbg : base ≤ g) (hg : w.heap[g]? = some (.cells #[] e (0, 0)))
    (A : Option Addr) (m c : Nat) (C : Nat → Nat → Value) (hx : a.eval x = .slice A m c) (hA : Arr w A m c size C) (h1 : ∀ i j, (C i j).oneCell' = true)
    (h63 : m ≤ maxLen) (hbytes : m * bytes ≤ 140737488355328)
    (h : ∀ A' c' w', w'.ownsRow base e size (.slice A' m c') m (flat m size C) → Below base w w' → wpList P ops Q rest (a.put o.dst (.slice A' m c')) w') : wpList P ops Q (o :: rest) a w := by
  have hlt : g < w.heap.size := by
    rcases Nat.lt_or_ge g w.heap.size with h | h
    · exact h
    · rw [Array.getElem?_eq_none h] at hg; cases hg
  have hown : w.ownsRow base e size (.slice (some ⟨g, 0, none⟩) 0 0) 0 [] := ⟨by simp, .inr ⟨g, 0, #[], rfl, hbg, hg, Nat.le_refl _, Nat.zero_le _, by simp, by simp⟩⟩
  cases A with
  | none =>
    have hm : m = 0 := by
      rcases Nat.eq_zero_or_pos m with h | h
      · exact h
      · obtain ⟨_, _, he, -⟩ := hA.2.2 h
        cases he
    subst hm
    refine wpList_plain hgd fun K hK => ?_
    unfold Oper.wp execOp
    simp only [ho, resolve, invoke, builtin, Sem.run_bind, Sem.run_pure, Result.andThen_ok, List.map_toArray, List.map_cons, List.map_nil, hs, hx, appendNone t o.type e i ht hi g c]
    exact hK _ _ (h _ 0 w (by simpa [flat] using hown) (Below.refl _ _))
  | some ad =>
    refine wpList_append_own_at w hgd s x t ho base e i z size bytes ht hi hz hsize hby hzs hsz _ 0 [] hs hown ad m c (flat m size C) hx (by simp [flat]) ?_ ?_ (by simpa using h63) (by simpa using hbytes) (by omega) ?_
    · intro j u hu
      have hj : j < m * size := by
        rcases Nat.lt_or_ge j (m * size) with h | h
        · exact h
        · rw [List.getElem?_eq_none (by simpa [flat] using h)] at hu; cases hu
      rw [flat_get _ hj] at hu
      injection hu with hu
      have hm : 0 < m := Nat.pos_of_ne_zero fun h => by rw [h, Nat.zero_mul] at hj; omega
      obtain ⟨b, o', he, hc⟩ := hA.2.2 hm
      injection he with he
      subst he
      have hq := hc (j / size) (j % size) (Nat.div_lt_of_lt_mul (by rw [Nat.mul_comm]; exact hj)) (Nat.mod_lt _ hsz)
      have e1 : o' + j / size * size + j % size = o' + j := by
        have := Nat.div_add_mod j size
        rw [Nat.mul_comm] at this
        omega
      rw [e1, hu] at hq
      unfold Addr.add
      by_cases h0 : j = 0
      · subst h0; simpa using hq
      · rw [if_neg h0]; exact hq
    · intro u hu
      unfold flat at hu
      simp only [List.mem_map] at hu
      obtain ⟨t, -, rfl⟩ := hu
      exact h1 _ _
    · intro v' w' h2 h3 _ _
      have h2' : w'.ownsRow base e size v' m (flat m size C) := by simpa using h2
      obtain ⟨A', c', rfl, -⟩ := own_row h2'
      exact h A' c' w' h2' ((Below.refl _ _).grown h3 (by omega) (fun k hk => by
        have : g = k := by simpa [Value.ownBlock] using hk
        omega))
end Go.Proofs.YtfjdnbnalihjiaaGreatDoor

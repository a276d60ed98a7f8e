import Derived.WalkKit
import Derived.Deep.Draws
/- Plain functions and facts about tariffs and trips: lists and numbers alone, nothing of the program. No condition. -/
namespace Go.Proofs.YtfjdnbnalihjiaaGreatDoor.Fs

/-! ### data -/
structure Rule where
  name : ByteArray
  lo : Int
  hi : Int
  zones : List Int
  days : List Int
  beg : Int
  fin : Int
  start : Int
  metre : Int
  second : Int

structure Extra where
  name : ByteArray
  amount : Int

structure Fix where
  src : Int
  dst : Int
  amount : Int

structure Tar where
  name : ByteArray
  unit : Int
  step : Int
  zones : List ByteArray
  hols : List Int
  rules : List Rule
  extras : List Extra
  fixed : List Fix

structure Seg where
  zone : Int
  metres : Int
  seconds : Int

structure Trip where
  date : Int
  time : Int
  fixed : Bool
  extras : List Int
  segs : List Seg

def r0 : Rule := ⟨ByteArray.empty, 0, 0, [], [], 0, 0, 0, 0, 0⟩
def e0 : Extra := ⟨ByteArray.empty, 0⟩
def f0 : Fix := ⟨0, 0, 0⟩
def s0 : Seg := ⟨0, 0, 0⟩
def listI (l : List Int) (i : Nat) : Int := l.getD i 0
def listS (l : List ByteArray) (i : Nat) : ByteArray := l.getD i ByteArray.empty
def listR (l : List Rule) (i : Nat) : Rule := l.getD i r0
def listE (l : List Extra) (i : Nat) : Extra := l.getD i e0
def listF (l : List Fix) (i : Nat) : Fix := l.getD i f0
def listG (l : List Seg) (i : Nat) : Seg := l.getD i s0

/-! ### the first of many -/
/-- The first value of f below n that is not 0, or 0. -/
def fst (f : Nat → Int) : Nat → Int
  | 0 => 0
  | n + 1 => if fst f n = 0 then f n else fst f n
/-- Where it stands (0: nowhere). -/
def idx (f : Nat → Int) : Nat → Nat
  | 0 => 0
  | n + 1 => if fst f n = 0 then (if f n = 0 then 0 else n) else idx f n

theorem fst_none {f : Nat → Int} {n : Nat} (h : ∀ i, i < n → f i = 0) : fst f n = 0 := by
  induction n with
  | zero => rfl
  | succ n ih => rw [fst, if_pos (ih fun i hi => h i (by omega))]; exact h n (by omega)
theorem idx_none {f : Nat → Int} {n : Nat} (h : ∀ i, i < n → f i = 0) : idx f n = 0 := by
  cases n with
  | zero => rfl
  | succ n => rw [idx, if_pos (fst_none fun i hi => h i (by omega)), if_pos (h n (by omega))]
theorem fst_hit {f : Nat → Int} {k : Nat} : ∀ {n : Nat}, k < n → (∀ i, i < k → f i = 0) → f k ≠ 0 → fst f n = f k ∧ idx f n = k := by
  intro n
  induction n with
  | zero => intro h; omega
  | succ n ih =>
    intro hk h0 h1
    by_cases e : k = n
    · subst e
      have := fst_none h0
      exact ⟨by rw [fst, if_pos this], by rw [idx, if_pos this, if_neg h1]⟩
    · obtain ⟨a, b⟩ := ih (by omega) h0 h1
      have hne : fst f n ≠ 0 := by rw [a]; exact h1
      exact ⟨by rw [fst, if_neg hne, a], by rw [idx, if_neg hne, b]⟩
theorem fst_zero {f : Nat → Int} {n : Nat} (h : fst f n = 0) : ∀ i, i < n → f i = 0 := by
  induction n with
  | zero => intro i hi; omega
  | succ n ih =>
    rw [fst] at h
    split at h
    · rename_i h0
      intro i hi
      by_cases e : i = n
      · subst e; exact h
      · exact ih h0 i (by omega)
    · rename_i h0; exact absurd h h0
theorem fst_congr {f g : Nat → Int} {n : Nat} (h : ∀ i, i < n → f i = g i) : fst f n = fst g n ∧ idx f n = idx g n := by
  induction n with
  | zero => exact ⟨rfl, rfl⟩
  | succ n ih =>
    obtain ⟨a, b⟩ := ih fun i hi => h i (by omega)
    have c := h n (by omega)
    exact ⟨by rw [fst, fst, a, c], by rw [idx, idx, a, b, c]⟩

/-! ### small -/
def within (n a b : Int) : Bool := decide (a ≤ n) && decide (n ≤ b)
theorem within_yes {n a b : Int} (h : a ≤ n ∧ n ≤ b) : within n a b = true := by simp [within, h.1, h.2]
theorem within_no {n a b : Int} (h : ¬ (a ≤ n ∧ n ≤ b)) : within n a b = false := by
  unfold within; rw [Bool.and_eq_false_iff]; simp only [decide_eq_false_iff_not]; omega
theorem within_iff {n a b : Int} : within n a b = true ↔ a ≤ n ∧ n ≤ b := by simp [within]
theorem within_iff' {n a b : Int} : within n a b = false ↔ ¬ (a ≤ n ∧ n ≤ b) := by
  constructor
  · intro h h'; rw [within_yes h'] at h; cases h
  · exact within_no

def many (n a b : Int) : Bool := (decide (a < n) && decide (n ≤ b)) || decide (b + 2 < n)
def letter (c : UInt8) : Bool := (decide (97 ≤ c.toNat) && decide (c.toNat ≤ 122)) || (decide (65 ≤ c.toNat) && decide (c.toNat ≤ 90))
def digit (c : UInt8) : Bool := decide (48 ≤ c.toNat) && decide (c.toNat ≤ 57)
def nameByte (c : UInt8) : Bool := letter c || digit c || c.toNat == 45
def byteAt (s : ByteArray) (i : Nat) : UInt8 := s.data.toList.getD i 0
def isName (s : ByteArray) : Bool := decide (1 ≤ s.size) && decide (s.size ≤ 12) && letter (byteAt s 0) && decide (∀ j, j < s.size → nameByte (byteAt s j) = true)
def short (X : Trip) : Bool := !many X.segs.length 8 60 && decide (X.extras.length ≤ 8)
def isDate (d : Int) : Bool := within d 0 100000

/-- Where x stands first in l, or -1. -/
def indexOf (l : List Int) (x : Int) : Int := match (List.range l.length).find? fun i => listI l i == x with
  | some i => i
  | none => -1
theorem find_hit {p : Nat → Bool} {n k : Nat} (hk : k < n) (h : ∀ j, j < k → p j = false) (hp : p k = true) : (List.range n).find? p = some k := by
  rw [List.find?_range_eq_some]
  exact ⟨hp, by simpa using hk, fun j hj => by simp [h j hj]⟩
theorem find_none {p : Nat → Bool} {n : Nat} (h : ∀ j, j < n → p j = false) : (List.range n).find? p = none := by
  rw [List.find?_eq_none]
  intro j hj
  rw [h j (by simpa using hj)]
  decide
theorem indexOf_hit {l : List Int} {x : Int} {k : Nat} (hk : k < l.length) (h : ∀ j, j < k → listI l j ≠ x) (hx : listI l k = x) : indexOf l x = k := by
  unfold indexOf
  rw [find_hit hk (fun j hj => by simpa using h j hj) (by simpa using hx)]
theorem indexOf_none {l : List Int} {x : Int} (h : ∀ j, j < l.length → listI l j ≠ x) : indexOf l x = -1 := by
  unfold indexOf
  rw [find_none (fun j hj => by simpa using h j hj)]
theorem listI_mem {l : List Int} {k : Nat} (hk : k < l.length) : listI l k ∈ l := by
  unfold listI; rw [List.getD_eq_getElem?_getD, List.getElem?_eq_getElem hk]; simp
theorem mem_listI {l : List Int} {x : Int} (h : x ∈ l) : ∃ k, k < l.length ∧ listI l k = x := by
  obtain ⟨k, hk, e⟩ := List.getElem_of_mem h
  exact ⟨k, hk, by unfold listI; rw [List.getD_eq_getElem?_getD, List.getElem?_eq_getElem hk]; simpa using e⟩
theorem indexOf_ge (l : List Int) (x : Int) : decide (0 ≤ indexOf l x) = l.contains x := by
  unfold indexOf
  cases h : (List.range l.length).find? fun i => listI l i == x with
  | some i =>
    have h1 := List.find?_some h
    have h2 := List.mem_of_find?_eq_some h
    have : x ∈ l := by
      have e : listI l i = x := by simpa using h1
      rw [← e]
      exact listI_mem (by simpa using h2)
    have h3 : (0 : Int) ≤ (i : Int) := by omega
    simp [this, h3]
  | none =>
    rw [List.find?_eq_none] at h
    have : x ∉ l := fun hm => by
      obtain ⟨k, hk, e⟩ := mem_listI hm
      exact h k (by simpa using hk) (by simpa using e)
    simp [this]
def sumTo (f : Nat → Int) : Nat → Int
  | 0 => 0
  | n + 1 => sumTo f n + f n

/-- The error of name i of names. -/
def errName (name : Nat → ByteArray) (i : Nat) : Int := if isName (name i) then fst (fun j => if name j = name i then 5 else 0) i else 4
def errInSet (l : List Int) (i : Nat) (most out : Int) : Int :=
  if within (listI l i) 0 most then (if 0 < i ∧ listI l i ≤ listI l (i - 1) then 9 else 0) else out
def errSet (l : List Int) (most out : Int) : Int := fst (fun i => errInSet l i most out) l.length
def errTerms (r : Rule) : Int :=
  if within r.beg 0 86399 && within r.fin 0 86400 && within r.start 0 100000 && within r.metre 0 1000000 && within r.second 0 1000000 then 0 else 2
def errRule (T : Tar) (i : Nat) : Int :=
  let r := listR T.rules i
  if errName (fun j => (listR T.rules j).name) i ≠ 0 then errName (fun j => (listR T.rules j).name) i
  else if !(isDate r.lo && isDate r.hi) then 2
  else if r.hi < r.lo then 9
  else if r.zones.length = 0 ∨ r.days.length = 0 then 10
  else if errSet r.zones ((T.zones.length : Int) - 1) 6 ≠ 0 then errSet r.zones ((T.zones.length : Int) - 1) 6
  else if errSet r.days 7 2 ≠ 0 then errSet r.days 7 2
  else errTerms r
def errExtra (T : Tar) (i : Nat) : Int :=
  if errName (fun j => (listE T.extras j).name) i ≠ 0 then errName (fun j => (listE T.extras j).name) i
  else if within (listE T.extras i).amount 0 100000 then 0 else 2
def isZone (T : Tar) (z : Int) : Bool := within z 0 ((T.zones.length : Int) - 1)
/-- Where the first fixed fare from a to b stands below n (n: nowhere). -/
def fixAt (T : Tar) (a b : Int) (n : Nat) : Nat := ((List.range n).find? fun i => (listF T.fixed i).src == a && (listF T.fixed i).dst == b).getD n
def errFix (T : Tar) (i : Nat) : Int :=
  if !(isZone T (listF T.fixed i).src && isZone T (listF T.fixed i).dst) then 6
  else if !(within (listF T.fixed i).amount 0 100000) then 2
  else if fixAt T (listF T.fixed i).src (listF T.fixed i).dst i < i then 5 else 0
def errHead (T : Tar) : Int :=
  if !isName T.name then 4
  else if !(within T.unit 1 999999999 && within T.step 0 100000) then 2
  else if T.zones.length = 0 then 10 else 0
def listLen (T : Tar) : Nat → Nat
  | 0 => T.zones.length
  | 1 => T.hols.length
  | 2 => T.rules.length
  | 3 => T.extras.length
  | _ => T.fixed.length
def listMost : Nat → Nat
  | 0 => 6
  | 1 => 20
  | 2 => 12
  | 3 => 6
  | _ => 16
def listErr (T : Tar) : Nat → Nat → Int
  | 0 => errName (listS T.zones)
  | 1 => fun i => errInSet T.hols i 100000 2
  | 2 => errRule T
  | 3 => errExtra T
  | _ => errFix T
/-- The error of a whole list. -/
def errList (T : Tar) (k : Nat) : Int := if listMost k < listLen T k then 8 else fst (listErr T k) (listLen T k)
/-- The error of a tariff. -/
def errTar (T : Tar) : Int := if errHead T ≠ 0 then errHead T else fst (errList T) 5
/-- .. and its mark. -/
def markTar (T : Tar) : Int × Int :=
  if errHead T ≠ 0 then (0, 0)
  else if fst (errList T) 5 = 0 then (0, 0)
  else if listMost (idx (errList T) 5) < listLen T (idx (errList T) 5) then (0, 0)
  else ((idx (errList T) 5 : Nat) + 1, (idx (listErr T (idx (errList T) 5)) (listLen T (idx (errList T) 5)) : Nat))

/-! ### moments and rules -/
def errMoment (d t : Int) : Int := if isDate d && within t 0 86399 then 0 else 2
def kindOf (T : Tar) (d : Int) : Int := if T.hols.contains d then 7 else d % 7
def onDate (T : Tar) (d : Int) (i : Nat) : Bool := within d (listR T.rules i).lo (listR T.rules i).hi && (listR T.rules i).days.contains (kindOf T d)
def rulesOn (T : Tar) (d : Int) : List Nat := (List.range T.rules.length).filter (onDate T d)
def inHours (r : Rule) (t : Int) : Bool :=
  if r.beg < r.fin then decide (r.beg ≤ t) && decide (t < r.fin) else decide (r.beg ≤ t) || decide (t < r.fin)
def there (T : Tar) (z t : Int) (i : Nat) : Bool := inHours (listR T.rules i) t && (listR T.rules i).zones.contains z
def rulesThere (T : Tar) (today : List Nat) (z t : Int) : List Nat := today.filter (there T z t)
def onlyRule : List Nat → Int × Int
  | [] => (0, 12)
  | [i] => (i, 0)
  | _ => (0, 13)
def ruleAt (T : Tar) (z d t : Int) : Int × Int := onlyRule (rulesThere T (rulesOn T d) z t)
def later (d t s : Int) : Int × Int := (d + (t + s) / 86400, (t + s) % 86400)

/-! ### trips -/
def errExtras (T : Tar) (l : List Int) : Int × Nat :=
  if l.length ≠ T.extras.length then (10, 0) else (fst (fun i => if within (listI l i) 0 20 then 0 else 2) l.length, idx (fun i => if within (listI l i) 0 20 then 0 else 2) l.length)
def errSeg (T : Tar) (s : Seg) : Int := if !isZone T s.zone then 6 else if within s.metres 0 100000 && within s.seconds 1 36000 then 0 else 2
def errSegs (T : Tar) (l : List Seg) : Int × Nat :=
  if l.length = 0 then (10, 0) else if 60 < l.length then (8, 0) else (fst (fun i => errSeg T (listG l i)) l.length, idx (fun i => errSeg T (listG l i)) l.length)
def checkTrip (T : Tar) (X : Trip) : Int × Nat :=
  if errTar T ≠ 0 then (errTar T, 0)
  else if errMoment X.date X.time ≠ 0 then (errMoment X.date X.time, 0)
  else if (errExtras T X.extras).1 ≠ 0 then errExtras T X.extras
  else errSegs T X.segs
/-- The moment at which segment k begins. -/
def begins (X : Trip) : Nat → Int × Int
  | 0 => (X.date, X.time)
  | k + 1 => later (begins X k).1 (begins X k).2 (listG X.segs k).seconds
def segRule (T : Tar) (X : Trip) (k : Nat) : Int × Int := ruleAt T (listG X.segs k).zone (begins X k).1 (begins X k).2
def segErr (T : Tar) (X : Trip) (k : Nat) : Int :=
  if errMoment (begins X k).1 (begins X k).2 ≠ 0 then errMoment (begins X k).1 (begins X k).2 else (segRule T X k).2
def errTrip (T : Tar) (X : Trip) : Int := if (checkTrip T X).1 ≠ 0 then (checkTrip T X).1 else fst (segErr T X) X.segs.length
def rulesOf (T : Tar) (X : Trip) : List Int := if errTrip T X ≠ 0 then [] else (List.range X.segs.length).map fun k => (segRule T X k).1

end Go.Proofs.YtfjdnbnalihjiaaGreatDoor.Fs
/- What it means that a value in memory reads as a tariff or a trip, and that this outlasts whatever leaves old cells as they were. No condition. -/
namespace Go.Proofs.YtfjdnbnalihjiaaGreatDoor
open Go.RowKit Fs

/-- Every cell that was there reads as it did. -/
def Keep (w w' : World) : Prop := ∀ p u, w.cell? p = some u → w'.cell? p = some u
theorem bdrewN {B : Nat} {a w : World} (h : Below B a w) (n : Nat) : Below B a (w.drewN n) := ⟨h.os, h.tape, h.output, h.size, h.block⟩
theorem Keep.refl (w : World) : Keep w w := fun _ _ h => h
theorem Keep.trans {a b c : World} (h : Keep a b) (k : Keep b c) : Keep a c := fun p u hp => k p u (h p u hp)
theorem Keep.below {w w' : World} (h : Below w.heap.size w w') : Keep w w' := fun p _ hp => (h.cell (World.block_lt_of_cell? w p hp)).trans hp
theorem Keep.drew (w : World) : Keep w w.drew := fun _ _ h => h
theorem Keep.drewN (w : World) (n : Nat) : Keep w (w.drewN n) := fun _ _ h => h
theorem Keep.alloc (w : World) (o : Obj) : Keep w (w.alloc o) := fun p _ hp => (World.cell?_alloc_lt w o p (World.block_lt_of_cell? w p hp)).trans hp
theorem Keep.upto {B : Nat} {w w0 w' : World} (h0 : Keep w w0) (hB : w.heap.size ≤ B) (h : Below B w0 w') : Keep w w' := fun p u hp =>
  (h.cell (Nat.lt_of_lt_of_le (World.block_lt_of_cell? w p hp) hB)).trans (h0 p u hp)

theorem cell_new (w : World) (cs : Array Value) (t : TypeId) (i : Nat) : (w.alloc (.cells cs t)).cell? ⟨w.heap.size, i, none⟩ = cs[i]? := cell_of_row _ _ i cs t (0, 0) (heap_alloc_new w _)

/-- A slice of n elements of 'size' cells at A: cell j of element i holds C i j. -/
def Arr (w : World) (A : Option Addr) (n c size : Nat) (C : Nat → Nat → Value) : Prop :=
  n ≤ c ∧ c ≤ 9223372036854775807 ∧ (0 < n → ∃ b o, A = some ⟨b, o, none⟩ ∧ ∀ i j, i < n → j < size → w.cell? ⟨b, o + i * size + j, none⟩ = some (C i j))
theorem Arr.keep {w w' : World} (k : Keep w w') {A : Option Addr} {n c size : Nat} {C : Nat → Nat → Value} (h : Arr w A n c size C) : Arr w' A n c size C := by
  obtain ⟨h1, h2, h3⟩ := h
  refine ⟨h1, h2, fun hn => ?_⟩
  obtain ⟨b, o, e1, hc⟩ := h3 hn
  exact ⟨b, o, e1, fun i j hi hj => k _ _ (hc i j hi hj)⟩
theorem Arr.at_ {w : World} {A : Option Addr} {n c size : Nat} {C : Nat → Nat → Value} (h : Arr w A n c size C) {k : Nat} (hk : k < n) :
    ∃ b o, A = some ⟨b, o, none⟩ ∧ ∀ j, j < size → w.cell? ⟨b, o + k * size + j, none⟩ = some (C k j) := by
  obtain ⟨b, o, e, hc⟩ := h.2.2 (by omega)
  exact ⟨b, o, e, fun j hj => hc k j hk hj⟩

def ArrI (w : World) (A : Option Addr) (l : List Int) (c : Nat) : Prop := Arr w A l.length c 1 fun i _ => .int .i64 (listI l i)
def ArrS (w : World) (A : Option Addr) (l : List ByteArray) (c : Nat) : Prop := Arr w A l.length c 1 fun i _ => .string (listS l i)
theorem ArrI.at_ {w : World} {A : Option Addr} {l : List Int} {c : Nat} (h : ArrI w A l c) {k : Nat} (hk : k < l.length) : ∃ b o, A = some ⟨b, o, none⟩ ∧ w.cell? ⟨b, o + k, none⟩ = some (.int .i64 (listI l k)) := by
  obtain ⟨b, o, e, hc⟩ := Arr.at_ h hk
  exact ⟨b, o, e, by simpa using hc 0 (by omega)⟩
theorem ArrS.at_ {w : World} {A : Option Addr} {l : List ByteArray} {c : Nat} (h : ArrS w A l c) {k : Nat} (hk : k < l.length) : ∃ b o, A = some ⟨b, o, none⟩ ∧ w.cell? ⟨b, o + k, none⟩ = some (.string (listS l k)) := by
  obtain ⟨b, o, e, hc⟩ := Arr.at_ h hk
  exact ⟨b, o, e, by simpa using hc 0 (by omega)⟩
theorem ArrI.keep {w w' : World} (k : Keep w w') {A : Option Addr} {l : List Int} {c : Nat} (h : ArrI w A l c) : ArrI w' A l c := Arr.keep k h
theorem ArrS.keep {w w' : World} (k : Keep w w') {A : Option Addr} {l : List ByteArray} {c : Nat} (h : ArrS w A l c) : ArrS w' A l c := Arr.keep k h
theorem ArrI.le {w : World} {A : Option Addr} {l : List Int} {c : Nat} (h : ArrI w A l c) : l.length ≤ c ∧ c ≤ 9223372036854775807 := ⟨h.1, h.2.1⟩
theorem ArrS.le {w : World} {A : Option Addr} {l : List ByteArray} {c : Nat} (h : ArrS w A l c) : l.length ≤ c ∧ c ≤ 9223372036854775807 := ⟨h.1, h.2.1⟩

/-- The cells of a rule whose two slices lie at z and d. -/
def ruleCells (r : Rule) (z d : Option Addr) (zc dc : Nat) : Nat → Value
  | 0 => .string r.name
  | 1 => .int .i64 r.lo
  | 2 => .int .i64 r.hi
  | 3 => .slice z r.zones.length zc
  | 4 => .slice d r.days.length dc
  | 5 => .int .i64 r.beg
  | 6 => .int .i64 r.fin
  | 7 => .int .i64 r.start
  | 8 => .int .i64 r.metre
  | _ => .int .i64 r.second
abbrev ruleV (r : Rule) (z d : Option Addr) (zc dc : Nat) : Value :=
  .agg #[.string r.name, .int .i64 r.lo, .int .i64 r.hi, .slice z r.zones.length zc, .slice d r.days.length dc, .int .i64 r.beg, .int .i64 r.fin, .int .i64 r.start, .int .i64 r.metre, .int .i64 r.second]
/-- The slices of all rules: where they lie and their capacities. -/
structure RA where
  z : Nat → Option Addr
  d : Nat → Option Addr
  zc : Nat → Nat
  dc : Nat → Nat
def ArrR (w : World) (A : Option Addr) (l : List Rule) (c : Nat) (a : RA) : Prop :=
  Arr w A l.length c 10 (fun i j => ruleCells (listR l i) (a.z i) (a.d i) (a.zc i) (a.dc i) j) ∧ ∀ i, i < l.length → ArrI w (a.z i) (listR l i).zones (a.zc i) ∧ ArrI w (a.d i) (listR l i).days (a.dc i)
theorem ArrR.keep {w w' : World} (k : Keep w w') {A : Option Addr} {l : List Rule} {c : Nat} {a : RA} (h : ArrR w A l c a) : ArrR w' A l c a :=
  ⟨Arr.keep k h.1, fun i hi => ⟨(h.2 i hi).1.keep k, (h.2 i hi).2.keep k⟩⟩
theorem ArrR.le {w : World} {A : Option Addr} {l : List Rule} {c : Nat} {a : RA} (h : ArrR w A l c a) : l.length ≤ c ∧ c ≤ 9223372036854775807 := ⟨h.1.1, h.1.2.1⟩
/-- The ten cells of rule k. -/
structure RuleAt (w : World) (b o : Nat) (r : Rule) (z d : Option Addr) (zc dc : Nat) : Prop where
  c0 : w.cell? ⟨b, o, none⟩ = some (.string r.name)
  c1 : w.cell? ⟨b, o + 1, none⟩ = some (.int .i64 r.lo)
  c2 : w.cell? ⟨b, o + 2, none⟩ = some (.int .i64 r.hi)
  c3 : w.cell? ⟨b, o + 3, none⟩ = some (.slice z r.zones.length zc)
  c4 : w.cell? ⟨b, o + 4, none⟩ = some (.slice d r.days.length dc)
  c5 : w.cell? ⟨b, o + 5, none⟩ = some (.int .i64 r.beg)
  c6 : w.cell? ⟨b, o + 6, none⟩ = some (.int .i64 r.fin)
  c7 : w.cell? ⟨b, o + 7, none⟩ = some (.int .i64 r.start)
  c8 : w.cell? ⟨b, o + 8, none⟩ = some (.int .i64 r.metre)
  c9 : w.cell? ⟨b, o + 9, none⟩ = some (.int .i64 r.second)
theorem ArrR.at_ {w : World} {A : Option Addr} {l : List Rule} {c : Nat} {a : RA} (h : ArrR w A l c a) {k : Nat} (hk : k < l.length) :
    ∃ b o, A = some ⟨b, o, none⟩ ∧ RuleAt w b (o + k * 10) (listR l k) (a.z k) (a.d k) (a.zc k) (a.dc k) := by
  obtain ⟨b, o, e, hc⟩ := h.1.at_ hk
  exact ⟨b, o, e, hc 0 (by omega), hc 1 (by omega), hc 2 (by omega), hc 3 (by omega), hc 4 (by omega), hc 5 (by omega), hc 6 (by omega), hc 7 (by omega), hc 8 (by omega), hc 9 (by omega)⟩

def extraCells (x : Extra) : Nat → Value
  | 0 => .string x.name
  | _ => .int .i64 x.amount
def ArrE (w : World) (A : Option Addr) (l : List Extra) (c : Nat) : Prop := Arr w A l.length c 2 fun i j => extraCells (listE l i) j
theorem ArrE.keep {w w' : World} (k : Keep w w') {A : Option Addr} {l : List Extra} {c : Nat} (h : ArrE w A l c) : ArrE w' A l c := Arr.keep k h
theorem ArrE.le {w : World} {A : Option Addr} {l : List Extra} {c : Nat} (h : ArrE w A l c) : l.length ≤ c ∧ c ≤ 9223372036854775807 := ⟨h.1, h.2.1⟩
theorem ArrE.at_ {w : World} {A : Option Addr} {l : List Extra} {c : Nat} (h : ArrE w A l c) {k : Nat} (hk : k < l.length) :
    ∃ b o, A = some ⟨b, o, none⟩ ∧ w.cell? ⟨b, o + k * 2, none⟩ = some (.string (listE l k).name) ∧ w.cell? ⟨b, o + k * 2 + 1, none⟩ = some (.int .i64 (listE l k).amount) := by
  obtain ⟨b, o, e, hc⟩ := Arr.at_ h hk
  exact ⟨b, o, e, hc 0 (by omega), hc 1 (by omega)⟩
def fixCells (x : Fix) : Nat → Value
  | 0 => .int .i64 x.src
  | 1 => .int .i64 x.dst
  | _ => .int .i64 x.amount
def ArrF (w : World) (A : Option Addr) (l : List Fix) (c : Nat) : Prop := Arr w A l.length c 3 fun i j => fixCells (listF l i) j
theorem ArrF.keep {w w' : World} (k : Keep w w') {A : Option Addr} {l : List Fix} {c : Nat} (h : ArrF w A l c) : ArrF w' A l c := Arr.keep k h
theorem ArrF.le {w : World} {A : Option Addr} {l : List Fix} {c : Nat} (h : ArrF w A l c) : l.length ≤ c ∧ c ≤ 9223372036854775807 := ⟨h.1, h.2.1⟩
theorem ArrF.at_ {w : World} {A : Option Addr} {l : List Fix} {c : Nat} (h : ArrF w A l c) {k : Nat} (hk : k < l.length) :
    ∃ b o, A = some ⟨b, o, none⟩ ∧ w.cell? ⟨b, o + k * 3, none⟩ = some (.int .i64 (listF l k).src) ∧ w.cell? ⟨b, o + k * 3 + 1, none⟩ = some (.int .i64 (listF l k).dst) ∧ w.cell? ⟨b, o + k * 3 + 2, none⟩ = some (.int .i64 (listF l k).amount) := by
  obtain ⟨b, o, e, hc⟩ := Arr.at_ h hk
  exact ⟨b, o, e, hc 0 (by omega), hc 1 (by omega), hc 2 (by omega)⟩
def segCells (x : Seg) : Nat → Value
  | 0 => .int .i64 x.zone
  | 1 => .int .i64 x.metres
  | _ => .int .i64 x.seconds
def ArrG (w : World) (A : Option Addr) (l : List Seg) (c : Nat) : Prop := Arr w A l.length c 3 fun i j => segCells (listG l i) j
theorem ArrG.keep {w w' : World} (k : Keep w w') {A : Option Addr} {l : List Seg} {c : Nat} (h : ArrG w A l c) : ArrG w' A l c := Arr.keep k h
theorem ArrG.le {w : World} {A : Option Addr} {l : List Seg} {c : Nat} (h : ArrG w A l c) : l.length ≤ c ∧ c ≤ 9223372036854775807 := ⟨h.1, h.2.1⟩
theorem ArrG.at_ {w : World} {A : Option Addr} {l : List Seg} {c : Nat} (h : ArrG w A l c) {k : Nat} (hk : k < l.length) :
    ∃ b o, A = some ⟨b, o, none⟩ ∧ w.cell? ⟨b, o + k * 3, none⟩ = some (.int .i64 (listG l k).zone) ∧ w.cell? ⟨b, o + k * 3 + 1, none⟩ = some (.int .i64 (listG l k).metres) ∧ w.cell? ⟨b, o + k * 3 + 2, none⟩ = some (.int .i64 (listG l k).seconds) := by
  obtain ⟨b, o, e, hc⟩ := Arr.at_ h hk
  exact ⟨b, o, e, hc 0 (by omega), hc 1 (by omega), hc 2 (by omega)⟩

/-- What a tariff's value leads to. -/
structure TarM (w : World) (T : Tar) (z h r e f : Option Addr) (zc hc rc ec fc : Nat) (a : RA) : Prop where
  zones : ArrS w z T.zones zc
  hols : ArrI w h T.hols hc
  rules : ArrR w r T.rules rc a
  extras : ArrE w e T.extras ec
  fixed : ArrF w f T.fixed fc
abbrev tarV (T : Tar) (z h r e f : Option Addr) (zc hc rc ec fc : Nat) : Value :=
  .agg #[.string T.name, .int .i64 T.unit, .int .i64 T.step, .slice z T.zones.length zc, .slice h T.hols.length hc, .slice r T.rules.length rc, .slice e T.extras.length ec, .slice f T.fixed.length fc]
theorem TarM.keep {w w' : World} (k : Keep w w') {T : Tar} {z h r e f : Option Addr} {zc hc rc ec fc : Nat} {a : RA} (m : TarM w T z h r e f zc hc rc ec fc a) : TarM w' T z h r e f zc hc rc ec fc a :=
  ⟨m.zones.keep k, m.hols.keep k, m.rules.keep k, m.extras.keep k, m.fixed.keep k⟩
/-- The value v reads as the tariff T. -/
def RdTar (w : World) (v : Value) (T : Tar) : Prop := ∃ z h r e f zc hc rc ec fc a, v = tarV T z h r e f zc hc rc ec fc ∧ TarM w T z h r e f zc hc rc ec fc a
theorem RdTar.keep {w w' : World} (k : Keep w w') {v : Value} {T : Tar} (h : RdTar w v T) : RdTar w' v T := by
  obtain ⟨z, h, r, e, f, zc, hc, rc, ec, fc, a, hv, m⟩ := h
  exact ⟨z, h, r, e, f, zc, hc, rc, ec, fc, a, hv, m.keep k⟩
abbrev tripV (X : Trip) (e s : Option Addr) (ec sc : Nat) : Value := .agg #[.int .i64 X.date, .int .i64 X.time, .bool X.fixed, .slice e X.extras.length ec, .slice s X.segs.length sc]
def RdTrip (w : World) (v : Value) (X : Trip) : Prop := ∃ e s ec sc, v = tripV X e s ec sc ∧ ArrI w e X.extras ec ∧ ArrG w s X.segs sc
theorem RdTrip.keep {w w' : World} (k : Keep w w') {v : Value} {X : Trip} (h : RdTrip w v X) : RdTrip w' v X := by
  obtain ⟨e, s, ec, sc, hv, h1, h2⟩ := h
  exact ⟨e, s, ec, sc, hv, h1.keep k, h2.keep k⟩
def RdRule (w : World) (v : Value) (r : Rule) : Prop := ∃ z d zc dc, v = ruleV r z d zc dc ∧ ArrI w z r.zones zc ∧ ArrI w d r.days dc
theorem RdRule.keep {w w' : World} (k : Keep w w') {v : Value} {r : Rule} (h : RdRule w v r) : RdRule w' v r := by
  obtain ⟨e, s, ec, sc, hv, h1, h2⟩ := h
  exact ⟨e, s, ec, sc, hv, h1.keep k, h2.keep k⟩

end Go.Proofs.YtfjdnbnalihjiaaGreatDoor

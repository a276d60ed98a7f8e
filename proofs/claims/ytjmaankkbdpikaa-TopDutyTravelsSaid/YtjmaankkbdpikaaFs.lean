import Derived.Lib.SplitLaws
import Derived.Lib.Split
import Derived.Lib.Join
import Derived.Shelf.Strings.OnBuilder
import Derived.Shelf.Strings.Split
import Derived.Shelf.Slices.Turned
import Derived.Ground.Names2Prog
import Derived.Test.YtjmaankkbdpikaaProg
/- Plain functions and facts about tariffs and trips: lists and numbers alone, nothing of the program. No condition. -/
namespace Go.Proofs.Ytjmaankkbdpikaa.Fs

/-! ### data -/
structure Rule where
  name : ByteArray
  lo : Int
  hi : Int
  zones : List Int
  days : List Int
  beg : Int
  fin : Int
  start : Int
  metre : Int
  second : Int

structure Extra where
  name : ByteArray
  amount : Int

structure Fix where
  src : Int
  dst : Int
  amount : Int

structure Tar where
  name : ByteArray
  unit : Int
  step : Int
  zones : List ByteArray
  hols : List Int
  rules : List Rule
  extras : List Extra
  fixed : List Fix

structure Seg where
  zone : Int
  metres : Int
  seconds : Int

structure Trip where
  date : Int
  time : Int
  fixed : Bool
  extras : List Int
  segs : List Seg

def r0 : Rule := ⟨ByteArray.empty, 0, 0, [], [], 0, 0, 0, 0, 0⟩
def e0 : Extra := ⟨ByteArray.empty, 0⟩
def f0 : Fix := ⟨0, 0, 0⟩
def s0 : Seg := ⟨0, 0, 0⟩
def listI (l : List Int) (i : Nat) : Int := l.getD i 0
def listS (l : List ByteArray) (i : Nat) : ByteArray := l.getD i ByteArray.empty
def listR (l : List Rule) (i : Nat) : Rule := l.getD i r0
def listE (l : List Extra) (i : Nat) : Extra := l.getD i e0
def listF (l : List Fix) (i : Nat) : Fix := l.getD i f0
def listG (l : List Seg) (i : Nat) : Seg := l.getD i s0

/-! ### the first of many -/
/-- The first value of f below n that is not 0, or 0. -/
def fst (f : Nat → Int) : Nat → Int
  | 0 => 0
  | n + 1 => if fst f n = 0 then f n else fst f n
/-- Where it stands (0: nowhere). -/
def idx (f : Nat → Int) : Nat → Nat
  | 0 => 0
  | n + 1 => if fst f n = 0 then (if f n = 0 then 0 else n) else idx f n

theorem fst_none {f : Nat → Int} {n : Nat} (h : ∀ i, i < n → f i = 0) : fst f n = 0 := by
  induction n with
  | zero => rfl
  | succ n ih => rw [fst, if_pos (ih fun i hi => h i (by omega))]; exact h n (by omega)
theorem idx_none {f : Nat → Int} {n : Nat} (h : ∀ i, i < n → f i = 0) : idx f n = 0 := by
  cases n with
  | zero => rfl
  | succ n => rw [idx, if_pos (fst_none fun i hi => h i (by omega)), if_pos (h n (by omega))]
theorem fst_hit {f : Nat → Int} {k : Nat} : ∀ {n : Nat}, k < n → (∀ i, i < k → f i = 0) → f k ≠ 0 → fst f n = f k ∧ idx f n = k := by
  intro n
  induction n with
  | zero => intro h; omega
  | succ n ih =>
    intro hk h0 h1
    by_cases e : k = n
    · subst e
      have := fst_none h0
      exact ⟨by rw [fst, if_pos this], by rw [idx, if_pos this, if_neg h1]⟩
    · obtain ⟨a, b⟩ := ih (by omega) h0 h1
      have hne : fst f n ≠ 0 := by rw [a]; exact h1
      exact ⟨by rw [fst, if_neg hne, a], by rw [idx, if_neg hne, b]⟩
theorem fst_zero {f : Nat → Int} {n : Nat} (h : fst f n = 0) : ∀ i, i < n → f i = 0 := by
  induction n with
  | zero => intro i hi; omega
  | succ n ih =>
    rw [fst] at h
    split at h
    · rename_i h0
      intro i hi
      by_cases e : i = n
      · subst e; exact h
      · exact ih h0 i (by omega)
    · rename_i h0; exact absurd h h0
theorem fst_congr {f g : Nat → Int} {n : Nat} (h : ∀ i, i < n → f i = g i) : fst f n = fst g n ∧ idx f n = idx g n := by
  induction n with
  | zero => exact ⟨rfl, rfl⟩
  | succ n ih =>
    obtain ⟨a, b⟩ := ih fun i hi => h i (by omega)
    have c := h n (by omega)
    exact ⟨by rw [fst, fst, a, c], by rw [idx, idx, a, b, c]⟩

/-! ### small -/
def within (n a b : Int) : Bool := decide (a ≤ n) && decide (n ≤ b)
theorem within_yes {n a b : Int} (h : a ≤ n ∧ n ≤ b) : within n a b = true := by simp [within, h.1, h.2]
theorem within_no {n a b : Int} (h : ¬ (a ≤ n ∧ n ≤ b)) : within n a b = false := by
  unfold within; rw [Bool.and_eq_false_iff]; simp only [decide_eq_false_iff_not]; omega
theorem within_iff {n a b : Int} : within n a b = true ↔ a ≤ n ∧ n ≤ b := by simp [within]
theorem within_iff' {n a b : Int} : within n a b = false ↔ ¬ (a ≤ n ∧ n ≤ b) := by
  constructor
  · intro h h'; rw [within_yes h'] at h; cases h
  · exact within_no

def many (n a b : Int) : Bool := (decide (a < n) && decide (n ≤ b)) || decide (b + 2 < n)
def letter (c : UInt8) : Bool := (decide (97 ≤ c.toNat) && decide (c.toNat ≤ 122)) || (decide (65 ≤ c.toNat) && decide (c.toNat ≤ 90))
def digit (c : UInt8) : Bool := decide (48 ≤ c.toNat) && decide (c.toNat ≤ 57)
def nameByte (c : UInt8) : Bool := letter c || digit c || c.toNat == 45
def byteAt (s : ByteArray) (i : Nat) : UInt8 := s.data.toList.getD i 0
def isName (s : ByteArray) : Bool := decide (1 ≤ s.size) && decide (s.size ≤ 12) && letter (byteAt s 0) && decide (∀ j, j < s.size → nameByte (byteAt s j) = true)
def short (X : Trip) : Bool := !many X.segs.length 8 60 && decide (X.extras.length ≤ 8)
def isDate (d : Int) : Bool := within d 0 100000

/-- Where x stands first in l, or -1. -/
def indexOf (l : List Int) (x : Int) : Int := match (List.range l.length).find? fun i => listI l i == x with
  | some i => i
  | none => -1
theorem find_hit {p : Nat → Bool} {n k : Nat} (hk : k < n) (h : ∀ j, j < k → p j = false) (hp : p k = true) : (List.range n).find? p = some k := by
  rw [List.find?_range_eq_some]
  exact ⟨hp, by simpa using hk, fun j hj => by simp [h j hj]⟩
theorem find_none {p : Nat → Bool} {n : Nat} (h : ∀ j, j < n → p j = false) : (List.range n).find? p = none := by
  rw [List.find?_eq_none]
  intro j hj
  rw [h j (by simpa using hj)]
  decide
theorem indexOf_hit {l : List Int} {x : Int} {k : Nat} (hk : k < l.length) (h : ∀ j, j < k → listI l j ≠ x) (hx : listI l k = x) : indexOf l x = k := by
  unfold indexOf
  rw [find_hit hk (fun j hj => by simpa using h j hj) (by simpa using hx)]
theorem indexOf_none {l : List Int} {x : Int} (h : ∀ j, j < l.length → listI l j ≠ x) : indexOf l x = -1 := by
  unfold indexOf
  rw [find_none (fun j hj => by simpa using h j hj)]
theorem listI_mem {l : List Int} {k : Nat} (hk : k < l.length) : listI l k ∈ l := by
  unfold listI; rw [List.getD_eq_getElem?_getD, List.getElem?_eq_getElem hk]; simp
theorem mem_listI {l : List Int} {x : Int} (h : x ∈ l) : ∃ k, k < l.length ∧ listI l k = x := by
  obtain ⟨k, hk, e⟩ := List.getElem_of_mem h
  exact ⟨k, hk, by unfold listI; rw [List.getD_eq_getElem?_getD, List.getElem?_eq_getElem hk]; simpa using e⟩
theorem indexOf_ge (l : List Int) (x : Int) : decide (0 ≤ indexOf l x) = l.contains x := by
  unfold indexOf
  cases h : (List.range l.length).find? fun i => listI l i == x with
  | some i =>
    have h1 := List.find?_some h
    have h2 := List.mem_of_find?_eq_some h
    have : x ∈ l := by
      have e : listI l i = x := by simpa using h1
      rw [← e]
      exact listI_mem (by simpa using h2)
    have h3 : (0 : Int) ≤ (i : Int) := by omega
    simp [this, h3]
  | none =>
    rw [List.find?_eq_none] at h
    have : x ∉ l := fun hm => by
      obtain ⟨k, hk, e⟩ := mem_listI hm
      exact h k (by simpa using hk) (by simpa using e)
    simp [this]
def sumTo (f : Nat → Int) : Nat → Int
  | 0 => 0
  | n + 1 => sumTo f n + f n

/-- The error of name i of names. -/
def errName (name : Nat → ByteArray) (i : Nat) : Int := if isName (name i) then fst (fun j => if name j = name i then 5 else 0) i else 4
def errInSet (l : List Int) (i : Nat) (most out : Int) : Int :=
  if within (listI l i) 0 most then (if 0 < i ∧ listI l i ≤ listI l (i - 1) then 9 else 0) else out
def errSet (l : List Int) (most out : Int) : Int := fst (fun i => errInSet l i most out) l.length
def errTerms (r : Rule) : Int :=
  if within r.beg 0 86399 && within r.fin 0 86400 && within r.start 0 100000 && within r.metre 0 1000000 && within r.second 0 1000000 then 0 else 2
def errRule (T : Tar) (i : Nat) : Int :=
  let r := listR T.rules i
  if errName (fun j => (listR T.rules j).name) i ≠ 0 then errName (fun j => (listR T.rules j).name) i
  else if !(isDate r.lo && isDate r.hi) then 2
  else if r.hi < r.lo then 9
  else if r.zones.length = 0 ∨ r.days.length = 0 then 10
  else if errSet r.zones ((T.zones.length : Int) - 1) 6 ≠ 0 then errSet r.zones ((T.zones.length : Int) - 1) 6
  else if errSet r.days 7 2 ≠ 0 then errSet r.days 7 2
  else errTerms r
def errExtra (T : Tar) (i : Nat) : Int :=
  if errName (fun j => (listE T.extras j).name) i ≠ 0 then errName (fun j => (listE T.extras j).name) i
  else if within (listE T.extras i).amount 0 100000 then 0 else 2
def isZone (T : Tar) (z : Int) : Bool := within z 0 ((T.zones.length : Int) - 1)
/-- Where the first fixed fare from a to b stands below n (n: nowhere). -/
def fixAt (T : Tar) (a b : Int) (n : Nat) : Nat := ((List.range n).find? fun i => (listF T.fixed i).src == a && (listF T.fixed i).dst == b).getD n
def errFix (T : Tar) (i : Nat) : Int :=
  if !(isZone T (listF T.fixed i).src && isZone T (listF T.fixed i).dst) then 6
  else if !(within (listF T.fixed i).amount 0 100000) then 2
  else if fixAt T (listF T.fixed i).src (listF T.fixed i).dst i < i then 5 else 0
def errHead (T : Tar) : Int :=
  if !isName T.name then 4
  else if !(within T.unit 1 999999999 && within T.step 0 100000) then 2
  else if T.zones.length = 0 then 10 else 0
def listLen (T : Tar) : Nat → Nat
  | 0 => T.zones.length
  | 1 => T.hols.length
  | 2 => T.rules.length
  | 3 => T.extras.length
  | _ => T.fixed.length
def listMost : Nat → Nat
  | 0 => 6
  | 1 => 20
  | 2 => 12
  | 3 => 6
  | _ => 16
def listErr (T : Tar) : Nat → Nat → Int
  | 0 => errName (listS T.zones)
  | 1 => fun i => errInSet T.hols i 100000 2
  | 2 => errRule T
  | 3 => errExtra T
  | _ => errFix T
/-- The error of a whole list. -/
def errList (T : Tar) (k : Nat) : Int := if listMost k < listLen T k then 8 else fst (listErr T k) (listLen T k)
/-- The error of a tariff. -/
def errTar (T : Tar) : Int := if errHead T ≠ 0 then errHead T else fst (errList T) 5
/-- .. and its mark. -/
def markTar (T : Tar) : Int × Int :=
  if errHead T ≠ 0 then (0, 0)
  else if fst (errList T) 5 = 0 then (0, 0)
  else if listMost (idx (errList T) 5) < listLen T (idx (errList T) 5) then (0, 0)
  else ((idx (errList T) 5 : Nat) + 1, (idx (listErr T (idx (errList T) 5)) (listLen T (idx (errList T) 5)) : Nat))

/-! ### moments and rules -/
def errMoment (d t : Int) : Int := if isDate d && within t 0 86399 then 0 else 2
def kindOf (T : Tar) (d : Int) : Int := if T.hols.contains d then 7 else d % 7
def onDate (T : Tar) (d : Int) (i : Nat) : Bool := within d (listR T.rules i).lo (listR T.rules i).hi && (listR T.rules i).days.contains (kindOf T d)
def rulesOn (T : Tar) (d : Int) : List Nat := (List.range T.rules.length).filter (onDate T d)
def inHours (r : Rule) (t : Int) : Bool :=
  if r.beg < r.fin then decide (r.beg ≤ t) && decide (t < r.fin) else decide (r.beg ≤ t) || decide (t < r.fin)
def there (T : Tar) (z t : Int) (i : Nat) : Bool := inHours (listR T.rules i) t && (listR T.rules i).zones.contains z
def rulesThere (T : Tar) (today : List Nat) (z t : Int) : List Nat := today.filter (there T z t)
def onlyRule : List Nat → Int × Int
  | [] => (0, 12)
  | [i] => (i, 0)
  | _ => (0, 13)
def ruleAt (T : Tar) (z d t : Int) : Int × Int := onlyRule (rulesThere T (rulesOn T d) z t)
def later (d t s : Int) : Int × Int := (d + (t + s) / 86400, (t + s) % 86400)

/-! ### trips -/
def errExtras (T : Tar) (l : List Int) : Int × Nat :=
  if l.length ≠ T.extras.length then (10, 0) else (fst (fun i => if within (listI l i) 0 20 then 0 else 2) l.length, idx (fun i => if within (listI l i) 0 20 then 0 else 2) l.length)
def errSeg (T : Tar) (s : Seg) : Int := if !isZone T s.zone then 6 else if within s.metres 0 100000 && within s.seconds 1 36000 then 0 else 2
def errSegs (T : Tar) (l : List Seg) : Int × Nat :=
  if l.length = 0 then (10, 0) else if 60 < l.length then (8, 0) else (fst (fun i => errSeg T (listG l i)) l.length, idx (fun i => errSeg T (listG l i)) l.length)
def checkTrip (T : Tar) (X : Trip) : Int × Nat :=
  if errTar T ≠ 0 then (errTar T, 0)
  else if errMoment X.date X.time ≠ 0 then (errMoment X.date X.time, 0)
  else if (errExtras T X.extras).1 ≠ 0 then errExtras T X.extras
  else errSegs T X.segs
/-- The moment at which segment k begins. -/
def begins (X : Trip) : Nat → Int × Int
  | 0 => (X.date, X.time)
  | k + 1 => later (begins X k).1 (begins X k).2 (listG X.segs k).seconds
def segRule (T : Tar) (X : Trip) (k : Nat) : Int × Int := ruleAt T (listG X.segs k).zone (begins X k).1 (begins X k).2
def segErr (T : Tar) (X : Trip) (k : Nat) : Int :=
  if errMoment (begins X k).1 (begins X k).2 ≠ 0 then errMoment (begins X k).1 (begins X k).2 else (segRule T X k).2
def errTrip (T : Tar) (X : Trip) : Int := if (checkTrip T X).1 ≠ 0 then (checkTrip T X).1 else fst (segErr T X) X.segs.length
def rulesOf (T : Tar) (X : Trip) : List Int := if errTrip T X ≠ 0 then [] else (List.range X.segs.length).map fun k => (segRule T X k).1

end Go.Proofs.Ytjmaankkbdpikaa.Fs
/- Plain functions about drivers' hours: lists and numbers alone, nothing of the program. No condition. -/
namespace Go.Proofs.Ytjmaankkbdpikaa.Fs

/-- A record of work, rules, a trip. -/
structure WRec where
  who : ByteArray
  beg : Int
  fin : Int
structure DRules where
  brk : Int
  rest : Int
  stint : Int
  shift : Int
  week : Int
structure DTrip where
  start : Int
  lo : Int
  hi : Int
  next : Int
def w0 : WRec := ⟨ByteArray.empty, 0, 0⟩
def listW (l : List WRec) (i : Nat) : WRec := l.getD i w0

def isClock (n : Int) : Bool := within n 0 8640000000
def ruleOk (n : Int) : Bool := within n 1 2000000
def drulesErr (R : DRules) : Int :=
  if !(ruleOk R.brk && ruleOk R.rest && ruleOk R.stint && ruleOk R.shift && ruleOk R.week) then 2 else if R.rest < R.brk then 9 else 0
def spanErr (a b : Int) : Int := if !(isClock a && isClock b) then 2 else if b ≤ a then 9 else 0
def recErr (x : WRec) : Int := if isName x.who then spanErr x.beg x.fin else 4
/-- The error of record i, of one driver or of any. -/
def wrongRec (one : Bool) (l : List WRec) (i : Nat) : Int :=
  if recErr (listW l i) ≠ 0 then recErr (listW l i)
  else if one = true ∧ 0 < i ∧ (listW l i).who ≠ (listW l (i - 1)).who then 13
  else if 0 < i ∧ (listW l i).beg < (listW l (i - 1)).fin then 26 else 0
def recsErr (one : Bool) (l : List WRec) : Int := if 40 < l.length then 8 else fst (wrongRec one l) l.length
def recsAt (one : Bool) (l : List WRec) : Nat := if 40 < l.length then 0 else idx (wrongRec one l) l.length
def bothErr (R : DRules) (l : List WRec) : Int := if drulesErr R ≠ 0 then drulesErr R else recsErr true l

/-- Whether record i goes on with the group of the one before. -/
def goesOn (l : List WRec) (gap : Int) (i : Nat) : Bool := decide (0 < i) && decide ((listW l i).beg - (listW l (i - 1)).fin < gap)
/-- The groups of the first k records. -/
def groupsTo (l : List WRec) (gap : Int) : Nat → List (Int × Int)
  | 0 => []
  | k + 1 => if goesOn l gap k then (groupsTo l gap k).dropLast ++ [(((groupsTo l gap k).getLastD (0, 0)).1, (k : Int))] else groupsTo l gap k ++ [((k : Int), (k : Int))]
def groups (l : List WRec) (gap : Int) : List (Int × Int) := groupsTo l gap l.length
/-- The first record of the group of record k. -/
def firstIn (l : List WRec) (gap : Int) : Nat → Nat
  | 0 => 0
  | k + 1 => if (listW l (k + 1)).beg - (listW l k).fin < gap then firstIn l gap k else k + 1
def overlapOf (x : WRec) (a b : Int) : Int := max 0 (min x.fin b - max x.beg a)
/-- The work of the first k records in a span. -/
def workTo (l : List WRec) (a b : Int) (k : Nat) : Int := sumTo (fun i => overlapOf (listW l i) a b) k
def workIn (l : List WRec) (a b : Int) : Int := workTo l a b l.length
/-- The work of the records from f on, below k. -/
def lengthsTo (l : List WRec) (f : Nat) : Nat → Int
  | 0 => 0
  | k + 1 => if f ≤ k then lengthsTo l f k + (listW l k).fin - (listW l k).beg else 0
def stintOf (l : List WRec) (brk : Int) (k : Nat) : Int := lengthsTo l (firstIn l brk k) (k + 1)
def brokenAt (R : DRules) (l : List WRec) (k : Nat) : Int :=
  if R.stint < stintOf l R.brk k then 1
  else if R.shift < (listW l k).fin - (listW l (firstIn l R.rest k)).beg then 2
  else if R.week < workTo l ((listW l k).fin - 604800) (listW l k).fin (k + 1) then 3 else 0
def brokenRule (R : DRules) (l : List WRec) : Int := fst (brokenAt R l) l.length
def brokenRec (R : DRules) (l : List WRec) : Nat := idx (brokenAt R l) l.length

def dtripErr (R : DRules) (l : List WRec) (t : DTrip) : Int :=
  if 40 ≤ l.length then 16
  else if !(isClock t.start && within t.lo 0 200000 && within t.hi 0 200000) then 2
  else if t.hi < t.lo then 9
  else if t.next ≠ -1 ∧ isClock t.next = false then 2
  else if 0 < l.length ∧ t.start < (listW l (l.length - 1)).fin then 26
  else if brokenRule R l ≠ 0 then 22 else 0
def xName : ByteArray := ⟨#[120]⟩
def withTrip (l : List WRec) (start len : Int) : List WRec := l ++ [⟨xName, start, start + len⟩]
def breaks (R : DRules) (l : List WRec) (t : DTrip) (len : Int) : Int :=
  if 0 < len ∧ brokenAt R (withTrip l t.start len) l.length ≠ 0 then brokenAt R (withTrip l t.start len) l.length
  else if t.next ≠ -1 ∧ t.next - (t.start + len) < R.rest then 4 else 0
def allowed (R : DRules) (l : List WRec) (t : DTrip) : Int × Int :=
  if breaks R l t t.hi = 0 then (2, 0) else if breaks R l t t.lo = 0 then (1, breaks R l t t.hi) else (0, breaks R l t t.hi)

theorem listW_get {l : List WRec} {i : Nat} (h : i < l.length) : l[i]? = some (listW l i) := by
  unfold listW
  rw [List.getD_eq_getElem?_getD, List.getElem?_eq_getElem h]
  rfl
theorem listW_left {l m : List WRec} {i : Nat} (h : i < l.length) : listW (l ++ m) i = listW l i := by
  unfold listW
  rw [List.getD_eq_getElem?_getD, List.getD_eq_getElem?_getD, List.getElem?_append_left h]
theorem listW_last (l : List WRec) (x : WRec) : listW (l ++ [x]) l.length = x := by
  unfold listW
  rw [List.getD_eq_getElem?_getD, List.getElem?_append_right (Nat.le_refl _)]
  simp
theorem firstIn_le (l : List WRec) (gap : Int) : ∀ k, firstIn l gap k ≤ k
  | 0 => Nat.le_refl _
  | k + 1 => by
    unfold firstIn
    split
    · have := firstIn_le l gap k; omega
    · exact Nat.le_refl _

/-- What a right list of records has. -/
structure Right (l : List WRec) : Prop where
  len : l.length ≤ 40
  one : ∀ i, i < l.length → 0 ≤ (listW l i).beg ∧ (listW l i).beg < (listW l i).fin ∧ (listW l i).fin ≤ 8640000000
  next : ∀ i, 0 < i → i < l.length → (listW l (i - 1)).fin ≤ (listW l i).beg
theorem spanErr_ok {a b : Int} (h : spanErr a b = 0) : 0 ≤ a ∧ a < b ∧ b ≤ 8640000000 := by
  unfold spanErr at h
  cases h1 : (isClock a && isClock b) with
  | false => rw [h1, if_pos (by decide)] at h; exact absurd h (by decide)
  | true =>
    rw [h1, if_neg (by decide)] at h
    rw [Bool.and_eq_true] at h1
    have a1 := within_iff.1 (show within a 0 8640000000 = true from h1.1)
    have a2 := within_iff.1 (show within b 0 8640000000 = true from h1.2)
    by_cases h2 : b ≤ a
    · rw [if_pos h2] at h; exact absurd h (by decide)
    · omega
theorem recErr_ok {x : WRec} (h : recErr x = 0) : isName x.who = true ∧ 0 ≤ x.beg ∧ x.beg < x.fin ∧ x.fin ≤ 8640000000 := by
  unfold recErr at h
  cases hn : isName x.who with
  | false => rw [hn, if_neg (by decide)] at h; exact absurd h (by decide)
  | true => rw [hn, if_pos rfl] at h; exact ⟨rfl, spanErr_ok h⟩
theorem wrongRec_ok {one : Bool} {l : List WRec} {i : Nat} (h : wrongRec one l i = 0) :
    recErr (listW l i) = 0 ∧ (one = true → 0 < i → (listW l i).who = (listW l (i - 1)).who) ∧ (0 < i → (listW l (i - 1)).fin ≤ (listW l i).beg) := by
  unfold wrongRec at h
  by_cases h1 : recErr (listW l i) = 0
  · rw [if_neg (fun hh => hh h1)] at h
    by_cases h2 : one = true ∧ 0 < i ∧ (listW l i).who ≠ (listW l (i - 1)).who
    · rw [if_pos h2] at h; exact absurd h (by decide)
    · rw [if_neg h2] at h
      by_cases h3 : 0 < i ∧ (listW l i).beg < (listW l (i - 1)).fin
      · rw [if_pos h3] at h; exact absurd h (by decide)
      · refine ⟨h1, fun a b => ?_, fun b => ?_⟩
        · exact Classical.byContradiction fun hc => h2 ⟨a, b, hc⟩
        · exact Int.not_lt.1 fun hc => h3 ⟨b, hc⟩
  · rw [if_pos h1] at h; exact absurd h h1
theorem recs_right {one : Bool} {l : List WRec} (h : recsErr one l = 0) : Right l := by
  unfold recsErr at h
  by_cases h0 : 40 < l.length
  · rw [if_pos h0] at h; exact absurd h (by decide)
  · rw [if_neg h0] at h
    have h1 := fst_zero h
    exact ⟨by omega, fun i hi => (recErr_ok (wrongRec_ok (h1 i hi)).1).2, fun i hp hi => (wrongRec_ok (h1 i hi)).2.2 hp⟩
theorem recs_names {l : List WRec} (h : recsErr true l = 0) : (∀ i, i < l.length → isName (listW l i).who = true) ∧ ∀ i, 0 < i → i < l.length → (listW l i).who = (listW l (i - 1)).who := by
  unfold recsErr at h
  by_cases h0 : 40 < l.length
  · rw [if_pos h0] at h; exact absurd h (by decide)
  · rw [if_neg h0] at h
    have h1 := fst_zero h
    exact ⟨fun i hi => (recErr_ok (wrongRec_ok (h1 i hi)).1).1, fun i hp hi => (wrongRec_ok (h1 i hi)).2.1 rfl hp⟩
end Go.Proofs.Ytjmaankkbdpikaa.Fs
/- A text cut at a byte: the pieces, by lists; what the library's cutting and a loop over the bytes have in common. No condition. -/
namespace Go.Proofs.Ytjmaankkbdpikaa
open Go.Lib

def Fs.cut (c : UInt8) : List UInt8 → List (List UInt8)
  | [] => [[]]
  | x :: t => if x = c then [] :: Fs.cut c t else match Fs.cut c t with
    | [] => [[x]]
    | p :: r => (x :: p) :: r
namespace Fs
theorem cut_ne (c : UInt8) (s : List UInt8) : cut c s ≠ [] := by
  cases s with
  | nil => simp [cut]
  | cons x t => unfold cut; split <;> (try split) <;> simp
theorem cut_none {c : UInt8} : ∀ {a : List UInt8}, c ∉ a → cut c a = [a]
  | [], _ => rfl
  | x :: t, h => by
    have h1 : x ≠ c := fun e => h (by simp [e])
    have h2 : c ∉ t := fun e => h (List.mem_cons_of_mem _ e)
    unfold cut
    rw [if_neg h1, cut_none h2]
theorem cut_hit {c : UInt8} : ∀ {a : List UInt8} (b : List UInt8), c ∉ a → cut c (a ++ c :: b) = a :: cut c b
  | [], b, _ => by simp [cut]
  | x :: t, b, h => by
    have h1 : x ≠ c := fun e => h (by simp [e])
    have h2 : c ∉ t := fun e => h (List.mem_cons_of_mem _ e)
    rw [List.cons_append]
    show (if x = c then [] :: cut c (t ++ c :: b) else match cut c (t ++ c :: b) with
      | [] => [[x]]
      | p :: r => (x :: p) :: r) = _
    rw [if_neg h1, cut_hit b h2]
theorem cut_mem {c : UInt8} : ∀ {s p : List UInt8}, p ∈ cut c s → c ∉ p
  | [], p, h => by simp [cut] at h; subst h; simp
  | x :: t, p, h => by
    unfold cut at h
    by_cases hx : x = c
    · rw [if_pos hx] at h
      rcases List.mem_cons.1 h with h | h
      · subst h; simp
      · exact cut_mem h
    · rw [if_neg hx] at h
      cases hc : cut c t with
      | nil => exact absurd hc (cut_ne c t)
      | cons q r =>
        rw [hc] at h
        have h : p ∈ (x :: q) :: r := h
        rcases List.mem_cons.1 h with h | h
        · subst h
          intro hm
          rcases List.mem_cons.1 hm with hm | hm
          · exact hx hm.symm
          · exact cut_mem (s := t) (p := q) (by rw [hc]; simp) hm
        · exact cut_mem (s := t) (p := p) (by rw [hc]; simp [h])
theorem joinTail_cons (c : UInt8) (y : List UInt8) (r : List (List UInt8)) : joinTail [c] (y :: r) = c :: join (y :: r) [c] := by
  rw [join_cons]; simp [joinTail]
theorem cut_join {c : UInt8} : ∀ {P : List (List UInt8)}, P ≠ [] → (∀ p ∈ P, c ∉ p) → cut c (join P [c]) = P
  | [], h, _ => absurd rfl h
  | [x], _, h => by rw [join_one, cut_none (h x (by simp))]
  | x :: y :: r, _, h => by
    rw [join_cons, joinTail_cons, cut_hit _ (h x (by simp)), cut_join (by simp) (fun p hp => h p (List.mem_cons_of_mem _ hp))]
theorem occ_one (s : List UInt8) (c : UInt8) (i : Nat) : occAt s [c] i = decide (s[i]? = some c) := by
  unfold occAt
  cases h : s.drop i with
  | nil =>
    have : s[i]? = none := by
      rw [List.getElem?_eq_none]
      exact List.drop_eq_nil_iff.1 h
    rw [this]; rfl
  | cons x t =>
    have : s[i]? = some x := by
      have := List.getElem?_drop (xs := s) (i := i) (j := 0)
      rw [h] at this
      simpa using this.symm
    rw [this]
    by_cases hx : x = c
    · subst hx; simp [List.isPrefixOf]
    · have : ¬ c = x := fun e => hx e.symm
      simp [List.isPrefixOf, hx, this]
theorem index_one (s : List UInt8) (c : UInt8) : (index s [c] = -1 ∧ c ∉ s) ∨ ∃ i : Nat, index s [c] = i ∧ i < s.length ∧ c ∉ s.take i ∧ s = s.take i ++ c :: s.drop (i + 1) := by
  rcases index_spec s [c] with ⟨h, hn⟩ | ⟨i, h, hi, ho, hno⟩
  · refine .inl ⟨h, fun hm => ?_⟩
    obtain ⟨j, hj, e⟩ := List.getElem_of_mem hm
    have := hn j (by omega)
    rw [occ_one, List.getElem?_eq_getElem hj, e] at this
    simp at this
  · rw [occ_one] at ho
    have ho := of_decide_eq_true ho
    have hlt : i < s.length := by
      rcases Nat.lt_or_ge i s.length with h | h
      · exact h
      · rw [List.getElem?_eq_none h] at ho; cases ho
    refine .inr ⟨i, h, hlt, fun hm => ?_, ?_⟩
    · obtain ⟨j, hj, e⟩ := List.getElem_of_mem hm
      have hji : j < i := by rw [List.length_take] at hj; omega
      have h2 := hno j hji
      rw [occ_one] at h2
      rw [List.getElem_take] at e
      rw [List.getElem?_eq_getElem (by omega), e] at h2
      simp at h2
    · rw [List.getElem?_eq_getElem hlt] at ho
      injection ho with ho
      conv => lhs; rw [← List.take_append_drop i s, List.drop_eq_getElem_cons hlt, ho]
theorem splitK_cut (c : UInt8) : ∀ (k : Nat) (s : List UInt8), count s [c] = k → splitK [c] 0 k s = cut c s
  | 0, s, h => by
    rcases index_one s c with ⟨hi, hn⟩ | ⟨i, hi, hl, hn, hs⟩
    · rw [cut_none hn]; rfl
    · rw [count_hit (by simp) hi] at h; omega
  | k + 1, s, h => by
    rcases index_one s c with ⟨hi, hn⟩ | ⟨i, hi, hl, hn, hs⟩
    · rw [count_miss hi] at h; omega
    · have h2 := count_hit (by simp) hi (s := s) (sub := [c])
      unfold splitK
      rw [hi]
      have e : (((i : Int) == -1)) = false := beq_eq_false_iff_ne.2 (by omega)
      rw [if_neg (by rw [e]; decide), Int.toNat_natCast, Nat.add_zero]
      have ih := splitK_cut c k (s.drop (i + 1)) (by simp at h2; omega)
      have e1 : [c].length = 1 := rfl
      rw [e1, ih]
      conv => rhs; rw [hs]
      rw [cut_hit _ hn]
/-- The pieces of a text between the bytes c. -/
def cutB (c : UInt8) (s : ByteArray) : List ByteArray := (cut c s.data.toList).map fun l => ⟨l.toArray⟩
theorem split_cutB (c : UInt8) (s : ByteArray) : splitB ⟨#[c]⟩ 0 (countB s ⟨#[c]⟩) s = cutB c s := by
  have h := splitB_data ⟨#[c]⟩ 0 (countB s ⟨#[c]⟩) s
  rw [show (⟨#[c]⟩ : ByteArray).data.toList = [c] from rfl, splitK_cut c _ _ rfl] at h
  unfold cutB
  rw [← h, List.map_map]
  conv => lhs; rw [← List.map_id (splitB ⟨#[c]⟩ 0 (countB s ⟨#[c]⟩) s)]
  apply List.map_congr_left
  intro x _
  exact (mk_data x).symm
theorem cutB_length (c : UInt8) (s : ByteArray) : (cutB c s).length = countB s ⟨#[c]⟩ + 1 := by
  rw [← split_cutB, splitB_all ⟨#[c]⟩ (Nat.le_refl 1) 0 _ s rfl]
theorem cutB_mem {c : UInt8} {s p : ByteArray} (h : p ∈ cutB c s) : c ∉ p.data.toList := by
  unfold cutB at h
  obtain ⟨l, hl, rfl⟩ := List.mem_map.1 h
  exact cut_mem hl
/-- The text of pieces with a byte between. -/
def joinB (c : UInt8) (P : List ByteArray) : ByteArray := ⟨(join (P.map (·.data.toList)) [c]).toArray⟩
theorem cutB_joinB {c : UInt8} {P : List ByteArray} (h : P ≠ []) (hp : ∀ p ∈ P, c ∉ p.data.toList) : cutB c (joinB c P) = P := by
  unfold cutB joinB
  show (cut c (join (P.map (·.data.toList)) [c])).map _ = P
  rw [cut_join (by simpa using h) (fun p hp' => by
    obtain ⟨q, hq, rfl⟩ := List.mem_map.1 hp'
    exact hp q hq), List.map_map]
  conv => rhs; rw [← List.map_id P]
  apply List.map_congr_left
  intro x _
  exact mk_data x
end Fs
end Go.Proofs.Ytjmaankkbdpikaa
/- The library's joining and cutting of texts, and its looking for a text, tied to this program's numbers (laid by the library's own command). -/
namespace Go.Proofs.Ytjmaankkbdpikaa
open Go.Shelf
end Go.Proofs.Ytjmaankkbdpikaa

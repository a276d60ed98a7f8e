/- Plain functions about nets of streets: lists and numbers alone, nothing of the program. No condition. -/
import Derived.Test.YtndhpdjcpagghaaGreatDoorFs
namespace Go.Proofs.YtndhpdjcpagghaaGreatDoor.Fs

structure Pt where
  hour : Int
  lo : Int
  hi : Int
structure Rd where
  name : ByteArray
  src : Int
  dst : Int
  metres : Int
  pts : List Pt
structure Net where
  places : List ByteArray
  roads : List Rd
def p0 : Pt := ⟨0, 0, 0⟩
def d0 : Rd := ⟨ByteArray.empty, 0, 0, 0, []⟩
def listP (l : List Pt) (i : Nat) : Pt := l.getD i p0
def listD (l : List Rd) (i : Nat) : Rd := l.getD i d0
def listB (l : List Bool) (i : Nat) : Bool := l.getD i false

/-! ### which nets are right -/
def secondsTo (a b : Int) : Int := (b - a + 86399) % 86400 + 1
def ptRight (p : Pt) : Bool := within p.hour 0 86399 && within p.lo 0 7200 && within p.hi 0 7200
def errPoint (l : List Pt) (i : Nat) : Int :=
  if !ptRight (listP l i) then 2 else if (listP l i).hi < (listP l i).lo ∨ (0 < i ∧ (listP l i).hour ≤ (listP l (i - 1)).hour) then 9 else 0
def inOrder (p q : Pt) : Bool := decide (p.lo - q.lo ≤ secondsTo p.hour q.hour) && decide (p.hi - q.hi ≤ secondsTo p.hour q.hour)
def errPair (l : List Pt) (i : Nat) : Int := if inOrder (listP l i) (listP l ((i + 1) % l.length)) then 0 else 23
def errPoints (l : List Pt) : Nat × Int :=
  if fst (errPoint l) l.length ≠ 0 then (idx (errPoint l) l.length, fst (errPoint l) l.length) else (idx (errPair l) l.length, fst (errPair l) l.length)
def isPlace (N : Net) (z : Int) : Bool := within z 0 ((N.places.length : Int) - 1)
def isRoad (N : Net) (z : Int) : Bool := within z 0 ((N.roads.length : Int) - 1)
def errForm (N : Net) (r : Rd) : Int :=
  if !(isPlace N r.src && isPlace N r.dst) then 6
  else if r.src = r.dst then 26
  else if !within r.metres 0 100000 then 2
  else if r.pts.length = 0 then 10
  else if 8 < r.pts.length then 8 else 0
def errRoad (N : Net) (i : Nat) : Nat × Int :=
  if errName (fun j => (listD N.roads j).name) i ≠ 0 then (0, errName (fun j => (listD N.roads j).name) i)
  else if errForm N (listD N.roads i) ≠ 0 then (0, errForm N (listD N.roads i))
  else errPoints (listD N.roads i).pts
def checkNet (N : Net) : (Nat × Nat) × Int :=
  if N.places.length = 0 then ((0, 0), 10)
  else if 20 < N.places.length then ((0, 0), 8)
  else if fst (errName (listS N.places)) N.places.length ≠ 0 then ((idx (errName (listS N.places)) N.places.length, 0), fst (errName (listS N.places)) N.places.length)
  else if 60 < N.roads.length then ((0, 0), 8)
  else if fst (fun i => (errRoad N i).2) N.roads.length ≠ 0 then ((idx (fun i => (errRoad N i).2) N.roads.length, (errRoad N (idx (fun i => (errRoad N i).2) N.roads.length)).1), fst (fun i => (errRoad N i).2) N.roads.length)
  else ((0, 0), 0)
def netErr (N : Net) : Int := (checkNet N).2

/-! ### how long a road takes -/
def behind (l : List Pt) (t : Int) : Nat := ((List.range l.length).find? fun i => decide (t < (listP l i).hour)).getD l.length
def onLine (x y left all : Int) : Int := (x * left + y * (all - left) + all - 1) / all
def takesAt (l : List Pt) (a : Int) : Int × Int :=
  let t := a % 86400
  let b := behind l t
  let p := listP l ((b + l.length - 1) % l.length)
  let q := listP l (b % l.length)
  (onLine p.lo q.lo (secondsTo t q.hour) (secondsTo p.hour q.hour), onLine p.hi q.hi (secondsTo t q.hour) (secondsTo p.hour q.hour))

/-! ### the best ways from a place -/
/-- Labels, last roads, and what is done. -/
structure St where
  labels : List Int
  last : List Int
  done : List Bool
def nearTo (s : St) : Nat → Int
  | 0 => -1
  | n + 1 => if listB s.done n = false ∧ listI s.labels n ≠ -1 ∧ (nearTo s n = -1 ∨ listI s.labels n < listI s.labels (nearTo s n).toNat) then (n : Int) else nearTo s n
def nearest (s : St) : Int := nearTo s s.labels.length
def relax (N : Net) (nx : Nat → Int → Int) (p : Int) (s : St) (i : Nat) : St :=
  if (listD N.roads i).src ≠ p ∨ listB s.done (listD N.roads i).dst.toNat = true then s
  else if listI s.labels (listD N.roads i).dst.toNat = -1 ∨ nx i (listI s.labels p.toNat) < listI s.labels (listD N.roads i).dst.toNat then
    ⟨s.labels.set (listD N.roads i).dst.toNat (nx i (listI s.labels p.toNat)), s.last.set (listD N.roads i).dst.toNat i, s.done⟩
  else s
def mark (s : St) (p : Int) : St := ⟨s.labels, s.last, s.done.set p.toNat true⟩
def relaxTo (N : Net) (nx : Nat → Int → Int) (p : Int) (s : St) : Nat → St
  | 0 => s
  | k + 1 => relax N nx p (relaxTo N nx p s k) k
def oneRound (N : Net) (nx : Nat → Int → Int) (s : St) : St := relaxTo N nx (nearest s) (mark s (nearest s)) N.roads.length
def rounds (N : Net) (nx : Nat → Int → Int) : Nat → St → St
  | 0, s => s
  | f + 1, s => if nearest s = -1 then s else rounds N nx f (oneRound N nx s)
def start (N : Net) (src label : Int) : St := ⟨(List.replicate N.places.length (-1)).set src.toNat label, List.replicate N.places.length (-1), List.replicate N.places.length false⟩
def search (N : Net) (src label : Int) (nx : Nat → Int → Int) : St := rounds N nx N.places.length (start N src label)
def soonest (N : Net) (i : Nat) (a : Int) : Int := a + (takesAt (listD N.roads i).pts a).1
def latest (N : Net) (i : Nat) (a : Int) : Int := a + (takesAt (listD N.roads i).pts a).2
def further (N : Net) (i : Nat) (m : Int) : Int := m + (listD N.roads i).metres
def heights (N : Net) (src : Int) : List Int := (search N src 0 (further N)).labels
/-- The roads of the way back from a place, f at most. -/
def wayBack (N : Net) (last : List Int) : Nat → Int → List Int
  | 0, _ => []
  | f + 1, z => if listI last z.toNat = -1 then [] else listI last z.toNat :: wayBack N last f (listD N.roads (listI last z.toNat).toNat).src
def wayTo (N : Net) (s : St) (z : Int) : List Int := (wayBack N s.last N.places.length z).reverse

end Go.Proofs.YtndhpdjcpagghaaGreatDoor.Fs

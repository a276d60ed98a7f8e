/- Plain functions about nets of streets: lists and numbers alone, nothing of the program. No condition. -/
import Derived.Test.YtfjdnbnalihjiaaGreatDoorFs
import Derived.WalkKit
import Derived.WalkSpells
import Derived.WalkLawsBesides
import Derived.Deep.QuietTactic
import Derived.BigQuiet
import Derived.Lib.Hide
import Derived.Test.YtfjdnbnalihjiaaGreatDoorProg
namespace Go.Proofs.YtfjdnbnalihjiaaGreatDoor.Fs

structure Pt where
  hour : Int
  lo : Int
  hi : Int
structure Rd where
  name : ByteArray
  src : Int
  dst : Int
  metres : Int
  pts : List Pt
structure Net where
  places : List ByteArray
  roads : List Rd
def p0 : Pt := ⟨0, 0, 0⟩
def d0 : Rd := ⟨ByteArray.empty, 0, 0, 0, []⟩
def listP (l : List Pt) (i : Nat) : Pt := l.getD i p0
def listD (l : List Rd) (i : Nat) : Rd := l.getD i d0
def listB (l : List Bool) (i : Nat) : Bool := l.getD i false

/-! ### which nets are right -/
def secondsTo (a b : Int) : Int := (b - a + 86399) % 86400 + 1
def ptRight (p : Pt) : Bool := within p.hour 0 86399 && within p.lo 0 7200 && within p.hi 0 7200
def errPoint (l : List Pt) (i : Nat) : Int :=
  if !ptRight (listP l i) then 2 else if (listP l i).hi < (listP l i).lo ∨ (0 < i ∧ (listP l i).hour ≤ (listP l (i - 1)).hour) then 9 else 0
def inOrder (p q : Pt) : Bool := decide (p.lo - q.lo ≤ secondsTo p.hour q.hour) && decide (p.hi - q.hi ≤ secondsTo p.hour q.hour)
def errPair (l : List Pt) (i : Nat) : Int := if inOrder (listP l i) (listP l ((i + 1) % l.length)) then 0 else 23
def errPoints (l : List Pt) : Nat × Int :=
  if fst (errPoint l) l.length ≠ 0 then (idx (errPoint l) l.length, fst (errPoint l) l.length) else (idx (errPair l) l.length, fst (errPair l) l.length)
def isPlace (N : Net) (z : Int) : Bool := within z 0 ((N.places.length : Int) - 1)
def isRoad (N : Net) (z : Int) : Bool := within z 0 ((N.roads.length : Int) - 1)
def errForm (N : Net) (r : Rd) : Int :=
  if !(isPlace N r.src && isPlace N r.dst) then 6
  else if r.src = r.dst then 26
  else if !within r.metres 0 100000 then 2
  else if r.pts.length = 0 then 10
  else if 8 < r.pts.length then 8 else 0
def errRoad (N : Net) (i : Nat) : Nat × Int :=
  if errName (fun j => (listD N.roads j).name) i ≠ 0 then (0, errName (fun j => (listD N.roads j).name) i)
  else if errForm N (listD N.roads i) ≠ 0 then (0, errForm N (listD N.roads i))
  else errPoints (listD N.roads i).pts
def checkNet (N : Net) : (Nat × Nat) × Int :=
  if N.places.length = 0 then ((0, 0), 10)
  else if 20 < N.places.length then ((0, 0), 8)
  else if fst (errName (listS N.places)) N.places.length ≠ 0 then ((idx (errName (listS N.places)) N.places.length, 0), fst (errName (listS N.places)) N.places.length)
  else if 60 < N.roads.length then ((0, 0), 8)
  else if fst (fun i => (errRoad N i).2) N.roads.length ≠ 0 then ((idx (fun i => (errRoad N i).2) N.roads.length, (errRoad N (idx (fun i => (errRoad N i).2) N.roads.length)).1), fst (fun i => (errRoad N i).2) N.roads.length)
  else ((0, 0), 0)
def netErr (N : Net) : Int := (checkNet N).2

/-! ### how long a road takes -/
def behind (l : List Pt) (t : Int) : Nat := ((List.range l.length).find? fun i => decide (t < (listP l i).hour)).getD l.length
def onLine (x y left all : Int) : Int := (x * left + y * (all - left) + all - 1) / all
def takesAt (l : List Pt) (a : Int) : Int × Int :=
  let t := a % 86400
  let b := behind l t
  let p := listP l ((b + l.length - 1) % l.length)
  let q := listP l (b % l.length)
  (onLine p.lo q.lo (secondsTo t q.hour) (secondsTo p.hour q.hour), onLine p.hi q.hi (secondsTo t q.hour) (secondsTo p.hour q.hour))

/-! ### the best ways from a place -/
/-- Labels, last roads, and what is done. -/
structure St where
  labels : List Int
  last : List Int
  done : List Bool
def nearTo (s : St) : Nat → Int
  | 0 => -1
  | n + 1 => if listB s.done n = false ∧ listI s.labels n ≠ -1 ∧ (nearTo s n = -1 ∨ listI s.labels n < listI s.labels (nearTo s n).toNat) then (n : Int) else nearTo s n
def nearest (s : St) : Int := nearTo s s.labels.length
def relax (N : Net) (nx : Nat → Int → Int) (p : Int) (s : St) (i : Nat) : St :=
  if (listD N.roads i).src ≠ p ∨ listB s.done (listD N.roads i).dst.toNat = true then s
  else if listI s.labels (listD N.roads i).dst.toNat = -1 ∨ nx i (listI s.labels p.toNat) < listI s.labels (listD N.roads i).dst.toNat then
    ⟨s.labels.set (listD N.roads i).dst.toNat (nx i (listI s.labels p.toNat)), s.last.set (listD N.roads i).dst.toNat i, s.done⟩
  else s
def mark (s : St) (p : Int) : St := ⟨s.labels, s.last, s.done.set p.toNat true⟩
def relaxTo (N : Net) (nx : Nat → Int → Int) (p : Int) (s : St) : Nat → St
  | 0 => s
  | k + 1 => relax N nx p (relaxTo N nx p s k) k
def oneRound (N : Net) (nx : Nat → Int → Int) (s : St) : St := relaxTo N nx (nearest s) (mark s (nearest s)) N.roads.length
def rounds (N : Net) (nx : Nat → Int → Int) : Nat → St → St
  | 0, s => s
  | f + 1, s => if nearest s = -1 then s else rounds N nx f (oneRound N nx s)
def start (N : Net) (src label : Int) : St := ⟨(List.replicate N.places.length (-1)).set src.toNat label, List.replicate N.places.length (-1), List.replicate N.places.length false⟩
def search (N : Net) (src label : Int) (nx : Nat → Int → Int) : St := rounds N nx N.places.length (start N src label)
def soonest (N : Net) (i : Nat) (a : Int) : Int := a + (takesAt (listD N.roads i).pts a).1
def latest (N : Net) (i : Nat) (a : Int) : Int := a + (takesAt (listD N.roads i).pts a).2
def further (N : Net) (i : Nat) (m : Int) : Int := m + (listD N.roads i).metres
def heights (N : Net) (src : Int) : List Int := (search N src 0 (further N)).labels
/-- The roads of the way back from a place, f at most. -/
def wayBack (N : Net) (last : List Int) : Nat → Int → List Int
  | 0, _ => []
  | f + 1, z => if listI last z.toNat = -1 then [] else listI last z.toNat :: wayBack N last f (listD N.roads (listI last z.toNat).toNat).src
def wayTo (N : Net) (s : St) (z : Int) : List Int := (wayBack N s.last N.places.length z).reverse

end Go.Proofs.YtfjdnbnalihjiaaGreatDoor.Fs
/- What it means that a value in memory reads as a net of streets, and that this outlasts whatever leaves old cells as they were. No condition. -/
namespace Go.Proofs.YtfjdnbnalihjiaaGreatDoor
open Go.RowKit Fs

def ptCells (x : Pt) : Nat → Value
  | 0 => .int .i64 x.hour
  | 1 => .int .i64 x.lo
  | _ => .int .i64 x.hi
abbrev ptV (x : Pt) : Value := .agg #[.int .i64 x.hour, .int .i64 x.lo, .int .i64 x.hi]
def ArrP (w : World) (A : Option Addr) (l : List Pt) (c : Nat) : Prop := Arr w A l.length c 3 fun i j => ptCells (listP l i) j
theorem ArrP.keep {w w' : World} (k : Keep w w') {A : Option Addr} {l : List Pt} {c : Nat} (h : ArrP w A l c) : ArrP w' A l c := Arr.keep k h
theorem ArrP.le {w : World} {A : Option Addr} {l : List Pt} {c : Nat} (h : ArrP w A l c) : l.length ≤ c ∧ c ≤ 9223372036854775807 := ⟨h.1, h.2.1⟩
theorem ArrP.at_ {w : World} {A : Option Addr} {l : List Pt} {c : Nat} (h : ArrP w A l c) {k : Nat} (hk : k < l.length) :
    ∃ b o, A = some ⟨b, o, none⟩ ∧ w.cell? ⟨b, o + k * 3, none⟩ = some (.int .i64 (listP l k).hour) ∧ w.cell? ⟨b, o + k * 3 + 1, none⟩ = some (.int .i64 (listP l k).lo) ∧ w.cell? ⟨b, o + k * 3 + 2, none⟩ = some (.int .i64 (listP l k).hi) := by
  obtain ⟨b, o, e, hc⟩ := Arr.at_ h hk
  exact ⟨b, o, e, hc 0 (by omega), hc 1 (by omega), hc 2 (by omega)⟩
/-- The cells of a road whose points lie at p. -/
def rdCells (r : Rd) (p : Option Addr) (pc : Nat) : Nat → Value
  | 0 => .string r.name
  | 1 => .int .i64 r.src
  | 2 => .int .i64 r.dst
  | 3 => .int .i64 r.metres
  | _ => .slice p r.pts.length pc
abbrev rdV (r : Rd) (p : Option Addr) (pc : Nat) : Value := .agg #[.string r.name, .int .i64 r.src, .int .i64 r.dst, .int .i64 r.metres, .slice p r.pts.length pc]
/-- The points of all roads: where they lie and their capacities. -/
structure DA where
  p : Nat → Option Addr
  pc : Nat → Nat
def ArrD (w : World) (A : Option Addr) (l : List Rd) (c : Nat) (a : DA) : Prop :=
  Arr w A l.length c 5 (fun i j => rdCells (listD l i) (a.p i) (a.pc i) j) ∧ ∀ i, i < l.length → ArrP w (a.p i) (listD l i).pts (a.pc i)
theorem ArrD.keep {w w' : World} (k : Keep w w') {A : Option Addr} {l : List Rd} {c : Nat} {a : DA} (h : ArrD w A l c a) : ArrD w' A l c a :=
  ⟨Arr.keep k h.1, fun i hi => (h.2 i hi).keep k⟩
theorem ArrD.le {w : World} {A : Option Addr} {l : List Rd} {c : Nat} {a : DA} (h : ArrD w A l c a) : l.length ≤ c ∧ c ≤ 9223372036854775807 := ⟨h.1.1, h.1.2.1⟩
/-- The five cells of road k. -/
structure RdAt (w : World) (b o : Nat) (r : Rd) (p : Option Addr) (pc : Nat) : Prop where
  c0 : w.cell? ⟨b, o, none⟩ = some (.string r.name)
  c1 : w.cell? ⟨b, o + 1, none⟩ = some (.int .i64 r.src)
  c2 : w.cell? ⟨b, o + 2, none⟩ = some (.int .i64 r.dst)
  c3 : w.cell? ⟨b, o + 3, none⟩ = some (.int .i64 r.metres)
  c4 : w.cell? ⟨b, o + 4, none⟩ = some (.slice p r.pts.length pc)
theorem RdAt.keep {w w' : World} (k : Keep w w') {b o : Nat} {r : Rd} {p : Option Addr} {pc : Nat} (m : RdAt w b o r p pc) : RdAt w' b o r p pc :=
  ⟨k _ _ m.c0, k _ _ m.c1, k _ _ m.c2, k _ _ m.c3, k _ _ m.c4⟩
theorem ArrD.at_ {w : World} {A : Option Addr} {l : List Rd} {c : Nat} {a : DA} (h : ArrD w A l c a) {k : Nat} (hk : k < l.length) :
    ∃ b o, A = some ⟨b, o, none⟩ ∧ RdAt w b (o + k * 5) (listD l k) (a.p k) (a.pc k) := by
  obtain ⟨b, o, e, hc⟩ := h.1.at_ hk
  exact ⟨b, o, e, hc 0 (by omega), hc 1 (by omega), hc 2 (by omega), hc 3 (by omega), hc 4 (by omega)⟩

/-- What a net's value leads to. -/
structure NetM (w : World) (N : Net) (P R : Option Addr) (pc rc : Nat) (a : DA) : Prop where
  places : ArrS w P N.places pc
  roads : ArrD w R N.roads rc a
abbrev netV (N : Net) (P R : Option Addr) (pc rc : Nat) : Value := .agg #[.slice P N.places.length pc, .slice R N.roads.length rc]
theorem NetM.keep {w w' : World} (k : Keep w w') {N : Net} {P R : Option Addr} {pc rc : Nat} {a : DA} (m : NetM w N P R pc rc a) : NetM w' N P R pc rc a := ⟨m.places.keep k, m.roads.keep k⟩
/-- The value v reads as the net N. -/
def RdNet (w : World) (v : Value) (N : Net) : Prop := ∃ P R pc rc a, v = netV N P R pc rc ∧ NetM w N P R pc rc a
theorem RdNet.keep {w w' : World} (k : Keep w w') {v : Value} {N : Net} (h : RdNet w v N) : RdNet w' v N := by
  obtain ⟨P, R, pc, rc, a, hv, m⟩ := h
  exact ⟨P, R, pc, rc, a, hv, m.keep k⟩

theorem cellNew (w : World) (cs : Array Value) (t : TypeId) (i : Nat) : (w.alloc (.cells cs t)).cell? ⟨w.heap.size, i, none⟩ = cs[i]? := cell_of_row _ _ i cs t (0, 0) (heap_alloc_new w _)
theorem frozenNew (w : World) (cs : Array Value) (t : TypeId) (i : Nat) : (w.alloc (.cells cs t)).frozen? ⟨w.heap.size, i, none⟩ = false := by
  have h := heap_alloc_new w (.cells cs t)
  unfold World.frozen?
  dsimp only
  rw [h]
  simp
theorem cellNew1 (w : World) (A : Obj) (cs : Array Value) (t : TypeId) (i : Nat) : ((w.alloc A).alloc (.cells cs t)).cell? ⟨w.heap.size + 1, i, none⟩ = cs[i]? := by
  rw [show w.heap.size + 1 = (w.alloc A).heap.size by simp]
  exact cellNew _ _ _ _
theorem frozenNew1 (w : World) (A : Obj) (cs : Array Value) (t : TypeId) (i : Nat) : ((w.alloc A).alloc (.cells cs t)).frozen? ⟨w.heap.size + 1, i, none⟩ = false := by
  rw [show w.heap.size + 1 = (w.alloc A).heap.size by simp]
  exact frozenNew _ _ _ _
/-- A net's cells in the block g. -/
structure BoxN (w : World) (g : Nat) (N : Net) (P R : Option Addr) (pc rc : Nat) : Prop where
  c0 : w.cell? ⟨g, 0, none⟩ = some (.slice P N.places.length pc)
  c1 : w.cell? ⟨g, 1, none⟩ = some (.slice R N.roads.length rc)
theorem BoxN.keep {w w' : World} (k : Keep w w') {g : Nat} {N : Net} {P R : Option Addr} {pc rc : Nat} (m : BoxN w g N P R pc rc) : BoxN w' g N P R pc rc := ⟨k _ _ m.c0, k _ _ m.c1⟩
theorem BoxN.new (w : World) (N : Net) (P R : Option Addr) (pc rc : Nat) (t : TypeId) : BoxN (w.alloc (.cells #[.slice P N.places.length pc, .slice R N.roads.length rc] t)) w.heap.size N P R pc rc :=
  ⟨cellNew _ _ _ 0, cellNew _ _ _ 1⟩
/-- The two cells of a mark, which may be written. -/
structure MarkAt (w : World) (g : Nat) : Prop where
  c0 : w.cell? ⟨g, 0, none⟩ = some (.int .i64 0)
  c1 : w.cell? ⟨g, 1, none⟩ = some (.int .i64 0)
  f0 : w.frozen? ⟨g, 0, none⟩ = false
  f1 : w.frozen? ⟨g, 1, none⟩ = false
theorem MarkAt.lt {w : World} {g : Nat} (m : MarkAt w g) : g < w.heap.size := World.block_lt_of_cell? w _ m.c0
theorem MarkAt.below {B : Nat} {w w' : World} {g : Nat} (m : MarkAt w g) (h : Below B w w') (hg : g < B) : MarkAt w' g :=
  ⟨(h.cell (p := ⟨g, 0, none⟩) hg).trans m.c0, (h.cell (p := ⟨g, 1, none⟩) hg).trans m.c1, (h.frozen (p := ⟨g, 0, none⟩) hg).trans m.f0, (h.frozen (p := ⟨g, 1, none⟩) hg).trans m.f1⟩
theorem MarkAt.new (w : World) (t : TypeId) : MarkAt (w.alloc (.cells #[.int .i64 0, .int .i64 0] t)) w.heap.size :=
  ⟨cellNew _ _ _ _, cellNew _ _ _ _, frozenNew _ _ _ _, frozenNew _ _ _ _⟩
end Go.Proofs.YtfjdnbnalihjiaaGreatDoor
/- The small functions of streets return what the plain functions of the same name say. Conditions: the numbers that are subtracted are small. -/
namespace Go.Proofs.YtfjdnbnalihjiaaGreatDoor
open Go.RowKit Fs

theorem ret_bool {a b : Bool} (h : a = b) : Ending.returned (.bool a) = .returned (.bool b) := by rw [h]
theorem ret_int {a b : Int} (h : a = b) : Ending.returned (.int .i64 a) = .returned (.int .i64 b) := by rw [h]

set_option maxHeartbeats 400000 in
theorem within_any (n a b : Int) (w : World) : Calls Tryz.prog 123 #[.int .i64 n, .int .i64 a, .int .i64 b] w fun e w' => e = .returned (.bool (within n a b)) ∧ w = w' := by
  go_enter Tryz.func123, Tryz.ntmps123
  go_wp2
  all_goals (go_ret; exact ⟨ret_bool (by first | (simp [within, *]; done) | (simp [within]; omega)), rfl⟩)
set_option maxHeartbeats 400000 in
theorem bwithin_any (n a b : Int) (w : World) : Calls Tryz.prog 53 #[.int .i64 n, .int .i64 a, .int .i64 b] w fun e w' => e = .returned (.bool (within n a b)) ∧ w = w' := by
  go_enter Tryz.func53, Tryz.ntmps53
  go_wp2
  all_goals (go_ret; exact ⟨ret_bool (by first | (simp [within, *]; done) | (simp [within]; omega)), rfl⟩)
set_option maxHeartbeats 400000 in
theorem letter_any (c : UInt8) (w : World) : Calls Tryz.prog 153 #[.int .u8 c.toNat] w fun e w' => e = .returned (.bool (letter c)) ∧ w = w' := by
  go_enter Tryz.func153, Tryz.ntmps153
  go_wp2
  all_goals (go_ret; refine ⟨ret_bool ?_, rfl⟩)
  all_goals (unfold letter; rw [Bool.eq_iff_iff]; simp; omega)
set_option maxHeartbeats 400000 in
theorem digit_any (c : UInt8) (w : World) : Calls Tryz.prog 154 #[.int .u8 c.toNat] w fun e w' => e = .returned (.bool (digit c)) ∧ w = w' := by
  go_enter Tryz.func154, Tryz.ntmps154
  go_wp2
  all_goals (go_ret; refine ⟨ret_bool ?_, rfl⟩)
  all_goals (unfold digit; rw [Bool.eq_iff_iff]; simp; omega)
/-- A day's seconds, as operands. -/
theorem day_bounds {a b : Int} (ha : 0 ≤ a ∧ a ≤ 86399) (hb : 0 ≤ b ∧ b ≤ 86399) : 0 ≤ b - a + 86400 - 1 ∧ (b - a + 86400 - 1) = b - a + 86399 := by omega
theorem secondsTo_is (a b : Int) : 1 ≤ secondsTo a b ∧ secondsTo a b ≤ 86400 := by
  unfold secondsTo
  have h1 := Int.emod_nonneg (b - a + 86399) (show (86400 : Int) ≠ 0 by decide)
  have h2 := Int.emod_lt_of_pos (b - a + 86399) (show (0 : Int) < 86400 by decide)
  omega
theorem ptRight_is {p : Pt} (h : ptRight p = true) : (0 ≤ p.hour ∧ p.hour ≤ 86399) ∧ (0 ≤ p.lo ∧ p.lo ≤ 7200) ∧ 0 ≤ p.hi ∧ p.hi ≤ 7200 := by
  unfold ptRight at h
  rw [Bool.and_eq_true, Bool.and_eq_true] at h
  exact ⟨Fs.within_iff.1 h.1.1, Fs.within_iff.1 h.1.2, Fs.within_iff.1 h.2⟩
def Fs.timeErr (a : Int) : Int := if within a 0 604800 then 0 else 2
end Go.Proofs.YtfjdnbnalihjiaaGreatDoor

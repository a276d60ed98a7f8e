/- What it means that a value in memory reads as a net of streets, and that this outlasts whatever leaves old cells as they were. No condition. -/
import Derived.Test.YtndhpdjcpagghaaGreatDoorMem
import Derived.Test.YtndhpdjcpagghaaGreatDoorN0
namespace Go.Proofs.YtndhpdjcpagghaaGreatDoor
open Go.RowKit Fs

def ptCells (x : Pt) : Nat → Value
  | 0 => .int .i64 x.hour
  | 1 => .int .i64 x.lo
  | _ => .int .i64 x.hi
abbrev ptV (x : Pt) : Value := .agg #[.int .i64 x.hour, .int .i64 x.lo, .int .i64 x.hi]
def ArrP (w : World) (A : Option Addr) (l : List Pt) (c : Nat) : Prop := Arr w A l.length c 3 fun i j => ptCells (listP l i) j
theorem ArrP.keep {w w' : World} (k : Keep w w') {A : Option Addr} {l : List Pt} {c : Nat} (h : ArrP w A l c) : ArrP w' A l c := Arr.keep k h
theorem ArrP.le {w : World} {A : Option Addr} {l : List Pt} {c : Nat} (h : ArrP w A l c) : l.length ≤ c ∧ c ≤ 9223372036854775807 := ⟨h.1, h.2.1⟩
theorem ArrP.at_ {w : World} {A : Option Addr} {l : List Pt} {c : Nat} (h : ArrP w A l c) {k : Nat} (hk : k < l.length) :
    ∃ b o, A = some ⟨b, o, none⟩ ∧ w.cell? ⟨b, o + k * 3, none⟩ = some (.int .i64 (listP l k).hour) ∧ w.cell? ⟨b, o + k * 3 + 1, none⟩ = some (.int .i64 (listP l k).lo) ∧ w.cell? ⟨b, o + k * 3 + 2, none⟩ = some (.int .i64 (listP l k).hi) := by
  obtain ⟨b, o, e, hc⟩ := Arr.at_ h hk
  exact ⟨b, o, e, hc 0 (by omega), hc 1 (by omega), hc 2 (by omega)⟩
/-- The cells of a road whose points lie at p. -/
def rdCells (r : Rd) (p : Option Addr) (pc : Nat) : Nat → Value
  | 0 => .string r.name
  | 1 => .int .i64 r.src
  | 2 => .int .i64 r.dst
  | 3 => .int .i64 r.metres
  | _ => .slice p r.pts.length pc
abbrev rdV (r : Rd) (p : Option Addr) (pc : Nat) : Value := .agg #[.string r.name, .int .i64 r.src, .int .i64 r.dst, .int .i64 r.metres, .slice p r.pts.length pc]
/-- The points of all roads: where they lie and their capacities. -/
structure DA where
  p : Nat → Option Addr
  pc : Nat → Nat
def ArrD (w : World) (A : Option Addr) (l : List Rd) (c : Nat) (a : DA) : Prop :=
  Arr w A l.length c 5 (fun i j => rdCells (listD l i) (a.p i) (a.pc i) j) ∧ ∀ i, i < l.length → ArrP w (a.p i) (listD l i).pts (a.pc i)
theorem ArrD.keep {w w' : World} (k : Keep w w') {A : Option Addr} {l : List Rd} {c : Nat} {a : DA} (h : ArrD w A l c a) : ArrD w' A l c a :=
  ⟨Arr.keep k h.1, fun i hi => (h.2 i hi).keep k⟩
theorem ArrD.le {w : World} {A : Option Addr} {l : List Rd} {c : Nat} {a : DA} (h : ArrD w A l c a) : l.length ≤ c ∧ c ≤ 9223372036854775807 := ⟨h.1.1, h.1.2.1⟩
/-- The five cells of road k. -/
structure RdAt (w : World) (b o : Nat) (r : Rd) (p : Option Addr) (pc : Nat) : Prop where
  c0 : w.cell? ⟨b, o, none⟩ = some (.string r.name)
  c1 : w.cell? ⟨b, o + 1, none⟩ = some (.int .i64 r.src)
  c2 : w.cell? ⟨b, o + 2, none⟩ = some (.int .i64 r.dst)
  c3 : w.cell? ⟨b, o + 3, none⟩ = some (.int .i64 r.metres)
  c4 : w.cell? ⟨b, o + 4, none⟩ = some (.slice p r.pts.length pc)
theorem RdAt.keep {w w' : World} (k : Keep w w') {b o : Nat} {r : Rd} {p : Option Addr} {pc : Nat} (m : RdAt w b o r p pc) : RdAt w' b o r p pc :=
  ⟨k _ _ m.c0, k _ _ m.c1, k _ _ m.c2, k _ _ m.c3, k _ _ m.c4⟩
theorem ArrD.at_ {w : World} {A : Option Addr} {l : List Rd} {c : Nat} {a : DA} (h : ArrD w A l c a) {k : Nat} (hk : k < l.length) :
    ∃ b o, A = some ⟨b, o, none⟩ ∧ RdAt w b (o + k * 5) (listD l k) (a.p k) (a.pc k) := by
  obtain ⟨b, o, e, hc⟩ := h.1.at_ hk
  exact ⟨b, o, e, hc 0 (by omega), hc 1 (by omega), hc 2 (by omega), hc 3 (by omega), hc 4 (by omega)⟩

/-- What a net's value leads to. -/
structure NetM (w : World) (N : Net) (P R : Option Addr) (pc rc : Nat) (a : DA) : Prop where
  places : ArrS w P N.places pc
  roads : ArrD w R N.roads rc a
abbrev netV (N : Net) (P R : Option Addr) (pc rc : Nat) : Value := .agg #[.slice P N.places.length pc, .slice R N.roads.length rc]
theorem NetM.keep {w w' : World} (k : Keep w w') {N : Net} {P R : Option Addr} {pc rc : Nat} {a : DA} (m : NetM w N P R pc rc a) : NetM w' N P R pc rc a := ⟨m.places.keep k, m.roads.keep k⟩
/-- The value v reads as the net N. -/
def RdNet (w : World) (v : Value) (N : Net) : Prop := ∃ P R pc rc a, v = netV N P R pc rc ∧ NetM w N P R pc rc a
theorem RdNet.keep {w w' : World} (k : Keep w w') {v : Value} {N : Net} (h : RdNet w v N) : RdNet w' v N := by
  obtain ⟨P, R, pc, rc, a, hv, m⟩ := h
  exact ⟨P, R, pc, rc, a, hv, m.keep k⟩

theorem cellNew (w : World) (cs : Array Value) (t : TypeId) (i : Nat) : (w.alloc (.cells cs t)).cell? ⟨w.heap.size, i, none⟩ = cs[i]? := cell_of_row _ _ i cs t (0, 0) (heap_alloc_new w _)
theorem frozenNew (w : World) (cs : Array Value) (t : TypeId) (i : Nat) : (w.alloc (.cells cs t)).frozen? ⟨w.heap.size, i, none⟩ = false := by
  have h := heap_alloc_new w (.cells cs t)
  unfold World.frozen?
  dsimp only
  rw [h]
  simp
theorem cellNew1 (w : World) (A : Obj) (cs : Array Value) (t : TypeId) (i : Nat) : ((w.alloc A).alloc (.cells cs t)).cell? ⟨w.heap.size + 1, i, none⟩ = cs[i]? := by
  rw [show w.heap.size + 1 = (w.alloc A).heap.size by simp]
  exact cellNew _ _ _ _
theorem frozenNew1 (w : World) (A : Obj) (cs : Array Value) (t : TypeId) (i : Nat) : ((w.alloc A).alloc (.cells cs t)).frozen? ⟨w.heap.size + 1, i, none⟩ = false := by
  rw [show w.heap.size + 1 = (w.alloc A).heap.size by simp]
  exact frozenNew _ _ _ _
/-- A net's cells in the block g. -/
structure BoxN (w : World) (g : Nat) (N : Net) (P R : Option Addr) (pc rc : Nat) : Prop where
  c0 : w.cell? ⟨g, 0, none⟩ = some (.slice P N.places.length pc)
  c1 : w.cell? ⟨g, 1, none⟩ = some (.slice R N.roads.length rc)
theorem BoxN.keep {w w' : World} (k : Keep w w') {g : Nat} {N : Net} {P R : Option Addr} {pc rc : Nat} (m : BoxN w g N P R pc rc) : BoxN w' g N P R pc rc := ⟨k _ _ m.c0, k _ _ m.c1⟩
theorem BoxN.new (w : World) (N : Net) (P R : Option Addr) (pc rc : Nat) (t : TypeId) : BoxN (w.alloc (.cells #[.slice P N.places.length pc, .slice R N.roads.length rc] t)) w.heap.size N P R pc rc :=
  ⟨cellNew _ _ _ 0, cellNew _ _ _ 1⟩
/-- The two cells of a mark, which may be written. -/
structure MarkAt (w : World) (g : Nat) : Prop where
  c0 : w.cell? ⟨g, 0, none⟩ = some (.int .i64 0)
  c1 : w.cell? ⟨g, 1, none⟩ = some (.int .i64 0)
  f0 : w.frozen? ⟨g, 0, none⟩ = false
  f1 : w.frozen? ⟨g, 1, none⟩ = false
theorem MarkAt.lt {w : World} {g : Nat} (m : MarkAt w g) : g < w.heap.size := World.block_lt_of_cell? w _ m.c0
theorem MarkAt.below {B : Nat} {w w' : World} {g : Nat} (m : MarkAt w g) (h : Below B w w') (hg : g < B) : MarkAt w' g :=
  ⟨(h.cell (p := ⟨g, 0, none⟩) hg).trans m.c0, (h.cell (p := ⟨g, 1, none⟩) hg).trans m.c1, (h.frozen (p := ⟨g, 0, none⟩) hg).trans m.f0, (h.frozen (p := ⟨g, 1, none⟩) hg).trans m.f1⟩
theorem MarkAt.new (w : World) (t : TypeId) : MarkAt (w.alloc (.cells #[.int .i64 0, .int .i64 0] t)) w.heap.size :=
  ⟨cellNew _ _ _ _, cellNew _ _ _ _, frozenNew _ _ _ _, frozenNew _ _ _ _⟩
end Go.Proofs.YtndhpdjcpagghaaGreatDoor

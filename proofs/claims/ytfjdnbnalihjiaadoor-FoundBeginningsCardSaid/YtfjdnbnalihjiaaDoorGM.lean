/- What it means that a value in memory reads as marks, things or events. No condition. -/
import Derived.Test.YtfjdnbnalihjiaaDoorT6
import Derived.Test.YtfjdnbnalihjiaaDoorT8
import Derived.Test.YtfjdnbnalihjiaaDoorT2
import Derived.BigQuiet
namespace Go.Proofs.YtfjdnbnalihjiaaDoor
open Go.RowKit Fs

def mrkCells (x : Mrk) : Nat → Value
  | 0 => .string x.key
  | _ => .string x.val
abbrev mrkV (x : Mrk) : Value := .agg #[.string x.key, .string x.val]
def ArrMk (w : World) (A : Option Addr) (l : List Mrk) (c : Nat) : Prop := Arr w A l.length c 2 fun i j => mrkCells (lMrk l i) j
theorem ArrMk.keep {w w' : World} (k : Keep w w') {A : Option Addr} {l : List Mrk} {c : Nat} (h : ArrMk w A l c) : ArrMk w' A l c := Arr.keep k h
theorem ArrMk.le {w : World} {A : Option Addr} {l : List Mrk} {c : Nat} (h : ArrMk w A l c) : l.length ≤ c ∧ c ≤ 9223372036854775807 := ⟨h.1, h.2.1⟩
structure MrkAt (w : World) (b o : Nat) (x : Mrk) : Prop where
  c0 : w.cell? ⟨b, o, none⟩ = some (.string x.key)
  c1 : w.cell? ⟨b, o + 1, none⟩ = some (.string x.val)
theorem MrkAt.keep {w w' : World} (k : Keep w w') {b o : Nat} {x : Mrk} (m : MrkAt w b o x) : MrkAt w' b o x := ⟨k _ _ m.c0, k _ _ m.c1⟩
theorem ArrMk.at_ {w : World} {A : Option Addr} {l : List Mrk} {c : Nat} (h : ArrMk w A l c) {k : Nat} (hk : k < l.length) : ∃ b o, A = some ⟨b, o, none⟩ ∧ MrkAt w b (o + k * 2) (lMrk l k) := by
  obtain ⟨b, o, e, hc⟩ := Arr.at_ h hk
  exact ⟨b, o, e, hc 0 (by omega), hc 1 (by omega)⟩
theorem ArrMk.two {w : World} {A : Option Addr} {l : List Mrk} {c : Nat} (h : ArrMk w A l c) {i k : Nat} (hi : i < l.length) (hk : k < l.length) : ∃ b o, A = some ⟨b, o, none⟩ ∧ MrkAt w b (o + i * 2) (lMrk l i) ∧ MrkAt w b (o + k * 2) (lMrk l k) := by
  obtain ⟨b, o, e, hc⟩ := h.at_ hi
  obtain ⟨b', o', e', hc'⟩ := h.at_ hk
  obtain ⟨rfl, rfl⟩ : b = b' ∧ o = o' := by rw [e] at e'; simpa using e'
  exact ⟨b, o, e, hc, hc'⟩
/-- The cells of a thing whose marks lie at p. -/
def thgCells (x : Thg) (p : Option Addr) (pc : Nat) : Nat → Value
  | 0 => .string x.name
  | 1 => .int .i64 x.day
  | 2 => .string x.who
  | _ => .slice p x.marks.length pc
abbrev thgV (x : Thg) (p : Option Addr) (pc : Nat) : Value := .agg #[.string x.name, .int .i64 x.day, .string x.who, .slice p x.marks.length pc]
/-- The value v reads as the thing x. -/
def RdThg (w : World) (v : Value) (x : Thg) : Prop := ∃ p pc, v = thgV x p pc ∧ ArrMk w p x.marks pc
theorem RdThg.keep {w w' : World} (k : Keep w w') {v : Value} {x : Thg} (h : RdThg w v x) : RdThg w' v x := by
  obtain ⟨p, pc, e, m⟩ := h
  exact ⟨p, pc, e, m.keep k⟩
/-- Where the marks of all things lie, and their capacities. -/
structure GA where
  p : Nat → Option Addr
  pc : Nat → Nat
def ArrTh (w : World) (A : Option Addr) (l : List Thg) (c : Nat) (a : GA) : Prop :=
  Arr w A l.length c 4 (fun i j => thgCells (lThg l i) (a.p i) (a.pc i) j) ∧ ∀ i, i < l.length → ArrMk w (a.p i) (lThg l i).marks (a.pc i)
theorem ArrTh.keep {w w' : World} (k : Keep w w') {A : Option Addr} {l : List Thg} {c : Nat} {a : GA} (h : ArrTh w A l c a) : ArrTh w' A l c a :=
  ⟨Arr.keep k h.1, fun i hi => (h.2 i hi).keep k⟩
theorem ArrTh.le {w : World} {A : Option Addr} {l : List Thg} {c : Nat} {a : GA} (h : ArrTh w A l c a) : l.length ≤ c ∧ c ≤ 9223372036854775807 := ⟨h.1.1, h.1.2.1⟩
/-- The four cells of a thing. -/
structure ThgAt (w : World) (b o : Nat) (x : Thg) (p : Option Addr) (pc : Nat) : Prop where
  c0 : w.cell? ⟨b, o, none⟩ = some (.string x.name)
  c1 : w.cell? ⟨b, o + 1, none⟩ = some (.int .i64 x.day)
  c2 : w.cell? ⟨b, o + 2, none⟩ = some (.string x.who)
  c3 : w.cell? ⟨b, o + 3, none⟩ = some (.slice p x.marks.length pc)
theorem ThgAt.keep {w w' : World} (k : Keep w w') {b o : Nat} {x : Thg} {p : Option Addr} {pc : Nat} (m : ThgAt w b o x p pc) : ThgAt w' b o x p pc := ⟨k _ _ m.c0, k _ _ m.c1, k _ _ m.c2, k _ _ m.c3⟩
theorem ThgAt.new (w : World) (x : Thg) (p : Option Addr) (pc : Nat) (t : TypeId) : ThgAt (w.alloc (.cells #[.string x.name, .int .i64 x.day, .string x.who, .slice p x.marks.length pc] t)) w.heap.size 0 x p pc :=
  ⟨cellNew _ _ _ 0, cellNew _ _ _ 1, cellNew _ _ _ 2, cellNew _ _ _ 3⟩
theorem ThgAt.lt {w : World} {b o : Nat} {x : Thg} {p : Option Addr} {pc : Nat} (m : ThgAt w b o x p pc) : b < w.heap.size := World.block_lt_of_cell? w _ m.c0
theorem ArrTh.at_ {w : World} {A : Option Addr} {l : List Thg} {c : Nat} {a : GA} (h : ArrTh w A l c a) {k : Nat} (hk : k < l.length) :
    ∃ b o, A = some ⟨b, o, none⟩ ∧ ThgAt w b (o + k * 4) (lThg l k) (a.p k) (a.pc k) ∧ ArrMk w (a.p k) (lThg l k).marks (a.pc k) := by
  obtain ⟨b, o, e, hc⟩ := h.1.at_ hk
  exact ⟨b, o, e, ⟨hc 0 (by omega), hc 1 (by omega), hc 2 (by omega), hc 3 (by omega)⟩, h.2 k hk⟩
theorem ArrTh.two {w : World} {A : Option Addr} {l : List Thg} {c : Nat} {a : GA} (h : ArrTh w A l c a) {i k : Nat} (hi : i < l.length) (hk : k < l.length) :
    ∃ b o, A = some ⟨b, o, none⟩ ∧ ThgAt w b (o + i * 4) (lThg l i) (a.p i) (a.pc i) ∧ ThgAt w b (o + k * 4) (lThg l k) (a.p k) (a.pc k) := by
  obtain ⟨b, o, e, hc, -⟩ := h.at_ hi
  obtain ⟨b', o', e', hc', -⟩ := h.at_ hk
  obtain ⟨rfl, rfl⟩ : b = b' ∧ o = o' := by rw [e] at e'; simpa using e'
  exact ⟨b, o, e, hc, hc'⟩
def evtCells (x : Evt) : Nat → Value
  | 0 => .string x.item
  | 1 => .int .i64 x.day
  | 2 => .int .i64 x.kind
  | 3 => .string x.src
  | _ => .string x.dst
abbrev evtV (x : Evt) : Value := .agg #[.string x.item, .int .i64 x.day, .int .i64 x.kind, .string x.src, .string x.dst]
def ArrEv (w : World) (A : Option Addr) (l : List Evt) (c : Nat) : Prop := Arr w A l.length c 5 fun i j => evtCells (lEvt l i) j
theorem ArrEv.keep {w w' : World} (k : Keep w w') {A : Option Addr} {l : List Evt} {c : Nat} (h : ArrEv w A l c) : ArrEv w' A l c := Arr.keep k h
theorem ArrEv.le {w : World} {A : Option Addr} {l : List Evt} {c : Nat} (h : ArrEv w A l c) : l.length ≤ c ∧ c ≤ 9223372036854775807 := ⟨h.1, h.2.1⟩
structure EvtAt (w : World) (b o : Nat) (x : Evt) : Prop where
  c0 : w.cell? ⟨b, o, none⟩ = some (.string x.item)
  c1 : w.cell? ⟨b, o + 1, none⟩ = some (.int .i64 x.day)
  c2 : w.cell? ⟨b, o + 2, none⟩ = some (.int .i64 x.kind)
  c3 : w.cell? ⟨b, o + 3, none⟩ = some (.string x.src)
  c4 : w.cell? ⟨b, o + 4, none⟩ = some (.string x.dst)
theorem EvtAt.keep {w w' : World} (k : Keep w w') {b o : Nat} {x : Evt} (m : EvtAt w b o x) : EvtAt w' b o x := ⟨k _ _ m.c0, k _ _ m.c1, k _ _ m.c2, k _ _ m.c3, k _ _ m.c4⟩
theorem EvtAt.new (w : World) (x : Evt) (t : TypeId) : EvtAt (w.alloc (.cells #[.string x.item, .int .i64 x.day, .int .i64 x.kind, .string x.src, .string x.dst] t)) w.heap.size 0 x :=
  ⟨cellNew _ _ _ 0, cellNew _ _ _ 1, cellNew _ _ _ 2, cellNew _ _ _ 3, cellNew _ _ _ 4⟩
theorem ArrEv.at_ {w : World} {A : Option Addr} {l : List Evt} {c : Nat} (h : ArrEv w A l c) {k : Nat} (hk : k < l.length) : ∃ b o, A = some ⟨b, o, none⟩ ∧ EvtAt w b (o + k * 5) (lEvt l k) := by
  obtain ⟨b, o, e, hc⟩ := Arr.at_ h hk
  exact ⟨b, o, e, hc 0 (by omega), hc 1 (by omega), hc 2 (by omega), hc 3 (by omega), hc 4 (by omega)⟩
theorem ArrEv.two {w : World} {A : Option Addr} {l : List Evt} {c : Nat} (h : ArrEv w A l c) {i k : Nat} (hi : i < l.length) (hk : k < l.length) : ∃ b o, A = some ⟨b, o, none⟩ ∧ EvtAt w b (o + i * 5) (lEvt l i) ∧ EvtAt w b (o + k * 5) (lEvt l k) := by
  obtain ⟨b, o, e, hc⟩ := h.at_ hi
  obtain ⟨b', o', e', hc'⟩ := h.at_ hk
  obtain ⟨rfl, rfl⟩ : b = b' ∧ o = o' := by rw [e] at e'; simpa using e'
  exact ⟨b, o, e, hc, hc'⟩
end Go.Proofs.YtfjdnbnalihjiaaDoor
/- Marks and things: the reference's CheckMarks, MarksErr, thingErr, CheckItem, CheckClaim. No condition. -/
namespace Go.Proofs.YtfjdnbnalihjiaaDoor
open Go.RowKit Fs

theorem Fs.marks_long {l : List Mrk} (h : 8 < l.length) : marksErr l = 8 ∧ marksAt l = 0 := ⟨if_pos h, if_pos h⟩
theorem Fs.marks_hit {l : List Mrk} {k : Nat} (h : ¬ 8 < l.length) (hk : k < l.length) (h1 : ∀ j, j < k → mrkErr l j = 0) (h2 : mrkErr l k ≠ 0) : marksErr l = mrkErr l k ∧ marksAt l = k := by
  unfold marksErr marksAt
  rw [if_neg h, if_neg h]
  exact fst_hit hk h1 h2
theorem Fs.marks_none {l : List Mrk} (h : ¬ 8 < l.length) (h1 : ∀ j, j < l.length → mrkErr l j = 0) : marksErr l = 0 ∧ marksAt l = 0 := by
  unfold marksErr marksAt
  rw [if_neg h, if_neg h]
  exact ⟨fst_none h1, idx_none h1⟩
end Go.Proofs.YtfjdnbnalihjiaaDoor

/- How it stands with an item behind its events: what the small functions answer. Condition: the table of states is as its initialiser lays it. -/
import Derived.Test.YtfjdnbnalihjiaaGreatDoorK3
import Derived.BigRegion
import Derived.Test.YtfjdnbnalihjiaaGreatDoorRows
import Derived.Lib.LaidTab
import Derived.Stop.LaidErr
import Derived.Deep.DeepHandedRow
import Derived.Test.YtfjdnbnalihjiaaGreatDoorG9
namespace Go.Proofs.YtfjdnbnalihjiaaGreatDoor
open Go.RowKit Fs

structure Fs.Std where
  holder : ByteArray
  state : Int
  day : Int
  stored : Int
abbrev stdV (s : Std) : Value := .agg #[.string s.holder, .int .i64 s.state, .int .i64 s.day, .int .i64 s.stored]
def Fs.begunS (x : Thg) : Std := ⟨x.who, 0, x.day, 0⟩
def Fs.stB : Nat → Int
  | 0 => 1
  | 1 => 1
  | 2 => 2
  | 3 => 3
  | _ => 4
def Fs.nextS (s : Std) (e : Evt) : Std := ⟨e.dst, stB e.kind.toNat, e.day, if e.kind = 0 then e.day else s.stored⟩
def Fs.doneS (s : Std) : Bool := decide (s.state ≠ 0) && decide (s.state ≠ 1)
def Fs.rightS (s : Std) (day : Int) : Int := if doneS s = true then 0 else if s.state = 0 ∨ day - s.stored ≤ 180 then 1 else if day - s.stored ≤ 210 then 2 else 3
/-- The table of states. -/
def TabSt (w : World) : Prop := ∀ i, i < 5 → w.cell? ⟨0, i, none⟩ = some (.int .i64 (stB i))
theorem TabSt.keep {w w' : World} (k : Keep w w') (h : TabSt w) : TabSt w' := fun i hi => k _ _ (h i hi)
structure StdAt (w : World) (g : Nat) (s : Std) : Prop where
  c0 : w.cell? ⟨g, 0, none⟩ = some (.string s.holder)
  c1 : w.cell? ⟨g, 1, none⟩ = some (.int .i64 s.state)
  c2 : w.cell? ⟨g, 2, none⟩ = some (.int .i64 s.day)
  c3 : w.cell? ⟨g, 3, none⟩ = some (.int .i64 s.stored)
  f0 : w.frozen? ⟨g, 0, none⟩ = false
  f1 : w.frozen? ⟨g, 1, none⟩ = false
  f2 : w.frozen? ⟨g, 2, none⟩ = false
  f3 : w.frozen? ⟨g, 3, none⟩ = false
theorem StdAt.lt {w : World} {g : Nat} {s : Std} (m : StdAt w g s) : g < w.heap.size := World.block_lt_of_cell? w _ m.c0
theorem StdAt.below {B : Nat} {w w' : World} {g : Nat} {s : Std} (m : StdAt w g s) (h : Below B w w') (hg : g < B) : StdAt w' g s :=
  ⟨(h.cell (p := ⟨g, 0, none⟩) hg).trans m.c0, (h.cell (p := ⟨g, 1, none⟩) hg).trans m.c1, (h.cell (p := ⟨g, 2, none⟩) hg).trans m.c2, (h.cell (p := ⟨g, 3, none⟩) hg).trans m.c3, (h.frozen (p := ⟨g, 0, none⟩) hg).trans m.f0, (h.frozen (p := ⟨g, 1, none⟩) hg).trans m.f1, (h.frozen (p := ⟨g, 2, none⟩) hg).trans m.f2, (h.frozen (p := ⟨g, 3, none⟩) hg).trans m.f3⟩
theorem StdAt.keep {w w' : World} {g : Nat} {s : Std} (m : StdAt w g s) (h : Below w.heap.size w w') : StdAt w' g s := m.below h m.lt
theorem StdAt.drew {w : World} {g : Nat} {s : Std} (m : StdAt w g s) : StdAt w.drew g s := ⟨m.c0, m.c1, m.c2, m.c3, m.f0, m.f1, m.f2, m.f3⟩
theorem StdAt.new (w : World) (s : Std) (t : TypeId) : StdAt (w.alloc (.cells #[.string s.holder, .int .i64 s.state, .int .i64 s.day, .int .i64 s.stored] t)) w.heap.size s := ⟨cellNew _ _ _ 0, cellNew _ _ _ 1, cellNew _ _ _ 2, cellNew _ _ _ 3, frozenNew _ _ _ 0, frozenNew _ _ _ 1, frozenNew _ _ _ 2, frozenNew _ _ _ 3⟩
theorem StdAt.set {w : World} {g : Nat} {s : Std} (m : StdAt w g s) (u : Std) : StdAt ((((w.setCell ⟨g, 0, none⟩ (.string u.holder)).setCell ⟨g, 1, none⟩ (.int .i64 u.state)).setCell ⟨g, 2, none⟩ (.int .i64 u.day)).setCell ⟨g, 3, none⟩ (.int .i64 u.stored)) g u :=
  ⟨(World.cell?_setCell_other _ _ _ _ (by simp)).trans ((World.cell?_setCell_other _ _ _ _ (by simp)).trans ((World.cell?_setCell_other _ _ _ _ (by simp)).trans (World.cell?_setCell_same _ _ _ m.c0))),
   (World.cell?_setCell_other _ _ _ _ (by simp)).trans ((World.cell?_setCell_other _ _ _ _ (by simp)).trans (World.cell?_setCell_same _ _ _ ((World.cell?_setCell_other _ _ _ _ (by simp)).trans m.c1))),
   (World.cell?_setCell_other _ _ _ _ (by simp)).trans (World.cell?_setCell_same _ _ _ ((World.cell?_setCell_other _ _ _ _ (by simp)).trans ((World.cell?_setCell_other _ _ _ _ (by simp)).trans m.c2))),
   World.cell?_setCell_same _ _ _ ((World.cell?_setCell_other _ _ _ _ (by simp)).trans ((World.cell?_setCell_other _ _ _ _ (by simp)).trans ((World.cell?_setCell_other _ _ _ _ (by simp)).trans m.c3))),
   (World.frozen?_setCell _ _ _ _).trans ((World.frozen?_setCell _ _ _ _).trans ((World.frozen?_setCell _ _ _ _).trans ((World.frozen?_setCell _ _ _ _).trans m.f0))), (World.frozen?_setCell _ _ _ _).trans ((World.frozen?_setCell _ _ _ _).trans ((World.frozen?_setCell _ _ _ _).trans ((World.frozen?_setCell _ _ _ _).trans m.f1))), (World.frozen?_setCell _ _ _ _).trans ((World.frozen?_setCell _ _ _ _).trans ((World.frozen?_setCell _ _ _ _).trans ((World.frozen?_setCell _ _ _ _).trans m.f2))), (World.frozen?_setCell _ _ _ _).trans ((World.frozen?_setCell _ _ _ _).trans ((World.frozen?_setCell _ _ _ _).trans ((World.frozen?_setCell _ _ _ _).trans m.f3)))⟩
theorem below_std {w wr : World} {g B : Nat} (h : Below B w wr) (hg : B ≤ g) (u0 u1 u2 u3 : Value) : Below B w ((((wr.setCell ⟨g, 0, none⟩ u0).setCell ⟨g, 1, none⟩ u1).setCell ⟨g, 2, none⟩ u2).setCell ⟨g, 3, none⟩ u3) :=
  (((h.setCell (p := ⟨g, 0, none⟩) hg u0).setCell (p := ⟨g, 1, none⟩) hg u1).setCell (p := ⟨g, 2, none⟩) hg u2).setCell (p := ⟨g, 3, none⟩) hg u3
set_option linter.unusedSimpArgs false in
set_option maxHeartbeats 12800000 in
set_option maxRecDepth 100000 in
theorem xBegun_any (x : Thg) (v : Value) (w : World) (hv : RdThg w v x) :
    Calls Tryz.prog 106 #[v] w fun e w' => e = .returned (stdV (begunS x)) ∧ Below w.heap.size w w' := by
  obtain ⟨p, pc, rfl, -⟩ := hv
  go_enter Tryz.func106, Tryz.ntmps106
  go_wp2_with fail
  refine bodyPost_ret (v := stdV (begunS x)) (by simp [results, Tryz.results106, go_sem, begunS]) rfl ⟨rfl, ?_⟩
  exact ((Below.refl _ _).alloc (Nat.le_refl _) _).alloc (by simp) _
set_option linter.unusedSimpArgs false in
set_option maxHeartbeats 12800000 in
set_option maxRecDepth 100000 in
theorem xIsDone_any (s : Std) (w : World) : Calls Tryz.prog 144 #[stdV s] w fun e w' => e = .returned (.bool (doneS s)) ∧ Below w.heap.size w w' := by
  have HW := Lib.hid ((Below.refl w.heap.size w).alloc (Nat.le_refl _) (.cells #[.string s.holder, .int .i64 s.state, .int .i64 s.day, .int .i64 s.stored] 152))
  by_cases h0 : s.state = 0
  · have F := Lib.hid (show doneS s = false by unfold doneS; rw [decide_eq_false (fun hh => hh h0)]; rfl)
    have d1 : (s.state == 0) = true := by simpa using h0
    have d2 : (s.state != 0) = false := by simpa using h0
    clear h0
    go_enter Tryz.func144, Tryz.ntmps144
    go_wp2_with fail
    go_ret
    exact ⟨ret_bool F.out.symm, HW.out⟩
  · have d1 : (s.state == 0) = false := by simpa using h0
    have d2 : (s.state != 0) = true := by simpa using h0
    by_cases h1 : s.state = 1
    · have F := Lib.hid (show doneS s = false by unfold doneS; rw [decide_eq_false (p := s.state ≠ 1) (fun hh => hh h1)]; exact Bool.and_false _)
      have d3 : (s.state == 1) = true := by simpa using h1
      have d4 : (s.state != 1) = false := by simpa using h1
      clear h0 h1
      go_enter Tryz.func144, Tryz.ntmps144
      go_wp2_with fail
      go_ret
      exact ⟨ret_bool F.out.symm, HW.out⟩
    · have F := Lib.hid (show doneS s = true by unfold doneS; rw [decide_eq_true (p := s.state ≠ 0) h0, decide_eq_true (p := s.state ≠ 1) h1]; rfl)
      have d3 : (s.state == 1) = false := by simpa using h1
      have d4 : (s.state != 1) = true := by simpa using h1
      clear h0 h1
      go_enter Tryz.func144, Tryz.ntmps144
      go_wp2_with fail
      go_ret
      exact ⟨ret_bool F.out.symm, HW.out⟩
set_option linter.unusedSimpArgs false in
set_option maxHeartbeats 12800000 in
set_option maxRecDepth 100000 in
theorem xBehind0_any (s : Std) (x : Evt) (w : World) (ht : TabSt w) :
    Calls Tryz.prog 110 #[stdV s, .agg #[.string x.item, .int .i64 x.day, .int .i64 0, .string x.src, .string x.dst]] w fun e w' => e = .returned (stdV ⟨x.dst, stB 0, x.day, x.day⟩) ∧ Below w.heap.size w w' := by
  have t0 := ht 0 (by omega)
  have hlt : 0 < w.heap.size := World.block_lt_of_cell? w _ t0
  have g1 : ((0 : Nat) = w.heap.size) = False := eq_false (by omega)
  have g2 : (w.heap.size = (0 : Nat)) = False := eq_false (by omega)
  have g3 : ((0 : Nat) = w.heap.size + 1) = False := eq_false (by omega)
  have g4 : ((0 : Nat) = w.heap.size + 1 + 1) = False := eq_false (by omega)
  have t1 := fun (a b c : Obj) => Keep.alloc _ c _ _ (Keep.alloc _ b _ _ (Keep.alloc w a _ _ t0))
  clear ht
  go_enter Tryz.func110, Tryz.ntmps110
  go_upto_region 3 with fail
  clear hlt
  go_wp2_with fail
  go_region
  all_goals
    go_wp2_with fail
    refine bodyPost_ret (v := stdV ⟨x.dst, stB 0, x.day, x.day⟩) (by simp [results, Tryz.results110, go_sem, stB]) rfl ⟨rfl, ?_⟩
    first
      | exact ((((Below.refl _ _).alloc (Nat.le_refl _) _).alloc (by simp) _).alloc (by simp; omega) _).drew
      | exact ((((Below.refl _ _).alloc (Nat.le_refl _) _).alloc (by simp) _).alloc (by simp; omega) _)
set_option linter.unusedSimpArgs false in
set_option maxHeartbeats 12800000 in
set_option maxRecDepth 100000 in
theorem xBehind1_any (s : Std) (x : Evt) (κ : Nat) (hκ : κ + 1 < 5) (w : World) (ht : TabSt w) :
    Calls Tryz.prog 110 #[stdV s, .agg #[.string x.item, .int .i64 x.day, .int .i64 (κ + 1 : Nat), .string x.src, .string x.dst]] w fun e w' => e = .returned (stdV ⟨x.dst, stB (κ + 1), x.day, s.stored⟩) ∧ Below w.heap.size w w' := by
  have t0 := ht (κ + 1) (by omega)
  have hlt : 0 < w.heap.size := World.block_lt_of_cell? w _ t0
  have d0 : (((κ + 1 : Nat) : Int) == 0) = false := by simp; omega
  have g1 : ((0 : Nat) = w.heap.size) = False := eq_false (by omega)
  have g2 : (w.heap.size = (0 : Nat)) = False := eq_false (by omega)
  have g3 : ((0 : Nat) = w.heap.size + 1) = False := eq_false (by omega)
  have g4 : ((0 : Nat) = w.heap.size + 1 + 1) = False := eq_false (by omega)
  have t1 := fun (a b c : Obj) => Keep.alloc _ c _ _ (Keep.alloc _ b _ _ (Keep.alloc w a _ _ t0))
  clear ht
  go_enter Tryz.func110, Tryz.ntmps110
  go_upto_region 3 with fail
  clear hlt
  go_wp2_with fail
  go_region
  all_goals
    go_wp2_with fail
    refine bodyPost_ret (v := stdV ⟨x.dst, stB (κ + 1), x.day, s.stored⟩) (by simp [results, Tryz.results110, go_sem, stB]) rfl ⟨rfl, ?_⟩
    first
      | exact ((((Below.refl _ _).alloc (Nat.le_refl _) _).alloc (by simp) _).alloc (by simp; omega) _).drew
      | exact ((((Below.refl _ _).alloc (Nat.le_refl _) _).alloc (by simp) _).alloc (by simp; omega) _)
end Go.Proofs.YtfjdnbnalihjiaaGreatDoor
/- The tables that the rows list, and a world that lays them. No condition. -/
namespace Go.Proofs.YtfjdnbnalihjiaaGreatDoor
open Go.ChangeShapes Go.WideShapes Go.ChangeAt Go.RowKit Fs

theorem Tryz.own : ownKnob Tryz.prog.godebug = none := by kernel_rfl
theorem Tryz.laidOut : laidOutB Tryz.prog = true := by kernel_rfl
theorem Tryz.gState : Tryz.prog.globalNamed "fiacre/found.stateBehind" = some 0 := by kernel_rfl
theorem Tryz.gStateT : (Tryz.prog.globals[(0 : Nat)]?).map (·.type) = some 191 := by kernel_rfl
theorem Tryz.cellsState : Tryz.prog.cellsOf 191 = 5 := by kernel_rfl
theorem Tryz.cellsOne : Tryz.prog.cellsOf 3 = 1 := by kernel_rfl
/-- From the rows' condition to the contracts'. -/
theorem tabSt_of {W : World} (h : laidMet Tryz.prog [("fiacre/found.stateBehind", Rows.laid_fiacre_found_stateBehind)] W) : TabSt W := by
  have hT := Lib.tabIs_of_head (k := .i64) (zs := [1, 1, 2, 3, 4]) Tryz.gState Tryz.gStateT Tryz.underlying191 Tryz.underlying3 Tryz.cellsOne Tryz.cellsState h
  intro i hi
  have := hT.cell Tryz.gState i hi
  match i, hi with
  | 0, _ => exact this
  | 1, _ => exact this
  | 2, _ => exact this
  | 3, _ => exact this
  | 4, _ => exact this
/-- A world that lays the listed tables. -/
noncomputable def laidWorld (os : Os) : World :=
  { World.holding Tryz.prog os ⟨#[], #[], []⟩ with heap := (((((World.holding Tryz.prog os ⟨#[], #[], []⟩).heap.modify 0 fun
      | .cells _ t frozen => .cells #[.int .i64 1, .int .i64 1, .int .i64 2, .int .i64 3, .int .i64 4] t frozen
      | o => o).modify 1 fun
      | .cells _ t frozen => .cells #[.int .u64 1, .int .u64 10, .int .u64 100, .int .u64 1000, .int .u64 10000, .int .u64 100000, .int .u64 1000000, .int .u64 10000000, .int .u64 100000000, .int .u64 1000000000, .int .u64 10000000000, .int .u64 100000000000, .int .u64 1000000000000, .int .u64 10000000000000, .int .u64 100000000000000, .int .u64 1000000000000000, .int .u64 10000000000000000, .int .u64 100000000000000000, .int .u64 1000000000000000000, .int .u64 10000000000000000000] t frozen
      | o => o).modify 3 fun
      | .cells _ t frozen => .cells #[.int .u8 0, .int .u8 1, .int .u8 28, .int .u8 2, .int .u8 29, .int .u8 14, .int .u8 24, .int .u8 3, .int .u8 30, .int .u8 22, .int .u8 20, .int .u8 15, .int .u8 25, .int .u8 17, .int .u8 4, .int .u8 8, .int .u8 31, .int .u8 27, .int .u8 13, .int .u8 23, .int .u8 21, .int .u8 19, .int .u8 16, .int .u8 7, .int .u8 26, .int .u8 12, .int .u8 18, .int .u8 6, .int .u8 11, .int .u8 5, .int .u8 10, .int .u8 9] t frozen
      | o => o).modify 4 fun
      | .cells _ t frozen => .cells #[.int .u8 0, .int .u8 1, .int .u8 56, .int .u8 2, .int .u8 57, .int .u8 49, .int .u8 28, .int .u8 3, .int .u8 61, .int .u8 58, .int .u8 42, .int .u8 50, .int .u8 38, .int .u8 29, .int .u8 17, .int .u8 4, .int .u8 62, .int .u8 47, .int .u8 59, .int .u8 36, .int .u8 45, .int .u8 43, .int .u8 51, .int .u8 22, .int .u8 53, .int .u8 39, .int .u8 33, .int .u8 30, .int .u8 24, .int .u8 18, .int .u8 12, .int .u8 5, .int .u8 63, .int .u8 55, .int .u8 48, .int .u8 27, .int .u8 60, .int .u8 41, .int .u8 37, .int .u8 16, .int .u8 46, .int .u8 35, .int .u8 44, .int .u8 21, .int .u8 52, .int .u8 32, .int .u8 23, .int .u8 11, .int .u8 54, .int .u8 26, .int .u8 40, .int .u8 15, .int .u8 34, .int .u8 20, .int .u8 31, .int .u8 10, .int .u8 25, .int .u8 14, .int .u8 19, .int .u8 9, .int .u8 13, .int .u8 8, .int .u8 7, .int .u8 6] t frozen
      | o => o) }
end Go.Proofs.YtfjdnbnalihjiaaGreatDoor
/- What the functions of chapter 9 answer, plainly. No condition. -/
namespace Go.Proofs.YtfjdnbnalihjiaaGreatDoor
open Go.RowKit Fs

def Fs.agErr (a b : List Mrk) : Int := if marksErr a ≠ 0 then marksErr a else marksErr b
def Fs.agOut (a b : List Mrk) : Int × Int := if agErr a b = 0 then (agrees a b, differs a b) else (0, 0)
def Fs.cbErr (x c : Thg) : Int := if thgErr x ≠ 0 then thgErr x else thgErr c
def Fs.cbOut (x c : Thg) : Bool := if cbErr x c = 0 then canBe x c else false
def Fs.cdErr (l : List Thg) (c : Thg) : Int := if thgsErr l ≠ 0 then thgsErr l else thgErr c
def Fs.cdOut (l : List Thg) (c : Thg) : List Int := if cdErr l c = 0 then cands l c else []
def Fs.bfErr (l : List Thg) (c : Thg) : Int := if cdErr l c ≠ 0 then cdErr l c else if (cands l c).length = 0 then 12 else 0
def Fs.bfOut (l : List Thg) (c : Thg) : Int := if cdErr l c = 0 then best l c else 0
def Fs.amOut (l c : List Thg) : List Int := if pairErr l c = 0 then amb l c else []
noncomputable def Fs.prOut (l c : List Thg) (p : List (Int × Int)) : Int := if pairsErr l c p = 0 then p.length else 0
noncomputable def Fs.cvOut (l c : List Thg) (a b : List Int) : Int := if coverErr l c a b = 0 then a.length + b.length else 0
def Fs.hoOut (x : Thg) (l : List Evt) (day : Int) : ByteArray := if onErr x l day = 0 then holderOf x l (untilN l day) else ⟨#[]⟩
def Fs.stOut (x : Thg) (l : List Evt) (day : Int) : Int := if onErr x l day = 0 then stateOf l (untilN l day) else 0
def Fs.riOut (x : Thg) (l : List Evt) (day : Int) : Int := if onErr x l day = 0 then rightOf l (untilN l day) day else 0
/-- Pairs of numbers in memory. -/
def prCells (x : Int × Int) : Nat → Value
  | 0 => .int .i64 x.1
  | _ => .int .i64 x.2
def ArrPr (w : World) (A : Option Addr) (p : List (Int × Int)) (c : Nat) : Prop := Arr w A p.length c 2 fun i j => prCells (pr p i) j
theorem ArrPr.keep {w w' : World} (k : Keep w w') {A : Option Addr} {l : List (Int × Int)} {c : Nat} (h : ArrPr w A l c) : ArrPr w' A l c := Arr.keep k h

def Fs.hatText : ByteArray := ⟨#[104, 97, 116, 32, 49, 48, 32, 97, 110, 110, 32, 99, 111, 108, 111, 114, 61, 114, 101, 100, 32, 107, 105, 110, 100, 61, 104, 97, 116, 32, 115, 105, 122, 101, 61, 98, 105, 103]⟩
end Go.Proofs.YtfjdnbnalihjiaaGreatDoor

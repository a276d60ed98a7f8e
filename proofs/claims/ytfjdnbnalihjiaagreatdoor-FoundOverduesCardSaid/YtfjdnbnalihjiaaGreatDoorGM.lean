/- What it means that a value in memory reads as marks, things or events. No condition. -/
import Derived.Test.YtfjdnbnalihjiaaGreatDoorT6
import Derived.Test.YtfjdnbnalihjiaaGreatDoorT8
import Derived.Test.YtfjdnbnalihjiaaGreatDoorT2
import Derived.BigQuiet
namespace Go.Proofs.YtfjdnbnalihjiaaGreatDoor
open Go.RowKit Fs

def mrkCells (x : Mrk) : Nat → Value
  | 0 => .string x.key
  | _ => .string x.val
abbrev mrkV (x : Mrk) : Value := .agg #[.string x.key, .string x.val]
def ArrMk (w : World) (A : Option Addr) (l : List Mrk) (c : Nat) : Prop := Arr w A l.length c 2 fun i j => mrkCells (lMrk l i) j
theorem ArrMk.keep {w w' : World} (k : Keep w w') {A : Option Addr} {l : List Mrk} {c : Nat} (h : ArrMk w A l c) : ArrMk w' A l c := Arr.keep k h
theorem ArrMk.le {w : World} {A : Option Addr} {l : List Mrk} {c : Nat} (h : ArrMk w A l c) : l.length ≤ c ∧ c ≤ 9223372036854775807 := ⟨h.1, h.2.1⟩
structure MrkAt (w : World) (b o : Nat) (x : Mrk) : Prop where
  c0 : w.cell? ⟨b, o, none⟩ = some (.string x.key)
  c1 : w.cell? ⟨b, o + 1, none⟩ = some (.string x.val)
theorem MrkAt.keep {w w' : World} (k : Keep w w') {b o : Nat} {x : Mrk} (m : MrkAt w b o x) : MrkAt w' b o x := ⟨k _ _ m.c0, k _ _ m.c1⟩
theorem ArrMk.at_ {w : World} {A : Option Addr} {l : List Mrk} {c : Nat} (h : ArrMk w A l c) {k : Nat} (hk : k < l.length) : ∃ b o, A = some ⟨b, o, none⟩ ∧ MrkAt w b (o + k * 2) (lMrk l k) := by
  obtain ⟨b, o, e, hc⟩ := Arr.at_ h hk
  exact ⟨b, o, e, hc 0 (by omega), hc 1 (by omega)⟩
theorem ArrMk.two {w : World} {A : Option Addr} {l : List Mrk} {c : Nat} (h : ArrMk w A l c) {i k : Nat} (hi : i < l.length) (hk : k < l.length) : ∃ b o, A = some ⟨b, o, none⟩ ∧ MrkAt w b (o + i * 2) (lMrk l i) ∧ MrkAt w b (o + k * 2) (lMrk l k) := by
  obtain ⟨b, o, e, hc⟩ := h.at_ hi
  obtain ⟨b', o', e', hc'⟩ := h.at_ hk
  obtain ⟨rfl, rfl⟩ : b = b' ∧ o = o' := by rw [e] at e'; simpa using e'
  exact ⟨b, o, e, hc, hc'⟩
/-- The cells of a thing whose marks lie at p. -/
def thgCells (x : Thg) (p : Option Addr) (pc : Nat) : Nat → Value
  | 0 => .string x.name
  | 1 => .int .i64 x.day
  | 2 => .string x.who
  | _ => .slice p x.marks.length pc
abbrev thgV (x : Thg) (p : Option Addr) (pc : Nat) : Value := .agg #[.string x.name, .int .i64 x.day, .string x.who, .slice p x.marks.length pc]
/-- The value v reads as the thing x. -/
def RdThg (w : World) (v : Value) (x : Thg) : Prop := ∃ p pc, v = thgV x p pc ∧ ArrMk w p x.marks pc
theorem RdThg.keep {w w' : World} (k : Keep w w') {v : Value} {x : Thg} (h : RdThg w v x) : RdThg w' v x := by
  obtain ⟨p, pc, e, m⟩ := h
  exact ⟨p, pc, e, m.keep k⟩
/-- Where the marks of all things lie, and their capacities. -/
structure GA where
  p : Nat → Option Addr
  pc : Nat → Nat
def ArrTh (w : World) (A : Option Addr) (l : List Thg) (c : Nat) (a : GA) : Prop :=
  Arr w A l.length c 4 (fun i j => thgCells (lThg l i) (a.p i) (a.pc i) j) ∧ ∀ i, i < l.length → ArrMk w (a.p i) (lThg l i).marks (a.pc i)
theorem ArrTh.keep {w w' : World} (k : Keep w w') {A : Option Addr} {l : List Thg} {c : Nat} {a : GA} (h : ArrTh w A l c a) : ArrTh w' A l c a :=
  ⟨Arr.keep k h.1, fun i hi => (h.2 i hi).keep k⟩
theorem ArrTh.le {w : World} {A : Option Addr} {l : List Thg} {c : Nat} {a : GA} (h : ArrTh w A l c a) : l.length ≤ c ∧ c ≤ 9223372036854775807 := ⟨h.1.1, h.1.2.1⟩
/-- The four cells of a thing. -/
structure ThgAt (w : World) (b o : Nat) (x : Thg) (p : Option Addr) (pc : Nat) : Prop where
  c0 : w.cell? ⟨b, o, none⟩ = some (.string x.name)
  c1 : w.cell? ⟨b, o + 1, none⟩ = some (.int .i64 x.day)
  c2 : w.cell? ⟨b, o + 2, none⟩ = some (.string x.who)
  c3 : w.cell? ⟨b, o + 3, none⟩ = some (.slice p x.marks.length pc)
theorem ThgAt.keep {w w' : World} (k : Keep w w') {b o : Nat} {x : Thg} {p : Option Addr} {pc : Nat} (m : ThgAt w b o x p pc) : ThgAt w' b o x p pc := ⟨k _ _ m.c0, k _ _ m.c1, k _ _ m.c2, k _ _ m.c3⟩
theorem ThgAt.new (w : World) (x : Thg) (p : Option Addr) (pc : Nat) (t : TypeId) : ThgAt (w.alloc (.cells #[.string x.name, .int .i64 x.day, .string x.who, .slice p x.marks.length pc] t)) w.heap.size 0 x p pc :=
  ⟨cellNew _ _ _ 0, cellNew _ _ _ 1, cellNew _ _ _ 2, cellNew _ _ _ 3⟩
theorem ThgAt.lt {w : World} {b o : Nat} {x : Thg} {p : Option Addr} {pc : Nat} (m : ThgAt w b o x p pc) : b < w.heap.size := World.block_lt_of_cell? w _ m.c0
theorem ArrTh.at_ {w : World} {A : Option Addr} {l : List Thg} {c : Nat} {a : GA} (h : ArrTh w A l c a) {k : Nat} (hk : k < l.length) :
    ∃ b o, A = some ⟨b, o, none⟩ ∧ ThgAt w b (o + k * 4) (lThg l k) (a.p k) (a.pc k) ∧ ArrMk w (a.p k) (lThg l k).marks (a.pc k) := by
  obtain ⟨b, o, e, hc⟩ := h.1.at_ hk
  exact ⟨b, o, e, ⟨hc 0 (by omega), hc 1 (by omega), hc 2 (by omega), hc 3 (by omega)⟩, h.2 k hk⟩
theorem ArrTh.two {w : World} {A : Option Addr} {l : List Thg} {c : Nat} {a : GA} (h : ArrTh w A l c a) {i k : Nat} (hi : i < l.length) (hk : k < l.length) :
    ∃ b o, A = some ⟨b, o, none⟩ ∧ ThgAt w b (o + i * 4) (lThg l i) (a.p i) (a.pc i) ∧ ThgAt w b (o + k * 4) (lThg l k) (a.p k) (a.pc k) := by
  obtain ⟨b, o, e, hc, -⟩ := h.at_ hi
  obtain ⟨b', o', e', hc', -⟩ := h.at_ hk
  obtain ⟨rfl, rfl⟩ : b = b' ∧ o = o' := by rw [e] at e'; simpa using e'
  exact ⟨b, o, e, hc, hc'⟩
def evtCells (x : Evt) : Nat → Value
  | 0 => .string x.item
  | 1 => .int .i64 x.day
  | 2 => .int .i64 x.kind
  | 3 => .string x.src
  | _ => .string x.dst
abbrev evtV (x : Evt) : Value := .agg #[.string x.item, .int .i64 x.day, .int .i64 x.kind, .string x.src, .string x.dst]
def ArrEv (w : World) (A : Option Addr) (l : List Evt) (c : Nat) : Prop := Arr w A l.length c 5 fun i j => evtCells (lEvt l i) j
theorem ArrEv.keep {w w' : World} (k : Keep w w') {A : Option Addr} {l : List Evt} {c : Nat} (h : ArrEv w A l c) : ArrEv w' A l c := Arr.keep k h
theorem ArrEv.le {w : World} {A : Option Addr} {l : List Evt} {c : Nat} (h : ArrEv w A l c) : l.length ≤ c ∧ c ≤ 9223372036854775807 := ⟨h.1, h.2.1⟩
structure EvtAt (w : World) (b o : Nat) (x : Evt) : Prop where
  c0 : w.cell? ⟨b, o, none⟩ = some (.string x.item)
  c1 : w.cell? ⟨b, o + 1, none⟩ = some (.int .i64 x.day)
  c2 : w.cell? ⟨b, o + 2, none⟩ = some (.int .i64 x.kind)
  c3 : w.cell? ⟨b, o + 3, none⟩ = some (.string x.src)
  c4 : w.cell? ⟨b, o + 4, none⟩ = some (.string x.dst)
theorem EvtAt.keep {w w' : World} (k : Keep w w') {b o : Nat} {x : Evt} (m : EvtAt w b o x) : EvtAt w' b o x := ⟨k _ _ m.c0, k _ _ m.c1, k _ _ m.c2, k _ _ m.c3, k _ _ m.c4⟩
theorem EvtAt.new (w : World) (x : Evt) (t : TypeId) : EvtAt (w.alloc (.cells #[.string x.item, .int .i64 x.day, .int .i64 x.kind, .string x.src, .string x.dst] t)) w.heap.size 0 x :=
  ⟨cellNew _ _ _ 0, cellNew _ _ _ 1, cellNew _ _ _ 2, cellNew _ _ _ 3, cellNew _ _ _ 4⟩
theorem ArrEv.at_ {w : World} {A : Option Addr} {l : List Evt} {c : Nat} (h : ArrEv w A l c) {k : Nat} (hk : k < l.length) : ∃ b o, A = some ⟨b, o, none⟩ ∧ EvtAt w b (o + k * 5) (lEvt l k) := by
  obtain ⟨b, o, e, hc⟩ := Arr.at_ h hk
  exact ⟨b, o, e, hc 0 (by omega), hc 1 (by omega), hc 2 (by omega), hc 3 (by omega), hc 4 (by omega)⟩
theorem ArrEv.two {w : World} {A : Option Addr} {l : List Evt} {c : Nat} (h : ArrEv w A l c) {i k : Nat} (hi : i < l.length) (hk : k < l.length) : ∃ b o, A = some ⟨b, o, none⟩ ∧ EvtAt w b (o + i * 5) (lEvt l i) ∧ EvtAt w b (o + k * 5) (lEvt l k) := by
  obtain ⟨b, o, e, hc⟩ := h.at_ hi
  obtain ⟨b', o', e', hc'⟩ := h.at_ hk
  obtain ⟨rfl, rfl⟩ : b = b' ∧ o = o' := by rw [e] at e'; simpa using e'
  exact ⟨b, o, e, hc, hc'⟩
end Go.Proofs.YtfjdnbnalihjiaaGreatDoor
/- Marks and things: the reference's CheckMarks, MarksErr, thingErr, CheckItem, CheckClaim. No condition. -/
namespace Go.Proofs.YtfjdnbnalihjiaaGreatDoor
open Go.RowKit Fs

theorem Fs.marks_long {l : List Mrk} (h : 8 < l.length) : marksErr l = 8 ∧ marksAt l = 0 := ⟨if_pos h, if_pos h⟩
theorem Fs.marks_hit {l : List Mrk} {k : Nat} (h : ¬ 8 < l.length) (hk : k < l.length) (h1 : ∀ j, j < k → mrkErr l j = 0) (h2 : mrkErr l k ≠ 0) : marksErr l = mrkErr l k ∧ marksAt l = k := by
  unfold marksErr marksAt
  rw [if_neg h, if_neg h]
  exact fst_hit hk h1 h2
theorem Fs.marks_none {l : List Mrk} (h : ¬ 8 < l.length) (h1 : ∀ j, j < l.length → mrkErr l j = 0) : marksErr l = 0 ∧ marksAt l = 0 := by
  unfold marksErr marksAt
  rw [if_neg h, if_neg h]
  exact ⟨fst_none h1, idx_none h1⟩
set_option maxHeartbeats 3200000 in
set_option maxRecDepth 100000 in
theorem rCheckMarks_any (l : List Mrk) (A : Option Addr) (c : Nat) (w : World) (h : ArrMk w A l c) :
    Calls Tryz.prog 20 #[.slice A l.length c] w fun e w' => e = .returned (.tuple #[.int .i64 (marksAt l : Nat), .int .i64 (marksErr l)]) ∧ Below w.heap.size w w' := by
  have b1 := h.le.1
  have b2 := h.le.2
  have HA := Lib.hid h
  clear h
  go_enter Tryz.func20, Tryz.ntmps20
  by_cases h40 : 8 < l.length
  · obtain ⟨F1, F2⟩ := marks_long h40
    have G1 := Lib.hid F1
    have G2 := Lib.hid F2
    have d1 : decide ((l.length : Int) > 8) = true := decide_eq_true (by omega)
    have d2 : decide ((8 : Int) < (l.length : Int)) = true := decide_eq_true (by omega)
    clear F1 F2 h40
    go_wp2_with fail
    go_ret2
    exact ⟨by rw [G1.out, G2.out]; rfl, Below.refl _ _⟩
  · have H40 := Lib.hid h40
    have d1 : decide ((l.length : Int) > 8) = false := decide_eq_false (by omega)
    have d2 : decide ((8 : Int) < (l.length : Int)) = false := decide_eq_false (by omega)
    clear h40
    go_wp2_with fail
    go_loopw [4] (fun i wr => ∃ k : Nat, k ≤ l.length ∧ i = .int .i64 k ∧ Hid (∀ j, j < k → mrkErr l j = 0) ∧ Hid (Below w.heap.size w wr)) (fun i _ => l.length - (intOf i).toNat)
    case atStart => exact ⟨0, Nat.zero_le _, rfl, Lib.hid fun j hj => absurd hj (Nat.not_lt_zero _), Lib.hid (Below.refl _ _)⟩
    case round =>
      obtain ⟨k, hk, rfl, Hn, HB⟩ := hrel
      by_cases hlt : k < l.length
      · have hkn : (k : Int) < (l.length : Int) := by omega
        obtain ⟨b, o, rfl, q⟩ := (HA.out.keep (Keep.below HB.out)).at_ hlt
        obtain ⟨q0, q1⟩ := q
        cases n1 : isName (lMrk l k).key with
        | false =>
          have F : Hid (mrkErr l k = 4) := Lib.hid (if_pos (Or.inl n1))
          obtain ⟨F1, F2⟩ := marks_hit H40.out hlt Hn.out (by rw [F.out]; decide)
          have G1 := Lib.hid F1
          have G2 := Lib.hid F2
          go_wp2_with (go_at_call 79
                       refine (bIsName_any _ _).mono ?_
                       rintro e w' ⟨rfl, rfl⟩
                       first | rw [n1] | rw [n2])
          go_ret2
          exact ⟨by rw [G1.out, G2.out, F.out]; rfl, HB.out⟩
        | true =>
          cases n2 : isName (lMrk l k).val with
          | false =>
            have F : Hid (mrkErr l k = 4) := Lib.hid (if_pos (Or.inr n2))
            obtain ⟨F1, F2⟩ := marks_hit H40.out hlt Hn.out (by rw [F.out]; decide)
            have G1 := Lib.hid F1
            have G2 := Lib.hid F2
            go_wp2_with (go_at_call 79
                         refine (bIsName_any _ _).mono ?_
                         rintro e w' ⟨rfl, rfl⟩
                         first | rw [n1] | rw [n2])
            go_ret2
            exact ⟨by rw [G1.out, G2.out, F.out]; rfl, HB.out⟩
          | true =>
            have N12 : Hid (¬ (isName (lMrk l k).key = false ∨ isName (lMrk l k).val = false)) := Lib.hid (by rw [n1, n2]; decide)
            by_cases hk0 : 0 < k
            · have d3 : decide ((k : Int) > 0) = true := decide_eq_true (by omega)
              have d4 : decide (0 < (k : Int)) = true := decide_eq_true (by omega)
              have d6 : decide (0 < k) = true := decide_eq_true hk0
              have hkp : (k : Int) - 1 = ((k - 1 : Nat) : Int) := by omega
              have hk1 : ((k - 1 : Nat) : Int) < (l.length : Int) := by omega
              obtain ⟨b', o', e', r, -⟩ := (HA.out.keep (Keep.below HB.out)).two (i := k - 1) (by omega) hlt
              obtain ⟨rfl, rfl⟩ : b = b' ∧ o = o' := by simpa using e'
              clear e'
              obtain ⟨r0, r1⟩ := r
              cases hl : leB (lMrk l k).key (lMrk l (k - 1)).key with
              | true =>
                have d5 : (Go.Op.bytesLess (lMrk l k).key.toList (lMrk l (k - 1)).key.toList || ((lMrk l k).key.toList == (lMrk l (k - 1)).key.toList)) = true := hl
                have F : Hid (mrkErr l k = 9) := Lib.hid (by unfold mrkErr; rw [if_neg N12.out, if_pos ⟨hk0, hl⟩])
                obtain ⟨F1, F2⟩ := marks_hit H40.out hlt Hn.out (by rw [F.out]; decide)
                have G1 := Lib.hid F1
                have G2 := Lib.hid F2
                clear hl hk0
                go_wp2_with (go_at_call 79
                             refine (bIsName_any _ _).mono ?_
                             rintro e w' ⟨rfl, rfl⟩
                             first | rw [n1] | rw [n2])
                go_quiet (fail)
                go_wp2_with fail
                go_ret2
                exact ⟨by rw [G1.out, G2.out, F.out]; rfl, bdrewN HB.out _⟩
              | false =>
                have d5 : (Go.Op.bytesLess (lMrk l k).key.toList (lMrk l (k - 1)).key.toList || ((lMrk l k).key.toList == (lMrk l (k - 1)).key.toList)) = false := hl
                have F : Hid (mrkErr l k = 0) := Lib.hid (by unfold mrkErr; rw [if_neg N12.out, if_neg (by rw [hl]; intro hh; exact absurd hh.2 (by decide))])
                clear hl hk0
                go_wp2_with (go_at_call 79
                             refine (bIsName_any _ _).mono ?_
                             rintro e w' ⟨rfl, rfl⟩
                             first | rw [n1] | rw [n2])
                go_quiet (fail)
                go_wp2_with fail
                go_roundw
                case rel =>
                  exact ⟨k + 1, by omega, by go_num, Lib.hid fun j hj => by
                    by_cases e : j = k
                    · subst e; exact F.out
                    · exact Hn.out j (by omega), Lib.hid (bdrewN HB.out _)⟩
                case measure => simp [intOf]; omega
            · have d3 : decide ((k : Int) > 0) = false := decide_eq_false (by omega)
              have d4 : decide (0 < (k : Int)) = false := decide_eq_false (by omega)
              have d5 : decide (0 < k) = false := decide_eq_false hk0
              have F : Hid (mrkErr l k = 0) := Lib.hid (by unfold mrkErr; rw [if_neg N12.out, if_neg (fun hh => hk0 hh.1)])
              clear hk0
              go_wp2_with (go_at_call 79
                           refine (bIsName_any _ _).mono ?_
                           rintro e w' ⟨rfl, rfl⟩
                           first | rw [n1] | rw [n2])
              go_quiet (fail)
              go_wp2_with fail
              go_roundw
              case rel =>
                exact ⟨k + 1, by omega, by go_num, Lib.hid fun j hj => by
                  by_cases e : j = k
                  · subst e; exact F.out
                  · exact Hn.out j (by omega), Lib.hid (bdrewN HB.out _)⟩
              case measure => simp [intOf]; omega
      · obtain ⟨F1, F2⟩ := marks_none H40.out (fun j hj => Hn.out j (by omega) : ∀ j, j < l.length → mrkErr l j = 0)
        have G1 := Lib.hid F1
        have G2 := Lib.hid F2
        clear F1 F2
        go_wp2_with fail
        go_ret2
        exact ⟨by rw [G1.out, G2.out]; rfl, HB.out⟩
set_option maxHeartbeats 400000 in
theorem rMarksErr_any (l : List Mrk) (A : Option Addr) (c : Nat) (w : World) (h : ArrMk w A l c) :
    Calls Tryz.prog 28 #[.slice A l.length c] w fun e w' => e = .returned (.int .i64 (marksErr l)) ∧ Below w.heap.size w w' := by
  go_enter Tryz.func28, Tryz.ntmps28
  go_wp2_with fail
  refine (rCheckMarks_any l A c _ h).mono ?_
  rintro e w1 ⟨rfl, hb⟩
  go_wp2_with fail
  go_ret
  exact ⟨rfl, hb⟩
set_option maxHeartbeats 400000 in
theorem rThingErr_any (x : Thg) (A : Option Addr) (c : Nat) (w : World) (h : ArrMk w A x.marks c) :
    Calls Tryz.prog 81 #[.string x.name, .string x.who, .int .i64 x.day, .slice A x.marks.length c] w fun e w' => e = .returned (.int .i64 (thgErr x)) ∧ Below w.heap.size w w' := by
  go_enter Tryz.func81, Tryz.ntmps81
  cases n1 : isName x.name with
  | false =>
    have F := Lib.hid (show thgErr x = 4 from if_pos (Or.inl n1))
    go_wp2_with (go_at_call 79
                 refine (bIsName_any _ _).mono ?_
                 rintro e w' ⟨rfl, rfl⟩
                 first | rw [n1] | rw [n2])
    go_ret
    exact ⟨ret_int F.out.symm, Below.refl _ _⟩
  | true =>
    cases n2 : isName x.who with
    | false =>
      have F := Lib.hid (show thgErr x = 4 from if_pos (Or.inr n2))
      go_wp2_with (go_at_call 79
                   refine (bIsName_any _ _).mono ?_
                   rintro e w' ⟨rfl, rfl⟩
                   first | rw [n1] | rw [n2])
      go_ret
      exact ⟨ret_int F.out.symm, Below.refl _ _⟩
    | true =>
      have N12 : ¬ (isName x.name = false ∨ isName x.who = false) := by rw [n1, n2]; decide
      cases n3 : isDay x.day with
      | false =>
        have F := Lib.hid (show thgErr x = 2 by unfold thgErr; rw [if_neg N12, if_pos n3])
        clear N12
        go_wp2_with (go_at_call 79
                     refine (bIsName_any _ _).mono ?_
                     rintro e w' ⟨rfl, rfl⟩
                     first | rw [n1] | rw [n2])
        refine (bwithin_any _ _ _ _).mono ?_
        rintro e w' ⟨rfl, rfl⟩
        rw [show within x.day 0 100000 = false from n3]
        go_wp2_with fail
        go_ret
        exact ⟨ret_int F.out.symm, Below.refl _ _⟩
      | true =>
        have F := Lib.hid (show thgErr x = marksErr x.marks by unfold thgErr; rw [if_neg N12, if_neg (by rw [n3]; decide)])
        clear N12
        go_wp2_with (go_at_call 79
                     refine (bIsName_any _ _).mono ?_
                     rintro e w' ⟨rfl, rfl⟩
                     first | rw [n1] | rw [n2])
        refine (bwithin_any _ _ _ _).mono ?_
        rintro e w' ⟨rfl, rfl⟩
        rw [show within x.day 0 100000 = true from n3]
        go_wp2_with fail
        refine (rMarksErr_any _ _ _ _ h).mono ?_
        rintro e w1 ⟨rfl, hb⟩
        go_wp2_with fail
        go_ret
        exact ⟨ret_int F.out.symm, hb⟩
set_option maxHeartbeats 400000 in
theorem rCheckItem_any (x : Thg) (v : Value) (w : World) (h : RdThg w v x) :
    Calls Tryz.prog 23 #[v] w fun e w' => e = .returned (.int .i64 (thgErr x)) ∧ Below w.heap.size w w' := by
  obtain ⟨p, pc, rfl, m⟩ := h
  have hb0 := (Below.refl w.heap.size w).alloc (Nat.le_refl _) (.cells #[.string x.name, .int .i64 x.day, .string x.who, .slice p x.marks.length pc] 24)
  have M := Lib.hid (m.keep (Keep.below hb0))
  have HB0 := Lib.hid hb0
  obtain ⟨q0, q1, q2, q3⟩ := ThgAt.new w x p pc 24
  clear m hb0
  go_enter Tryz.func23, Tryz.ntmps23
  go_wp2_with fail
  refine (rThingErr_any x p pc _ M.out).mono ?_
  rintro e w1 ⟨rfl, hb⟩
  go_wp2_with fail
  go_ret
  exact ⟨rfl, HB0.out.trans (hb.mono HB0.out.size)⟩
set_option maxHeartbeats 400000 in
theorem rCheckClaim_any (x : Thg) (v : Value) (w : World) (h : RdThg w v x) :
    Calls Tryz.prog 26 #[v] w fun e w' => e = .returned (.int .i64 (thgErr x)) ∧ Below w.heap.size w w' := by
  obtain ⟨p, pc, rfl, m⟩ := h
  have hb0 := (Below.refl w.heap.size w).alloc (Nat.le_refl _) (.cells #[.string x.name, .int .i64 x.day, .string x.who, .slice p x.marks.length pc] 26)
  have M := Lib.hid (m.keep (Keep.below hb0))
  have HB0 := Lib.hid hb0
  obtain ⟨q0, q1, q2, q3⟩ := ThgAt.new w x p pc 26
  clear m hb0
  go_enter Tryz.func26, Tryz.ntmps26
  go_wp2_with fail
  refine (rThingErr_any x p pc _ M.out).mono ?_
  rintro e w1 ⟨rfl, hb⟩
  go_wp2_with fail
  go_ret
  exact ⟨rfl, HB0.out.trans (hb.mono HB0.out.size)⟩
end Go.Proofs.YtfjdnbnalihjiaaGreatDoor

/- The library's joining and cutting of texts, and its looking for a text, tied to this program's numbers (laid by the library's own command). -/
import Derived.Shelf.Strings.OnBuilder
import Derived.Shelf.Strings.Split
import Derived.Shelf.Slices.Turned
import Derived.Ground.Names2Prog
import Derived.Test.YtolicafhbeiciaaProg
import Derived.WalkKit
import Derived.Deep.Draws
import Derived.Test.YtolicafhbeiciaaFs
namespace Go.Proofs.Ytolicafhbeiciaa
open Go.Shelf
end Go.Proofs.Ytolicafhbeiciaa
/- What it means that a value in memory reads as a tariff or a trip, and that this outlasts whatever leaves old cells as they were. No condition. -/
namespace Go.Proofs.Ytolicafhbeiciaa
open Go.RowKit Fs

/-- Every cell that was there reads as it did. -/
def Keep (w w' : World) : Prop := ∀ p u, w.cell? p = some u → w'.cell? p = some u
theorem bdrewN {B : Nat} {a w : World} (h : Below B a w) (n : Nat) : Below B a (w.drewN n) := ⟨h.os, h.tape, h.output, h.size, h.block⟩
theorem Keep.refl (w : World) : Keep w w := fun _ _ h => h
theorem Keep.trans {a b c : World} (h : Keep a b) (k : Keep b c) : Keep a c := fun p u hp => k p u (h p u hp)
theorem Keep.below {w w' : World} (h : Below w.heap.size w w') : Keep w w' := fun p _ hp => (h.cell (World.block_lt_of_cell? w p hp)).trans hp
theorem Keep.drew (w : World) : Keep w w.drew := fun _ _ h => h
theorem Keep.drewN (w : World) (n : Nat) : Keep w (w.drewN n) := fun _ _ h => h
theorem Keep.alloc (w : World) (o : Obj) : Keep w (w.alloc o) := fun p _ hp => (World.cell?_alloc_lt w o p (World.block_lt_of_cell? w p hp)).trans hp
theorem Keep.upto {B : Nat} {w w0 w' : World} (h0 : Keep w w0) (hB : w.heap.size ≤ B) (h : Below B w0 w') : Keep w w' := fun p u hp =>
  (h.cell (Nat.lt_of_lt_of_le (World.block_lt_of_cell? w p hp) hB)).trans (h0 p u hp)

theorem cell_new (w : World) (cs : Array Value) (t : TypeId) (i : Nat) : (w.alloc (.cells cs t)).cell? ⟨w.heap.size, i, none⟩ = cs[i]? := cell_of_row _ _ i cs t (0, 0) (heap_alloc_new w _)

/-- A slice of n elements of 'size' cells at A: cell j of element i holds C i j. -/
def Arr (w : World) (A : Option Addr) (n c size : Nat) (C : Nat → Nat → Value) : Prop :=
  n ≤ c ∧ c ≤ 9223372036854775807 ∧ (0 < n → ∃ b o, A = some ⟨b, o, none⟩ ∧ ∀ i j, i < n → j < size → w.cell? ⟨b, o + i * size + j, none⟩ = some (C i j))
theorem Arr.keep {w w' : World} (k : Keep w w') {A : Option Addr} {n c size : Nat} {C : Nat → Nat → Value} (h : Arr w A n c size C) : Arr w' A n c size C := by
  obtain ⟨h1, h2, h3⟩ := h
  refine ⟨h1, h2, fun hn => ?_⟩
  obtain ⟨b, o, e1, hc⟩ := h3 hn
  exact ⟨b, o, e1, fun i j hi hj => k _ _ (hc i j hi hj)⟩
theorem Arr.at_ {w : World} {A : Option Addr} {n c size : Nat} {C : Nat → Nat → Value} (h : Arr w A n c size C) {k : Nat} (hk : k < n) :
    ∃ b o, A = some ⟨b, o, none⟩ ∧ ∀ j, j < size → w.cell? ⟨b, o + k * size + j, none⟩ = some (C k j) := by
  obtain ⟨b, o, e, hc⟩ := h.2.2 (by omega)
  exact ⟨b, o, e, fun j hj => hc k j hk hj⟩

def ArrI (w : World) (A : Option Addr) (l : List Int) (c : Nat) : Prop := Arr w A l.length c 1 fun i _ => .int .i64 (listI l i)
def ArrS (w : World) (A : Option Addr) (l : List ByteArray) (c : Nat) : Prop := Arr w A l.length c 1 fun i _ => .string (listS l i)
theorem ArrI.at_ {w : World} {A : Option Addr} {l : List Int} {c : Nat} (h : ArrI w A l c) {k : Nat} (hk : k < l.length) : ∃ b o, A = some ⟨b, o, none⟩ ∧ w.cell? ⟨b, o + k, none⟩ = some (.int .i64 (listI l k)) := by
  obtain ⟨b, o, e, hc⟩ := Arr.at_ h hk
  exact ⟨b, o, e, by simpa using hc 0 (by omega)⟩
theorem ArrS.at_ {w : World} {A : Option Addr} {l : List ByteArray} {c : Nat} (h : ArrS w A l c) {k : Nat} (hk : k < l.length) : ∃ b o, A = some ⟨b, o, none⟩ ∧ w.cell? ⟨b, o + k, none⟩ = some (.string (listS l k)) := by
  obtain ⟨b, o, e, hc⟩ := Arr.at_ h hk
  exact ⟨b, o, e, by simpa using hc 0 (by omega)⟩
theorem ArrI.keep {w w' : World} (k : Keep w w') {A : Option Addr} {l : List Int} {c : Nat} (h : ArrI w A l c) : ArrI w' A l c := Arr.keep k h
theorem ArrS.keep {w w' : World} (k : Keep w w') {A : Option Addr} {l : List ByteArray} {c : Nat} (h : ArrS w A l c) : ArrS w' A l c := Arr.keep k h
theorem ArrI.le {w : World} {A : Option Addr} {l : List Int} {c : Nat} (h : ArrI w A l c) : l.length ≤ c ∧ c ≤ 9223372036854775807 := ⟨h.1, h.2.1⟩
theorem ArrS.le {w : World} {A : Option Addr} {l : List ByteArray} {c : Nat} (h : ArrS w A l c) : l.length ≤ c ∧ c ≤ 9223372036854775807 := ⟨h.1, h.2.1⟩

/-- The cells of a rule whose two slices lie at z and d. -/
def ruleCells (r : Rule) (z d : Option Addr) (zc dc : Nat) : Nat → Value
  | 0 => .string r.name
  | 1 => .int .i64 r.lo
  | 2 => .int .i64 r.hi
  | 3 => .slice z r.zones.length zc
  | 4 => .slice d r.days.length dc
  | 5 => .int .i64 r.beg
  | 6 => .int .i64 r.fin
  | 7 => .int .i64 r.start
  | 8 => .int .i64 r.metre
  | _ => .int .i64 r.second
abbrev ruleV (r : Rule) (z d : Option Addr) (zc dc : Nat) : Value :=
  .agg #[.string r.name, .int .i64 r.lo, .int .i64 r.hi, .slice z r.zones.length zc, .slice d r.days.length dc, .int .i64 r.beg, .int .i64 r.fin, .int .i64 r.start, .int .i64 r.metre, .int .i64 r.second]
/-- The slices of all rules: where they lie and their capacities. -/
structure RA where
  z : Nat → Option Addr
  d : Nat → Option Addr
  zc : Nat → Nat
  dc : Nat → Nat
def ArrR (w : World) (A : Option Addr) (l : List Rule) (c : Nat) (a : RA) : Prop :=
  Arr w A l.length c 10 (fun i j => ruleCells (listR l i) (a.z i) (a.d i) (a.zc i) (a.dc i) j) ∧ ∀ i, i < l.length → ArrI w (a.z i) (listR l i).zones (a.zc i) ∧ ArrI w (a.d i) (listR l i).days (a.dc i)
theorem ArrR.keep {w w' : World} (k : Keep w w') {A : Option Addr} {l : List Rule} {c : Nat} {a : RA} (h : ArrR w A l c a) : ArrR w' A l c a :=
  ⟨Arr.keep k h.1, fun i hi => ⟨(h.2 i hi).1.keep k, (h.2 i hi).2.keep k⟩⟩
theorem ArrR.le {w : World} {A : Option Addr} {l : List Rule} {c : Nat} {a : RA} (h : ArrR w A l c a) : l.length ≤ c ∧ c ≤ 9223372036854775807 := ⟨h.1.1, h.1.2.1⟩
/-- The ten cells of rule k. -/
structure RuleAt (w : World) (b o : Nat) (r : Rule) (z d : Option Addr) (zc dc : Nat) : Prop where
  c0 : w.cell? ⟨b, o, none⟩ = some (.string r.name)
  c1 : w.cell? ⟨b, o + 1, none⟩ = some (.int .i64 r.lo)
  c2 : w.cell? ⟨b, o + 2, none⟩ = some (.int .i64 r.hi)
  c3 : w.cell? ⟨b, o + 3, none⟩ = some (.slice z r.zones.length zc)
  c4 : w.cell? ⟨b, o + 4, none⟩ = some (.slice d r.days.length dc)
  c5 : w.cell? ⟨b, o + 5, none⟩ = some (.int .i64 r.beg)
  c6 : w.cell? ⟨b, o + 6, none⟩ = some (.int .i64 r.fin)
  c7 : w.cell? ⟨b, o + 7, none⟩ = some (.int .i64 r.start)
  c8 : w.cell? ⟨b, o + 8, none⟩ = some (.int .i64 r.metre)
  c9 : w.cell? ⟨b, o + 9, none⟩ = some (.int .i64 r.second)
theorem ArrR.at_ {w : World} {A : Option Addr} {l : List Rule} {c : Nat} {a : RA} (h : ArrR w A l c a) {k : Nat} (hk : k < l.length) :
    ∃ b o, A = some ⟨b, o, none⟩ ∧ RuleAt w b (o + k * 10) (listR l k) (a.z k) (a.d k) (a.zc k) (a.dc k) := by
  obtain ⟨b, o, e, hc⟩ := h.1.at_ hk
  exact ⟨b, o, e, hc 0 (by omega), hc 1 (by omega), hc 2 (by omega), hc 3 (by omega), hc 4 (by omega), hc 5 (by omega), hc 6 (by omega), hc 7 (by omega), hc 8 (by omega), hc 9 (by omega)⟩

def extraCells (x : Extra) : Nat → Value
  | 0 => .string x.name
  | _ => .int .i64 x.amount
def ArrE (w : World) (A : Option Addr) (l : List Extra) (c : Nat) : Prop := Arr w A l.length c 2 fun i j => extraCells (listE l i) j
theorem ArrE.keep {w w' : World} (k : Keep w w') {A : Option Addr} {l : List Extra} {c : Nat} (h : ArrE w A l c) : ArrE w' A l c := Arr.keep k h
theorem ArrE.le {w : World} {A : Option Addr} {l : List Extra} {c : Nat} (h : ArrE w A l c) : l.length ≤ c ∧ c ≤ 9223372036854775807 := ⟨h.1, h.2.1⟩
theorem ArrE.at_ {w : World} {A : Option Addr} {l : List Extra} {c : Nat} (h : ArrE w A l c) {k : Nat} (hk : k < l.length) :
    ∃ b o, A = some ⟨b, o, none⟩ ∧ w.cell? ⟨b, o + k * 2, none⟩ = some (.string (listE l k).name) ∧ w.cell? ⟨b, o + k * 2 + 1, none⟩ = some (.int .i64 (listE l k).amount) := by
  obtain ⟨b, o, e, hc⟩ := Arr.at_ h hk
  exact ⟨b, o, e, hc 0 (by omega), hc 1 (by omega)⟩
def fixCells (x : Fix) : Nat → Value
  | 0 => .int .i64 x.src
  | 1 => .int .i64 x.dst
  | _ => .int .i64 x.amount
def ArrF (w : World) (A : Option Addr) (l : List Fix) (c : Nat) : Prop := Arr w A l.length c 3 fun i j => fixCells (listF l i) j
theorem ArrF.keep {w w' : World} (k : Keep w w') {A : Option Addr} {l : List Fix} {c : Nat} (h : ArrF w A l c) : ArrF w' A l c := Arr.keep k h
theorem ArrF.le {w : World} {A : Option Addr} {l : List Fix} {c : Nat} (h : ArrF w A l c) : l.length ≤ c ∧ c ≤ 9223372036854775807 := ⟨h.1, h.2.1⟩
theorem ArrF.at_ {w : World} {A : Option Addr} {l : List Fix} {c : Nat} (h : ArrF w A l c) {k : Nat} (hk : k < l.length) :
    ∃ b o, A = some ⟨b, o, none⟩ ∧ w.cell? ⟨b, o + k * 3, none⟩ = some (.int .i64 (listF l k).src) ∧ w.cell? ⟨b, o + k * 3 + 1, none⟩ = some (.int .i64 (listF l k).dst) ∧ w.cell? ⟨b, o + k * 3 + 2, none⟩ = some (.int .i64 (listF l k).amount) := by
  obtain ⟨b, o, e, hc⟩ := Arr.at_ h hk
  exact ⟨b, o, e, hc 0 (by omega), hc 1 (by omega), hc 2 (by omega)⟩
def segCells (x : Seg) : Nat → Value
  | 0 => .int .i64 x.zone
  | 1 => .int .i64 x.metres
  | _ => .int .i64 x.seconds
def ArrG (w : World) (A : Option Addr) (l : List Seg) (c : Nat) : Prop := Arr w A l.length c 3 fun i j => segCells (listG l i) j
theorem ArrG.keep {w w' : World} (k : Keep w w') {A : Option Addr} {l : List Seg} {c : Nat} (h : ArrG w A l c) : ArrG w' A l c := Arr.keep k h
theorem ArrG.le {w : World} {A : Option Addr} {l : List Seg} {c : Nat} (h : ArrG w A l c) : l.length ≤ c ∧ c ≤ 9223372036854775807 := ⟨h.1, h.2.1⟩
theorem ArrG.at_ {w : World} {A : Option Addr} {l : List Seg} {c : Nat} (h : ArrG w A l c) {k : Nat} (hk : k < l.length) :
    ∃ b o, A = some ⟨b, o, none⟩ ∧ w.cell? ⟨b, o + k * 3, none⟩ = some (.int .i64 (listG l k).zone) ∧ w.cell? ⟨b, o + k * 3 + 1, none⟩ = some (.int .i64 (listG l k).metres) ∧ w.cell? ⟨b, o + k * 3 + 2, none⟩ = some (.int .i64 (listG l k).seconds) := by
  obtain ⟨b, o, e, hc⟩ := Arr.at_ h hk
  exact ⟨b, o, e, hc 0 (by omega), hc 1 (by omega), hc 2 (by omega)⟩

/-- What a tariff's value leads to. -/
structure TarM (w : World) (T : Tar) (z h r e f : Option Addr) (zc hc rc ec fc : Nat) (a : RA) : Prop where
  zones : ArrS w z T.zones zc
  hols : ArrI w h T.hols hc
  rules : ArrR w r T.rules rc a
  extras : ArrE w e T.extras ec
  fixed : ArrF w f T.fixed fc
abbrev tarV (T : Tar) (z h r e f : Option Addr) (zc hc rc ec fc : Nat) : Value :=
  .agg #[.string T.name, .int .i64 T.unit, .int .i64 T.step, .slice z T.zones.length zc, .slice h T.hols.length hc, .slice r T.rules.length rc, .slice e T.extras.length ec, .slice f T.fixed.length fc]
theorem TarM.keep {w w' : World} (k : Keep w w') {T : Tar} {z h r e f : Option Addr} {zc hc rc ec fc : Nat} {a : RA} (m : TarM w T z h r e f zc hc rc ec fc a) : TarM w' T z h r e f zc hc rc ec fc a :=
  ⟨m.zones.keep k, m.hols.keep k, m.rules.keep k, m.extras.keep k, m.fixed.keep k⟩
/-- The value v reads as the tariff T. -/
def RdTar (w : World) (v : Value) (T : Tar) : Prop := ∃ z h r e f zc hc rc ec fc a, v = tarV T z h r e f zc hc rc ec fc ∧ TarM w T z h r e f zc hc rc ec fc a
theorem RdTar.keep {w w' : World} (k : Keep w w') {v : Value} {T : Tar} (h : RdTar w v T) : RdTar w' v T := by
  obtain ⟨z, h, r, e, f, zc, hc, rc, ec, fc, a, hv, m⟩ := h
  exact ⟨z, h, r, e, f, zc, hc, rc, ec, fc, a, hv, m.keep k⟩
abbrev tripV (X : Trip) (e s : Option Addr) (ec sc : Nat) : Value := .agg #[.int .i64 X.date, .int .i64 X.time, .bool X.fixed, .slice e X.extras.length ec, .slice s X.segs.length sc]
def RdTrip (w : World) (v : Value) (X : Trip) : Prop := ∃ e s ec sc, v = tripV X e s ec sc ∧ ArrI w e X.extras ec ∧ ArrG w s X.segs sc
theorem RdTrip.keep {w w' : World} (k : Keep w w') {v : Value} {X : Trip} (h : RdTrip w v X) : RdTrip w' v X := by
  obtain ⟨e, s, ec, sc, hv, h1, h2⟩ := h
  exact ⟨e, s, ec, sc, hv, h1.keep k, h2.keep k⟩
def RdRule (w : World) (v : Value) (r : Rule) : Prop := ∃ z d zc dc, v = ruleV r z d zc dc ∧ ArrI w z r.zones zc ∧ ArrI w d r.days dc
theorem RdRule.keep {w w' : World} (k : Keep w w') {v : Value} {r : Rule} (h : RdRule w v r) : RdRule w' v r := by
  obtain ⟨e, s, ec, sc, hv, h1, h2⟩ := h
  exact ⟨e, s, ec, sc, hv, h1.keep k, h2.keep k⟩

end Go.Proofs.Ytolicafhbeiciaa
/- A row that the call itself has made, of numbers, reads as a list. No condition. -/
namespace Go.Proofs.Ytolicafhbeiciaa
open Go.RowKit Fs

def intVals (l : List Int) : List Value := l.map (Value.int .i64)
theorem own_arr {w : World} {base : Nat} {e : TypeId} {v : Value} {l : List Int} (h : w.ownsRow base e 1 v l.length (intVals l)) :
    ∃ A c, v = .slice A l.length c ∧ ArrI w A l c := by
  rcases h.2 with ⟨hv, hn⟩ | ⟨g, cap, cur, hv, hb, hh, h1, h2, h3, h4⟩
  · have : l = [] := List.eq_nil_of_length_eq_zero hn
    subst this
    exact ⟨none, 0, hv, Nat.le_refl _, by omega, fun hh => absurd hh (by simp)⟩
  · refine ⟨_, cap, hv, h1, h2, fun _ => ⟨g, 0, rfl, fun i j hi hj => ?_⟩⟩
    have hj0 : j = 0 := by omega
    subst hj0
    have hc := h.cells (g := g) (by rw [hv]; rfl) i (.int .i64 (listI l i)) (by
      unfold intVals listI
      rw [List.getElem?_map, List.getElem?_eq_getElem hi]
      simp [List.getD_eq_getElem?_getD, List.getElem?_eq_getElem hi])
    have e1 : (⟨g, 0 + i * 1 + 0, none⟩ : Addr) = Addr.add ⟨g, 0, none⟩ i := by
      unfold Addr.add
      by_cases h0 : i = 0
      · subst h0; rfl
      · rw [if_neg h0]; simp
    rw [e1]
    exact hc
theorem intVals_snoc (l : List Int) (x : Int) : intVals (l ++ [x]) = intVals l ++ [.int .i64 x] := by simp [intVals]
theorem news1 (w : World) (A : Obj) (x : Value) (t : TypeId) : ∀ j u, [x][j]? = some u → ((w.alloc A).alloc (.cells #[x] t)).cell? (Addr.add ⟨w.heap.size + 1, 0, none⟩ j) = some u := by
  intro j u hu
  match j with
  | 0 =>
    rw [show w.heap.size + 1 = (w.alloc A).heap.size by simp]
    have : x = u := by simpa using hu
    subst this
    exact cell_of_row _ _ 0 #[x] t (0, 0) (heap_alloc_new (w.alloc A) _)
  | j + 1 => simp at hu
theorem news0 (w : World) (x : Value) (t : TypeId) : ∀ j u, [x][j]? = some u → (w.alloc (.cells #[x] t)).cell? (Addr.add ⟨w.heap.size, 0, none⟩ j) = some u := by
  intro j u hu
  match j with
  | 0 =>
    have : x = u := by simpa using hu
    subst this
    exact cell_of_row _ _ 0 #[x] t (0, 0) (heap_alloc_new w _)
  | j + 1 => simp at hu
theorem oneInt (n : Int) : ∀ u ∈ [Value.int .i64 n], u.oneCell' = true := by
  intro u hu
  have : u = .int .i64 n := by simpa using hu
  subst this
  rfl
end Go.Proofs.Ytolicafhbeiciaa

/- What it means that a value in memory reads as a tariff or a trip, and that this outlasts whatever leaves old cells as they were. No condition. -/
import Derived.WalkKit
import Derived.Deep.Draws
import Derived.Test.YtjmaankkbdpikaaFs
import Derived.Maps.AppendAt
import Derived.Deep.AppendLies
import Derived.OwnWalk
import Derived.WalkSpells
import Derived.WalkLawsBesides
import Derived.Deep.QuietTactic
import Derived.BigQuiet
import Derived.Lib.Hide
import Derived.Test.YtjmaankkbdpikaaProg
namespace Go.Proofs.Ytjmaankkbdpikaa
open Go.RowKit Fs

/-- Every cell that was there reads as it did. -/
def Keep (w w' : World) : Prop := ∀ p u, w.cell? p = some u → w'.cell? p = some u
theorem bdrewN {B : Nat} {a w : World} (h : Below B a w) (n : Nat) : Below B a (w.drewN n) := ⟨h.os, h.tape, h.output, h.size, h.block⟩
theorem Keep.refl (w : World) : Keep w w := fun _ _ h => h
theorem Keep.trans {a b c : World} (h : Keep a b) (k : Keep b c) : Keep a c := fun p u hp => k p u (h p u hp)
theorem Keep.below {w w' : World} (h : Below w.heap.size w w') : Keep w w' := fun p _ hp => (h.cell (World.block_lt_of_cell? w p hp)).trans hp
theorem Keep.drew (w : World) : Keep w w.drew := fun _ _ h => h
theorem Keep.drewN (w : World) (n : Nat) : Keep w (w.drewN n) := fun _ _ h => h
theorem Keep.alloc (w : World) (o : Obj) : Keep w (w.alloc o) := fun p _ hp => (World.cell?_alloc_lt w o p (World.block_lt_of_cell? w p hp)).trans hp
theorem Keep.upto {B : Nat} {w w0 w' : World} (h0 : Keep w w0) (hB : w.heap.size ≤ B) (h : Below B w0 w') : Keep w w' := fun p u hp =>
  (h.cell (Nat.lt_of_lt_of_le (World.block_lt_of_cell? w p hp) hB)).trans (h0 p u hp)

theorem cell_new (w : World) (cs : Array Value) (t : TypeId) (i : Nat) : (w.alloc (.cells cs t)).cell? ⟨w.heap.size, i, none⟩ = cs[i]? := cell_of_row _ _ i cs t (0, 0) (heap_alloc_new w _)

/-- A slice of n elements of 'size' cells at A: cell j of element i holds C i j. -/
def Arr (w : World) (A : Option Addr) (n c size : Nat) (C : Nat → Nat → Value) : Prop :=
  n ≤ c ∧ c ≤ 9223372036854775807 ∧ (0 < n → ∃ b o, A = some ⟨b, o, none⟩ ∧ ∀ i j, i < n → j < size → w.cell? ⟨b, o + i * size + j, none⟩ = some (C i j))
theorem Arr.keep {w w' : World} (k : Keep w w') {A : Option Addr} {n c size : Nat} {C : Nat → Nat → Value} (h : Arr w A n c size C) : Arr w' A n c size C := by
  obtain ⟨h1, h2, h3⟩ := h
  refine ⟨h1, h2, fun hn => ?_⟩
  obtain ⟨b, o, e1, hc⟩ := h3 hn
  exact ⟨b, o, e1, fun i j hi hj => k _ _ (hc i j hi hj)⟩
theorem Arr.at_ {w : World} {A : Option Addr} {n c size : Nat} {C : Nat → Nat → Value} (h : Arr w A n c size C) {k : Nat} (hk : k < n) :
    ∃ b o, A = some ⟨b, o, none⟩ ∧ ∀ j, j < size → w.cell? ⟨b, o + k * size + j, none⟩ = some (C k j) := by
  obtain ⟨b, o, e, hc⟩ := h.2.2 (by omega)
  exact ⟨b, o, e, fun j hj => hc k j hk hj⟩

def ArrI (w : World) (A : Option Addr) (l : List Int) (c : Nat) : Prop := Arr w A l.length c 1 fun i _ => .int .i64 (listI l i)
def ArrS (w : World) (A : Option Addr) (l : List ByteArray) (c : Nat) : Prop := Arr w A l.length c 1 fun i _ => .string (listS l i)
theorem ArrI.at_ {w : World} {A : Option Addr} {l : List Int} {c : Nat} (h : ArrI w A l c) {k : Nat} (hk : k < l.length) : ∃ b o, A = some ⟨b, o, none⟩ ∧ w.cell? ⟨b, o + k, none⟩ = some (.int .i64 (listI l k)) := by
  obtain ⟨b, o, e, hc⟩ := Arr.at_ h hk
  exact ⟨b, o, e, by simpa using hc 0 (by omega)⟩
theorem ArrS.at_ {w : World} {A : Option Addr} {l : List ByteArray} {c : Nat} (h : ArrS w A l c) {k : Nat} (hk : k < l.length) : ∃ b o, A = some ⟨b, o, none⟩ ∧ w.cell? ⟨b, o + k, none⟩ = some (.string (listS l k)) := by
  obtain ⟨b, o, e, hc⟩ := Arr.at_ h hk
  exact ⟨b, o, e, by simpa using hc 0 (by omega)⟩
theorem ArrI.keep {w w' : World} (k : Keep w w') {A : Option Addr} {l : List Int} {c : Nat} (h : ArrI w A l c) : ArrI w' A l c := Arr.keep k h
theorem ArrS.keep {w w' : World} (k : Keep w w') {A : Option Addr} {l : List ByteArray} {c : Nat} (h : ArrS w A l c) : ArrS w' A l c := Arr.keep k h
theorem ArrI.le {w : World} {A : Option Addr} {l : List Int} {c : Nat} (h : ArrI w A l c) : l.length ≤ c ∧ c ≤ 9223372036854775807 := ⟨h.1, h.2.1⟩
theorem ArrS.le {w : World} {A : Option Addr} {l : List ByteArray} {c : Nat} (h : ArrS w A l c) : l.length ≤ c ∧ c ≤ 9223372036854775807 := ⟨h.1, h.2.1⟩

/-- The cells of a rule whose two slices lie at z and d. -/
def ruleCells (r : Rule) (z d : Option Addr) (zc dc : Nat) : Nat → Value
  | 0 => .string r.name
  | 1 => .int .i64 r.lo
  | 2 => .int .i64 r.hi
  | 3 => .slice z r.zones.length zc
  | 4 => .slice d r.days.length dc
  | 5 => .int .i64 r.beg
  | 6 => .int .i64 r.fin
  | 7 => .int .i64 r.start
  | 8 => .int .i64 r.metre
  | _ => .int .i64 r.second
abbrev ruleV (r : Rule) (z d : Option Addr) (zc dc : Nat) : Value :=
  .agg #[.string r.name, .int .i64 r.lo, .int .i64 r.hi, .slice z r.zones.length zc, .slice d r.days.length dc, .int .i64 r.beg, .int .i64 r.fin, .int .i64 r.start, .int .i64 r.metre, .int .i64 r.second]
/-- The slices of all rules: where they lie and their capacities. -/
structure RA where
  z : Nat → Option Addr
  d : Nat → Option Addr
  zc : Nat → Nat
  dc : Nat → Nat
def ArrR (w : World) (A : Option Addr) (l : List Rule) (c : Nat) (a : RA) : Prop :=
  Arr w A l.length c 10 (fun i j => ruleCells (listR l i) (a.z i) (a.d i) (a.zc i) (a.dc i) j) ∧ ∀ i, i < l.length → ArrI w (a.z i) (listR l i).zones (a.zc i) ∧ ArrI w (a.d i) (listR l i).days (a.dc i)
theorem ArrR.keep {w w' : World} (k : Keep w w') {A : Option Addr} {l : List Rule} {c : Nat} {a : RA} (h : ArrR w A l c a) : ArrR w' A l c a :=
  ⟨Arr.keep k h.1, fun i hi => ⟨(h.2 i hi).1.keep k, (h.2 i hi).2.keep k⟩⟩
theorem ArrR.le {w : World} {A : Option Addr} {l : List Rule} {c : Nat} {a : RA} (h : ArrR w A l c a) : l.length ≤ c ∧ c ≤ 9223372036854775807 := ⟨h.1.1, h.1.2.1⟩
/-- The ten cells of rule k. -/
structure RuleAt (w : World) (b o : Nat) (r : Rule) (z d : Option Addr) (zc dc : Nat) : Prop where
  c0 : w.cell? ⟨b, o, none⟩ = some (.string r.name)
  c1 : w.cell? ⟨b, o + 1, none⟩ = some (.int .i64 r.lo)
  c2 : w.cell? ⟨b, o + 2, none⟩ = some (.int .i64 r.hi)
  c3 : w.cell? ⟨b, o + 3, none⟩ = some (.slice z r.zones.length zc)
  c4 : w.cell? ⟨b, o + 4, none⟩ = some (.slice d r.days.length dc)
  c5 : w.cell? ⟨b, o + 5, none⟩ = some (.int .i64 r.beg)
  c6 : w.cell? ⟨b, o + 6, none⟩ = some (.int .i64 r.fin)
  c7 : w.cell? ⟨b, o + 7, none⟩ = some (.int .i64 r.start)
  c8 : w.cell? ⟨b, o + 8, none⟩ = some (.int .i64 r.metre)
  c9 : w.cell? ⟨b, o + 9, none⟩ = some (.int .i64 r.second)
theorem ArrR.at_ {w : World} {A : Option Addr} {l : List Rule} {c : Nat} {a : RA} (h : ArrR w A l c a) {k : Nat} (hk : k < l.length) :
    ∃ b o, A = some ⟨b, o, none⟩ ∧ RuleAt w b (o + k * 10) (listR l k) (a.z k) (a.d k) (a.zc k) (a.dc k) := by
  obtain ⟨b, o, e, hc⟩ := h.1.at_ hk
  exact ⟨b, o, e, hc 0 (by omega), hc 1 (by omega), hc 2 (by omega), hc 3 (by omega), hc 4 (by omega), hc 5 (by omega), hc 6 (by omega), hc 7 (by omega), hc 8 (by omega), hc 9 (by omega)⟩

def extraCells (x : Extra) : Nat → Value
  | 0 => .string x.name
  | _ => .int .i64 x.amount
def ArrE (w : World) (A : Option Addr) (l : List Extra) (c : Nat) : Prop := Arr w A l.length c 2 fun i j => extraCells (listE l i) j
theorem ArrE.keep {w w' : World} (k : Keep w w') {A : Option Addr} {l : List Extra} {c : Nat} (h : ArrE w A l c) : ArrE w' A l c := Arr.keep k h
theorem ArrE.le {w : World} {A : Option Addr} {l : List Extra} {c : Nat} (h : ArrE w A l c) : l.length ≤ c ∧ c ≤ 9223372036854775807 := ⟨h.1, h.2.1⟩
theorem ArrE.at_ {w : World} {A : Option Addr} {l : List Extra} {c : Nat} (h : ArrE w A l c) {k : Nat} (hk : k < l.length) :
    ∃ b o, A = some ⟨b, o, none⟩ ∧ w.cell? ⟨b, o + k * 2, none⟩ = some (.string (listE l k).name) ∧ w.cell? ⟨b, o + k * 2 + 1, none⟩ = some (.int .i64 (listE l k).amount) := by
  obtain ⟨b, o, e, hc⟩ := Arr.at_ h hk
  exact ⟨b, o, e, hc 0 (by omega), hc 1 (by omega)⟩
def fixCells (x : Fix) : Nat → Value
  | 0 => .int .i64 x.src
  | 1 => .int .i64 x.dst
  | _ => .int .i64 x.amount
def ArrF (w : World) (A : Option Addr) (l : List Fix) (c : Nat) : Prop := Arr w A l.length c 3 fun i j => fixCells (listF l i) j
theorem ArrF.keep {w w' : World} (k : Keep w w') {A : Option Addr} {l : List Fix} {c : Nat} (h : ArrF w A l c) : ArrF w' A l c := Arr.keep k h
theorem ArrF.le {w : World} {A : Option Addr} {l : List Fix} {c : Nat} (h : ArrF w A l c) : l.length ≤ c ∧ c ≤ 9223372036854775807 := ⟨h.1, h.2.1⟩
theorem ArrF.at_ {w : World} {A : Option Addr} {l : List Fix} {c : Nat} (h : ArrF w A l c) {k : Nat} (hk : k < l.length) :
    ∃ b o, A = some ⟨b, o, none⟩ ∧ w.cell? ⟨b, o + k * 3, none⟩ = some (.int .i64 (listF l k).src) ∧ w.cell? ⟨b, o + k * 3 + 1, none⟩ = some (.int .i64 (listF l k).dst) ∧ w.cell? ⟨b, o + k * 3 + 2, none⟩ = some (.int .i64 (listF l k).amount) := by
  obtain ⟨b, o, e, hc⟩ := Arr.at_ h hk
  exact ⟨b, o, e, hc 0 (by omega), hc 1 (by omega), hc 2 (by omega)⟩
def segCells (x : Seg) : Nat → Value
  | 0 => .int .i64 x.zone
  | 1 => .int .i64 x.metres
  | _ => .int .i64 x.seconds
def ArrG (w : World) (A : Option Addr) (l : List Seg) (c : Nat) : Prop := Arr w A l.length c 3 fun i j => segCells (listG l i) j
theorem ArrG.keep {w w' : World} (k : Keep w w') {A : Option Addr} {l : List Seg} {c : Nat} (h : ArrG w A l c) : ArrG w' A l c := Arr.keep k h
theorem ArrG.le {w : World} {A : Option Addr} {l : List Seg} {c : Nat} (h : ArrG w A l c) : l.length ≤ c ∧ c ≤ 9223372036854775807 := ⟨h.1, h.2.1⟩
theorem ArrG.at_ {w : World} {A : Option Addr} {l : List Seg} {c : Nat} (h : ArrG w A l c) {k : Nat} (hk : k < l.length) :
    ∃ b o, A = some ⟨b, o, none⟩ ∧ w.cell? ⟨b, o + k * 3, none⟩ = some (.int .i64 (listG l k).zone) ∧ w.cell? ⟨b, o + k * 3 + 1, none⟩ = some (.int .i64 (listG l k).metres) ∧ w.cell? ⟨b, o + k * 3 + 2, none⟩ = some (.int .i64 (listG l k).seconds) := by
  obtain ⟨b, o, e, hc⟩ := Arr.at_ h hk
  exact ⟨b, o, e, hc 0 (by omega), hc 1 (by omega), hc 2 (by omega)⟩

/-- What a tariff's value leads to. -/
structure TarM (w : World) (T : Tar) (z h r e f : Option Addr) (zc hc rc ec fc : Nat) (a : RA) : Prop where
  zones : ArrS w z T.zones zc
  hols : ArrI w h T.hols hc
  rules : ArrR w r T.rules rc a
  extras : ArrE w e T.extras ec
  fixed : ArrF w f T.fixed fc
abbrev tarV (T : Tar) (z h r e f : Option Addr) (zc hc rc ec fc : Nat) : Value :=
  .agg #[.string T.name, .int .i64 T.unit, .int .i64 T.step, .slice z T.zones.length zc, .slice h T.hols.length hc, .slice r T.rules.length rc, .slice e T.extras.length ec, .slice f T.fixed.length fc]
theorem TarM.keep {w w' : World} (k : Keep w w') {T : Tar} {z h r e f : Option Addr} {zc hc rc ec fc : Nat} {a : RA} (m : TarM w T z h r e f zc hc rc ec fc a) : TarM w' T z h r e f zc hc rc ec fc a :=
  ⟨m.zones.keep k, m.hols.keep k, m.rules.keep k, m.extras.keep k, m.fixed.keep k⟩
/-- The value v reads as the tariff T. -/
def RdTar (w : World) (v : Value) (T : Tar) : Prop := ∃ z h r e f zc hc rc ec fc a, v = tarV T z h r e f zc hc rc ec fc ∧ TarM w T z h r e f zc hc rc ec fc a
theorem RdTar.keep {w w' : World} (k : Keep w w') {v : Value} {T : Tar} (h : RdTar w v T) : RdTar w' v T := by
  obtain ⟨z, h, r, e, f, zc, hc, rc, ec, fc, a, hv, m⟩ := h
  exact ⟨z, h, r, e, f, zc, hc, rc, ec, fc, a, hv, m.keep k⟩
abbrev tripV (X : Trip) (e s : Option Addr) (ec sc : Nat) : Value := .agg #[.int .i64 X.date, .int .i64 X.time, .bool X.fixed, .slice e X.extras.length ec, .slice s X.segs.length sc]
def RdTrip (w : World) (v : Value) (X : Trip) : Prop := ∃ e s ec sc, v = tripV X e s ec sc ∧ ArrI w e X.extras ec ∧ ArrG w s X.segs sc
theorem RdTrip.keep {w w' : World} (k : Keep w w') {v : Value} {X : Trip} (h : RdTrip w v X) : RdTrip w' v X := by
  obtain ⟨e, s, ec, sc, hv, h1, h2⟩ := h
  exact ⟨e, s, ec, sc, hv, h1.keep k, h2.keep k⟩
def RdRule (w : World) (v : Value) (r : Rule) : Prop := ∃ z d zc dc, v = ruleV r z d zc dc ∧ ArrI w z r.zones zc ∧ ArrI w d r.days dc
theorem RdRule.keep {w w' : World} (k : Keep w w') {v : Value} {r : Rule} (h : RdRule w v r) : RdRule w' v r := by
  obtain ⟨e, s, ec, sc, hv, h1, h2⟩ := h
  exact ⟨e, s, ec, sc, hv, h1.keep k, h2.keep k⟩

end Go.Proofs.Ytjmaankkbdpikaa
/- A row that the call itself has made, of numbers, reads as a list. No condition. -/
namespace Go.Proofs.Ytjmaankkbdpikaa
open Go.RowKit Fs

def intVals (l : List Int) : List Value := l.map (Value.int .i64)
theorem own_arr {w : World} {base : Nat} {e : TypeId} {v : Value} {l : List Int} (h : w.ownsRow base e 1 v l.length (intVals l)) :
    ∃ A c, v = .slice A l.length c ∧ ArrI w A l c := by
  rcases h.2 with ⟨hv, hn⟩ | ⟨g, cap, cur, hv, hb, hh, h1, h2, h3, h4⟩
  · have : l = [] := List.eq_nil_of_length_eq_zero hn
    subst this
    exact ⟨none, 0, hv, Nat.le_refl _, by omega, fun hh => absurd hh (by simp)⟩
  · refine ⟨_, cap, hv, h1, h2, fun _ => ⟨g, 0, rfl, fun i j hi hj => ?_⟩⟩
    have hj0 : j = 0 := by omega
    subst hj0
    have hc := h.cells (g := g) (by rw [hv]; rfl) i (.int .i64 (listI l i)) (by
      unfold intVals listI
      rw [List.getElem?_map, List.getElem?_eq_getElem hi]
      simp [List.getD_eq_getElem?_getD, List.getElem?_eq_getElem hi])
    have e1 : (⟨g, 0 + i * 1 + 0, none⟩ : Addr) = Addr.add ⟨g, 0, none⟩ i := by
      unfold Addr.add
      by_cases h0 : i = 0
      · subst h0; rfl
      · rw [if_neg h0]; simp
    rw [e1]
    exact hc
theorem intVals_snoc (l : List Int) (x : Int) : intVals (l ++ [x]) = intVals l ++ [.int .i64 x] := by simp [intVals]
theorem news1 (w : World) (A : Obj) (x : Value) (t : TypeId) : ∀ j u, [x][j]? = some u → ((w.alloc A).alloc (.cells #[x] t)).cell? (Addr.add ⟨w.heap.size + 1, 0, none⟩ j) = some u := by
  intro j u hu
  match j with
  | 0 =>
    rw [show w.heap.size + 1 = (w.alloc A).heap.size by simp]
    have : x = u := by simpa using hu
    subst this
    exact cell_of_row _ _ 0 #[x] t (0, 0) (heap_alloc_new (w.alloc A) _)
  | j + 1 => simp at hu
theorem news0 (w : World) (x : Value) (t : TypeId) : ∀ j u, [x][j]? = some u → (w.alloc (.cells #[x] t)).cell? (Addr.add ⟨w.heap.size, 0, none⟩ j) = some u := by
  intro j u hu
  match j with
  | 0 =>
    have : x = u := by simpa using hu
    subst this
    exact cell_of_row _ _ 0 #[x] t (0, 0) (heap_alloc_new w _)
  | j + 1 => simp at hu
theorem oneInt (n : Int) : ∀ u ∈ [Value.int .i64 n], u.oneCell' = true := by
  intro u hu
  have : u = .int .i64 n := by simpa using hu
  subst this
  rfl
end Go.Proofs.Ytjmaankkbdpikaa
/- A row appended onto an empty row of the call's own reads as the row did. Condition: its bytes are below 2^47. -/
namespace Go.Proofs.Ytjmaankkbdpikaa
open Go.RowKit Fs

/-- The cells of m elements of 'size' cells, one behind the other. -/
def flat (m size : Nat) (C : Nat → Nat → Value) : List Value := (List.range (m * size)).map fun t => C (t / size) (t % size)
theorem flat_get {m size : Nat} {C : Nat → Nat → Value} (t : Nat) (h : t < m * size) : (flat m size C)[t]? = some (C (t / size) (t % size)) := by
  unfold flat
  rw [List.getElem?_map, List.getElem?_range h]
  rfl
theorem place {i j m size : Nat} (hi : i < m) (hj : j < size) : i * size + j < m * size ∧ (i * size + j) / size = i ∧ (i * size + j) % size = j := by
  have hs : 0 < size := by omega
  have h1 : (i + 1) * size ≤ m * size := Nat.mul_le_mul_right _ hi
  rw [Nat.add_mul, Nat.one_mul] at h1
  refine ⟨by omega, ?_, ?_⟩
  · rw [Nat.mul_comm, Nat.mul_add_div hs, Nat.div_eq_of_lt hj, Nat.add_zero]
  · rw [Nat.mul_comm, Nat.mul_add_mod, Nat.mod_eq_of_lt hj]
theorem own_row {w : World} {base m size : Nat} {e : TypeId} {v : Value} {C : Nat → Nat → Value} (h : w.ownsRow base e size v m (flat m size C)) : ∃ A c, v = .slice A m c ∧ Arr w A m c size C := by
  rcases h.2 with ⟨hv, hn⟩ | ⟨g, cap, cur, hv, hb, hh, h1, h2, h3, h4⟩
  · subst hn
    exact ⟨none, 0, hv, Nat.le_refl _, by omega, fun hh => absurd hh (Nat.lt_irrefl 0)⟩
  · subst hv
    refine ⟨_, cap, rfl, h1, h2, fun _ => ⟨g, 0, rfl, fun i j hi hj => ?_⟩⟩
    obtain ⟨p1, p2, p3⟩ := place hi hj
    rw [Nat.zero_add, h.cellAt _ p1, flat_get _ p1, p2, p3]
/-- The address, if there is one, lies in block B or beyond. -/
def Above (B : Nat) (A : Option Addr) : Prop := ∀ ad, A = some ad → B ≤ ad.block
theorem own_above {w : World} {base m size c : Nat} {e : TypeId} {A : Option Addr} {xs : List Value} (h : w.ownsRow base e size (.slice A m c) m xs) : Above base A := by
  rcases h.2 with ⟨hv, -⟩ | ⟨g, cap, cur, hv, hb, -⟩
  · injection hv with hv; subst hv; intro ad h; cases h
  · injection hv with hv; subst hv; intro ad h; injection h with h; subst h; exact hb
theorem own_arrN {w : World} {base m size c : Nat} {e : TypeId} {A : Option Addr} {C : Nat → Nat → Value} (h : w.ownsRow base e size (.slice A m c) m (flat m size C)) : Arr w A m c size C := by
  obtain ⟨A', c', he, ha⟩ := own_row h
  injection he with h1 h2 h3
  subst h1; subst h3
  exact ha
theorem appendNone {P : Program} {w : World} (t ty e : TypeId) (i : TypeInfo) (ht : P.underlying t = some (.slice e)) (hi : P.info? e = some i) (g c : Nat) :
    (Builtin.append_ #[t, t] ty #[.slice (some ⟨g, 0, none⟩) 0 0, .slice none 0 c]).run P w = .ok (.slice (some ⟨g, 0, none⟩) 0 0) w := by
  simp [Builtin.append_, run_underlying ht, sizeOf, typeInfo, hi, Builtin.lenOf, Builtin.firstCells, storeCells]
theorem wpList_copy {P : Program} {w : World} {ops : Array Oper} {rest : List Oper} {o : Oper} {a : Act} {Q : Exit → Act → World → Prop} (hgd : o.guard = none) (s x : Operand) (t : TypeId)
    (ho : o.op = .call { callee := .builtin .append, args := #[s, x], argTypes := #[t, t] })
    (e : TypeId) (i : TypeInfo) (z : Value) (size bytes : Nat) (ht : P.underlying t = some (.slice e)) (hi : P.info? e = some i) (hz : i.zero = some z)
    (hsize : i.size = size) (hby : i.bytes = bytes) (hzs : z.cells.size = size) (hsz : 0 < size)
    (base g : Nat) (hs : a.eval s = .slice (some ⟨g, 0, none⟩) 0 0) (hbg : base ≤ g) (hg : w.heap[g]? = some (.cells #[] e (0, 0)))
    (A : Option Addr) (m c : Nat) (C : Nat → Nat → Value) (hx : a.eval x = .slice A m c) (hA : Arr w A m c size C) (h1 : ∀ i j, (C i j).oneCell' = true)
    (h63 : m ≤ maxLen) (hbytes : m * bytes ≤ 140737488355328)
    (h : ∀ A' c' w', w'.ownsRow base e size (.slice A' m c') m (flat m size C) → Below base w w' → wpList P ops Q rest (a.put o.dst (.slice A' m c')) w') : wpList P ops Q (o :: rest) a w := by
  have hlt : g < w.heap.size := by
    rcases Nat.lt_or_ge g w.heap.size with h | h
    · exact h
    · rw [Array.getElem?_eq_none h] at hg; cases hg
  have hown : w.ownsRow base e size (.slice (some ⟨g, 0, none⟩) 0 0) 0 [] := ⟨by simp, .inr ⟨g, 0, #[], rfl, hbg, hg, Nat.le_refl _, Nat.zero_le _, by simp, by simp⟩⟩
  cases A with
  | none =>
    have hm : m = 0 := by
      rcases Nat.eq_zero_or_pos m with h | h
      · exact h
      · obtain ⟨_, _, he, -⟩ := hA.2.2 h
        cases he
    subst hm
    refine wpList_plain hgd fun K hK => ?_
    unfold Oper.wp execOp
    simp only [ho, resolve, invoke, builtin, Sem.run_bind, Sem.run_pure, Result.andThen_ok, List.map_toArray, List.map_cons, List.map_nil, hs, hx, appendNone t o.type e i ht hi g c]
    exact hK _ _ (h _ 0 w (by simpa [flat] using hown) (Below.refl _ _))
  | some ad =>
    refine wpList_append_own_at w hgd s x t ho base e i z size bytes ht hi hz hsize hby hzs hsz _ 0 [] hs hown ad m c (flat m size C) hx (by simp [flat]) ?_ ?_ (by simpa using h63) (by simpa using hbytes) (by omega) ?_
    · intro j u hu
      have hj : j < m * size := by
        rcases Nat.lt_or_ge j (m * size) with h | h
        · exact h
        · rw [List.getElem?_eq_none (by simpa [flat] using h)] at hu; cases hu
      rw [flat_get _ hj] at hu
      injection hu with hu
      have hm : 0 < m := Nat.pos_of_ne_zero fun h => by rw [h, Nat.zero_mul] at hj; omega
      obtain ⟨b, o', he, hc⟩ := hA.2.2 hm
      injection he with he
      subst he
      have hq := hc (j / size) (j % size) (Nat.div_lt_of_lt_mul (by rw [Nat.mul_comm]; exact hj)) (Nat.mod_lt _ hsz)
      have e1 : o' + j / size * size + j % size = o' + j := by
        have := Nat.div_add_mod j size
        rw [Nat.mul_comm] at this
        omega
      rw [e1, hu] at hq
      unfold Addr.add
      by_cases h0 : j = 0
      · subst h0; simpa using hq
      · rw [if_neg h0]; exact hq
    · intro u hu
      unfold flat at hu
      simp only [List.mem_map] at hu
      obtain ⟨t, -, rfl⟩ := hu
      exact h1 _ _
    · intro v' w' h2 h3 _ _
      have h2' : w'.ownsRow base e size v' m (flat m size C) := by simpa using h2
      obtain ⟨A', c', rfl, -⟩ := own_row h2'
      exact h A' c' w' h2' ((Below.refl _ _).grown h3 (by omega) (fun k hk => by
        have : g = k := by simpa [Value.ownBlock] using hk
        omega))
end Go.Proofs.Ytjmaankkbdpikaa
/- Plain functions about nets of streets: lists and numbers alone, nothing of the program. No condition. -/
namespace Go.Proofs.Ytjmaankkbdpikaa.Fs

structure Pt where
  hour : Int
  lo : Int
  hi : Int
structure Rd where
  name : ByteArray
  src : Int
  dst : Int
  metres : Int
  pts : List Pt
structure Net where
  places : List ByteArray
  roads : List Rd
def p0 : Pt := ⟨0, 0, 0⟩
def d0 : Rd := ⟨ByteArray.empty, 0, 0, 0, []⟩
def listP (l : List Pt) (i : Nat) : Pt := l.getD i p0
def listD (l : List Rd) (i : Nat) : Rd := l.getD i d0
def listB (l : List Bool) (i : Nat) : Bool := l.getD i false

/-! ### which nets are right -/
def secondsTo (a b : Int) : Int := (b - a + 86399) % 86400 + 1
def ptRight (p : Pt) : Bool := within p.hour 0 86399 && within p.lo 0 7200 && within p.hi 0 7200
def errPoint (l : List Pt) (i : Nat) : Int :=
  if !ptRight (listP l i) then 2 else if (listP l i).hi < (listP l i).lo ∨ (0 < i ∧ (listP l i).hour ≤ (listP l (i - 1)).hour) then 9 else 0
def inOrder (p q : Pt) : Bool := decide (p.lo - q.lo ≤ secondsTo p.hour q.hour) && decide (p.hi - q.hi ≤ secondsTo p.hour q.hour)
def errPair (l : List Pt) (i : Nat) : Int := if inOrder (listP l i) (listP l ((i + 1) % l.length)) then 0 else 23
def errPoints (l : List Pt) : Nat × Int :=
  if fst (errPoint l) l.length ≠ 0 then (idx (errPoint l) l.length, fst (errPoint l) l.length) else (idx (errPair l) l.length, fst (errPair l) l.length)
def isPlace (N : Net) (z : Int) : Bool := within z 0 ((N.places.length : Int) - 1)
def isRoad (N : Net) (z : Int) : Bool := within z 0 ((N.roads.length : Int) - 1)
def errForm (N : Net) (r : Rd) : Int :=
  if !(isPlace N r.src && isPlace N r.dst) then 6
  else if r.src = r.dst then 26
  else if !within r.metres 0 100000 then 2
  else if r.pts.length = 0 then 10
  else if 8 < r.pts.length then 8 else 0
def errRoad (N : Net) (i : Nat) : Nat × Int :=
  if errName (fun j => (listD N.roads j).name) i ≠ 0 then (0, errName (fun j => (listD N.roads j).name) i)
  else if errForm N (listD N.roads i) ≠ 0 then (0, errForm N (listD N.roads i))
  else errPoints (listD N.roads i).pts
def checkNet (N : Net) : (Nat × Nat) × Int :=
  if N.places.length = 0 then ((0, 0), 10)
  else if 20 < N.places.length then ((0, 0), 8)
  else if fst (errName (listS N.places)) N.places.length ≠ 0 then ((idx (errName (listS N.places)) N.places.length, 0), fst (errName (listS N.places)) N.places.length)
  else if 60 < N.roads.length then ((0, 0), 8)
  else if fst (fun i => (errRoad N i).2) N.roads.length ≠ 0 then ((idx (fun i => (errRoad N i).2) N.roads.length, (errRoad N (idx (fun i => (errRoad N i).2) N.roads.length)).1), fst (fun i => (errRoad N i).2) N.roads.length)
  else ((0, 0), 0)
def netErr (N : Net) : Int := (checkNet N).2

/-! ### how long a road takes -/
def behind (l : List Pt) (t : Int) : Nat := ((List.range l.length).find? fun i => decide (t < (listP l i).hour)).getD l.length
def onLine (x y left all : Int) : Int := (x * left + y * (all - left) + all - 1) / all
def takesAt (l : List Pt) (a : Int) : Int × Int :=
  let t := a % 86400
  let b := behind l t
  let p := listP l ((b + l.length - 1) % l.length)
  let q := listP l (b % l.length)
  (onLine p.lo q.lo (secondsTo t q.hour) (secondsTo p.hour q.hour), onLine p.hi q.hi (secondsTo t q.hour) (secondsTo p.hour q.hour))

/-! ### the best ways from a place -/
/-- Labels, last roads, and what is done. -/
structure St where
  labels : List Int
  last : List Int
  done : List Bool
def nearTo (s : St) : Nat → Int
  | 0 => -1
  | n + 1 => if listB s.done n = false ∧ listI s.labels n ≠ -1 ∧ (nearTo s n = -1 ∨ listI s.labels n < listI s.labels (nearTo s n).toNat) then (n : Int) else nearTo s n
def nearest (s : St) : Int := nearTo s s.labels.length
def relax (N : Net) (nx : Nat → Int → Int) (p : Int) (s : St) (i : Nat) : St :=
  if (listD N.roads i).src ≠ p ∨ listB s.done (listD N.roads i).dst.toNat = true then s
  else if listI s.labels (listD N.roads i).dst.toNat = -1 ∨ nx i (listI s.labels p.toNat) < listI s.labels (listD N.roads i).dst.toNat then
    ⟨s.labels.set (listD N.roads i).dst.toNat (nx i (listI s.labels p.toNat)), s.last.set (listD N.roads i).dst.toNat i, s.done⟩
  else s
def mark (s : St) (p : Int) : St := ⟨s.labels, s.last, s.done.set p.toNat true⟩
def relaxTo (N : Net) (nx : Nat → Int → Int) (p : Int) (s : St) : Nat → St
  | 0 => s
  | k + 1 => relax N nx p (relaxTo N nx p s k) k
def oneRound (N : Net) (nx : Nat → Int → Int) (s : St) : St := relaxTo N nx (nearest s) (mark s (nearest s)) N.roads.length
def rounds (N : Net) (nx : Nat → Int → Int) : Nat → St → St
  | 0, s => s
  | f + 1, s => if nearest s = -1 then s else rounds N nx f (oneRound N nx s)
def start (N : Net) (src label : Int) : St := ⟨(List.replicate N.places.length (-1)).set src.toNat label, List.replicate N.places.length (-1), List.replicate N.places.length false⟩
def search (N : Net) (src label : Int) (nx : Nat → Int → Int) : St := rounds N nx N.places.length (start N src label)
def soonest (N : Net) (i : Nat) (a : Int) : Int := a + (takesAt (listD N.roads i).pts a).1
def latest (N : Net) (i : Nat) (a : Int) : Int := a + (takesAt (listD N.roads i).pts a).2
def further (N : Net) (i : Nat) (m : Int) : Int := m + (listD N.roads i).metres
def heights (N : Net) (src : Int) : List Int := (search N src 0 (further N)).labels
/-- The roads of the way back from a place, f at most. -/
def wayBack (N : Net) (last : List Int) : Nat → Int → List Int
  | 0, _ => []
  | f + 1, z => if listI last z.toNat = -1 then [] else listI last z.toNat :: wayBack N last f (listD N.roads (listI last z.toNat).toNat).src
def wayTo (N : Net) (s : St) (z : Int) : List Int := (wayBack N s.last N.places.length z).reverse

end Go.Proofs.Ytjmaankkbdpikaa.Fs
/- What it means that a value in memory reads as a net of streets, and that this outlasts whatever leaves old cells as they were. No condition. -/
namespace Go.Proofs.Ytjmaankkbdpikaa
open Go.RowKit Fs

def ptCells (x : Pt) : Nat → Value
  | 0 => .int .i64 x.hour
  | 1 => .int .i64 x.lo
  | _ => .int .i64 x.hi
abbrev ptV (x : Pt) : Value := .agg #[.int .i64 x.hour, .int .i64 x.lo, .int .i64 x.hi]
def ArrP (w : World) (A : Option Addr) (l : List Pt) (c : Nat) : Prop := Arr w A l.length c 3 fun i j => ptCells (listP l i) j
theorem ArrP.keep {w w' : World} (k : Keep w w') {A : Option Addr} {l : List Pt} {c : Nat} (h : ArrP w A l c) : ArrP w' A l c := Arr.keep k h
theorem ArrP.le {w : World} {A : Option Addr} {l : List Pt} {c : Nat} (h : ArrP w A l c) : l.length ≤ c ∧ c ≤ 9223372036854775807 := ⟨h.1, h.2.1⟩
theorem ArrP.at_ {w : World} {A : Option Addr} {l : List Pt} {c : Nat} (h : ArrP w A l c) {k : Nat} (hk : k < l.length) :
    ∃ b o, A = some ⟨b, o, none⟩ ∧ w.cell? ⟨b, o + k * 3, none⟩ = some (.int .i64 (listP l k).hour) ∧ w.cell? ⟨b, o + k * 3 + 1, none⟩ = some (.int .i64 (listP l k).lo) ∧ w.cell? ⟨b, o + k * 3 + 2, none⟩ = some (.int .i64 (listP l k).hi) := by
  obtain ⟨b, o, e, hc⟩ := Arr.at_ h hk
  exact ⟨b, o, e, hc 0 (by omega), hc 1 (by omega), hc 2 (by omega)⟩
/-- The cells of a road whose points lie at p. -/
def rdCells (r : Rd) (p : Option Addr) (pc : Nat) : Nat → Value
  | 0 => .string r.name
  | 1 => .int .i64 r.src
  | 2 => .int .i64 r.dst
  | 3 => .int .i64 r.metres
  | _ => .slice p r.pts.length pc
abbrev rdV (r : Rd) (p : Option Addr) (pc : Nat) : Value := .agg #[.string r.name, .int .i64 r.src, .int .i64 r.dst, .int .i64 r.metres, .slice p r.pts.length pc]
/-- The points of all roads: where they lie and their capacities. -/
structure DA where
  p : Nat → Option Addr
  pc : Nat → Nat
def ArrD (w : World) (A : Option Addr) (l : List Rd) (c : Nat) (a : DA) : Prop :=
  Arr w A l.length c 5 (fun i j => rdCells (listD l i) (a.p i) (a.pc i) j) ∧ ∀ i, i < l.length → ArrP w (a.p i) (listD l i).pts (a.pc i)
theorem ArrD.keep {w w' : World} (k : Keep w w') {A : Option Addr} {l : List Rd} {c : Nat} {a : DA} (h : ArrD w A l c a) : ArrD w' A l c a :=
  ⟨Arr.keep k h.1, fun i hi => (h.2 i hi).keep k⟩
theorem ArrD.le {w : World} {A : Option Addr} {l : List Rd} {c : Nat} {a : DA} (h : ArrD w A l c a) : l.length ≤ c ∧ c ≤ 9223372036854775807 := ⟨h.1.1, h.1.2.1⟩
/-- The five cells of road k. -/
structure RdAt (w : World) (b o : Nat) (r : Rd) (p : Option Addr) (pc : Nat) : Prop where
  c0 : w.cell? ⟨b, o, none⟩ = some (.string r.name)
  c1 : w.cell? ⟨b, o + 1, none⟩ = some (.int .i64 r.src)
  c2 : w.cell? ⟨b, o + 2, none⟩ = some (.int .i64 r.dst)
  c3 : w.cell? ⟨b, o + 3, none⟩ = some (.int .i64 r.metres)
  c4 : w.cell? ⟨b, o + 4, none⟩ = some (.slice p r.pts.length pc)
theorem RdAt.keep {w w' : World} (k : Keep w w') {b o : Nat} {r : Rd} {p : Option Addr} {pc : Nat} (m : RdAt w b o r p pc) : RdAt w' b o r p pc :=
  ⟨k _ _ m.c0, k _ _ m.c1, k _ _ m.c2, k _ _ m.c3, k _ _ m.c4⟩
theorem ArrD.at_ {w : World} {A : Option Addr} {l : List Rd} {c : Nat} {a : DA} (h : ArrD w A l c a) {k : Nat} (hk : k < l.length) :
    ∃ b o, A = some ⟨b, o, none⟩ ∧ RdAt w b (o + k * 5) (listD l k) (a.p k) (a.pc k) := by
  obtain ⟨b, o, e, hc⟩ := h.1.at_ hk
  exact ⟨b, o, e, hc 0 (by omega), hc 1 (by omega), hc 2 (by omega), hc 3 (by omega), hc 4 (by omega)⟩

/-- What a net's value leads to. -/
structure NetM (w : World) (N : Net) (P R : Option Addr) (pc rc : Nat) (a : DA) : Prop where
  places : ArrS w P N.places pc
  roads : ArrD w R N.roads rc a
abbrev netV (N : Net) (P R : Option Addr) (pc rc : Nat) : Value := .agg #[.slice P N.places.length pc, .slice R N.roads.length rc]
theorem NetM.keep {w w' : World} (k : Keep w w') {N : Net} {P R : Option Addr} {pc rc : Nat} {a : DA} (m : NetM w N P R pc rc a) : NetM w' N P R pc rc a := ⟨m.places.keep k, m.roads.keep k⟩
/-- The value v reads as the net N. -/
def RdNet (w : World) (v : Value) (N : Net) : Prop := ∃ P R pc rc a, v = netV N P R pc rc ∧ NetM w N P R pc rc a
theorem RdNet.keep {w w' : World} (k : Keep w w') {v : Value} {N : Net} (h : RdNet w v N) : RdNet w' v N := by
  obtain ⟨P, R, pc, rc, a, hv, m⟩ := h
  exact ⟨P, R, pc, rc, a, hv, m.keep k⟩

theorem cellNew (w : World) (cs : Array Value) (t : TypeId) (i : Nat) : (w.alloc (.cells cs t)).cell? ⟨w.heap.size, i, none⟩ = cs[i]? := cell_of_row _ _ i cs t (0, 0) (heap_alloc_new w _)
theorem frozenNew (w : World) (cs : Array Value) (t : TypeId) (i : Nat) : (w.alloc (.cells cs t)).frozen? ⟨w.heap.size, i, none⟩ = false := by
  have h := heap_alloc_new w (.cells cs t)
  unfold World.frozen?
  dsimp only
  rw [h]
  simp
theorem cellNew1 (w : World) (A : Obj) (cs : Array Value) (t : TypeId) (i : Nat) : ((w.alloc A).alloc (.cells cs t)).cell? ⟨w.heap.size + 1, i, none⟩ = cs[i]? := by
  rw [show w.heap.size + 1 = (w.alloc A).heap.size by simp]
  exact cellNew _ _ _ _
theorem frozenNew1 (w : World) (A : Obj) (cs : Array Value) (t : TypeId) (i : Nat) : ((w.alloc A).alloc (.cells cs t)).frozen? ⟨w.heap.size + 1, i, none⟩ = false := by
  rw [show w.heap.size + 1 = (w.alloc A).heap.size by simp]
  exact frozenNew _ _ _ _
/-- A net's cells in the block g. -/
structure BoxN (w : World) (g : Nat) (N : Net) (P R : Option Addr) (pc rc : Nat) : Prop where
  c0 : w.cell? ⟨g, 0, none⟩ = some (.slice P N.places.length pc)
  c1 : w.cell? ⟨g, 1, none⟩ = some (.slice R N.roads.length rc)
theorem BoxN.keep {w w' : World} (k : Keep w w') {g : Nat} {N : Net} {P R : Option Addr} {pc rc : Nat} (m : BoxN w g N P R pc rc) : BoxN w' g N P R pc rc := ⟨k _ _ m.c0, k _ _ m.c1⟩
theorem BoxN.new (w : World) (N : Net) (P R : Option Addr) (pc rc : Nat) (t : TypeId) : BoxN (w.alloc (.cells #[.slice P N.places.length pc, .slice R N.roads.length rc] t)) w.heap.size N P R pc rc :=
  ⟨cellNew _ _ _ 0, cellNew _ _ _ 1⟩
/-- The two cells of a mark, which may be written. -/
structure MarkAt (w : World) (g : Nat) : Prop where
  c0 : w.cell? ⟨g, 0, none⟩ = some (.int .i64 0)
  c1 : w.cell? ⟨g, 1, none⟩ = some (.int .i64 0)
  f0 : w.frozen? ⟨g, 0, none⟩ = false
  f1 : w.frozen? ⟨g, 1, none⟩ = false
theorem MarkAt.lt {w : World} {g : Nat} (m : MarkAt w g) : g < w.heap.size := World.block_lt_of_cell? w _ m.c0
theorem MarkAt.below {B : Nat} {w w' : World} {g : Nat} (m : MarkAt w g) (h : Below B w w') (hg : g < B) : MarkAt w' g :=
  ⟨(h.cell (p := ⟨g, 0, none⟩) hg).trans m.c0, (h.cell (p := ⟨g, 1, none⟩) hg).trans m.c1, (h.frozen (p := ⟨g, 0, none⟩) hg).trans m.f0, (h.frozen (p := ⟨g, 1, none⟩) hg).trans m.f1⟩
theorem MarkAt.new (w : World) (t : TypeId) : MarkAt (w.alloc (.cells #[.int .i64 0, .int .i64 0] t)) w.heap.size :=
  ⟨cellNew _ _ _ _, cellNew _ _ _ _, frozenNew _ _ _ _, frozenNew _ _ _ _⟩
end Go.Proofs.Ytjmaankkbdpikaa
/- The small functions of streets return what the plain functions of the same name say. Conditions: the numbers that are subtracted are small. -/
namespace Go.Proofs.Ytjmaankkbdpikaa
open Go.RowKit Fs

theorem ret_bool {a b : Bool} (h : a = b) : Ending.returned (.bool a) = .returned (.bool b) := by rw [h]
theorem ret_int {a b : Int} (h : a = b) : Ending.returned (.int .i64 a) = .returned (.int .i64 b) := by rw [h]

set_option maxHeartbeats 400000 in
theorem within_any (n a b : Int) (w : World) : Calls Try.prog 56 #[.int .i64 n, .int .i64 a, .int .i64 b] w fun e w' => e = .returned (.bool (within n a b)) ∧ w = w' := by
  go_enter Try.func56, Try.ntmps56
  go_wp2
  all_goals (go_ret; exact ⟨ret_bool (by first | (simp [within, *]; done) | (simp [within]; omega)), rfl⟩)
set_option maxHeartbeats 400000 in
theorem bwithin_any (n a b : Int) (w : World) : Calls Try.prog 11 #[.int .i64 n, .int .i64 a, .int .i64 b] w fun e w' => e = .returned (.bool (within n a b)) ∧ w = w' := by
  go_enter Try.func11, Try.ntmps11
  go_wp2
  all_goals (go_ret; exact ⟨ret_bool (by first | (simp [within, *]; done) | (simp [within]; omega)), rfl⟩)
set_option maxHeartbeats 400000 in
theorem isTaken_any (n : Int) (w : World) : Calls Try.prog 87 #[.int .i64 n] w fun e w' => e = .returned (.bool (within n 0 7200)) ∧ w = w' := by
  go_enter Try.func87, Try.ntmps87
  go_wp2_with (go_at_call 56; refine (within_any _ _ _ _).mono ?_; rintro e w' ⟨rfl, rfl⟩)
  go_ret
  exact ⟨rfl, rfl⟩
set_option maxHeartbeats 400000 in
theorem letter_any (c : UInt8) (w : World) : Calls Try.prog 85 #[.int .u8 c.toNat] w fun e w' => e = .returned (.bool (letter c)) ∧ w = w' := by
  go_enter Try.func85, Try.ntmps85
  go_wp2
  all_goals (go_ret; refine ⟨ret_bool ?_, rfl⟩)
  all_goals (unfold letter; rw [Bool.eq_iff_iff]; simp; omega)
set_option maxHeartbeats 400000 in
theorem digit_any (c : UInt8) (w : World) : Calls Try.prog 86 #[.int .u8 c.toNat] w fun e w' => e = .returned (.bool (digit c)) ∧ w = w' := by
  go_enter Try.func86, Try.ntmps86
  go_wp2
  all_goals (go_ret; refine ⟨ret_bool ?_, rfl⟩)
  all_goals (unfold digit; rw [Bool.eq_iff_iff]; simp; omega)
/-- A day's seconds, as operands. -/
theorem day_bounds {a b : Int} (ha : 0 ≤ a ∧ a ≤ 86399) (hb : 0 ≤ b ∧ b ≤ 86399) : 0 ≤ b - a + 86400 - 1 ∧ (b - a + 86400 - 1) = b - a + 86399 := by omega
set_option maxHeartbeats 400000 in
theorem secondsTo_any (a b : Int) (w : World) (ha : 0 ≤ a ∧ a ≤ 86399) (hb : 0 ≤ b ∧ b ≤ 86399) : Calls Try.prog 72 #[.int .i64 a, .int .i64 b] w fun e w' => e = .returned (.int .i64 (secondsTo a b)) ∧ w = w' := by
  obtain ⟨a0, a1⟩ := ha
  obtain ⟨b0, b1⟩ := hb
  have h0 : 0 ≤ b - a + 86400 - 1 := by omega
  go_enter Try.func72, Try.ntmps72
  go_wp2
  go_ret
  exact ⟨ret_int (by unfold secondsTo; congr 2; omega), rfl⟩
theorem secondsTo_is (a b : Int) : 1 ≤ secondsTo a b ∧ secondsTo a b ≤ 86400 := by
  unfold secondsTo
  have h1 := Int.emod_nonneg (b - a + 86399) (show (86400 : Int) ≠ 0 by decide)
  have h2 := Int.emod_lt_of_pos (b - a + 86399) (show (0 : Int) < 86400 by decide)
  omega
theorem ptRight_is {p : Pt} (h : ptRight p = true) : (0 ≤ p.hour ∧ p.hour ≤ 86399) ∧ (0 ≤ p.lo ∧ p.lo ≤ 7200) ∧ 0 ≤ p.hi ∧ p.hi ≤ 7200 := by
  unfold ptRight at h
  rw [Bool.and_eq_true, Bool.and_eq_true] at h
  exact ⟨Fs.within_iff.1 h.1.1, Fs.within_iff.1 h.1.2, Fs.within_iff.1 h.2⟩
set_option maxHeartbeats 400000 in
theorem inOrder_any (p q : Pt) (w : World) (hp : ptRight p = true) (hq : ptRight q = true) : Calls Try.prog 88 #[ptV p, ptV q] w fun e w' => e = .returned (.bool (inOrder p q)) ∧ Below w.heap.size w w' := by
  obtain ⟨ph, ⟨p0, p1⟩, p2, p3⟩ := ptRight_is hp
  obtain ⟨qh, ⟨q0, q1⟩, q2, q3⟩ := ptRight_is hq
  obtain ⟨s0, s1⟩ := secondsTo_is p.hour q.hour
  clear hp hq
  go_enter Try.func88, Try.ntmps88
  go_wp2_with (go_at_call 72; refine (secondsTo_any _ _ _ ph qh).mono ?_; rintro e w' ⟨rfl, rfl⟩)
  all_goals (go_ret; exact ⟨ret_bool (by first | (simp [inOrder, *]; done) | (simp [inOrder]; omega)), ((Below.refl _ _).alloc (Nat.le_refl _) _).alloc (by simp) _⟩)
set_option maxHeartbeats 400000 in
theorem roundedUp_any (a b : Int) (w : World) (h0 : 0 ≤ a) (h1 : a ≤ 1000000000000000000) (h2 : 1 ≤ b) (h3 : b ≤ 1000000000) : Calls Try.prog 74 #[.int .i64 a, .int .i64 b] w fun e w' => e = .returned (.int .i64 ((a + b - 1) / b)) ∧ w = w' := by
  have h4 : 0 ≤ a + b - 1 := by omega
  have h5 : (b == 0) = false := by simpa using (show b ≠ 0 by omega)
  have h6 : (a + b - 1) / b ≤ 1000000000000000000 + 1000000000 := Int.le_trans (Int.ediv_le_self b h4) (by omega)
  have h7 : 0 ≤ (a + b - 1) / b := Int.ediv_nonneg h4 (by omega)
  go_enter Try.func74, Try.ntmps74
  go_wp2
  go_ret
  exact ⟨rfl, rfl⟩
set_option maxHeartbeats 400000 in
theorem isPlace_any (N : Net) (v : Value) (z : Int) (w : World) (hN : RdNet w v N) : Calls Try.prog 62 #[v, .int .i64 z] w fun e w' => e = .returned (.bool (isPlace N z)) ∧ Below w.heap.size w w' := by
  obtain ⟨P, R, pc, rc, a, rfl, m⟩ := hN
  have b1 := m.places.le.1
  have b2 := m.places.le.2
  clear m
  go_enter Try.func62, Try.ntmps62
  go_wp2_with (go_at_call 56; refine (within_any _ _ _ _).mono ?_; rintro e w' ⟨rfl, rfl⟩)
  go_ret
  exact ⟨rfl, (Below.refl _ _).alloc (Nat.le_refl _) _⟩
set_option maxHeartbeats 400000 in
theorem rIsPlace_any (N : Net) (v : Value) (z : Int) (w : World) (hN : RdNet w v N) : Calls Try.prog 19 #[v, .int .i64 z] w fun e w' => e = .returned (.bool (isPlace N z)) ∧ Below w.heap.size w w' := by
  obtain ⟨P, R, pc, rc, a, rfl, m⟩ := hN
  have b1 := m.places.le.1
  have b2 := m.places.le.2
  clear m
  go_enter Try.func19, Try.ntmps19
  go_wp2_with (go_at_call 11; refine (bwithin_any _ _ _ _).mono ?_; rintro e w' ⟨rfl, rfl⟩)
  go_ret
  exact ⟨rfl, (Below.refl _ _).alloc (Nat.le_refl _) _⟩
set_option maxHeartbeats 400000 in
theorem isRoad_any (N : Net) (v : Value) (z : Int) (w : World) (hN : RdNet w v N) : Calls Try.prog 76 #[v, .int .i64 z] w fun e w' => e = .returned (.bool (isRoad N z)) ∧ Below w.heap.size w w' := by
  obtain ⟨P, R, pc, rc, a, rfl, m⟩ := hN
  have b1 := m.roads.le.1
  have b2 := m.roads.le.2
  clear m
  go_enter Try.func76, Try.ntmps76
  go_wp2_with (go_at_call 56; refine (within_any _ _ _ _).mono ?_; rintro e w' ⟨rfl, rfl⟩)
  go_ret
  exact ⟨rfl, (Below.refl _ _).alloc (Nat.le_refl _) _⟩
def Fs.timeErr (a : Int) : Int := if within a 0 604800 then 0 else 2
set_option maxHeartbeats 400000 in
theorem timeErr_any (a : Int) (w : World) : Calls Try.prog 36 #[.int .i64 a] w fun e w' => e = .returned (.int .i64 (timeErr a)) ∧ w = w' := by
  go_enter Try.func36, Try.ntmps36
  go_wp2_with (go_at_call 56; refine (within_any _ _ _ _).mono ?_; rintro e w' ⟨rfl, rfl⟩)
  all_goals (go_ret; exact ⟨ret_int (by unfold timeErr; simp_all), rfl⟩)
set_option maxHeartbeats 400000 in
theorem rTimeErr_any (a : Int) (w : World) : Calls Try.prog 20 #[.int .i64 a] w fun e w' => e = .returned (.int .i64 (timeErr a)) ∧ w = w' := by
  go_enter Try.func20, Try.ntmps20
  go_wp2_with (go_at_call 11; refine (bwithin_any _ _ _ _).mono ?_; rintro e w' ⟨rfl, rfl⟩)
  all_goals (go_ret; exact ⟨ret_int (by unfold timeErr; simp_all), rfl⟩)
end Go.Proofs.Ytjmaankkbdpikaa

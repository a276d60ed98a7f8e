/- Copies of lists of numbers and of texts; whether a net has few parts. Condition of copies: at most a million elements. -/
import Derived.Test.YtjmaankkbdpikaaMem
import Derived.Test.YtjmaankkbdpikaaT7
import Derived.Deep.RegionHeld3
namespace Go.Proofs.Ytjmaankkbdpikaa
open Go.RowKit Fs

theorem Try.infoInt : (Try.prog.info? 3).map (fun i => (i.zero, i.size, i.bytes)) = some (some (.int .i64 0), 1, 8) := by kernel_rfl
theorem Try.infoText : (Try.prog.info? 9).map (fun i => (i.zero, i.size, i.bytes)) = some (some (.string ⟨#[]⟩), 1, 16) := by kernel_rfl
set_option maxHeartbeats 400000 in
theorem copyTexts_any (l : List ByteArray) (A : Option Addr) (c : Nat) (w : World) (h : ArrS w A l c) (hn : l.length ≤ 1000000) :
    Calls Try.prog 26 #[.slice A l.length c] w fun e w' => ∃ A' c', e = .returned (.slice A' l.length c') ∧ ArrS w' A' l c' ∧ Above w.heap.size A' ∧ Below w.heap.size w w' := by
  obtain ⟨i0, hi, hz0, hz1, hz2⟩ := info_parts Try.infoText
  go_enter Try.func26, Try.ntmps26
  go_wp2_with (at_builtin
               refine wpList_copy rfl (.tmp 3) (.tmp 4) 22 rfl 9 i0 (.string ⟨#[]⟩) 1 16 Try.underlying22 hi hz0 hz1 hz2 rfl (by decide) w.heap.size w.heap.size rfl (Nat.le_refl _) (heap_alloc_new _ _) A l.length c _ rfl (Arr.keep (Keep.alloc w _) h) (fun _ _ => rfl) (by unfold maxLen; omega) (by omega) ?_
               intro A1 c1 w1 ha hb)
  go_ret
  exact ⟨A1, c1, rfl, own_arrN ha, own_above ha, ((Below.refl _ _).alloc (Nat.le_refl _) _).trans hb⟩

theorem below_of_own {w w' : World} {base : Nat} {e : TypeId} {size : Nat} {v : Value} {n : Nat} {xs : List Value} (h : w.ownsRow base e size v n xs) (hb : Below w.heap.size w w') : w'.ownsRow base e size v n xs :=
  h.kept (row := none) ⟨hb.os, hb.tape, hb.output, hb.size, fun k hk _ => hb.block k hk⟩ (by cases v.ownBlock <;> simp)

def Fs.fewD (N : Net) : Prop := ∀ j, j < N.roads.length → (listD N.roads j).name.size ≤ 20 ∧ (listD N.roads j).pts.length ≤ 10
def Fs.fewPl (N : Net) : Prop := ∀ j, j < N.places.length → (listS N.places j).size ≤ 20
def Fs.FewN (N : Net) : Prop := (N.places.length ≤ 7 ∨ (20 < N.places.length ∧ N.places.length ≤ 22)) ∧ (N.roads.length ≤ 14 ∨ (60 < N.roads.length ∧ N.roads.length ≤ 62)) ∧ fewPl N ∧ fewD N
open Classical in
noncomputable def Fs.fewN (N : Net) : Bool := decide (FewN N)
theorem fewN_yes {N : Net} (h : FewN N) : fewN N = true := by unfold fewN; simpa using h
theorem fewN_no {N : Net} (h : ¬ FewN N) : fewN N = false := by unfold fewN; simpa using h
theorem fewN_is {N : Net} (h : fewN N = true) : FewN N := by unfold fewN at h; simpa using h

set_option maxHeartbeats 1600000 in
set_option maxRecDepth 100000 in
theorem few_any (N : Net) (v : Value) (w : World) (hN : RdNet w v N) :
    Calls Try.prog 5 #[v] w fun e w' => e = .returned (.bool (fewN N)) ∧ Below w.heap.size w w' := by
  obtain ⟨P, R, pc, rc, a, rfl, m⟩ := hN
  have a1 := m.places.le.1
  have a2 := m.places.le.2
  have b1 := m.roads.le.1
  have b2 := m.roads.le.2
  have M := Lib.hid m
  clear m
  by_cases h0 : (N.places.length ≤ 7 ∨ (20 < N.places.length ∧ N.places.length ≤ 22)) ∧ (N.roads.length ≤ 14 ∨ (60 < N.roads.length ∧ N.roads.length ≤ 62))
  · have H0 := Lib.hid h0
    go_enter Try.func5, Try.ntmps5
    have BN := Lib.hid (BoxN.new w N P R pc rc 25)
    obtain ⟨n0, n1⟩ := BN.out
    go_upto_region 1 with fail
    generalize hwb : w.alloc _ = wb at *
    have HW : Hid (Below w.heap.size w wb) := by rw [← hwb]; exact Lib.hid ((Below.refl _ _).alloc (Nat.le_refl _) _)
    clear hwb
    go_cut [38] from 5 to 38 (fun u wx => u = .bool false ∧ wb = wx)
    case first =>
      obtain ⟨g1, g2⟩ := h0
      go_wp2_with fail
      all_goals first
        | (go_meet; exact ⟨rfl, rfl⟩)
        | (go_meet; exact ⟨by simp; omega, rfl⟩)
        | (exfalso; simp_all; done)
        | (exfalso; simp_all; omega)
    case rest =>
      obtain ⟨rfl, rfl⟩ := hcut
      clear n0 n1
      obtain ⟨n0, n1⟩ := BN.out
      go_wp2_with fail
      go_loop [3] (fun i => ∃ k : Nat, k ≤ N.places.length ∧ i = .int .i64 k ∧ Hid (∀ j, j < k → (listS N.places j).size ≤ 20)) (fun i => N.places.length - (intOf i).toNat)
      case atStart => exact ⟨0, Nat.zero_le _, rfl, fun j hj => absurd hj (Nat.not_lt_zero _)⟩
      case round =>
        obtain ⟨k, hk, rfl, Hn⟩ := hrel
        by_cases hlt : k < N.places.length
        · obtain ⟨b, o, rfl, c0⟩ := (M.out.places.keep (Keep.below HW.out)).at_ hlt
          by_cases hx : (listS N.places k).size ≤ 20
          · have F : Hid (∀ j, j < k + 1 → (listS N.places j).size ≤ 20) := fun j hj => by
              by_cases e : j = k
              · subst e; exact hx
              · exact Hn.out j (by omega)
            go_wp2
            go_round
            case rel => exact ⟨k + 1, by omega, by go_num, F⟩
            case measure => simp [intOf]; omega
          · have F := Lib.hid (fewN_no (N := N) fun hh => hx (hh.2.2.1 k hlt))
            go_wp2
            go_ret
            exact ⟨ret_bool F.out.symm, HW.out⟩
        · have HP : Hid (fewPl N) := fun j hj => Hn.out j (by omega)
          go_wp2
          clear hk hlt Hn
          go_loop [4] (fun i => ∃ k : Nat, k ≤ N.roads.length ∧ i = .int .i64 k ∧ Hid (∀ j, j < k → (listD N.roads j).name.size ≤ 20 ∧ (listD N.roads j).pts.length ≤ 10)) (fun i => N.roads.length - (intOf i).toNat)
          case atStart => exact ⟨0, Nat.zero_le _, rfl, fun j hj => absurd hj (Nat.not_lt_zero _)⟩
          case round =>
            obtain ⟨k, hk, rfl, Hn⟩ := hrel
            by_cases hlt : k < N.roads.length
            · obtain ⟨b, o, rfl, q⟩ := (M.out.roads.keep (Keep.below HW.out)).at_ hlt
              have c0 := q.c0
              have c4 := q.c4
              clear q
              have p1 := (M.out.roads.2 k hlt).le.1
              have p2 := (M.out.roads.2 k hlt).le.2
              by_cases hx : (listD N.roads k).name.size ≤ 20
              · by_cases hy : (listD N.roads k).pts.length ≤ 10
                · have F : Hid (∀ j, j < k + 1 → (listD N.roads j).name.size ≤ 20 ∧ (listD N.roads j).pts.length ≤ 10) := fun j hj => by
                    by_cases e : j = k
                    · subst e; exact ⟨hx, hy⟩
                    · exact Hn.out j (by omega)
                  go_wp2
                  go_round
                  case rel => exact ⟨k + 1, by omega, by go_num, F⟩
                  case measure => simp [intOf]; omega
                · have F := Lib.hid (fewN_no (N := N) fun hh => hy (hh.2.2.2 k hlt).2)
                  go_wp2
                  go_ret
                  exact ⟨ret_bool F.out.symm, HW.out⟩
              · have F := Lib.hid (fewN_no (N := N) fun hh => hx (hh.2.2.2 k hlt).1)
                go_wp2
                go_ret
                exact ⟨ret_bool F.out.symm, HW.out⟩
            · have F := Lib.hid (fewN_yes (N := N) ⟨H0.out.1, H0.out.2, HP.out, fun j hj => Hn.out j (by omega)⟩)
              go_wp2
              go_ret
              exact ⟨ret_bool F.out.symm, HW.out⟩
  · have F := Lib.hid (fewN_no (N := N) fun hh => h0 ⟨hh.1, hh.2.1⟩)
    go_enter Try.func5, Try.ntmps5
    go_wp2_with fail
    all_goals first
      | (go_ret; exact ⟨ret_bool F.out.symm, (Below.refl _ _).alloc (Nat.le_refl _) _⟩)
      | (exfalso; simp_all; done)
      | (exfalso; simp_all; omega)
end Go.Proofs.Ytjmaankkbdpikaa
/- A copy of a net reads as the net. Condition: no list has more than a million elements. -/
namespace Go.Proofs.Ytjmaankkbdpikaa
open Go.RowKit Fs

/-- A row of n elements that lies behind block g, and not in block x. -/
def Off (g : Nat) (x : Option Nat) (w : World) (A : Option Addr) (n c size : Nat) (C : Nat → Nat → Value) : Prop :=
  n ≤ c ∧ c ≤ 9223372036854775807 ∧ (0 < n → ∃ b o, A = some ⟨b, o, none⟩ ∧ g < b ∧ x ≠ some b ∧ ∀ i j, i < n → j < size → w.cell? ⟨b, o + i * size + j, none⟩ = some (C i j))
theorem Off.arr {g : Nat} {x : Option Nat} {w : World} {A : Option Addr} {n c size : Nat} {C : Nat → Nat → Value} (h : Off g x w A n c size C) : Arr w A n c size C := by
  refine ⟨h.1, h.2.1, fun hn => ?_⟩
  obtain ⟨b, o, h1, -, -, h2⟩ := h.2.2 hn
  exact ⟨b, o, h1, h2⟩
theorem Off.of {g B : Nat} {x : Option Nat} {w : World} {A : Option Addr} {n c size : Nat} {C : Nat → Nat → Value} (h : Arr w A n c size C) (ha : Above B A) (hB : g < B) (hx : ∀ b, x = some b → b < B) : Off g x w A n c size C := by
  refine ⟨h.1, h.2.1, fun hn => ?_⟩
  obtain ⟨b, o, h1, h2⟩ := h.2.2 hn
  have : B ≤ b := ha _ h1
  exact ⟨b, o, h1, by omega, fun e => by have := hx b e; omega, h2⟩
theorem Off.keep {g : Nat} {x : Option Nat} {w w' : World} (k : Keep w w') {A : Option Addr} {n c size : Nat} {C : Nat → Nat → Value} (h : Off g x w A n c size C) : Off g x w' A n c size C := by
  refine ⟨h.1, h.2.1, fun hn => ?_⟩
  obtain ⟨b, o, h1, h2, h3, h4⟩ := h.2.2 hn
  exact ⟨b, o, h1, h2, h3, fun i j hi hj => k _ _ (h4 i j hi hj)⟩
theorem Off.newer {g : Nat} {x : Option Nat} {w0 w : World} {A : Option Addr} {n c size : Nat} {C : Nat → Nat → Value} (h : Off g x w0 A n c size C) (hs : 0 < size) (k : Keep w0 w) {p : Addr} (hp : w0.heap.size ≤ p.block) (v : Value) : Off g x (w.setCell p v) A n c size C := by
  refine ⟨h.1, h.2.1, fun hn => ?_⟩
  obtain ⟨b, o, h1, h2, h3, h4⟩ := h.2.2 hn
  have hb : b < w0.heap.size := World.block_lt_of_cell? w0 _ (h4 0 0 hn hs)
  refine ⟨b, o, h1, h2, h3, fun i j hi hj => (World.cell?_setCell_far _ _ _ _ ?_).trans (k _ _ (h4 i j hi hj))⟩
  show p.block ≠ b
  omega
theorem Off.far {g : Nat} {x : Option Nat} {w : World} {A : Option Addr} {n c size : Nat} {C : Nat → Nat → Value} (h : Off g x w A n c size C) {p : Addr} (hp : p.block ≤ g) (v : Value) : Off g x (w.setCell p v) A n c size C := by
  refine ⟨h.1, h.2.1, fun hn => ?_⟩
  obtain ⟨b, o, h1, h2, h3, h4⟩ := h.2.2 hn
  refine ⟨b, o, h1, h2, h3, fun i j hi hj => (World.cell?_setCell_far _ _ _ _ ?_).trans (h4 i j hi hj)⟩
  show p.block ≠ b
  omega
/-- The row x has grown, in its place or at the end of memory. -/
theorem Off.grown {g : Nat} {x x' : Option Nat} {w w' : World} {A : Option Addr} {n c size : Nat} {C : Nat → Nat → Value} (h : Off g x w A n c size C) (hs : 0 < size) (hg : w.grownBy w' x) (hx : x' = x ∨ x' = some w.heap.size) : Off g x' w' A n c size C := by
  refine ⟨h.1, h.2.1, fun hn => ?_⟩
  obtain ⟨b, o, h1, h2, h3, h4⟩ := h.2.2 hn
  have hb : b < w.heap.size := World.block_lt_of_cell? w _ (h4 0 0 hn hs)
  refine ⟨b, o, h1, h2, fun e => ?_, fun i j hi hj => ?_⟩
  · rcases hx with hx | hx
    · exact h3 (hx ▸ e)
    · rw [hx] at e; injection e with e; omega
  · rw [← h4 i j hi hj]
    have := hg.block b hb (fun e => h3 e.symm)
    unfold World.cell?
    simp only [this]
theorem Arr.far {B : Nat} {w : World} {A : Option Addr} {n c size : Nat} {C : Nat → Nat → Value} (h : Arr w A n c size C) (ha : Above B A) {p : Addr} (hp : p.block < B) (v : Value) : Arr (w.setCell p v) A n c size C := by
  refine ⟨h.1, h.2.1, fun hn => ?_⟩
  obtain ⟨b, o, h1, h4⟩ := h.2.2 hn
  have : B ≤ b := ha _ h1
  refine ⟨b, o, h1, fun i j hi hj => (World.cell?_setCell_far _ _ _ _ ?_).trans (h4 i j hi hj)⟩
  show p.block ≠ b
  omega
abbrev OffP (g : Nat) (x : Option Nat) (w : World) (A : Option Addr) (l : List Pt) (c : Nat) : Prop := Off g x w A l.length c 3 fun i j => ptCells (listP l i) j
abbrev OffS (g : Nat) (x : Option Nat) (w : World) (A : Option Addr) (l : List ByteArray) (c : Nat) : Prop := Off g x w A l.length c 1 fun i _ => .string (listS l i)

theorem Try.infoPt : (Try.prog.info? 116).map (fun i => (i.zero, i.size, i.bytes)) = some (some (.agg #[.int .i64 0, .int .i64 0, .int .i64 0]), 3, 24) := by kernel_rfl
theorem Try.infoRd : (Try.prog.info? 58).map (fun i => (i.zero, i.size, i.bytes)) = some (some (.agg #[.string ⟨#[]⟩, .int .i64 0, .int .i64 0, .int .i64 0, .slice none 0 0]), 5, 64) := by kernel_rfl
/-- What has been copied: the places, the roads so far. -/
structure OutAt (w : World) (g : Nat) (u v : Value) : Prop where
  c0 : w.cell? ⟨g, 0, none⟩ = some u
  c1 : w.cell? ⟨g, 1, none⟩ = some v
  f1 : w.frozen? ⟨g, 1, none⟩ = false
theorem OutAt.below {B : Nat} {w w' : World} {g : Nat} {u v : Value} (m : OutAt w g u v) (h : Below B w w') (hg : g < B) : OutAt w' g u v :=
  ⟨(h.cell (p := ⟨g, 0, none⟩) hg).trans m.c0, (h.cell (p := ⟨g, 1, none⟩) hg).trans m.c1, (h.frozen (p := ⟨g, 1, none⟩) hg).trans m.f1⟩
theorem OutAt.lt {w : World} {g : Nat} {u v : Value} (m : OutAt w g u v) : g < w.heap.size := World.block_lt_of_cell? w _ m.c0
theorem OutAt.far {w : World} {g : Nat} {u v : Value} (m : OutAt w g u v) {p : Addr} (hp : p.block ≠ g) (x : Value) : OutAt (w.setCell p x) g u v :=
  ⟨(World.cell?_setCell_far _ _ _ _ hp).trans m.c0, (World.cell?_setCell_far _ _ _ _ hp).trans m.c1, (World.frozen?_setCell _ _ _ _).trans m.f1⟩
theorem OutAt.set {w : World} {g : Nat} {u v : Value} (m : OutAt w g u v) (x : Value) : OutAt (w.setCell ⟨g, 1, none⟩ x) g u x :=
  ⟨(World.cell?_setCell_other _ _ _ _ (by simp)).trans m.c0, World.cell?_setCell_same _ _ _ m.c1, (World.frozen?_setCell _ _ _ _).trans m.f1⟩
theorem OutAt.grown {w w' : World} {g : Nat} {u v : Value} {x : Option Nat} (m : OutAt w g u v) (h : w.grownBy w' x) (hx : x ≠ some g) : OutAt w' g u v := by
  have hb := h.block g m.lt (fun e => hx e.symm)
  have c : ∀ i, w'.cell? ⟨g, i, none⟩ = w.cell? ⟨g, i, none⟩ := fun i => by unfold World.cell?; simp only [hb]
  have f : ∀ i, w'.frozen? ⟨g, i, none⟩ = w.frozen? ⟨g, i, none⟩ := fun i => by unfold World.frozen?; simp only [hb]
  exact ⟨(c 0).trans m.c0, (c 1).trans m.c1, (f 1).trans m.f1⟩
/-- A road's cells in the block h, of which that of its points may be written. -/
structure BoxW (w : World) (h : Nat) (r : Rd) (p : Option Addr) (pc : Nat) : Prop where
  box : BoxD w h r p pc
  f4 : w.frozen? ⟨h, 4, none⟩ = false
theorem BoxW.new (w : World) (r : Rd) (p : Option Addr) (pc : Nat) (t : TypeId) : BoxW (w.alloc (.cells #[.string r.name, .int .i64 r.src, .int .i64 r.dst, .int .i64 r.metres, .slice p r.pts.length pc] t)) w.heap.size r p pc := ⟨BoxD.new _ _ _ _ _, frozenNew _ _ _ 4⟩
theorem BoxW.below {B : Nat} {w w' : World} {h : Nat} {r : Rd} {p : Option Addr} {pc : Nat} (m : BoxW w h r p pc) (hb : Below B w w') (hg : h < B) : BoxW w' h r p pc :=
  ⟨⟨(hb.cell (p := ⟨h, 0, none⟩) hg).trans m.box.c0, (hb.cell (p := ⟨h, 1, none⟩) hg).trans m.box.c1, (hb.cell (p := ⟨h, 2, none⟩) hg).trans m.box.c2, (hb.cell (p := ⟨h, 3, none⟩) hg).trans m.box.c3, (hb.cell (p := ⟨h, 4, none⟩) hg).trans m.box.c4⟩, (hb.frozen (p := ⟨h, 4, none⟩) hg).trans m.f4⟩
theorem BoxW.set {w : World} {h : Nat} {r : Rd} {p : Option Addr} {pc : Nat} (m : BoxW w h r p pc) (p' : Option Addr) (pc' : Nat) : BoxW (w.setCell ⟨h, 4, none⟩ (.slice p' r.pts.length pc')) h r p' pc' := by
  have far : ∀ i, i ≠ 4 → (w.setCell ⟨h, 4, none⟩ (.slice p' r.pts.length pc')).cell? ⟨h, i, none⟩ = w.cell? ⟨h, i, none⟩ := fun i hi => World.cell?_setCell_other _ _ _ _ (by intro e; injection e with _ e; omega)
  exact ⟨⟨(far 0 (by decide)).trans m.box.c0, (far 1 (by decide)).trans m.box.c1, (far 2 (by decide)).trans m.box.c2, (far 3 (by decide)).trans m.box.c3, World.cell?_setCell_same _ _ _ m.box.c4⟩, (World.frozen?_setCell _ _ _ _).trans m.f4⟩
def roadVals (r : Rd) (p : Option Addr) (pc : Nat) : List Value := [.string r.name, .int .i64 r.src, .int .i64 r.dst, .int .i64 r.metres, .slice p r.pts.length pc]
theorem news5 (w : World) (r : Rd) (p : Option Addr) (pc : Nat) (t : TypeId) : ∀ j u, (roadVals r p pc)[j]? = some u → (w.alloc (.cells #[.string r.name, .int .i64 r.src, .int .i64 r.dst, .int .i64 r.metres, .slice p r.pts.length pc] t)).cell? (Addr.add ⟨w.heap.size, 0, none⟩ j) = some u := by
  intro j u hu
  have B := BoxD.new w r p pc t
  match j with
  | 0 => have : Value.string r.name = u := by simpa [roadVals] using hu
         subst this; exact B.c0
  | 1 => have : Value.int .i64 r.src = u := by simpa [roadVals] using hu
         subst this; exact B.c1
  | 2 => have : Value.int .i64 r.dst = u := by simpa [roadVals] using hu
         subst this; exact B.c2
  | 3 => have : Value.int .i64 r.metres = u := by simpa [roadVals] using hu
         subst this; exact B.c3
  | 4 => have : Value.slice p r.pts.length pc = u := by simpa [roadVals] using hu
         subst this; exact B.c4
  | j + 5 => simp [roadVals] at hu
theorem oneRoad (r : Rd) (p : Option Addr) (pc : Nat) : ∀ u ∈ roadVals r p pc, u.oneCell' = true := by
  intro u hu
  simp only [roadVals, List.mem_cons, List.not_mem_nil, or_false] at hu
  rcases hu with rfl | rfl | rfl | rfl | rfl <;> rfl
/-- The cells of the first k roads, whose points lie at a. -/
def rowVals (l : List Rd) (a : DA) (k : Nat) : List Value := flat k 5 fun i j => rdCells (listD l i) (a.p i) (a.pc i) j
def DA.put (a : DA) (k : Nat) (A : Option Addr) (c : Nat) : DA := ⟨fun i => if i = k then A else a.p i, fun i => if i = k then c else a.pc i⟩
theorem rowVals_put (l : List Rd) (a : DA) (k : Nat) (A : Option Addr) (c : Nat) : rowVals l (a.put k A c) (k + 1) = rowVals l a k ++ roadVals (listD l k) A c := by
  unfold rowVals flat
  rw [show (k + 1) * 5 = k * 5 + 5 by omega, List.range_add, List.map_append, List.map_map]
  congr 1
  · refine List.map_congr_left fun t ht => ?_
    have h1 : t < k * 5 := by simpa using ht
    have h2 : t / 5 < k := by omega
    simp only [DA.put]
    rw [if_neg (by omega), if_neg (by omega)]
  · have e : ∀ t, t < 5 → (k * 5 + t) / 5 = k ∧ (k * 5 + t) % 5 = t := fun t ht => by omega
    rw [show List.range 5 = [0, 1, 2, 3, 4] by rfl]
    simp only [List.map_cons, List.map_nil, Function.comp, DA.put, (e 0 (by decide)).1, (e 0 (by decide)).2, (e 1 (by decide)).1, (e 1 (by decide)).2, (e 2 (by decide)).1, (e 2 (by decide)).2, (e 3 (by decide)).1, (e 3 (by decide)).2, (e 4 (by decide)).1, (e 4 (by decide)).2, if_pos, roadVals, rdCells]

set_option maxHeartbeats 3200000 in
set_option maxRecDepth 100000 in
theorem copyNet_any (N : Net) (v : Value) (w : World) (hN : RdNet w v N) (hL1 : N.places.length ≤ 1000000) (hL2 : N.roads.length ≤ 1000000) (hL3 : ∀ i, i < N.roads.length → (listD N.roads i).pts.length ≤ 1000000) :
    Calls Try.prog 10 #[v] w fun e w' => ∃ v', e = .returned v' ∧ RdNet w' v' N ∧ Below w.heap.size w w' := by
  obtain ⟨P, R, pc, rc, a, rfl, m⟩ := hN
  have M := Lib.hid m
  have a1 := m.places.le.1
  have a2 := m.places.le.2
  have b1 := m.roads.le.1
  have b2 := m.roads.le.2
  have HL3 := Lib.hid hL3
  clear m hL3
  obtain ⟨i0, hi, hz0, hz1, hz2⟩ := info_parts Try.infoPt
  obtain ⟨j0, hj, jz0, jz1, jz2⟩ := info_parts Try.infoRd
  have BN := Lib.hid ((BoxN.new w N P R pc rc 25).keep (Keep.alloc _ (.cells #[.slice none 0 0, .slice none 0 0] 25)))
  have RV : Hid (∀ i, (i = 0 ∨ i = 1) → ((w.alloc (.cells #[.slice P N.places.length pc, .slice R N.roads.length rc] 25)).alloc (.cells #[.slice none 0 0, .slice none 0 0] 25)).cell? ⟨w.heap.size + 1, i, none⟩ = some (.slice none 0 0) ∧ ((w.alloc (.cells #[.slice P N.places.length pc, .slice R N.roads.length rc] 25)).alloc (.cells #[.slice none 0 0, .slice none 0 0] 25)).frozen? ⟨w.heap.size + 1, i, none⟩ = false) := Lib.hid (fun i hi => ⟨(cellNew1 _ _ _ _ i).trans (by rcases hi with rfl | rfl <;> rfl), frozenNew1 _ _ _ _ i⟩)
  go_enter Try.func10, Try.ntmps10
  obtain ⟨n0, n1⟩ := BN.out
  go_upto_region 1 with fail
  generalize hwb : (w.alloc _).alloc _ = wb at *
  have HW : Hid (Below w.heap.size w wb) := by rw [← hwb]; exact Lib.hid (((Below.refl _ _).alloc (Nat.le_refl _) _).alloc (by simp) _)
  have hwbs : wb.heap.size = w.heap.size + 2 := by rw [← hwb]; simp
  clear hwb
  go_wp2_with fail
  refine (copyTexts_any N.places _ _ _ (M.out.places.keep (Keep.below HW.out)) hL1).mono ?_
  rintro e w1 ⟨A1, c1, rfl, ha1, hab1, hb1⟩
  have HA1 := Lib.hid ha1
  have HAB := Lib.hid hab1
  have HB1 := Lib.hid hb1
  have h1s : w.heap.size + 2 ≤ w1.heap.size := by have := hb1.size; omega
  clear ha1 hab1 hb1 n0 n1
  have OA : Hid (OutAt (w1.alloc (.cells #[.slice A1 N.places.length c1, .slice none 0 0] 25)) w1.heap.size (.slice A1 N.places.length c1) (.slice none 0 0)) := Lib.hid ⟨cellNew _ _ _ 0, cellNew _ _ _ 1, frozenNew _ _ _ 1⟩
  have HG : Hid (Below w1.heap.size w1 (w1.alloc (.cells #[.slice A1 N.places.length c1, .slice none 0 0] 25))) := Lib.hid ((Below.refl _ _).alloc (Nat.le_refl _) _)
  have OW : Hid ((w1.alloc (.cells #[.slice A1 N.places.length c1, .slice none 0 0] 25)).ownsRow (w1.heap.size + 1) 58 5 (.slice none 0 0) 0 (rowVals N.roads ⟨fun _ => none, fun _ => 0⟩ 0)) := Lib.hid (World.ownsRow_nil _ _ _ _)
  go_upto_region 2 with fail
  generalize hwc : w1.alloc _ = wc at *
  have hwcs : wc.heap.size = w1.heap.size + 1 := by rw [← hwc]; simp
  clear hwc
  go_wp2_with fail
  go_loopw [4] (fun u wr => ∃ (k : Nat) (vr : Value) (ar : DA), k ≤ N.roads.length ∧ u = .int .i64 k ∧ Hid (Below w1.heap.size w1 wr) ∧ Hid (OutAt wr w1.heap.size (.slice A1 N.places.length c1) vr) ∧ Hid (wr.ownsRow (w1.heap.size + 1) 58 5 vr k (rowVals N.roads ar k)) ∧
    Hid (∀ i, i < k → OffP w1.heap.size vr.ownBlock wr (ar.p i) (listD N.roads i).pts (ar.pc i))) (fun u _ => N.roads.length - (intOf u).toNat)
  case atStart => exact ⟨0, _, _, Nat.zero_le _, rfl, HG, OA, OW, Lib.hid fun i hi => absurd hi (Nat.not_lt_zero _)⟩
  case round =>
    obtain ⟨k, vr, ar, hk, rfl, HG2, OA2, OW2, OP2⟩ := hrel
    have HB2 := Lib.hid (HB1.out.trans (HG2.out.mono HB1.out.size))
    have HX2 := Lib.hid (HW.out.trans (HB2.out.mono HW.out.size))
    obtain ⟨n0, n1⟩ := BN.out.keep (Keep.below HB2.out)
    obtain ⟨o0, o1, of1⟩ := OA2.out
    have hos := OA2.out.lt
    by_cases hlt : k < N.roads.length
    · obtain ⟨b, o, rfl, q⟩ := (M.out.roads.keep (Keep.below HX2.out)).at_ hlt
      obtain ⟨q0, q1, q2, q3, q4⟩ := q
      have hp := Lib.hid (M.out.roads.2 k hlt)
      have p1 := hp.out.le.1
      have p2 := hp.out.le.2
      have l3 := HL3.out k hlt
      have BD := Lib.hid (BoxW.new wr (listD N.roads k) (a.p k) (a.pc k) 58)
      have HG3 := Lib.hid (HG2.out.alloc HG2.out.size (.cells #[.string (listD N.roads k).name, .int .i64 (listD N.roads k).src, .int .i64 (listD N.roads k).dst, .int .i64 (listD N.roads k).metres, .slice (a.p k) (listD N.roads k).pts.length (a.pc k)] 58))
      have OA3 := Lib.hid (OA2.out.below ((Below.refl _ _).alloc (Nat.le_refl _) (.cells #[.string (listD N.roads k).name, .int .i64 (listD N.roads k).src, .int .i64 (listD N.roads k).dst, .int .i64 (listD N.roads k).metres, .slice (a.p k) (listD N.roads k).pts.length (a.pc k)] 58)) hos)
      have OW3 := Lib.hid (OW2.out.alloc (.cells #[.string (listD N.roads k).name, .int .i64 (listD N.roads k).src, .int .i64 (listD N.roads k).dst, .int .i64 (listD N.roads k).metres, .slice (a.p k) (listD N.roads k).pts.length (a.pc k)] 58))
      have OP3 := Lib.hid fun i hi => (OP2.out i hi).keep (Keep.alloc wr (.cells #[.string (listD N.roads k).name, .int .i64 (listD N.roads k).src, .int .i64 (listD N.roads k).dst, .int .i64 (listD N.roads k).metres, .slice (a.p k) (listD N.roads k).pts.length (a.pc k)] 58))
      go_upto_region 6 with fail
      generalize hwd : wr.alloc _ = wd at *
      have hds : wd.heap.size = wr.heap.size + 1 := by rw [← hwd]; simp
      have KD : Hid (Keep wr wd) := by rw [← hwd]; exact Lib.hid (Keep.alloc _ _)
      clear hwd n0 n1 q0 q1 q2 q3 q4 o0 o1 of1
      obtain ⟨d0, d1, d2, d3, d4⟩ := BD.out.box
      have hvb := Lib.hid (show ∀ x, vr.ownBlock = some x → w1.heap.size + 1 ≤ x ∧ x < wr.heap.size from fun x hx => OW2.out.lt x hx)
      have HPd := Lib.hid (hp.out.keep (Keep.below (HW.out.trans ((HB1.out.trans (HG3.out.mono HB1.out.size)).mono HW.out.size))))
      have f4 := BD.out.f4
      go_upto_region 7 with (at_builtin
                             refine wpList_copy rfl (.tmp 22) (.tmp 24) 56 rfl 116 i0 _ 3 24 Try.underlying56 hi hz0 hz1 hz2 rfl (by decide) (wr.heap.size + 1) (wr.heap.size + 1) rfl (Nat.le_refl _) (by rw [← hds]; exact heap_alloc_new _ _) (a.p k) (listD N.roads k).pts.length (a.pc k) _ rfl (Arr.keep (Keep.alloc _ _) HPd.out) (by intro i j; unfold ptCells; split <;> rfl) (by unfold maxLen; omega) (by omega) ?_
                             intro A2 c2 w2 ha2 hb2
                             have BD2 := Lib.hid (BD.out.below (B := wr.heap.size + 1) (((Below.refl _ _).alloc (by omega) _).trans hb2) (by omega))
                             clear d0 d1 d2 d3 d4 f4
                             obtain ⟨d0, d1, d2, d3, d4⟩ := BD2.out.box
                             have f4 := BD2.out.f4)
      have HB4 := Lib.hid (((Below.refl (wr.heap.size + 1) wd).alloc (by omega) _).trans hb2)
      have hc1 := (own_arrN ha2).1
      have hc2 := (own_arrN ha2).2.1
      have ha3 := ownsRow_setCell_below ha2 (a := ⟨wr.heap.size, 4, none⟩) (Nat.lt_succ_self _) (.slice A2 (listD N.roads k).pts.length c2)
      have NP := Lib.hid (Off.of (g := w1.heap.size) (x := vr.ownBlock) (own_arrN ha3) (own_above ha3) (by omega) (fun x hx => by have := (hvb.out x hx).2; omega))
      have BD3 := Lib.hid (BD2.out.set A2 c2)
      have OA4 := Lib.hid (((OA3.out.below HB4.out (by omega)).far (p := ⟨wr.heap.size, 4, none⟩) (by show wr.heap.size ≠ _; omega) (.slice A2 (listD N.roads k).pts.length c2)))
      have HG4 := Lib.hid ((HG3.out.trans (HB4.out.mono (by omega))).setCell (p := ⟨wr.heap.size, 4, none⟩) (by show w1.heap.size ≤ wr.heap.size; omega) (.slice A2 (listD N.roads k).pts.length c2))
      have OW4 := Lib.hid (ownsRow_setCell_other (below_of_own OW3.out (by rw [hds]; exact HB4.out)) (a := ⟨wr.heap.size, 4, none⟩) (fun e => absurd (hvb.out wr.heap.size e).2 (Nat.lt_irrefl _)) (.slice A2 (listD N.roads k).pts.length c2))
      have OP4 := Lib.hid fun i hi => (OP2.out i hi).newer (w := w2) (by decide) (KD.out.trans (Keep.below (by rw [hds]; exact HB4.out))) (p := ⟨wr.heap.size, 4, none⟩) (Nat.le_refl _) (.slice A2 (listD N.roads k).pts.length c2)
      clear ha2 hb2 ha3 d0 d1 d2 d3 d4 f4 BD BD2 OA3 OW3 OP3 HB4 HPd
      generalize w2.setCell _ _ = w3 at *
      obtain ⟨d0, d1, d2, d3, d4⟩ := BD3.out.box
      obtain ⟨o0, o1, of1⟩ := OA4.out
      have h3s := HG4.out.size
      have HN := Lib.hid (show ∀ x, vr.ownBlock = some x → w1.heap.size ≠ x from fun x hx => by have := (hvb.out x hx).1; omega)
      have HOW := Lib.hid (OW4.out.alloc (.cells #[.string (listD N.roads k).name, .int .i64 (listD N.roads k).src, .int .i64 (listD N.roads k).dst, .int .i64 (listD N.roads k).metres, .slice A2 (listD N.roads k).pts.length c2] 58))
      have HNW := Lib.hid (news5 w3 (listD N.roads k) A2 c2 58)
      have HBS := Lib.hid (show w1.heap.size + 1 ≤ (w3.alloc (.cells #[.string (listD N.roads k).name, .int .i64 (listD N.roads k).src, .int .i64 (listD N.roads k).dst, .int .i64 (listD N.roads k).metres, .slice A2 (listD N.roads k).pts.length c2] 58)).heap.size by have := OA4.out.lt; simp; omega)
      have hk63 : k + 1 ≤ maxLen := by unfold maxLen; omega
      have hk64 : (k + 1) * 64 ≤ 140737488355328 := by omega
      go_wp2_with (at_builtin
                   refine wpList_append_own_at _ rfl (.tmp 28) (.tmp 30) 23 rfl (w1.heap.size + 1) 58 j0 _ 5 64 Try.underlying23 hj jz0 jz1 jz2 rfl (by decide) vr k (rowVals N.roads ar k) rfl HOW.out ⟨w3.heap.size, 0, none⟩ 1 1 (roadVals (listD N.roads k) A2 c2) rfl rfl HNW.out (oneRoad _ _ _) hk63 hk64 HBS.out ?_)
      intro v5 w5 hown hg5 hnil hblk
      rw [← rowVals_put N.roads ar k A2 c2] at hown
      obtain ⟨A5, c5, rfl, -⟩ := own_row hown
      have hblk' : (Value.slice A5 (k + 1) c5).ownBlock = vr.ownBlock ∨ (Value.slice A5 (k + 1) c5).ownBlock = some (w3.alloc (.cells #[.string (listD N.roads k).name, .int .i64 (listD N.roads k).src, .int .i64 (listD N.roads k).dst, .int .i64 (listD N.roads k).metres, .slice A2 (listD N.roads k).pts.length c2] 58)).heap.size := by rw [World.size_alloc]; exact hblk
      have OA5 := Lib.hid ((OA4.out.below ((Below.refl w3.heap.size w3).alloc (Nat.le_refl _) _) OA4.out.lt).grown hg5 (fun e => HN.out _ e rfl))
      have HG5 := Lib.hid (((HG4.out.alloc HG4.out.size _).grown hg5 (by simp; omega) (fun x hx => by have := (hvb.out x hx).1; omega)).setCell (p := ⟨w1.heap.size, 1, none⟩) (Nat.le_refl _) (.slice A5 (k + 1) c5))
      have OA6 := Lib.hid (OA5.out.set (.slice A5 (k + 1) c5))
      have OW6 := Lib.hid (ownsRow_setCell_below (a := ⟨w1.heap.size, 1, none⟩) hown (Nat.lt_succ_self _) (.slice A5 (k + 1) c5))
      have OP6 : Hid (∀ i, i < k + 1 → OffP w1.heap.size (Value.slice A5 (k + 1) c5).ownBlock (w5.setCell ⟨w1.heap.size, 1, none⟩ (.slice A5 (k + 1) c5)) ((ar.put k A2 c2).p i) (listD N.roads i).pts ((ar.put k A2 c2).pc i)) := Lib.hid fun i hi => by
        by_cases e : i = k
        · subst e
          simp only [DA.put, if_pos]
          exact ((NP.out.keep (Keep.alloc _ _)).grown (by decide) hg5 hblk').far (p := ⟨w1.heap.size, 1, none⟩) (Nat.le_refl _) _
        · simp only [DA.put, if_neg e]
          exact (((OP4.out i (by omega)).keep (Keep.alloc _ _)).grown (by decide) hg5 hblk').far (p := ⟨w1.heap.size, 1, none⟩) (Nat.le_refl _) _
      clear d0 d1 d2 d3 d4 o0 o1 of1 hown hg5 hnil hblk hblk'
      obtain ⟨o0, o1, of1⟩ := OA5.out
      go_wp2_with fail
      go_roundw
      case rel => exact ⟨k + 1, (.slice A5 (k + 1) c5), ar.put k A2 c2, by omega, by go_num, HG5, OA6, OW6, OP6⟩
      case measure => simp [intOf]; omega
    · obtain rfl : k = N.roads.length := by omega
      have OWN := OW2.out
      unfold rowVals at OWN
      obtain ⟨AR, cR, hv, harr⟩ := own_row OWN
      subst hv
      have HAR := Lib.hid harr
      have HAA := Lib.hid (own_above OWN)
      clear harr OWN
      have r0 := ((HB2.out.cell (p := ⟨w.heap.size + 1, 0, none⟩) (by show w.heap.size + 1 < _; omega)).trans (RV.out 0 (.inl rfl)).1)
      have r1 := ((HB2.out.cell (p := ⟨w.heap.size + 1, 1, none⟩) (by show w.heap.size + 1 < _; omega)).trans (RV.out 1 (.inr rfl)).1)
      have rf0 := ((HB2.out.frozen (p := ⟨w.heap.size + 1, 0, none⟩) (by show w.heap.size + 1 < _; omega)).trans (RV.out 0 (.inl rfl)).2)
      have rf1 := ((HB2.out.frozen (p := ⟨w.heap.size + 1, 1, none⟩) (by show w.heap.size + 1 < _; omega)).trans (RV.out 1 (.inr rfl)).2)
      have HFIN : Hid (NetM ((wr.setCell ⟨w.heap.size + 1, 0, none⟩ (.slice A1 N.places.length c1)).setCell ⟨w.heap.size + 1, 1, none⟩ (.slice AR N.roads.length cR)) N A1 AR c1 cR ar) := Lib.hid ⟨
        ((HA1.out.keep (Keep.below HG2.out)).far HAB.out (p := ⟨w.heap.size + 1, 0, none⟩) (by show w.heap.size + 1 < _; omega) _).far HAB.out (p := ⟨w.heap.size + 1, 1, none⟩) (by show w.heap.size + 1 < _; omega) _,
        ⟨(HAR.out.far HAA.out (p := ⟨w.heap.size + 1, 0, none⟩) (by show w.heap.size + 1 < _; omega) _).far HAA.out (p := ⟨w.heap.size + 1, 1, none⟩) (by show w.heap.size + 1 < _; omega) _, fun i hi =>
          (((OP2.out i hi).far (p := ⟨w.heap.size + 1, 0, none⟩) (by show w.heap.size + 1 ≤ _; omega) _).far (p := ⟨w.heap.size + 1, 1, none⟩) (by show w.heap.size + 1 ≤ _; omega) _).arr⟩⟩
      go_wp2_with fail
      refine bodyPost_ret (v := netV N A1 AR c1 cR) (by simp [results, Try.results10, go_sem, r0, r1]) rfl ⟨_, rfl, ⟨_, _, _, _, _, rfl, HFIN.out⟩, ?_⟩
      exact (HX2.out.setCell (p := ⟨w.heap.size + 1, 0, none⟩) (by simp) _).setCell (p := ⟨w.heap.size + 1, 1, none⟩) (by simp) _
end Go.Proofs.Ytjmaankkbdpikaa

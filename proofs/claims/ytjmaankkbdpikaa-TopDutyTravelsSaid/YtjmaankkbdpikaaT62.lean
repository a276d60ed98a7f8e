/- Whether labels prove that nobody arrives earlier, as the reference tells it. Conditions: the net is right; there is a label for each place. -/
import Derived.Test.YtjmaankkbdpikaaT43
import Derived.Test.YtjmaankkbdpikaaT50
import Derived.Test.YtjmaankkbdpikaaT2
import Derived.Test.YtjmaankkbdpikaaT52
import Derived.Test.YtjmaankkbdpikaaT17
import Derived.Test.YtjmaankkbdpikaaX9
import Derived.Test.YtjmaankkbdpikaaN2
import Derived.Test.YtjmaankkbdpikaaT54
namespace Go.Proofs.Ytjmaankkbdpikaa
open Go.RowKit Fs

def Fs.provesP (N : Net) (nx : Nat → Int → Int) (l : List Int) (X : Nat) (a : Int) : Bool := decide (within (listI l X) 0 a = true ∧ Proof N nx l N.roads.length)
theorem Fs.proves_no {N : Net} {nx : Nat → Int → Int} {l : List Int} {X : Nat} {a : Int} (h : within (listI l X) 0 a = false) : provesP N nx l X a = false := decide_eq_false (fun h' => by rw [h] at h'; cases h'.1)
theorem Fs.proves_yes {N : Net} {nx : Nat → Int → Int} {l : List Int} {X : Nat} {a : Int} (h : within (listI l X) 0 a = true) (h2 : Proof N nx l N.roads.length) : provesP N nx l X a = true := decide_eq_true ⟨h, h2⟩
theorem Fs.proves_bad {N : Net} {nx : Nat → Int → Int} {l : List Int} {X : Nat} {a : Int} (h2 : ¬ Proof N nx l N.roads.length) : provesP N nx l X a = false := decide_eq_false (fun h => h2 h.2)

end Go.Proofs.Ytjmaankkbdpikaa
/- The example net, and that the examples of the chapter are right. No condition. -/
namespace Go.Proofs.Ytjmaankkbdpikaa
open Go.RowKit Fs

/-- Objects laid one behind the other. -/
theorem laid (os : List Obj) : ∀ (w : World), (os.foldl World.alloc w).heap.size = w.heap.size + os.length ∧ (∀ k, k < os.length → (os.foldl World.alloc w).heap[w.heap.size + k]? = os[k]?) ∧ Below w.heap.size w (os.foldl World.alloc w) := by
  induction os with
  | nil => intro w; exact ⟨rfl, fun k hk => absurd hk (Nat.not_lt_zero _), Below.refl _ _⟩
  | cons o os ih =>
    intro w
    obtain ⟨h1, h2, h3⟩ := ih (w.alloc o)
    rw [World.size_alloc] at h1 h2 h3
    refine ⟨by rw [List.foldl_cons, h1, List.length_cons]; omega, fun k hk => ?_, ((Below.refl _ _).alloc (Nat.le_refl _) o).trans (h3.mono (by omega))⟩
    cases k with
    | zero =>
      rw [List.foldl_cons, h3.block _ (by omega), Nat.add_zero]
      exact heap_alloc_new w o
    | succ k =>
      have := h2 k (by simpa using hk)
      rw [show w.heap.size + (k + 1) = w.heap.size + 1 + k by omega]
      exact this
theorem arrLit {w : World} {b n size : Nat} {cs : Array Value} {t : TypeId} {C : Nat → Nat → Value} (h : w.heap[b]? = some (.cells cs t (0, 0))) (hl : cs.toList = flat n size C) (hn : n ≤ 1000000) : Arr w (some ⟨b, 0, none⟩) n n size C :=
  ⟨Nat.le_refl _, by omega, fun _ => ⟨b, 0, rfl, fun i j hi hj => by
    obtain ⟨p1, p2, p3⟩ := place hi hj
    rw [Nat.zero_add, cell_of_row _ _ _ cs t (0, 0) h, ← Array.getElem?_toList, hl, flat_get _ p1, p2, p3]⟩⟩

def Fs.exNet : Net := ⟨[⟨#[97]⟩, ⟨#[98]⟩, ⟨#[99]⟩], [⟨⟨#[120]⟩, 0, 1, 1000, [⟨0, 100, 200⟩, ⟨3600, 700, 800⟩]⟩, ⟨⟨#[121]⟩, 1, 2, 500, [⟨0, 60, 90⟩]⟩, ⟨⟨#[122]⟩, 0, 2, 2000, [⟨0, 900, 900⟩]⟩]⟩
def netA (s : Nat) : DA := ⟨fun i => if i = 0 then some ⟨s + 2, 0, none⟩ else if i = 1 then some ⟨s + 3, 0, none⟩ else some ⟨s + 4, 0, none⟩, fun i => if i = 0 then 2 else 1⟩
def netO (s : Nat) : List Obj :=
  [.cells #[.slice (some ⟨s + 1, 0, none⟩) 3 3, .slice (some ⟨s + 5, 0, none⟩) 3 3] 25,
   .cells #[.string ⟨#[97]⟩, .string ⟨#[98]⟩, .string ⟨#[99]⟩] 9,
   .cells #[.int .i64 0, .int .i64 100, .int .i64 200, .int .i64 3600, .int .i64 700, .int .i64 800] 116,
   .cells #[.int .i64 0, .int .i64 60, .int .i64 90] 116,
   .cells #[.int .i64 0, .int .i64 900, .int .i64 900] 116,
   .cells #[.string ⟨#[120]⟩, .int .i64 0, .int .i64 1, .int .i64 1000, .slice (some ⟨s + 2, 0, none⟩) 2 2,
     .string ⟨#[121]⟩, .int .i64 1, .int .i64 2, .int .i64 500, .slice (some ⟨s + 3, 0, none⟩) 1 1,
     .string ⟨#[122]⟩, .int .i64 0, .int .i64 2, .int .i64 2000, .slice (some ⟨s + 4, 0, none⟩) 1 1] 58]
theorem net_reads (w : World) : RdNet ((netO w.heap.size).foldl World.alloc w) (netV exNet (some ⟨w.heap.size + 1, 0, none⟩) (some ⟨w.heap.size + 5, 0, none⟩) 3 3) exNet := by
  have hb : ∀ k, k < 6 → ((netO w.heap.size).foldl World.alloc w).heap[w.heap.size + k]? = (netO w.heap.size)[k]? := (laid (netO w.heap.size) w).2.1
  refine ⟨_, _, _, _, netA w.heap.size, rfl, ⟨?_, ⟨?_, fun i hi => ?_⟩⟩⟩
  · exact arrLit (hb 1 (by decide)) rfl (by decide)
  · exact arrLit (hb 5 (by decide)) rfl (by decide)
  · have hi : i < 3 := hi
    match i, hi with
    | 0, _ => exact arrLit (hb 2 (by decide)) rfl (by decide)
    | 1, _ => exact arrLit (hb 3 (by decide)) rfl (by decide)
    | 2, _ => exact arrLit (hb 4 (by decide)) rfl (by decide)

theorem estimate_example : estimate exNet 0 2 0 = ((160, 290), 0) := by kernel_rfl
theorem shortest_example : shortest exNet 0 2 = (1500, 0) := by kernel_rfl

end Go.Proofs.Ytjmaankkbdpikaa
/- LatestFor: the last second from which one surely arrives in time. Condition: the net can be read. -/
namespace Go.Proofs.Ytjmaankkbdpikaa
open Go.RowKit Fs

/-- Who sets out at a second arrives too late, or nowhere. -/
def Fs.tooLate (N : Net) (f t : Nat) (a : Int) (i : Nat) : Bool := decide (listI (search N f i (latest N)).labels t = -1) || decide (a < listI (search N f i (latest N)).labels t)
theorem Fs.tooLate_later {N : Net} (hE : netErr N = 0) {f t : Nat} (hf : f < N.places.length) (ht : t < N.places.length) {a : Int} {i j : Nat} (hij : i ≤ j) (h : tooLate N f t a i = true) : tooLate N f t a j = true := by
  cases hj : tooLate N f t a j with
  | true => rfl
  | false =>
    unfold tooLate at h hj
    simp only [Bool.or_eq_false_iff, decide_eq_false_iff_not] at hj
    obtain ⟨k1, k2⟩ := search_later (net_joined hE) (latest_good hE) hf (show (0 : Int) ≤ i by omega) (show (i : Int) ≤ j by omega) t ht hj.1
    simp only [Bool.or_eq_true, decide_eq_true_eq] at h
    rcases h with h | h
    · exact absurd h k1
    · omega

end Go.Proofs.Ytjmaankkbdpikaa
/- LatestFor, and what it answers. Condition: the net can be read. -/
namespace Go.Proofs.Ytjmaankkbdpikaa
open Go.RowKit Fs

/-- What LatestFor answers: the last second from which one is not too late. -/
def Fs.LatestIs (N : Net) (f t a : Int) (x y : Int) : Prop :=
  (estErr N f t a ≠ 0 ∧ x = 0 ∧ y = estErr N f t a) ∨
  (estErr N f t a = 0 ∧ ∃ k : Nat, k ≤ a.toNat + 1 ∧ (∀ i, i < k → tooLate N f.toNat t.toNat a i = false) ∧ (∀ i, k ≤ i → i < a.toNat + 1 → tooLate N f.toNat t.toNat a i = true) ∧ ((k = 0 ∧ x = 0 ∧ y = 12) ∨ (k ≠ 0 ∧ x = ((k - 1 : Nat) : Int) ∧ y = 0)))

end Go.Proofs.Ytjmaankkbdpikaa
/- Four examples of the chapter are right. No condition. -/
namespace Go.Proofs.Ytjmaankkbdpikaa
open Go.RowKit Fs

theorem takes_example : takes exNet 0 1800 = ((400, 500), 0) := by kernel_rfl
theorem late_example : tooLate exNet 0 2 290 0 = false ∧ tooLate exNet 0 2 290 1 = true ∧ estErr exNet 0 2 290 = 0 := ⟨by kernel_rfl, by kernel_rfl, by kernel_rfl⟩
theorem latest_example {x y : Int} (h : LatestIs exNet 0 2 290 x y) : x = 0 ∧ y = 0 := by
  obtain ⟨e1, e2, e3⟩ := late_example
  rcases h with ⟨h, -⟩ | ⟨-, k, h1, h2, h3, h4⟩
  · exact absurd e3 h
  · have k1 : k ≠ 0 := fun hk => by
      subst hk
      have := h3 0 (Nat.le_refl _) (by decide)
      rw [show tooLate exNet (0 : Int).toNat (2 : Int).toNat 290 0 = false from e1] at this
      cases this
    have k2 : k ≤ 1 := by
      rcases Nat.lt_or_ge 1 k with h | h
      · have := h2 1 h
        rw [show tooLate exNet (0 : Int).toNat (2 : Int).toNat 290 1 = true from e2] at this
        cases this
      · exact h
    rcases h4 with ⟨h, -⟩ | ⟨-, h5, h6⟩
    · exact absurd h k1
    · exact ⟨by omega, h6⟩

end Go.Proofs.Ytjmaankkbdpikaa

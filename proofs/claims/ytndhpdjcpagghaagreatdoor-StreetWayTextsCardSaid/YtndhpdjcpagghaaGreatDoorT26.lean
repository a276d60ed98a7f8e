/- The example net, and that the examples of the chapter are right. No condition. -/
import Derived.Test.YtndhpdjcpagghaaGreatDoorT25
namespace Go.Proofs.YtndhpdjcpagghaaGreatDoor
open Go.RowKit Fs

/-- Objects laid one behind the other. -/
theorem laid (os : List Obj) : ∀ (w : World), (os.foldl World.alloc w).heap.size = w.heap.size + os.length ∧ (∀ k, k < os.length → (os.foldl World.alloc w).heap[w.heap.size + k]? = os[k]?) ∧ Below w.heap.size w (os.foldl World.alloc w) := by
  induction os with
  | nil => intro w; exact ⟨rfl, fun k hk => absurd hk (Nat.not_lt_zero _), Below.refl _ _⟩
  | cons o os ih =>
    intro w
    obtain ⟨h1, h2, h3⟩ := ih (w.alloc o)
    rw [World.size_alloc] at h1 h2 h3
    refine ⟨by rw [List.foldl_cons, h1, List.length_cons]; omega, fun k hk => ?_, ((Below.refl _ _).alloc (Nat.le_refl _) o).trans (h3.mono (by omega))⟩
    cases k with
    | zero =>
      rw [List.foldl_cons, h3.block _ (by omega), Nat.add_zero]
      exact heap_alloc_new w o
    | succ k =>
      have := h2 k (by simpa using hk)
      rw [show w.heap.size + (k + 1) = w.heap.size + 1 + k by omega]
      exact this
theorem arrLit {w : World} {b n size : Nat} {cs : Array Value} {t : TypeId} {C : Nat → Nat → Value} (h : w.heap[b]? = some (.cells cs t (0, 0))) (hl : cs.toList = flat n size C) (hn : n ≤ 1000000) : Arr w (some ⟨b, 0, none⟩) n n size C :=
  ⟨Nat.le_refl _, by omega, fun _ => ⟨b, 0, rfl, fun i j hi hj => by
    obtain ⟨p1, p2, p3⟩ := place hi hj
    rw [Nat.zero_add, cell_of_row _ _ _ cs t (0, 0) h, ← Array.getElem?_toList, hl, flat_get _ p1, p2, p3]⟩⟩

def Fs.exNet : Net := ⟨[⟨#[97]⟩, ⟨#[98]⟩, ⟨#[99]⟩], [⟨⟨#[120]⟩, 0, 1, 1000, [⟨0, 100, 200⟩, ⟨3600, 700, 800⟩]⟩, ⟨⟨#[121]⟩, 1, 2, 500, [⟨0, 60, 90⟩]⟩, ⟨⟨#[122]⟩, 0, 2, 2000, [⟨0, 900, 900⟩]⟩]⟩
def netA (s : Nat) : DA := ⟨fun i => if i = 0 then some ⟨s + 2, 0, none⟩ else if i = 1 then some ⟨s + 3, 0, none⟩ else some ⟨s + 4, 0, none⟩, fun i => if i = 0 then 2 else 1⟩
def netO (s : Nat) : List Obj :=
  [.cells #[.slice (some ⟨s + 1, 0, none⟩) 3 3, .slice (some ⟨s + 5, 0, none⟩) 3 3] 25,
   .cells #[.string ⟨#[97]⟩, .string ⟨#[98]⟩, .string ⟨#[99]⟩] 9,
   .cells #[.int .i64 0, .int .i64 100, .int .i64 200, .int .i64 3600, .int .i64 700, .int .i64 800] 94,
   .cells #[.int .i64 0, .int .i64 60, .int .i64 90] 94,
   .cells #[.int .i64 0, .int .i64 900, .int .i64 900] 94,
   .cells #[.string ⟨#[120]⟩, .int .i64 0, .int .i64 1, .int .i64 1000, .slice (some ⟨s + 2, 0, none⟩) 2 2,
     .string ⟨#[121]⟩, .int .i64 1, .int .i64 2, .int .i64 500, .slice (some ⟨s + 3, 0, none⟩) 1 1,
     .string ⟨#[122]⟩, .int .i64 0, .int .i64 2, .int .i64 2000, .slice (some ⟨s + 4, 0, none⟩) 1 1] 67]
theorem net_reads (w : World) : RdNet ((netO w.heap.size).foldl World.alloc w) (netV exNet (some ⟨w.heap.size + 1, 0, none⟩) (some ⟨w.heap.size + 5, 0, none⟩) 3 3) exNet := by
  have hb : ∀ k, k < 6 → ((netO w.heap.size).foldl World.alloc w).heap[w.heap.size + k]? = (netO w.heap.size)[k]? := (laid (netO w.heap.size) w).2.1
  refine ⟨_, _, _, _, netA w.heap.size, rfl, ⟨?_, ⟨?_, fun i hi => ?_⟩⟩⟩
  · exact arrLit (hb 1 (by decide)) rfl (by decide)
  · exact arrLit (hb 5 (by decide)) rfl (by decide)
  · have hi : i < 3 := hi
    match i, hi with
    | 0, _ => exact arrLit (hb 2 (by decide)) rfl (by decide)
    | 1, _ => exact arrLit (hb 3 (by decide)) rfl (by decide)
    | 2, _ => exact arrLit (hb 4 (by decide)) rfl (by decide)

set_option maxHeartbeats 1600000 in
set_option maxRecDepth 100000 in
theorem net_any (w : World) :
    Calls Tryz.prog 23 #[] w fun e w' => ∃ v', e = .returned v' ∧ RdNet w' v' exNet ∧ Below w.heap.size w w' := by
  have HR := Lib.hid (net_reads w)
  have HB := Lib.hid (laid (netO w.heap.size) w).2.2
  have HC : Hid (∀ k, k < 1 → ((netO w.heap.size).foldl World.alloc w).heap[w.heap.size + k]? = (netO w.heap.size)[k]?) := Lib.hid fun k hk => (laid (netO w.heap.size) w).2.1 k (by show k < 6; omega)
  go_enter Tryz.func23, Tryz.ntmps23
  go_wp2_with fail
  generalize hwf : ((((((w.alloc _).alloc _).alloc _).alloc _).alloc _).alloc _) = wf at *
  have e : (netO w.heap.size).foldl World.alloc w = wf := hwf
  rw [e] at HR HB HC
  clear hwf e
  have hc := HC.out 0 (by decide)
  have m : ∀ i, wf.cell? ⟨w.heap.size, i, none⟩ = _ := fun i => cell_of_row _ _ i _ _ (0, 0) hc
  have m0 := m 0
  have m1 := m 1
  clear m
  exact bodyPost_ret (v := netV exNet (some ⟨w.heap.size + 1, 0, none⟩) (some ⟨w.heap.size + 5, 0, none⟩) 3 3) (by simp [results, Tryz.results23, go_sem, m0, m1, exNet]) rfl ⟨_, rfl, HR.out, HB.out⟩
theorem estimate_example : estimate exNet 0 2 0 = ((160, 290), 0) := by kernel_rfl
theorem shortest_example : shortest exNet 0 2 = (1500, 0) := by kernel_rfl

end Go.Proofs.YtndhpdjcpagghaaGreatDoor

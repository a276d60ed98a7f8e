/- The example tariff and the example trip, and that the fare of the example is right. No condition. -/
import Derived.Test.YtbehabaoeicgeaaW10d
import Derived.Test.YtbehabaoeicgeaaW9d
namespace Go.Proofs.Ytbehabaoeicgeaa
open Go.RowKit Fs

/-- Objects laid one behind the other. -/
theorem laid (os : List Obj) : ∀ (w : World), (os.foldl World.alloc w).heap.size = w.heap.size + os.length ∧ (∀ k, k < os.length → (os.foldl World.alloc w).heap[w.heap.size + k]? = os[k]?) ∧ Below w.heap.size w (os.foldl World.alloc w) := by
  induction os with
  | nil => intro w; exact ⟨rfl, fun k hk => absurd hk (Nat.not_lt_zero _), Below.refl _ _⟩
  | cons o os ih =>
    intro w
    obtain ⟨h1, h2, h3⟩ := ih (w.alloc o)
    rw [World.size_alloc] at h1 h2 h3
    refine ⟨by rw [List.foldl_cons, h1, List.length_cons]; omega, fun k hk => ?_, ((Below.refl _ _).alloc (Nat.le_refl _) o).trans (h3.mono (by omega))⟩
    cases k with
    | zero =>
      rw [List.foldl_cons, h3.block _ (by omega), Nat.add_zero]
      exact heap_alloc_new w o
    | succ k =>
      have := h2 k (by simpa using hk)
      rw [show w.heap.size + (k + 1) = w.heap.size + 1 + k by omega]
      exact this
theorem arrLit {w : World} {b n size : Nat} {cs : Array Value} {t : TypeId} {C : Nat → Nat → Value} (h : w.heap[b]? = some (.cells cs t (0, 0))) (hl : cs.toList = flat n size C) (hn : n ≤ 1000000) : Arr w (some ⟨b, 0, none⟩) n n size C :=
  ⟨Nat.le_refl _, by omega, fun _ => ⟨b, 0, rfl, fun i j hi hj => by
    obtain ⟨p1, p2, p3⟩ := place hi hj
    rw [Nat.zero_add, cell_of_row _ _ _ cs t (0, 0) h, ← Array.getElem?_toList, hl, flat_get _ p1, p2, p3]⟩⟩

def Fs.dayR : Rule := ⟨⟨#[100, 97, 121]⟩, 0, 100000, [0, 1], [0, 1, 2, 3, 4, 5, 6, 7], 21600, 79200, 350, 5, 8⟩
def Fs.nightR : Rule := ⟨⟨#[110, 105, 103, 104, 116]⟩, 0, 100000, [0, 1], [0, 1, 2, 3, 4, 5, 6, 7], 79200, 21600, 450, 6, 8⟩
def Fs.cityT : Tar := ⟨⟨#[99, 105, 116, 121]⟩, 1000, 10, [⟨#[116, 111, 119, 110]⟩, ⟨#[112, 111, 114, 116]⟩], [7], [dayR, nightR], [⟨⟨#[98, 97, 103]⟩, 100⟩], [⟨0, 1, 4000⟩]⟩
def Fs.rideX : Trip := ⟨0, 36000, false, [0], [⟨0, 1000, 100⟩]⟩
def cityA (s : Nat) : RA := ⟨fun i => if i = 0 then some ⟨s + 4, 0, none⟩ else some ⟨s + 5, 0, none⟩, fun _ => some ⟨s + 1, 0, none⟩, fun _ => 2, fun _ => 8⟩
def cityO (s : Nat) : List Obj :=
  [.cells #[.string ⟨#[99, 105, 116, 121]⟩, .int .i64 1000, .int .i64 10, .slice (some ⟨s + 2, 0, none⟩) 2 2, .slice (some ⟨s + 3, 0, none⟩) 1 1, .slice (some ⟨s + 6, 0, none⟩) 2 2, .slice (some ⟨s + 7, 0, none⟩) 1 1, .slice (some ⟨s + 8, 0, none⟩) 1 1] 28,
   .cells #[.int .i64 0, .int .i64 1, .int .i64 2, .int .i64 3, .int .i64 4, .int .i64 5, .int .i64 6, .int .i64 7] 3,
   .cells #[.string ⟨#[116, 111, 119, 110]⟩, .string ⟨#[112, 111, 114, 116]⟩] 9,
   .cells #[.int .i64 7] 3, .cells #[.int .i64 0, .int .i64 1] 3, .cells #[.int .i64 0, .int .i64 1] 3,
   .cells #[.string ⟨#[100, 97, 121]⟩, .int .i64 0, .int .i64 100000, .slice (some ⟨s + 4, 0, none⟩) 2 2, .slice (some ⟨s + 1, 0, none⟩) 8 8, .int .i64 21600, .int .i64 79200, .int .i64 350, .int .i64 5, .int .i64 8,
     .string ⟨#[110, 105, 103, 104, 116]⟩, .int .i64 0, .int .i64 100000, .slice (some ⟨s + 5, 0, none⟩) 2 2, .slice (some ⟨s + 1, 0, none⟩) 8 8, .int .i64 79200, .int .i64 21600, .int .i64 450, .int .i64 6, .int .i64 8] 63,
   .cells #[.string ⟨#[98, 97, 103]⟩, .int .i64 100] 65,
   .cells #[.int .i64 0, .int .i64 1, .int .i64 4000] 82]
theorem city_reads (w : World) : RdTar ((cityO w.heap.size).foldl World.alloc w) (tarV cityT (some ⟨w.heap.size + 2, 0, none⟩) (some ⟨w.heap.size + 3, 0, none⟩) (some ⟨w.heap.size + 6, 0, none⟩) (some ⟨w.heap.size + 7, 0, none⟩) (some ⟨w.heap.size + 8, 0, none⟩) 2 1 2 1 1) cityT := by
  have hb : ∀ k, k < 9 → ((cityO w.heap.size).foldl World.alloc w).heap[w.heap.size + k]? = (cityO w.heap.size)[k]? := (laid (cityO w.heap.size) w).2.1
  refine ⟨_, _, _, _, _, _, _, _, _, _, cityA w.heap.size, rfl, ⟨?_, ?_, ⟨?_, fun i hi => ?_⟩, ?_, ?_⟩⟩
  · exact arrLit (hb 2 (by decide)) rfl (by decide)
  · exact arrLit (hb 3 (by decide)) rfl (by decide)
  · exact arrLit (hb 6 (by decide)) rfl (by decide)
  · have hi : i < 2 := hi
    match i, hi with
    | 0, _ => exact ⟨arrLit (hb 4 (by decide)) rfl (by decide), arrLit (hb 1 (by decide)) rfl (by decide)⟩
    | 1, _ => exact ⟨arrLit (hb 5 (by decide)) rfl (by decide), arrLit (hb 1 (by decide)) rfl (by decide)⟩
  · exact arrLit (hb 7 (by decide)) rfl (by decide)
  · exact arrLit (hb 8 (by decide)) rfl (by decide)
def rideO (s : Nat) : List Obj :=
  [.cells #[.int .i64 0, .int .i64 36000, .bool false, .slice (some ⟨s + 1, 0, none⟩) 1 1, .slice (some ⟨s + 2, 0, none⟩) 1 1] 33, .cells #[.int .i64 0] 3, .cells #[.int .i64 0, .int .i64 1000, .int .i64 100] 40]
theorem ride_reads (w : World) : RdTrip ((rideO w.heap.size).foldl World.alloc w) (tripV rideX (some ⟨w.heap.size + 1, 0, none⟩) (some ⟨w.heap.size + 2, 0, none⟩) 1 1) rideX := by
  have hb : ∀ k, k < 3 → ((rideO w.heap.size).foldl World.alloc w).heap[w.heap.size + k]? = (rideO w.heap.size)[k]? := (laid (rideO w.heap.size) w).2.1
  exact ⟨_, _, _, _, rfl, arrLit (hb 1 (by decide)) rfl (by decide), arrLit (hb 2 (by decide)) rfl (by decide)⟩

set_option maxHeartbeats 1600000 in
set_option maxRecDepth 100000 in
theorem city_any (w : World) :
    Calls Try.prog 16 #[] w fun e w' => ∃ v', e = .returned v' ∧ RdTar w' v' cityT ∧ Below w.heap.size w w' := by
  have HR := Lib.hid (city_reads w)
  have HB := Lib.hid (laid (cityO w.heap.size) w).2.2
  have HC : Hid (∀ k, k < 1 → ((cityO w.heap.size).foldl World.alloc w).heap[w.heap.size + k]? = (cityO w.heap.size)[k]?) := Lib.hid fun k hk => (laid (cityO w.heap.size) w).2.1 k (by show k < 9; omega)
  go_enter Try.func16, Try.ntmps16
  go_wp2_with fail
  generalize hwf : (((((((((w.alloc _).alloc _).alloc _).alloc _).alloc _).alloc _).alloc _).alloc _).alloc _) = wf at *
  have e : (cityO w.heap.size).foldl World.alloc w = wf := hwf
  rw [e] at HR HB HC
  clear hwf e
  have hc := HC.out 0 (by decide)
  have m : ∀ i, wf.cell? ⟨w.heap.size, i, none⟩ = _ := fun i => cell_of_row _ _ i _ _ (0, 0) hc
  have m0 := m 0
  have m1 := m 1
  have m2 := m 2
  have m3 := m 3
  have m4 := m 4
  have m5 := m 5
  have m6 := m 6
  have m7 := m 7
  clear m
  exact bodyPost_ret (v := tarV cityT (some ⟨w.heap.size + 2, 0, none⟩) (some ⟨w.heap.size + 3, 0, none⟩) (some ⟨w.heap.size + 6, 0, none⟩) (some ⟨w.heap.size + 7, 0, none⟩) (some ⟨w.heap.size + 8, 0, none⟩) 2 1 2 1 1) (by simp [results, Try.results16, go_sem, m0, m1, m2, m3, m4, m5, m6, m7, cityT]) rfl ⟨_, rfl, HR.out, HB.out⟩
set_option maxHeartbeats 1600000 in
theorem ride_any (w : World) :
    Calls Try.prog 17 #[] w fun e w' => ∃ v', e = .returned v' ∧ RdTrip w' v' rideX ∧ Below w.heap.size w w' := by
  have HR := Lib.hid (ride_reads w)
  have HB := Lib.hid (laid (rideO w.heap.size) w).2.2
  have HC : Hid (∀ k, k < 1 → ((rideO w.heap.size).foldl World.alloc w).heap[w.heap.size + k]? = (rideO w.heap.size)[k]?) := Lib.hid fun k hk => (laid (rideO w.heap.size) w).2.1 k (by show k < 3; omega)
  go_enter Try.func17, Try.ntmps17
  go_wp2_with fail
  generalize hwf : (((w.alloc _).alloc _).alloc _) = wf at *
  have e : (rideO w.heap.size).foldl World.alloc w = wf := hwf
  rw [e] at HR HB HC
  clear hwf e
  have hc := HC.out 0 (by decide)
  have m : ∀ i, wf.cell? ⟨w.heap.size, i, none⟩ = _ := fun i => cell_of_row _ _ i _ _ (0, 0) hc
  have m0 := m 0
  have m1 := m 1
  have m2 := m 2
  have m3 := m 3
  have m4 := m 4
  clear m
  exact bodyPost_ret (v := tripV rideX (some ⟨w.heap.size + 1, 0, none⟩) (some ⟨w.heap.size + 2, 0, none⟩) 1 1) (by simp [results, Try.results17, go_sem, m0, m1, m2, m3, m4, rideX]) rfl ⟨_, rfl, HR.out, HB.out⟩
theorem fare_example : (fareOf cityT rideX).2 = 0 ∧ (fareOf cityT rideX).1 = ⟨350, 50, 0, 400⟩ := by
  constructor
  · kernel_rfl
  · kernel_rfl
end Go.Proofs.Ytbehabaoeicgeaa

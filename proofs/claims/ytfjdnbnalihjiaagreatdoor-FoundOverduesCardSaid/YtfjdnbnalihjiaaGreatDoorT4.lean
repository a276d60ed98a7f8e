/- The error of a road of a net, and the point that has it. No condition. -/
import Derived.Test.YtfjdnbnalihjiaaGreatDoorT2
namespace Go.Proofs.YtfjdnbnalihjiaaGreatDoor
open Go.RowKit Fs

/-- A road's cells in the block g. -/
structure BoxD (w : World) (g : Nat) (r : Rd) (p : Option Addr) (pc : Nat) : Prop where
  c0 : w.cell? ⟨g, 0, none⟩ = some (.string r.name)
  c1 : w.cell? ⟨g, 1, none⟩ = some (.int .i64 r.src)
  c2 : w.cell? ⟨g, 2, none⟩ = some (.int .i64 r.dst)
  c3 : w.cell? ⟨g, 3, none⟩ = some (.int .i64 r.metres)
  c4 : w.cell? ⟨g, 4, none⟩ = some (.slice p r.pts.length pc)
theorem BoxD.keep {w w' : World} (k : Keep w w') {g : Nat} {r : Rd} {p : Option Addr} {pc : Nat} (m : BoxD w g r p pc) : BoxD w' g r p pc := ⟨k _ _ m.c0, k _ _ m.c1, k _ _ m.c2, k _ _ m.c3, k _ _ m.c4⟩
theorem BoxD.new (w : World) (r : Rd) (p : Option Addr) (pc : Nat) (t : TypeId) : BoxD (w.alloc (.cells #[.string r.name, .int .i64 r.src, .int .i64 r.dst, .int .i64 r.metres, .slice p r.pts.length pc] t)) w.heap.size r p pc :=
  ⟨cellNew _ _ _ 0, cellNew _ _ _ 1, cellNew _ _ _ 2, cellNew _ _ _ 3, cellNew _ _ _ 4⟩
theorem BoxD.new1 (w : World) (A : Obj) (r : Rd) (p : Option Addr) (pc : Nat) (t : TypeId) : BoxD ((w.alloc A).alloc (.cells #[.string r.name, .int .i64 r.src, .int .i64 r.dst, .int .i64 r.metres, .slice p r.pts.length pc] t)) (w.heap.size + 1) r p pc :=
  ⟨cellNew1 _ _ _ _ 0, cellNew1 _ _ _ _ 1, cellNew1 _ _ _ _ 2, cellNew1 _ _ _ _ 3, cellNew1 _ _ _ _ 4⟩

end Go.Proofs.YtfjdnbnalihjiaaGreatDoor
/- The error of a net, and its mark. No condition. -/
namespace Go.Proofs.YtfjdnbnalihjiaaGreatDoor
open Go.RowKit Fs

theorem Fs.net_none {N : Net} (h : N.places.length = 0) : checkNet N = ((0, 0), 10) := by unfold checkNet; rw [if_pos h]
theorem Fs.net_many {N : Net} (h : 20 < N.places.length) : checkNet N = ((0, 0), 8) := by unfold checkNet; rw [if_neg (by omega), if_pos h]
theorem Fs.net_place {N : Net} {k : Nat} (h0 : N.places.length ≠ 0) (h1 : ¬ 20 < N.places.length) (hk : k < N.places.length) (h : ∀ j, j < k → errName (listS N.places) j = 0) (he : errName (listS N.places) k ≠ 0) :
    checkNet N = ((k, 0), errName (listS N.places) k) := by
  obtain ⟨a, b⟩ := fst_hit hk h he
  unfold checkNet
  rw [if_neg h0, if_neg h1, if_pos (by rw [a]; exact he), a, b]
theorem Fs.net_roads {N : Net} (h0 : N.places.length ≠ 0) (h1 : ¬ 20 < N.places.length) (h : ∀ j, j < N.places.length → errName (listS N.places) j = 0) (h2 : 60 < N.roads.length) : checkNet N = ((0, 0), 8) := by
  unfold checkNet
  rw [if_neg h0, if_neg h1, if_neg (fun hh => hh (fst_none h)), if_pos h2]
theorem Fs.net_road {N : Net} {k : Nat} (h0 : N.places.length ≠ 0) (h1 : ¬ 20 < N.places.length) (h : ∀ j, j < N.places.length → errName (listS N.places) j = 0) (h2 : ¬ 60 < N.roads.length) (hk : k < N.roads.length)
    (hr : ∀ j, j < k → (errRoad N j).2 = 0) (he : (errRoad N k).2 ≠ 0) : checkNet N = ((k, (errRoad N k).1), (errRoad N k).2) := by
  obtain ⟨a, b⟩ := fst_hit (f := fun i => (errRoad N i).2) hk hr he
  unfold checkNet
  rw [if_neg h0, if_neg h1, if_neg (fun hh => hh (fst_none h)), if_neg h2, if_pos (by rw [a]; exact he), a, b]
theorem Fs.net_ok {N : Net} (h0 : N.places.length ≠ 0) (h1 : ¬ 20 < N.places.length) (h : ∀ j, j < N.places.length → errName (listS N.places) j = 0) (h2 : ¬ 60 < N.roads.length) (hr : ∀ j, j < N.roads.length → (errRoad N j).2 = 0) : checkNet N = ((0, 0), 0) := by
  unfold checkNet
  rw [if_neg h0, if_neg h1, if_neg (fun hh => hh (fst_none h)), if_neg h2, if_neg (fun hh => hh (fst_none hr))]
abbrev netBack (x : (Nat × Nat) × Int) : Value := .tuple #[.agg #[.int .i64 x.1.1, .int .i64 x.1.2], .int .i64 x.2]

end Go.Proofs.YtfjdnbnalihjiaaGreatDoor

/- The error of a tariff and where it stands. No condition. -/
import Derived.Test.YtbehabaoeicgeaaW5x
import Derived.Test.YtbehabaoeicgeaaW5b
namespace Go.Proofs.Ytbehabaoeicgeaa
open Go.RowKit Fs

/-- The function that tells the error of an element of list k. -/
def listFn : Nat → Nat
  | 0 => 57
  | 1 => 58
  | 2 => 59
  | 3 => 60
  | _ => 61
theorem callList (k : Nat) (args : Array Value) (w : World) : (callFunc (listFn k) args).run Try.prog w = .ok (.enter (listFn k) args) w := by
  unfold listFn
  split
  · kernel_rfl
  · kernel_rfl
  · kernel_rfl
  · kernel_rfl
  · kernel_rfl
def listsArr (T : Tar) : Array Value :=
  #[.int .i64 1, .int .i64 T.zones.length, .int .i64 6, .func (.func 57) #[] #[], .int .i64 2, .int .i64 T.hols.length, .int .i64 20, .func (.func 58) #[] #[],
    .int .i64 3, .int .i64 T.rules.length, .int .i64 12, .func (.func 59) #[] #[], .int .i64 4, .int .i64 T.extras.length, .int .i64 6, .func (.func 60) #[] #[],
    .int .i64 5, .int .i64 T.fixed.length, .int .i64 16, .func (.func 61) #[] #[]]
structure ListAt (w : World) (g : Nat) (T : Tar) (k : Nat) : Prop where
  c0 : w.cell? ⟨g, k * 4, none⟩ = some (.int .i64 ((k : Int) + 1))
  c1 : w.cell? ⟨g, k * 4 + 1, none⟩ = some (.int .i64 (listLen T k))
  c2 : w.cell? ⟨g, k * 4 + 2, none⟩ = some (.int .i64 (listMost k))
  c3 : w.cell? ⟨g, k * 4 + 3, none⟩ = some (.func (.func (listFn k)) #[] #[])
theorem ListAt.new (w : World) (T : Tar) (t : TypeId) (k : Nat) (hk : k < 5) : ListAt (w.alloc (.cells (listsArr T) t)) w.heap.size T k := by
  match k, hk with
  | 0, _ => exact ⟨cellNew _ _ _ _, cellNew _ _ _ _, cellNew _ _ _ _, cellNew _ _ _ _⟩
  | 1, _ => exact ⟨cellNew _ _ _ _, cellNew _ _ _ _, cellNew _ _ _ _, cellNew _ _ _ _⟩
  | 2, _ => exact ⟨cellNew _ _ _ _, cellNew _ _ _ _, cellNew _ _ _ _, cellNew _ _ _ _⟩
  | 3, _ => exact ⟨cellNew _ _ _ _, cellNew _ _ _ _, cellNew _ _ _ _, cellNew _ _ _ _⟩
  | 4, _ => exact ⟨cellNew _ _ _ _, cellNew _ _ _ _, cellNew _ _ _ _, cellNew _ _ _ _⟩
theorem ListAt.keep {w w' : World} (h : Keep w w') {g : Nat} {T : Tar} {k : Nat} (m : ListAt w g T k) : ListAt w' g T k := ⟨h _ _ m.c0, h _ _ m.c1, h _ _ m.c2, h _ _ m.c3⟩
end Go.Proofs.Ytbehabaoeicgeaa

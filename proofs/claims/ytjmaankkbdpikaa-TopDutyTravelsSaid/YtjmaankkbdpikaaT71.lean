/- Detour: how much longer a way is than the earliest arrivals. Condition: the net can be read. -/
import Derived.Test.YtjmaankkbdpikaaT41
import Derived.Test.YtjmaankkbdpikaaT54
import Derived.Test.YtjmaankkbdpikaaT60
namespace Go.Proofs.Ytjmaankkbdpikaa
open Go.RowKit Fs

theorem RowV.new (w : World) (l : List Value) (t : TypeId) : RowV (w.alloc (.cells l.toArray t)) w.heap.size t l := heap_alloc_new w _
theorem RowV.ne {w : World} {g g' : Nat} {t t' : TypeId} {l l' : List Value} (h : RowV w g t l) (h' : RowV w g' t' l') (ht : t ≠ t') : g ≠ g' := by
  rintro rfl
  unfold RowV at h h'
  rw [h] at h'
  injection h' with h'
  injection h' with h1 h2
  exact ht h2
theorem TreeAt.far {w : World} {g : Nat} {u v : Value} (m : TreeAt w g u v) {p : Addr} (hp : p.block ≠ g) (x : Value) : TreeAt (w.setCell p x) g u v :=
  ⟨(World.cell?_setCell_other _ _ _ _ (fun e => hp (by rw [e]))).trans m.c0, (World.cell?_setCell_other _ _ _ _ (fun e => hp (by rw [e]))).trans m.c1, (World.frozen?_setCell _ _ _ _).trans m.f0, (World.frozen?_setCell _ _ _ _).trans m.f1⟩
def Fs.dtErr (N : Net) (f t a : Int) (l : List Int) : Int := fst (listI [netErr N, tripErr N f t a, cwErr N l]) 3
def Fs.over (x y : Int) : Int := max 0 (x - y)
def Fs.dtRes (N : Net) (X Y : Nat) (a : Int) (l : List Int) : (Int × Int) × Int :=
  if JoinsIs N l X Y then ((over (arrivals N l a).1 (listI (search N X a (latest N)).labels Y), over (arrivals N l a).2 (listI (search N X a (soonest N)).labels Y)), 0) else ((0, 0), 13)
def Fs.detour (N : Net) (f t a : Int) (l : List Int) : (Int × Int) × Int := if dtErr N f t a l = 0 then dtRes N f.toNat t.toNat a l else ((0, 0), dtErr N f t a l)
theorem Fs.dtErr_ok {N : Net} {f t a : Int} {l : List Int} (h : dtErr N f t a l = 0) : netErr N = 0 ∧ tripErr N f t a = 0 ∧ wayErr N l = 0 :=
  ⟨fst_zero h 0 (by decide), fst_zero h 1 (by decide), (cwErr_ok (fst_zero h 2 (by decide))).2⟩

end Go.Proofs.Ytjmaankkbdpikaa

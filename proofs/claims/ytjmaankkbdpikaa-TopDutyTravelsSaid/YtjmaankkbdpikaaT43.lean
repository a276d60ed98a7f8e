/- The reference's labels: going on along all roads as long as something becomes less. Conditions: the net is right; the time is small. -/
import Derived.Test.YtjmaankkbdpikaaN2
import Derived.Test.YtjmaankkbdpikaaT21
import Derived.Test.YtjmaankkbdpikaaT2
import Derived.Deep.LoopGhost
namespace Go.Proofs.Ytjmaankkbdpikaa
open Go.RowKit Fs

theorem intVals_get {l : List Int} {i : Nat} (h : i < l.length) (ys : List Value) : (intVals l ++ ys)[i]? = some (.int .i64 (listI l i)) := by
  unfold intVals
  rw [List.getElem?_append_left (by simpa using h), List.getElem?_map, List.getElem?_eq_getElem h, listI_get h]
  rfl
theorem RowV.at_ {w : World} {g : Nat} {t : TypeId} {l : List Int} {ys : List Value} (h : RowV w g t (intVals l ++ ys)) {i : Nat} (hi : i < l.length) : w.cell? ⟨g, i, none⟩ = some (.int .i64 (listI l i)) := (h.cell i).trans (intVals_get hi ys)
theorem RowV.put {w : World} {g : Nat} {t : TypeId} {l : List Int} {ys : List Value} (h : RowV w g t (intVals l ++ ys)) {i : Nat} (hi : i < l.length) (x : Int) : RowV (w.setCell ⟨g, i, none⟩ (.int .i64 x)) g t (intVals (l.set i x) ++ ys) := by
  have := h.set i (.int .i64 x)
  rwa [List.set_append_left _ _ (by simpa [intVals] using hi), show (intVals l).set i (.int .i64 x) = intVals (l.set i x) by simp [intVals, List.map_set]] at this
theorem RowV.arr {w : World} {g c : Nat} {t : TypeId} {l : List Int} {ys : List Value} (h : RowV w g t (intVals l ++ ys)) (h1 : l.length ≤ c) (h2 : c ≤ maxLen) : ArrI w (some ⟨g, 0, none⟩) l c := by
  refine ⟨h1, by unfold maxLen at h2; omega, fun _ => ⟨g, 0, rfl, fun i j hi hj => ?_⟩⟩
  have hj0 : j = 0 := by omega
  subst hj0
  rw [show 0 + i * 1 + 0 = i by omega]
  exact h.at_ hi
theorem ownRow {w : World} {base : Nat} {t : TypeId} {v : Value} {l : List Int} (h : w.ownsRow base t 1 v l.length (intVals l)) (hl : 0 < l.length) :
    ∃ g c ys, v = .slice (some ⟨g, 0, none⟩) l.length c ∧ base ≤ g ∧ l.length ≤ c ∧ c ≤ maxLen ∧ RowV w g t (intVals l ++ ys) := by
  rcases h.2 with ⟨hv, hn⟩ | ⟨g, cap, cur, hv, hb, hh, h1, h2, h3, h4⟩
  · omega
  · refine ⟨g, cap, cur.toList.drop l.length, hv, hb, h1, h2, ?_⟩
    unfold RowV
    rw [← h4, Nat.mul_one, List.take_append_drop]
    exact hh
theorem rep_snoc (k : Nat) (x : Int) : List.replicate (k + 1) x = List.replicate k x ++ [x] := List.replicate_succ'
theorem Fs.left2_le (M : Int) (l : List Int) : 0 ≤ left2 M l := Nat.zero_le _

end Go.Proofs.Ytjmaankkbdpikaa

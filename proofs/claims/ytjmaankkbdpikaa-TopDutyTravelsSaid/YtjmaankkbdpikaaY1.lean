/- The check of uses. No condition. -/
import Derived.Test.YtjmaankkbdpikaaX6
import Derived.Test.YtjmaankkbdpikaaD21
namespace Go.Proofs.Ytjmaankkbdpikaa
open Go.RowKit Fs

open Classical in
noncomputable def Fs.clashQ (l : List WRec) (i : Nat) (x : WRec) : Bool := decide (x.who = (listW l i).who ∧ overlapB x (listW l i) = true)
theorem clashQ_no {l : List WRec} {i : Nat} {x : WRec} (h : x.who ≠ (listW l i).who) : clashQ l i x = false := by unfold clashQ; simp [h]
theorem clashQ_is {l : List WRec} {i : Nat} {x : WRec} (h : x.who = (listW l i).who) : clashQ l i x = overlapB x (listW l i) := by
  unfold clashQ
  cases ho : overlapB x (listW l i) with
  | true => simp [h]
  | false => simp
theorem clashQ_at (l : List WRec) (k i : Nat) : clashQ l k (listW l i) = true ↔ clashAt l k i := by unfold clashQ clashAt; simp
def HasClash (l : List WRec) (k : Nat) (e : Ending) : Prop := ∃ r : Bool, e = .returned (.bool r) ∧ (r = true ↔ ∃ i, i < k ∧ clashAt l k i)
end Go.Proofs.Ytjmaankkbdpikaa

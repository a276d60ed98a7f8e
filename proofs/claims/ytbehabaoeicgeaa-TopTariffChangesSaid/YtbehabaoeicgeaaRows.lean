/-
  No cell of these rows narrows 'for every input' (looked for: loops, veiled, ifaces, maps, wideKeys, modest, calm, conditions, laid).
  DERIVED. THE GIVEN ROWS OF THIS SEAT. 2 by the template 'for every input the law returns true; each argument reads behind the call as it read before'; 0 by the template 'total and deterministic' (their statements: YtbehabaoeicgeaaTotals.lean).
  GIVEN WITH THE SEED: the statements are not yours to turn. If you find one false, say at which input.
  Laid BY PROGRAM, IN A SANDBOX (cutbox-rows.mjs): the forced cells as the released guide's own fill.sh prints them over the translation 495e27f5a18cb14d… (all of the seat's roots in one cut). By AI agents, Wed Nov 11 2026. No macro, syntax, notation, axiom, sorry.
-/
import Derived.Test.YtbehabaoeicgeaaChecked
import GoSem.Claim
import GoSem.ClaimJoined
import GoSem.ClaimMapViews
import Derived.JoinedTies
import Derived.KernelRfl
namespace Go.Proofs.Ytbehabaoeicgeaa
/- THE CELL 'sum', in the pinned program and in every row, IS THE sha256 OF THE DUMP (.gsa) THAT YtbehabaoeicgeaaProg.lean LOADS. Nothing in Lean hashes anything: it is a label: what it is worth is what the hold of that sum in a sandbox is worth. -/
noncomputable def Try.pinned : Pinned := { name := "ytbehabaoeicgeaa", sum := "495e27f5a18cb14de25ab338396f61f258c69eb45af20d38fe2682db4adfa2b3", checked := Try.checked }
namespace Rows
def none {H : Type} : Left H := { results := [], args := [] }

/-- 'fiacretop.TopTariffMonotone': WHATEVER THE INPUT: true; the input reads as it did. -/
def topTariffMonotoneSpec : ChangeSpec := { name := "topTariffMonotone", fn := fun _ => fun
  | [d1, d2, d3] => { results := [.lit (.bool true)], args := [d1, d2, d3] }
  | _ => none }
def topTariffMonotoneRow : OpenClaim := { program := "ytbehabaoeicgeaa", sum := "495e27f5a18cb14de25ab338396f61f258c69eb45af20d38fe2682db4adfa2b3", func := "fiacre/fiacretop.TopTariffMonotone", spec := "topTariffMonotone", unfollowed := true, recurses := true, apart := false }
def TopTariffMonotoneSaid : Prop := topTariffMonotoneRow.holds Try.pinned (OpenSpec.ofChange topTariffMonotoneSpec)

/-- ITS FALSE NEIGHBOUR: 'it returns false'. Refute it at one input. -/
def topTariffMonotoneWrong : ChangeSpec := { name := "topTariffMonotone", fn := fun _ => fun
  | [d1, d2, d3] => { results := [.lit (.bool false)], args := [d1, d2, d3] }
  | _ => none }
def TopTariffMonotoneWrongFalsely : Prop := topTariffMonotoneRow.holds Try.pinned (OpenSpec.ofChange topTariffMonotoneWrong)

/-- 'fiacretop.TopTariffChanges': WHATEVER THE INPUT: true; the input reads as it did. -/
def topTariffChangesSpec : ChangeSpec := { name := "topTariffChanges", fn := fun _ => fun
  | [d1, d2, d3] => { results := [.lit (.bool true)], args := [d1, d2, d3] }
  | _ => none }
def topTariffChangesRow : OpenClaim := { program := "ytbehabaoeicgeaa", sum := "495e27f5a18cb14de25ab338396f61f258c69eb45af20d38fe2682db4adfa2b3", func := "fiacre/fiacretop.TopTariffChanges", spec := "topTariffChanges", unfollowed := true, recurses := true, apart := false }
def TopTariffChangesSaid : Prop := topTariffChangesRow.holds Try.pinned (OpenSpec.ofChange topTariffChangesSpec)

/-- ITS FALSE NEIGHBOUR: 'it returns false'. Refute it at one input. -/
def topTariffChangesWrong : ChangeSpec := { name := "topTariffChanges", fn := fun _ => fun
  | [d1, d2, d3] => { results := [.lit (.bool false)], args := [d1, d2, d3] }
  | _ => none }
def TopTariffChangesWrongFalsely : Prop := topTariffChangesRow.holds Try.pinned (OpenSpec.ofChange topTariffChangesWrong)

/- THE SECOND FORM. 'bulk': how many values and letters a reading holds, each counted each time it is reached (what is shared counts as often as it is met; a slice's spare places count too). A statement '..UptoSaid' is the law's where the arguments, and the package variables that the reading takes, are together of bulk at most 1048576: NARROWER than '..Said'. Prove '..Said' where nothing that the law and all that it calls make is longer than what came in: it says more and counts as full. Else prove '..UptoSaid'. A law counts once. -/
mutual
def uptoBulk {H : Type} : DataW H → Nat
  | .lit (.string bytes) => bytes.length + 1
  | .lit _ => 1
  | .nil => 1
  | .ptr d => uptoBulk d + 1
  | .slice elems spare => uptoBulkAll elems + uptoBulkAll spare + 1
  | .agg parts => uptoBulkAll parts + 1
  | .iface _ d => uptoBulk d + 1
  | .map entries => uptoBulkEntries entries + 1
  | .held _ => 1
def uptoBulkAll {H : Type} : List (DataW H) → Nat
  | [] => 0
  | d :: r => uptoBulk d + uptoBulkAll r
def uptoBulkEntries {H : Type} : List (Lit × DataW H) → Nat
  | [] => 0
  | x :: r => uptoBulkEntry x + uptoBulkEntries r
def uptoBulkEntry {H : Type} : Lit × DataW H → Nat
  | (.string bytes, d) => bytes.length + uptoBulk d + 1
  | (_, d) => uptoBulk d + 1
 end
def uptoSmall : (H : Type) → List (DataW H) → Bool := fun _ ds => decide (uptoBulkAll ds ≤ 1048576)
def OpenSpec.upto (s : _root_.Go.ChangeSpec) : _root_.Go.OpenSpec := { _root_.Go.OpenSpec.ofChange s with cond := some uptoSmall }

/-- 'fiacretop.TopTariffMonotone', WHERE WHAT IT READS IS OF BULK AT MOST 1048576: true; the input reads as it did. -/
def topTariffMonotoneUptoRow : OpenClaim := { program := "ytbehabaoeicgeaa", sum := "495e27f5a18cb14de25ab338396f61f258c69eb45af20d38fe2682db4adfa2b3", func := "fiacre/fiacretop.TopTariffMonotone", spec := "topTariffMonotone", unfollowed := true, recurses := true, apart := false, narrowed := true }
def TopTariffMonotoneUptoSaid : Prop := topTariffMonotoneUptoRow.holds Try.pinned (OpenSpec.upto topTariffMonotoneSpec)

/-- 'fiacretop.TopTariffChanges', WHERE WHAT IT READS IS OF BULK AT MOST 1048576: true; the input reads as it did. -/
def topTariffChangesUptoRow : OpenClaim := { program := "ytbehabaoeicgeaa", sum := "495e27f5a18cb14de25ab338396f61f258c69eb45af20d38fe2682db4adfa2b3", func := "fiacre/fiacretop.TopTariffChanges", spec := "topTariffChanges", unfollowed := true, recurses := true, apart := false, narrowed := true }
def TopTariffChangesUptoSaid : Prop := topTariffChangesUptoRow.holds Try.pinned (OpenSpec.upto topTariffChangesSpec)

end Rows
end Go.Proofs.Ytbehabaoeicgeaa

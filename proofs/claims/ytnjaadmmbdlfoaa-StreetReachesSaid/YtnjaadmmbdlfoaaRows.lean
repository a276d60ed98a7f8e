/-
  No cell of these rows narrows 'for every input' (looked for: loops, veiled, ifaces, maps, wideKeys, modest, calm, conditions, laid).
  DERIVED. THE GIVEN ROWS OF THIS SEAT. 3 by the template 'for every input the law returns true; each argument reads behind the call as it read before'; 0 by the template 'total and deterministic' (their statements: YtnjaadmmbdlfoaaTotals.lean).
  GIVEN WITH THE SEED: the statements are not yours to turn. If you find one false, say at which input.
  Laid BY PROGRAM, IN A SANDBOX (cutbox-rows.mjs): the forced cells as the released guide's own fill.sh prints them over the translation de2d978562216b32… (all of the seat's roots in one cut). By AI agents, Wed Nov 11 2026. No macro, syntax, notation, axiom, sorry.
-/
import Derived.Test.YtnjaadmmbdlfoaaChecked
import GoSem.Claim
import GoSem.ClaimJoined
import GoSem.ClaimMapViews
import Derived.JoinedTies
import Derived.KernelRfl
namespace Go.Proofs.Ytnjaadmmbdlfoaa
/- THE CELL 'sum', in the pinned program and in every row, IS THE sha256 OF THE DUMP (.gsa) THAT YtnjaadmmbdlfoaaProg.lean LOADS. Nothing in Lean hashes anything: it is a label: what it is worth is what the hold of that sum in a sandbox is worth. -/
noncomputable def Try.pinned : Pinned := { name := "ytnjaadmmbdlfoaa", sum := "de2d978562216b32b150dda7a245e1fe668bec2b4697acc612921cb94722e4a4", checked := Try.checked }
namespace Rows
def none {H : Type} : Left H := { results := [], args := [] }

/-- 'fiacrelaw03.StreetReaches': WHATEVER THE INPUT: true; the input reads as it did. -/
def streetReachesSpec : ChangeSpec := { name := "streetReaches", fn := fun _ => fun
  | [d1, d2] => { results := [.lit (.bool true)], args := [d1, d2] }
  | _ => none }
def streetReachesRow : OpenClaim := { program := "ytnjaadmmbdlfoaa", sum := "de2d978562216b32b150dda7a245e1fe668bec2b4697acc612921cb94722e4a4", func := "fiacre/fiacrelaw03.StreetReaches", spec := "streetReaches", unfollowed := true, recurses := true, apart := false }
def StreetReachesSaid : Prop := streetReachesRow.holds Try.pinned (OpenSpec.ofChange streetReachesSpec)

/-- ITS FALSE NEIGHBOUR: 'it returns false'. Refute it at one input. -/
def streetReachesWrong : ChangeSpec := { name := "streetReaches", fn := fun _ => fun
  | [d1, d2] => { results := [.lit (.bool false)], args := [d1, d2] }
  | _ => none }
def StreetReachesWrongFalsely : Prop := streetReachesRow.holds Try.pinned (OpenSpec.ofChange streetReachesWrong)

/-- 'fiacrelaw03.StreetRoads': WHATEVER THE INPUT: true; the input reads as it did. -/
def streetRoadsSpec : ChangeSpec := { name := "streetRoads", fn := fun _ => fun
  | [d1, d2, d3] => { results := [.lit (.bool true)], args := [d1, d2, d3] }
  | _ => none }
def streetRoadsRow : OpenClaim := { program := "ytnjaadmmbdlfoaa", sum := "de2d978562216b32b150dda7a245e1fe668bec2b4697acc612921cb94722e4a4", func := "fiacre/fiacrelaw03.StreetRoads", spec := "streetRoads", unfollowed := true, recurses := true, apart := false }
def StreetRoadsSaid : Prop := streetRoadsRow.holds Try.pinned (OpenSpec.ofChange streetRoadsSpec)

/-- ITS FALSE NEIGHBOUR: 'it returns false'. Refute it at one input. -/
def streetRoadsWrong : ChangeSpec := { name := "streetRoads", fn := fun _ => fun
  | [d1, d2, d3] => { results := [.lit (.bool false)], args := [d1, d2, d3] }
  | _ => none }
def StreetRoadsWrongFalsely : Prop := streetRoadsRow.holds Try.pinned (OpenSpec.ofChange streetRoadsWrong)

/-- 'fiacretop.TopStreetClosed': WHATEVER THE INPUT: true; the input reads as it did. -/
def topStreetClosedSpec : ChangeSpec := { name := "topStreetClosed", fn := fun _ => fun
  | [d1, d2, d3] => { results := [.lit (.bool true)], args := [d1, d2, d3] }
  | _ => none }
def topStreetClosedRow : OpenClaim := { program := "ytnjaadmmbdlfoaa", sum := "de2d978562216b32b150dda7a245e1fe668bec2b4697acc612921cb94722e4a4", func := "fiacre/fiacretop.TopStreetClosed", spec := "topStreetClosed", unfollowed := true, recurses := true, apart := false }
def TopStreetClosedSaid : Prop := topStreetClosedRow.holds Try.pinned (OpenSpec.ofChange topStreetClosedSpec)

/-- ITS FALSE NEIGHBOUR: 'it returns false'. Refute it at one input. -/
def topStreetClosedWrong : ChangeSpec := { name := "topStreetClosed", fn := fun _ => fun
  | [d1, d2, d3] => { results := [.lit (.bool false)], args := [d1, d2, d3] }
  | _ => none }
def TopStreetClosedWrongFalsely : Prop := topStreetClosedRow.holds Try.pinned (OpenSpec.ofChange topStreetClosedWrong)

/- THE SECOND FORM. 'bulk': how many values and letters a reading holds, each counted each time it is reached (what is shared counts as often as it is met; a slice's spare places count too). A statement '..UptoSaid' is the law's where the arguments, and the package variables that the reading takes, are together of bulk at most 1048576: NARROWER than '..Said'. Prove '..Said' where nothing that the law and all that it calls make is longer than what came in: it says more and counts as full. Else prove '..UptoSaid'. A law counts once. -/
mutual
def uptoBulk {H : Type} : DataW H → Nat
  | .lit (.string bytes) => bytes.length + 1
  | .lit _ => 1
  | .nil => 1
  | .ptr d => uptoBulk d + 1
  | .slice elems spare => uptoBulkAll elems + uptoBulkAll spare + 1
  | .agg parts => uptoBulkAll parts + 1
  | .iface _ d => uptoBulk d + 1
  | .map entries => uptoBulkEntries entries + 1
  | .held _ => 1
def uptoBulkAll {H : Type} : List (DataW H) → Nat
  | [] => 0
  | d :: r => uptoBulk d + uptoBulkAll r
def uptoBulkEntries {H : Type} : List (Lit × DataW H) → Nat
  | [] => 0
  | x :: r => uptoBulkEntry x + uptoBulkEntries r
def uptoBulkEntry {H : Type} : Lit × DataW H → Nat
  | (.string bytes, d) => bytes.length + uptoBulk d + 1
  | (_, d) => uptoBulk d + 1
 end
def uptoSmall : (H : Type) → List (DataW H) → Bool := fun _ ds => decide (uptoBulkAll ds ≤ 1048576)
def OpenSpec.upto (s : _root_.Go.ChangeSpec) : _root_.Go.OpenSpec := { _root_.Go.OpenSpec.ofChange s with cond := some uptoSmall }

/-- 'fiacrelaw03.StreetReaches', WHERE WHAT IT READS IS OF BULK AT MOST 1048576: true; the input reads as it did. -/
def streetReachesUptoRow : OpenClaim := { program := "ytnjaadmmbdlfoaa", sum := "de2d978562216b32b150dda7a245e1fe668bec2b4697acc612921cb94722e4a4", func := "fiacre/fiacrelaw03.StreetReaches", spec := "streetReaches", unfollowed := true, recurses := true, apart := false, narrowed := true }
def StreetReachesUptoSaid : Prop := streetReachesUptoRow.holds Try.pinned (OpenSpec.upto streetReachesSpec)

/-- 'fiacrelaw03.StreetRoads', WHERE WHAT IT READS IS OF BULK AT MOST 1048576: true; the input reads as it did. -/
def streetRoadsUptoRow : OpenClaim := { program := "ytnjaadmmbdlfoaa", sum := "de2d978562216b32b150dda7a245e1fe668bec2b4697acc612921cb94722e4a4", func := "fiacre/fiacrelaw03.StreetRoads", spec := "streetRoads", unfollowed := true, recurses := true, apart := false, narrowed := true }
def StreetRoadsUptoSaid : Prop := streetRoadsUptoRow.holds Try.pinned (OpenSpec.upto streetRoadsSpec)

/-- 'fiacretop.TopStreetClosed', WHERE WHAT IT READS IS OF BULK AT MOST 1048576: true; the input reads as it did. -/
def topStreetClosedUptoRow : OpenClaim := { program := "ytnjaadmmbdlfoaa", sum := "de2d978562216b32b150dda7a245e1fe668bec2b4697acc612921cb94722e4a4", func := "fiacre/fiacretop.TopStreetClosed", spec := "topStreetClosed", unfollowed := true, recurses := true, apart := false, narrowed := true }
def TopStreetClosedUptoSaid : Prop := topStreetClosedUptoRow.holds Try.pinned (OpenSpec.upto topStreetClosedSpec)

end Rows
end Go.Proofs.Ytnjaadmmbdlfoaa

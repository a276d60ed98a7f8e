/-
  DERIVED. GIVEN WITH THE SEED: THE CARDS: each row of YtndhpdjcpagghaaGreatDoorRows.lean that lists a variable, with what it lists TIED to the program's text (the seventh form; the later family's looks); each row that meets fmt, with fmt's text TOLD by the authors' own Lean function (tested against real Go, not proved from fmt's source: count such statements apart). THE CARD IS WHAT COUNTS. Prove the row's statement (the work); the ties are given (YtndhpdjcpagghaaGreatDoorTie.lean); close each card by the builder's one call (the guide's Derived/Test/ToyasCard.lean, 'card_holds'). Laid BY PROGRAM, IN A SANDBOX (cutbox-door.mjs). By AI agents, Wed Nov 11 2026. No macro, syntax, notation, axiom, sorry.
-/
import Derived.Test.YtndhpdjcpagghaaGreatDoorRows
import GoSem.ClaimSeven
namespace Go.Proofs.YtndhpdjcpagghaaGreatDoor
namespace Rows

/-- THE TIED CARD OF 'fiacrelaw03.StreetWayTexts'. -/
def streetWayTextsCard : Claim7 := { stood := { row := streetWayTextsRow, standIns := [], harness := (true, "8e285279bb7664f1cb2de7adb0411323adb43bf6e17bca94ed590e17b2a155d4"), looks := true }, kinds := [], alts := [], laidByText := true, laidKinds := [.data, .pinned], laidTests := true, laidLooks := .later }
def StreetWayTextsCardSaid : Prop := Claim7.holds Tryz.pinned (.plain (OpenSpec.ofChange streetWayTextsSpec)) streetWayTextsCard

/-- THE TIED CARD OF 'fiacrelaw03.StreetTexts'. -/
def streetTextsCard : Claim7 := { stood := { row := streetTextsRow, standIns := [], harness := (true, "8e285279bb7664f1cb2de7adb0411323adb43bf6e17bca94ed590e17b2a155d4"), looks := true }, kinds := [], alts := [], laidByText := true, laidKinds := [.data, .data, .data, .data, .sentinel, .sentinel, .pinned], laidTests := true, laidLooks := .later }
def StreetTextsCardSaid : Prop := Claim7.holds Tryz.pinned (.plain (OpenSpec.ofChange streetTextsSpec)) streetTextsCard

/-- THE SECOND FORM's CARD OF 'fiacrelaw03.StreetWayTexts'. -/
def streetWayTextsUptoCard : Claim7 := { stood := { row := streetWayTextsUptoRow, standIns := [], harness := (true, "8e285279bb7664f1cb2de7adb0411323adb43bf6e17bca94ed590e17b2a155d4"), looks := true }, kinds := [], alts := [], laidByText := true, laidKinds := [.data, .pinned], laidTests := true, laidLooks := .later }
def StreetWayTextsUptoCardSaid : Prop := Claim7.holds Tryz.pinned (.plain (OpenSpec.upto streetWayTextsSpec)) streetWayTextsUptoCard

/-- THE SECOND FORM's CARD OF 'fiacrelaw03.StreetTexts'. -/
def streetTextsUptoCard : Claim7 := { stood := { row := streetTextsUptoRow, standIns := [], harness := (true, "8e285279bb7664f1cb2de7adb0411323adb43bf6e17bca94ed590e17b2a155d4"), looks := true }, kinds := [], alts := [], laidByText := true, laidKinds := [.data, .data, .data, .data, .sentinel, .sentinel, .pinned], laidTests := true, laidLooks := .later }
def StreetTextsUptoCardSaid : Prop := Claim7.holds Tryz.pinned (.plain (OpenSpec.upto streetTextsSpec)) streetTextsUptoCard
end Rows
end Go.Proofs.YtndhpdjcpagghaaGreatDoor

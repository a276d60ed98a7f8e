/-
  DERIVED. GIVEN WITH THE SEED: THE CARDS: each row of YtfjdnbnalihjiaaDoorRows.lean that lists a variable, with what it lists TIED to the program's text (the seventh form; the later family's looks); each row that meets fmt, with fmt's text TOLD by the authors' own Lean function (tested against real Go, not proved from fmt's source: count such statements apart). THE CARD IS WHAT COUNTS. Prove the row's statement (the work); the ties are given (YtfjdnbnalihjiaaDoorTie.lean); close each card by the builder's one call (the guide's Derived/Test/ToyasCard.lean, 'card_holds'). Laid BY PROGRAM, IN A SANDBOX (cutbox-door.mjs). By AI agents, Wed Nov 11 2026. No macro, syntax, notation, axiom, sorry.
-/
import Derived.Test.YtfjdnbnalihjiaaDoorRows
import GoSem.ClaimSeven
namespace Go.Proofs.YtfjdnbnalihjiaaDoor
namespace Rows

/-- THE TIED CARD OF 'fiacrelaw09.FoundBeginnings'. -/
def foundBeginningsCard : Claim7 := { stood := { row := foundBeginningsRow, standIns := [], harness := (true, "32812e2752d48304773be50f67db350ef705a65d4ce46e34865069bca4278334"), looks := false }, kinds := [], alts := [], laidByText := true, laidKinds := [.data, .data, .data, .data], laidTests := true, laidLooks := .later }
def FoundBeginningsCardSaid : Prop := Claim7.holds Tryd.pinned (.plain (OpenSpec.ofChange foundBeginningsSpec)) foundBeginningsCard

/-- THE TIED CARD OF 'fiacrelaw09.FoundRewards'. -/
def foundRewardsCard : Claim7 := { stood := { row := foundRewardsRow, standIns := [], harness := (true, "32812e2752d48304773be50f67db350ef705a65d4ce46e34865069bca4278334"), looks := false }, kinds := [], alts := [], laidByText := true, laidKinds := [.data, .data, .data, .data], laidTests := true, laidLooks := .later }
def FoundRewardsCardSaid : Prop := Claim7.holds Tryd.pinned (.plain (OpenSpec.ofChange foundRewardsSpec)) foundRewardsCard

/-- THE SECOND FORM's CARD OF 'fiacrelaw09.FoundBeginnings'. -/
def foundBeginningsUptoCard : Claim7 := { stood := { row := foundBeginningsUptoRow, standIns := [], harness := (true, "32812e2752d48304773be50f67db350ef705a65d4ce46e34865069bca4278334"), looks := false }, kinds := [], alts := [], laidByText := true, laidKinds := [.data, .data, .data, .data], laidTests := true, laidLooks := .later }
def FoundBeginningsUptoCardSaid : Prop := Claim7.holds Tryd.pinned (.plain (OpenSpec.upto foundBeginningsSpec)) foundBeginningsUptoCard

/-- THE SECOND FORM's CARD OF 'fiacrelaw09.FoundRewards'. -/
def foundRewardsUptoCard : Claim7 := { stood := { row := foundRewardsUptoRow, standIns := [], harness := (true, "32812e2752d48304773be50f67db350ef705a65d4ce46e34865069bca4278334"), looks := false }, kinds := [], alts := [], laidByText := true, laidKinds := [.data, .data, .data, .data], laidTests := true, laidLooks := .later }
def FoundRewardsUptoCardSaid : Prop := Claim7.holds Tryd.pinned (.plain (OpenSpec.upto foundRewardsSpec)) foundRewardsUptoCard
end Rows
end Go.Proofs.YtfjdnbnalihjiaaDoor

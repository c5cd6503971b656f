/-
  DERIVED. GIVEN WITH THE SEED: THE CARDS: each row of YtpkbkhffglikhaaGreatDoorRows.lean that lists a variable, with what it lists TIED to the program's text (the seventh form; the later family's looks); each row that meets fmt, with fmt's text TOLD by the authors' own Lean function (tested against real Go, not proved from fmt's source: count such statements apart). THE CARD IS WHAT COUNTS. Prove the row's statement (the work); the ties are given (YtpkbkhffglikhaaGreatDoorTie.lean); close each card by the builder's one call (the guide's Derived/Test/ToyasCard.lean, 'card_holds'). Laid BY PROGRAM, IN A SANDBOX (cutbox-door.mjs). By AI agents, Wed Nov 11 2026. No macro, syntax, notation, axiom, sorry.
-/
import Derived.Test.YtpkbkhffglikhaaGreatDoorRows
import GoSem.ClaimSeven
namespace Go.Proofs.YtpkbkhffglikhaaGreatDoor
namespace Rows

/-- THE TIED CARD OF 'hatchecklaw09.PoolPolicies'. -/
def poolPoliciesCard : Claim7 := { stood := { row := poolPoliciesRow, standIns := [], harness := (true, "3feeb3be4f06a5aa590059b5607b29710dd3f67bc922df5a704256520de4cf0f"), looks := true }, kinds := [], alts := [], laidByText := true, laidKinds := [.data], laidTests := true, laidLooks := .later }
def PoolPoliciesCardSaid : Prop := Claim7.holds Tryz.pinned (.plain (OpenSpec.ofChange poolPoliciesSpec)) poolPoliciesCard

/-- THE TIED CARD OF 'hatchecklaw09.PoolCounts'. -/
def poolCountsCard : Claim7 := { stood := { row := poolCountsRow, standIns := [], harness := (true, "3feeb3be4f06a5aa590059b5607b29710dd3f67bc922df5a704256520de4cf0f"), looks := true }, kinds := [], alts := [], laidByText := true, laidKinds := [.data], laidTests := true, laidLooks := .later }
def PoolCountsCardSaid : Prop := Claim7.holds Tryz.pinned (.plain (OpenSpec.ofChange poolCountsSpec)) poolCountsCard

/-- THE SECOND FORM's CARD OF 'hatchecklaw09.PoolPolicies'. -/
def poolPoliciesUptoCard : Claim7 := { stood := { row := poolPoliciesUptoRow, standIns := [], harness := (true, "3feeb3be4f06a5aa590059b5607b29710dd3f67bc922df5a704256520de4cf0f"), looks := true }, kinds := [], alts := [], laidByText := true, laidKinds := [.data], laidTests := true, laidLooks := .later }
def PoolPoliciesUptoCardSaid : Prop := Claim7.holds Tryz.pinned (.plain (OpenSpec.upto poolPoliciesSpec)) poolPoliciesUptoCard

/-- THE SECOND FORM's CARD OF 'hatchecklaw09.PoolCounts'. -/
def poolCountsUptoCard : Claim7 := { stood := { row := poolCountsUptoRow, standIns := [], harness := (true, "3feeb3be4f06a5aa590059b5607b29710dd3f67bc922df5a704256520de4cf0f"), looks := true }, kinds := [], alts := [], laidByText := true, laidKinds := [.data], laidTests := true, laidLooks := .later }
def PoolCountsUptoCardSaid : Prop := Claim7.holds Tryz.pinned (.plain (OpenSpec.upto poolCountsSpec)) poolCountsUptoCard
end Rows
end Go.Proofs.YtpkbkhffglikhaaGreatDoor

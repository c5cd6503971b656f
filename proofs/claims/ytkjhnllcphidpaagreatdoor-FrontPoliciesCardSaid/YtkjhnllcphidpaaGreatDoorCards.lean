/-
  DERIVED. GIVEN WITH THE SEED: THE CARDS: each row of YtkjhnllcphidpaaGreatDoorRows.lean that lists a variable, with what it lists TIED to the program's text (the seventh form; the later family's looks); each row that meets fmt, with fmt's text TOLD by the authors' own Lean function (tested against real Go, not proved from fmt's source: count such statements apart). THE CARD IS WHAT COUNTS. Prove the row's statement (the work); the ties are given (YtkjhnllcphidpaaGreatDoorTie.lean); close each card by the builder's one call (the guide's Derived/Test/ToyasCard.lean, 'card_holds'). Laid BY PROGRAM, IN A SANDBOX (cutbox-door.mjs). By AI agents, Wed Nov 11 2026. No macro, syntax, notation, axiom, sorry.
-/
import Derived.Test.YtkjhnllcphidpaaGreatDoorRows
import GoSem.ClaimSeven
namespace Go.Proofs.YtkjhnllcphidpaaGreatDoor
namespace Rows

/-- THE TIED CARD OF 'hatchecklaw10.ModelPools'. -/
def modelPoolsCard : Claim7 := { stood := { row := modelPoolsRow, standIns := [], harness := (true, "5b16b7d9d07b525f472cd6f6e2ab884ca09d3cbfa683e58d2cd44a1ccdc019b9"), looks := true }, kinds := [], alts := [], laidByText := true, laidKinds := [.data], laidTests := true, laidLooks := .later }
def ModelPoolsCardSaid : Prop := Claim7.holds Tryz.pinned (.plain (OpenSpec.ofChange modelPoolsSpec)) modelPoolsCard

/-- THE TIED CARD OF 'hatchecklaw11.FrontRuns'. -/
def frontRunsCard : Claim7 := { stood := { row := frontRunsRow, standIns := [], harness := (true, "5b16b7d9d07b525f472cd6f6e2ab884ca09d3cbfa683e58d2cd44a1ccdc019b9"), looks := true }, kinds := [], alts := [], laidByText := true, laidKinds := [.data], laidTests := true, laidLooks := .later }
def FrontRunsCardSaid : Prop := Claim7.holds Tryz.pinned (.plain (OpenSpec.ofChange frontRunsSpec)) frontRunsCard

/-- THE TIED CARD OF 'hatchecklaw11.FrontPolicies'. -/
def frontPoliciesCard : Claim7 := { stood := { row := frontPoliciesRow, standIns := [], harness := (true, "5b16b7d9d07b525f472cd6f6e2ab884ca09d3cbfa683e58d2cd44a1ccdc019b9"), looks := true }, kinds := [], alts := [], laidByText := true, laidKinds := [.data], laidTests := true, laidLooks := .later }
def FrontPoliciesCardSaid : Prop := Claim7.holds Tryz.pinned (.plain (OpenSpec.ofChange frontPoliciesSpec)) frontPoliciesCard

/-- THE SECOND FORM's CARD OF 'hatchecklaw10.ModelPools'. -/
def modelPoolsUptoCard : Claim7 := { stood := { row := modelPoolsUptoRow, standIns := [], harness := (true, "5b16b7d9d07b525f472cd6f6e2ab884ca09d3cbfa683e58d2cd44a1ccdc019b9"), looks := true }, kinds := [], alts := [], laidByText := true, laidKinds := [.data], laidTests := true, laidLooks := .later }
def ModelPoolsUptoCardSaid : Prop := Claim7.holds Tryz.pinned (.plain (OpenSpec.upto modelPoolsSpec)) modelPoolsUptoCard

/-- THE SECOND FORM's CARD OF 'hatchecklaw11.FrontRuns'. -/
def frontRunsUptoCard : Claim7 := { stood := { row := frontRunsUptoRow, standIns := [], harness := (true, "5b16b7d9d07b525f472cd6f6e2ab884ca09d3cbfa683e58d2cd44a1ccdc019b9"), looks := true }, kinds := [], alts := [], laidByText := true, laidKinds := [.data], laidTests := true, laidLooks := .later }
def FrontRunsUptoCardSaid : Prop := Claim7.holds Tryz.pinned (.plain (OpenSpec.upto frontRunsSpec)) frontRunsUptoCard

/-- THE SECOND FORM's CARD OF 'hatchecklaw11.FrontPolicies'. -/
def frontPoliciesUptoCard : Claim7 := { stood := { row := frontPoliciesUptoRow, standIns := [], harness := (true, "5b16b7d9d07b525f472cd6f6e2ab884ca09d3cbfa683e58d2cd44a1ccdc019b9"), looks := true }, kinds := [], alts := [], laidByText := true, laidKinds := [.data], laidTests := true, laidLooks := .later }
def FrontPoliciesUptoCardSaid : Prop := Claim7.holds Tryz.pinned (.plain (OpenSpec.upto frontPoliciesSpec)) frontPoliciesUptoCard
end Rows
end Go.Proofs.YtkjhnllcphidpaaGreatDoor

/-
  DERIVED. GIVEN WITH THE SEED: THE CARDS: each row of YtnideelidfpicaaGreatDoorRows.lean that lists a variable, with what it lists TIED to the program's text (the seventh form; the later family's looks); each row that meets fmt, with fmt's text TOLD by the authors' own Lean function (tested against real Go, not proved from fmt's source: count such statements apart). THE CARD IS WHAT COUNTS. Prove the row's statement (the work); the ties are given (YtnideelidfpicaaGreatDoorTie.lean); close each card by the builder's one call (the guide's Derived/Test/ToyasCard.lean, 'card_holds'). Laid BY PROGRAM, IN A SANDBOX (cutbox-door.mjs). By AI agents, Wed Nov 11 2026. No macro, syntax, notation, axiom, sorry.
-/
import Derived.Test.YtnideelidfpicaaGreatDoorRows
import GoSem.ClaimSeven
namespace Go.Proofs.YtnideelidfpicaaGreatDoor
namespace Rows

/-- THE TIED CARD OF 'hatchecklaw09.PoolActs'. -/
def poolActsCard : Claim7 := { stood := { row := poolActsRow, standIns := [], harness := (true, "d8f85df11472c3f4752c9fecac3a40f91100e699bd4be345ce604d0f798bf478"), looks := true }, kinds := [], alts := [], laidByText := true, laidKinds := [.data], laidTests := true, laidLooks := .later }
def PoolActsCardSaid : Prop := Claim7.holds Tryz.pinned (.plain (OpenSpec.ofChange poolActsSpec)) poolActsCard

/-- THE SECOND FORM's CARD OF 'hatchecklaw09.PoolActs'. -/
def poolActsUptoCard : Claim7 := { stood := { row := poolActsUptoRow, standIns := [], harness := (true, "d8f85df11472c3f4752c9fecac3a40f91100e699bd4be345ce604d0f798bf478"), looks := true }, kinds := [], alts := [], laidByText := true, laidKinds := [.data], laidTests := true, laidLooks := .later }
def PoolActsUptoCardSaid : Prop := Claim7.holds Tryz.pinned (.plain (OpenSpec.upto poolActsSpec)) poolActsUptoCard
end Rows
end Go.Proofs.YtnideelidfpicaaGreatDoor

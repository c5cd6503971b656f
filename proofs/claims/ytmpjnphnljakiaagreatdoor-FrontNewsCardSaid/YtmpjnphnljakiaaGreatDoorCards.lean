/-
  DERIVED. GIVEN WITH THE SEED: THE CARDS: each row of YtmpjnphnljakiaaGreatDoorRows.lean that lists a variable, with what it lists TIED to the program's text (the seventh form; the later family's looks); each row that meets fmt, with fmt's text TOLD by the authors' own Lean function (tested against real Go, not proved from fmt's source: count such statements apart). THE CARD IS WHAT COUNTS. Prove the row's statement (the work); the ties are given (YtmpjnphnljakiaaGreatDoorTie.lean); close each card by the builder's one call (the guide's Derived/Test/ToyasCard.lean, 'card_holds'). Laid BY PROGRAM, IN A SANDBOX (cutbox-door.mjs). By AI agents, Wed Nov 11 2026. No macro, syntax, notation, axiom, sorry.
-/
import Derived.Test.YtmpjnphnljakiaaGreatDoorRows
import GoSem.ClaimSeven
namespace Go.Proofs.YtmpjnphnljakiaaGreatDoor
namespace Rows

/-- THE TIED CARD OF 'hatchecklaw11.FrontNews'. -/
def frontNewsCard : Claim7 := { stood := { row := frontNewsRow, standIns := [], harness := (true, "a0e5310b20e8c3fabd640b384ce225125b50def644831d1b579d81ec3fb26074"), looks := true }, kinds := [], alts := [], laidByText := true, laidKinds := [.data], laidTests := true, laidLooks := .later }
def FrontNewsCardSaid : Prop := Claim7.holds Tryz.pinned (.plain (OpenSpec.ofChange frontNewsSpec)) frontNewsCard

/-- THE SECOND FORM's CARD OF 'hatchecklaw11.FrontNews'. -/
def frontNewsUptoCard : Claim7 := { stood := { row := frontNewsUptoRow, standIns := [], harness := (true, "a0e5310b20e8c3fabd640b384ce225125b50def644831d1b579d81ec3fb26074"), looks := true }, kinds := [], alts := [], laidByText := true, laidKinds := [.data], laidTests := true, laidLooks := .later }
def FrontNewsUptoCardSaid : Prop := Claim7.holds Tryz.pinned (.plain (OpenSpec.upto frontNewsSpec)) frontNewsUptoCard
end Rows
end Go.Proofs.YtmpjnphnljakiaaGreatDoor

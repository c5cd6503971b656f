/-
  DERIVED. GIVEN WITH THE SEED: THE CARDS: each row of YtcdakiodmgdepaaDoorRows.lean that lists a variable, with what it lists TIED to the program's text (the seventh form; the later family's looks); each row that meets fmt, with fmt's text TOLD by the authors' own Lean function (tested against real Go, not proved from fmt's source: count such statements apart). THE CARD IS WHAT COUNTS. Prove the row's statement (the work); the ties are given (YtcdakiodmgdepaaDoorTie.lean); close each card by the builder's one call (the guide's Derived/Test/ToyasCard.lean, 'card_holds'). Laid BY PROGRAM, IN A SANDBOX (cutbox-door.mjs). By AI agents, Wed Nov 11 2026. No macro, syntax, notation, axiom, sorry.
-/
import Derived.Test.YtcdakiodmgdepaaDoorRows
import GoSem.ClaimSeven
namespace Go.Proofs.YtcdakiodmgdepaaDoor
namespace Rows

/-- THE TIED CARD OF 'hatchecklaw09.PoolNews'. -/
def poolNewsCard : Claim7 := { stood := { row := poolNewsRow, standIns := [], harness := (true, "1fce59ef4d791ac682d6f418affd6f57602e9f6d5eebff593bd796509ec1ef86"), looks := true }, kinds := [], alts := [], laidByText := true, laidKinds := [.data], laidTests := true, laidLooks := .later }
def PoolNewsCardSaid : Prop := Claim7.holds Tryd.pinned (.plain (OpenSpec.ofChange poolNewsSpec)) poolNewsCard

/-- THE SECOND FORM's CARD OF 'hatchecklaw09.PoolNews'. -/
def poolNewsUptoCard : Claim7 := { stood := { row := poolNewsUptoRow, standIns := [], harness := (true, "1fce59ef4d791ac682d6f418affd6f57602e9f6d5eebff593bd796509ec1ef86"), looks := true }, kinds := [], alts := [], laidByText := true, laidKinds := [.data], laidTests := true, laidLooks := .later }
def PoolNewsUptoCardSaid : Prop := Claim7.holds Tryd.pinned (.plain (OpenSpec.upto poolNewsSpec)) poolNewsUptoCard
end Rows
end Go.Proofs.YtcdakiodmgdepaaDoor

/-
  DERIVED. GIVEN WITH THE SEED: THE CARDS: each row of YtnjdoifgljdjcaaDoorRows.lean that lists a variable, with what it lists TIED to the program's text (the seventh form; the later family's looks); each row that meets fmt, with fmt's text TOLD by the authors' own Lean function (tested against real Go, not proved from fmt's source: count such statements apart). THE CARD IS WHAT COUNTS. Prove the row's statement (the work); the ties are given (YtnjdoifgljdjcaaDoorTie.lean); close each card by the builder's one call (the guide's Derived/Test/ToyasCard.lean, 'card_holds'). Laid BY PROGRAM, IN A SANDBOX (cutbox-door.mjs). By AI agents, Wed Nov 11 2026. No macro, syntax, notation, axiom, sorry.
-/
import Derived.Test.YtnjdoifgljdjcaaDoorRows
import GoSem.ClaimSeven
namespace Go.Proofs.YtnjdoifgljdjcaaDoor
namespace Rows

/-- THE TIED CARD OF 'hatchecklaw10.ModelActs'. -/
def modelActsCard : Claim7 := { stood := { row := modelActsRow, standIns := [], harness := (true, "15714306747334dc5c1006de8f0337411bf9d5bc7be35ff9a971d7d325262100"), looks := false }, kinds := [], alts := [], laidByText := true, laidKinds := [.data], laidTests := true, laidLooks := .later }
def ModelActsCardSaid : Prop := Claim7.holds Tryd.pinned (.plain (OpenSpec.ofChange modelActsSpec)) modelActsCard

/-- THE TIED CARD OF 'hatchecklaw10.ModelNews'. -/
def modelNewsCard : Claim7 := { stood := { row := modelNewsRow, standIns := [], harness := (true, "15714306747334dc5c1006de8f0337411bf9d5bc7be35ff9a971d7d325262100"), looks := false }, kinds := [], alts := [], laidByText := true, laidKinds := [.data], laidTests := true, laidLooks := .later }
def ModelNewsCardSaid : Prop := Claim7.holds Tryd.pinned (.plain (OpenSpec.ofChange modelNewsSpec)) modelNewsCard

/-- THE SECOND FORM's CARD OF 'hatchecklaw10.ModelActs'. -/
def modelActsUptoCard : Claim7 := { stood := { row := modelActsUptoRow, standIns := [], harness := (true, "15714306747334dc5c1006de8f0337411bf9d5bc7be35ff9a971d7d325262100"), looks := false }, kinds := [], alts := [], laidByText := true, laidKinds := [.data], laidTests := true, laidLooks := .later }
def ModelActsUptoCardSaid : Prop := Claim7.holds Tryd.pinned (.plain (OpenSpec.upto modelActsSpec)) modelActsUptoCard

/-- THE SECOND FORM's CARD OF 'hatchecklaw10.ModelNews'. -/
def modelNewsUptoCard : Claim7 := { stood := { row := modelNewsUptoRow, standIns := [], harness := (true, "15714306747334dc5c1006de8f0337411bf9d5bc7be35ff9a971d7d325262100"), looks := false }, kinds := [], alts := [], laidByText := true, laidKinds := [.data], laidTests := true, laidLooks := .later }
def ModelNewsUptoCardSaid : Prop := Claim7.holds Tryd.pinned (.plain (OpenSpec.upto modelNewsSpec)) modelNewsUptoCard
end Rows
end Go.Proofs.YtnjdoifgljdjcaaDoor

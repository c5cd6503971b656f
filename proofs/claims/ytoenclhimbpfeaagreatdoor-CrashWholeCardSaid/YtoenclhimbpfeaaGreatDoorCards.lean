/-
  DERIVED. GIVEN WITH THE SEED: THE CARDS: each row of YtoenclhimbpfeaaGreatDoorRows.lean that lists a variable, with what it lists TIED to the program's text (the seventh form; the later family's looks); each row that meets fmt, with fmt's text TOLD by the authors' own Lean function (tested against real Go, not proved from fmt's source: count such statements apart). THE CARD IS WHAT COUNTS. Prove the row's statement (the work); the ties are given (YtoenclhimbpfeaaGreatDoorTie.lean); close each card by the builder's one call (the guide's Derived/Test/ToyasCard.lean, 'card_holds'). Laid BY PROGRAM, IN A SANDBOX (cutbox-door.mjs). By AI agents, Wed Nov 11 2026. No macro, syntax, notation, axiom, sorry.
-/
import Derived.Test.YtoenclhimbpfeaaGreatDoorRows
import GoSem.ClaimSeven
namespace Go.Proofs.YtoenclhimbpfeaaGreatDoor
namespace Rows

/-- THE TIED CARD OF 'hatchecklaw12.CrashWhole'. -/
def crashWholeCard : Claim7 := { stood := { row := crashWholeRow, standIns := [], harness := (true, "99ee563aca6a7084c4f1897ba00dd9f31f89e3f881e5bfa6a5a3e7c19587da1c"), looks := true }, kinds := [], alts := [], laidByText := true, laidKinds := [.data], laidTests := true, laidLooks := .later }
def CrashWholeCardSaid : Prop := Claim7.holds Tryz.pinned (.plain (OpenSpec.ofChange crashWholeSpec)) crashWholeCard

/-- THE TIED CARD OF 'hatchecklaw12.CrashNews'. -/
def crashNewsCard : Claim7 := { stood := { row := crashNewsRow, standIns := [], harness := (true, "99ee563aca6a7084c4f1897ba00dd9f31f89e3f881e5bfa6a5a3e7c19587da1c"), looks := true }, kinds := [], alts := [], laidByText := true, laidKinds := [.data], laidTests := true, laidLooks := .later }
def CrashNewsCardSaid : Prop := Claim7.holds Tryz.pinned (.plain (OpenSpec.ofChange crashNewsSpec)) crashNewsCard

/-- THE SECOND FORM's CARD OF 'hatchecklaw12.CrashWhole'. -/
def crashWholeUptoCard : Claim7 := { stood := { row := crashWholeUptoRow, standIns := [], harness := (true, "99ee563aca6a7084c4f1897ba00dd9f31f89e3f881e5bfa6a5a3e7c19587da1c"), looks := true }, kinds := [], alts := [], laidByText := true, laidKinds := [.data], laidTests := true, laidLooks := .later }
def CrashWholeUptoCardSaid : Prop := Claim7.holds Tryz.pinned (.plain (OpenSpec.upto crashWholeSpec)) crashWholeUptoCard

/-- THE SECOND FORM's CARD OF 'hatchecklaw12.CrashNews'. -/
def crashNewsUptoCard : Claim7 := { stood := { row := crashNewsUptoRow, standIns := [], harness := (true, "99ee563aca6a7084c4f1897ba00dd9f31f89e3f881e5bfa6a5a3e7c19587da1c"), looks := true }, kinds := [], alts := [], laidByText := true, laidKinds := [.data], laidTests := true, laidLooks := .later }
def CrashNewsUptoCardSaid : Prop := Claim7.holds Tryz.pinned (.plain (OpenSpec.upto crashNewsSpec)) crashNewsUptoCard
end Rows
end Go.Proofs.YtoenclhimbpfeaaGreatDoor

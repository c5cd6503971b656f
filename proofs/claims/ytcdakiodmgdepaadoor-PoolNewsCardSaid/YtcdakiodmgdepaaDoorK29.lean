/-
  A Disk in memory: Copy.
-/
import Derived.Test.YtcdakiodmgdepaaDoorK28
import Derived.Deep.RegionHeld3
namespace Go.Proofs.YtcdakiodmgdepaaDoor
open Go.RowKit Go.Maps
set_option linter.unusedVariables false
section
variable {w w' : World} {db c mb nf : Nat} {s : DS} {pv fv : Value} {fh : Nat → Nat} {F : Nat → Prop}
end
end Go.Proofs.YtcdakiodmgdepaaDoor

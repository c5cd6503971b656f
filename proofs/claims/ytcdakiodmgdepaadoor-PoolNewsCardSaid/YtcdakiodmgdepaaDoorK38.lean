/-
  The document's own Disk in memory: Alloc, where there are no pages yet.
-/
import Derived.Test.YtcdakiodmgdepaaDoorK37
namespace Go.Proofs.YtcdakiodmgdepaaDoor
open Go.RowKit
set_option linter.unusedVariables false
section
variable {w w0 w' : World} {b : Nat} {s : RS} {lv nv sv v : Value} {l : List (Nat × Nat)}
end
end Go.Proofs.YtcdakiodmgdepaaDoor

/-
  The document's own Disk in memory: Write.
-/
import Derived.Test.YtcdakiodmgdepaaDoorK33
namespace Go.Proofs.YtcdakiodmgdepaaDoor
open Go.RowKit
set_option linter.unusedVariables false

def RS.write (s : RS) (id v : Nat) : Nat × RS :=
  match atP s.L id with
  | none => (3, s)
  | some k => if s.stopped = true then (7, s) else if (failsP s.ns id).2 = true then (7, { s with ns := (failsP s.ns id).1 }) else (0, { s with L := s.L.set k ((s.L.getD k (0, 0)).1, v), wr := s.wr + 1, left := s.left - 1 })
section
variable {w w0 w' : World} {b : Nat} {s : RS} {lv nv sv : Value}
end
end Go.Proofs.YtcdakiodmgdepaaDoor

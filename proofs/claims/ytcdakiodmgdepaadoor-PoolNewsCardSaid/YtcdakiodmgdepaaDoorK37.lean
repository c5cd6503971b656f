/-
  The document's own Disk in memory: Alloc.
-/
import Derived.Test.YtcdakiodmgdepaaDoorK36
namespace Go.Proofs.YtcdakiodmgdepaaDoor
open Go.RowKit
set_option linter.unusedVariables false

/-- A page comes at place k, by the id k + 1. -/
def RS.ins (s : RS) (k : Nat) : RS := { s with L := s.L.take k ++ [(k + 1, 0)] ++ s.L.drop k }
/-- Place k is the first one whose page has another id than the place says. -/
structure Gap (L : List (Nat × Nat)) (k : Nat) : Prop where
  le : k ≤ L.length
  all : ∀ j (hj : j < L.length), j < k → L[j].1 = j + 1
  not : ∀ hk : k < L.length, ¬ L[k].1 = k + 1
section
variable {w w0 w' : World} {b : Nat} {s : RS} {lv nv sv v : Value} {l : List (Nat × Nat)}
end
end Go.Proofs.YtcdakiodmgdepaaDoor

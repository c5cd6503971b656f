/-
  The youngest so many of a row that has grown by one. Plain facts, with no program in sight.
-/
import Derived.WalkKit
namespace Go.Proofs.Ytbnckhkamebibaa
/-- .. one goes, where there are too many. -/
def cutOld (out : Nat) (l : List Nat) : List Nat := if out < l.length then l.drop 1 else l
end Go.Proofs.Ytbnckhkamebibaa

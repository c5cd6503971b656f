/-
  The document's own Disk in memory: set, Fail.
-/
import Derived.Test.YtcdakiodmgdepaaDoorK34
namespace Go.Proofs.YtcdakiodmgdepaaDoor
open Go.RowKit
set_option linter.unusedVariables false

def setP (l : List (Nat × Nat)) (id x : Nat) : List (Nat × Nat) :=
  match atP l id with
  | none => l ++ [(id, x)]
  | some k => l.set k ((l.getD k (0, 0)).1, x)
theorem setP_len (l : List (Nat × Nat)) (id x : Nat) : (setP l id x).length ≤ l.length + 1 := by
  unfold setP
  split
  · simp
  · rw [List.length_set]; omega
theorem setP_u {l : List (Nat × Nat)} (h : ∀ p ∈ l, isU64 p.2) (id : Nat) {x : Nat} (hx : isU64 x) : ∀ p ∈ setP l id x, isU64 p.2 := by
  unfold setP
  split
  · intro p hp
    rcases List.mem_append.1 hp with q | q
    · exact h p q
    · simp at q; rw [q]; exact hx
  · intro p hp
    rcases List.mem_or_eq_of_mem_set hp with q | q
    · exact h p q
    · rw [q]; exact hx
section
variable {w w0 w' : World} {b : Nat} {s : RS} {lv nv sv v : Value} {l : List (Nat × Nat)}
/-- Fail, in the state's words. -/
def RS.fail (s : RS) (id : Nat) (wr : Bool) (x : Nat) : RS := if wr = true then { s with ns := setP s.ns id x } else { s with nr := setP s.nr id x }
end
end Go.Proofs.YtcdakiodmgdepaaDoor

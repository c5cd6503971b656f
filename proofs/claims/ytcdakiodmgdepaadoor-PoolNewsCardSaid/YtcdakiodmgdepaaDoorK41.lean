/-
  What the statement asks of both Disks behind each call: Same, Holds.
-/
import Derived.Test.YtcdakiodmgdepaaDoorK40
import Derived.Deep.QuietTactic
import Derived.BigQuiet
namespace Go.Proofs.YtcdakiodmgdepaaDoor
open Go.RowKit Go.Maps
set_option linter.unusedVariables false

section
variable {w0 w w' w1 : World} {db rb m m' c mb nf ob : Nat} {s : DS} {r : RS} {pv fv lv nv sv : Value} {fh : Nat → Nat}
def rdS (s : DS) (k : Nat) : DS := { s.copy with rd := k }
theorem rdS_read (s : DS) (k : Nat) {id : Nat} (h1 : 1 ≤ id) (h2 : id ≤ s.np) (h3 : (s.pg (id - 1)).1 = true) : (rdS s k).read id = (((s.pg (id - 1)).2, 0), rdS s (k + 1)) := by
  have hh : (rdS s k).has id = true := by unfold DS.has rdS DS.copy; simp [h1, h2, h3]
  unfold DS.read DS.att
  rw [hh]
  simp [rdS, DS.copy]
theorem plL_get {pg : Nat → Bool × Nat} {n : Nat} {p : Nat × Nat} (h : p ∈ plL pg n) : 1 ≤ p.1 ∧ p.1 ≤ n ∧ (pg (p.1 - 1)).1 = true ∧ (pg (p.1 - 1)).2 = p.2 := by
  unfold plL at h
  obtain ⟨i, _, h2, h3, rfl⟩ := plR_mem.1 h
  refine ⟨by show 1 ≤ i + 1; omega, by show i + 1 ≤ n; omega, ?_, ?_⟩
  · show (pg (i + 1 - 1)).1 = true; rw [Nat.add_sub_cancel]; exact h3
  · show (pg (i + 1 - 1)).2 = _; rw [Nat.add_sub_cancel]
end
end Go.Proofs.YtcdakiodmgdepaaDoor

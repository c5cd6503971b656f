/-
  The document's own Disk in memory: Free.
-/
import Derived.Test.YtcdakiodmgdepaaDoorK35
import Derived.RegionTactic
import Derived.Deep.RegionLaw
import Derived.BigRegion
namespace Go.Proofs.YtcdakiodmgdepaaDoor
open Go.RowKit
set_option linter.unusedVariables false

def RS.free (s : RS) (id : Nat) : Nat × RS :=
  match atP s.L id with
  | none => (3, s)
  | some k => (0, { s with L := s.L.take k ++ s.L.drop (k + 1) })
section
variable {w w0 w' : World} {b : Nat} {s : RS} {lv nv sv v : Value} {l : List (Nat × Nat)}
/-- The first pages of a slice; the last ones. -/
theorem SlP.first {g off c : Nat} (h : SlP w (.slice (some ⟨g, off, none⟩) l.length c) l) {k : Nat} (hk : k ≤ l.length) (hc : 0 < c) : SlC w 2 (.slice (some ⟨g, off, none⟩) k c) k (plC (l.take k)) := by
  obtain ⟨b', o', e, h1⟩ := SlC.cut (lo := 0) (hi := k) h (by omega) hk rfl hc
  simp only [Option.some.injEq, Addr.mk.injEq] at e
  obtain ⟨rfl, rfl, _⟩ := e
  simp only [Nat.zero_mul, Nat.add_zero, Nat.sub_zero, List.drop_zero] at h1
  rw [plC_take] at h1
  exact h1
theorem SlP.last {g off c : Nat} (h : SlP w (.slice (some ⟨g, off, none⟩) l.length c) l) {k : Nat} (hk : k ≤ l.length) (hc : k < c) : SlC w 2 (.slice (some ⟨g, off + k * 2, none⟩) (l.length - k) (c - k)) (l.length - k) (plC (l.drop k)) := by
  obtain ⟨b', o', e, h1⟩ := SlC.cut (lo := k) (hi := l.length) h hk (Nat.le_refl _) rfl hc
  simp only [Option.some.injEq, Addr.mk.injEq] at e
  obtain ⟨rfl, rfl, _⟩ := e
  rw [plC_drop, List.take_of_length_le (by rw [plC_len, List.length_drop]; omega)] at h1
  exact h1
end
end Go.Proofs.YtcdakiodmgdepaaDoor

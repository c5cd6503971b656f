/-
  The document's own Disk: fails.
-/
import Derived.Test.YtcdakiodmgdepaaDoorK30
import Derived.Test.YtcdakiodmgdepaaDoorK04
import Derived.WalkArith
namespace Go.Proofs.YtcdakiodmgdepaaDoor
open Go.RowKit
set_option linter.unusedVariables false

def plF (l : List (Nat × Nat)) (i : Nat) : Value := ((plC l)[i]?).getD (.bool false)
theorem plF_list (l : List (Nat × Nat)) : (List.range (l.length * 2)).map (plF l) = plC l := by
  apply List.ext_getElem?
  intro j
  by_cases h : j < l.length * 2
  · have h2 : j < (plC l).length := by rw [plC_len]; exact h
    simp [plF, h, h2]
  · rw [List.getElem?_eq_none (by simp; omega), List.getElem?_eq_none (by rw [plC_len]; omega)]
theorem plF_at (l : List (Nat × Nat)) {k : Nat} (h : k < l.length) : plF l (k * 2) = .int .u32 (l[k].1 : Nat) ∧ plF l (k * 2 + 1) = .int .u64 (l[k].2 : Nat) := by
  obtain ⟨h1, h2⟩ := plC_at l h
  unfold plF
  rw [h1, h2]
  exact ⟨rfl, rfl⟩
theorem plF_set (l : List (Nat × Nat)) {k : Nat} (h : k < l.length) (x : Nat) : ∀ i, i < l.length * 2 → upd (plF l) (k * 2 + 1) (.int .u64 (x : Nat)) i = plF (l.set k (l[k].1, x)) i := by
  intro i hi
  have hl : (l.set k (l[k].1, x)).length = l.length := List.length_set
  have hm : i / 2 < l.length := by omega
  by_cases e : i = k * 2 + 1
  · subst e
    rw [upd_same, (plF_at (l.set k (l[k].1, x)) (k := k) (by omega)).2]
    simp
  · rw [upd_other _ _ e]
    rcases Nat.mod_two_eq_zero_or_one i with q | q
    · have ei : i = i / 2 * 2 := by omega
      rw [ei, (plF_at l hm).1, (plF_at (l.set k (l[k].1, x)) (k := i / 2) (by omega)).1]
      by_cases e2 : k = i / 2
      · subst e2; simp
      · simp [List.getElem_set_ne e2]
    · have ei : i = i / 2 * 2 + 1 := by omega
      have e2 : ¬ k = i / 2 := by omega
      rw [ei, (plF_at l hm).2, (plF_at (l.set k (l[k].1, x)) (k := i / 2) (by omega)).2]
      simp [List.getElem_set_ne e2]
theorem atP_is {l : List (Nat × Nat)} {id k : Nat} (h : atP l id = some k) : ∃ hk : k < l.length, l[k].1 = id := by
  unfold atP at h
  rw [List.findIdx?_eq_some_iff_getElem] at h
  obtain ⟨hk, h1, _⟩ := h
  exact ⟨hk, by simpa using h1⟩
def isU64 (x : Nat) : Prop := x < 18446744073709551616
/-- One failure fewer. -/
def failsP (l : List (Nat × Nat)) (id : Nat) : List (Nat × Nat) × Bool :=
  match atP l id with
  | none => (l, false)
  | some k => if (l.getD k (0, 0)).2 = 0 then (l, false) else (l.set k ((l.getD k (0, 0)).1, (l.getD k (0, 0)).2 - 1), true)
section
variable {w w' : World} {v : Value} {l : List (Nat × Nat)}
theorem SlF.page {e : TypeId} {n : Nat} (h : SlF w e 2 v l.length (plF l)) : SlP w v l := by
  have h1 : w.ownsRow 0 e 2 v l.length (plC l) := by have := h; unfold SlF at this; rw [plF_list] at this; exact this
  exact SlC.ofOwn h1 (plC_one l)
end
end Go.Proofs.YtcdakiodmgdepaaDoor

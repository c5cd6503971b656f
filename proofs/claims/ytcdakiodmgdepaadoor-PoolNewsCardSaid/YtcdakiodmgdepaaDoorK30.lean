/-
  The document's own Disk: its pages as a list; at.
-/
import Derived.Test.YtcdakiodmgdepaaDoorK03
import Derived.Test.YtcdakiodmgdepaaDoorK08
namespace Go.Proofs.YtcdakiodmgdepaaDoor
open Go.RowKit
set_option linter.unusedVariables false

/-- Pages as cells. -/
def plC (l : List (Nat × Nat)) : List Value := l.flatMap fun p => [.int .u32 (p.1 : Nat), .int .u64 (p.2 : Nat)]
theorem plC_len (l : List (Nat × Nat)) : (plC l).length = l.length * 2 := by
  induction l with
  | nil => rfl
  | cons a l ih => simp only [plC, List.flatMap_cons, List.length_append, List.length_cons, List.length_nil]; unfold plC at ih; omega
theorem plC_app (a b : List (Nat × Nat)) : plC (a ++ b) = plC a ++ plC b := by unfold plC; rw [List.flatMap_append]
theorem plC_at : ∀ (l : List (Nat × Nat)) {i : Nat} (h : i < l.length), (plC l)[i * 2]? = some (.int .u32 (l[i].1 : Nat)) ∧ (plC l)[i * 2 + 1]? = some (.int .u64 (l[i].2 : Nat))
  | [], i, h => by simp at h
  | a :: l, 0, h => by simp [plC]
  | a :: l, i + 1, h => by
    have ih := plC_at l (i := i) (by simpa using h)
    have e : plC (a :: l) = [.int .u32 (a.1 : Nat), .int .u64 (a.2 : Nat)] ++ plC l := rfl
    have h0 : ∀ j, ([Value.int .u32 (a.1 : Nat), .int .u64 (a.2 : Nat)] ++ plC l)[j + 2]? = (plC l)[j]? := fun j => by simp
    rw [e, show (i + 1) * 2 = i * 2 + 2 from by omega, h0, show i * 2 + 2 + 1 = (i * 2 + 1) + 2 from by omega, h0]
    exact ih
theorem plC_one (l : List (Nat × Nat)) : ∀ u ∈ plC l, u.oneCell' = true := by
  intro u hu
  obtain ⟨p, _, h⟩ := List.mem_flatMap.1 hu
  simp at h
  rcases h with rfl | rfl <;> rfl
theorem plC_take (l : List (Nat × Nat)) (k : Nat) : (plC l).take (k * 2) = plC (l.take k) := by
  rcases Nat.le_total k l.length with h | h
  · have e : plC l = plC (l.take k) ++ plC (l.drop k) := by rw [← plC_app, List.take_append_drop]
    rw [e, List.take_left' (by rw [plC_len, List.length_take]; omega)]
  · rw [List.take_of_length_le (by rw [plC_len]; omega), List.take_of_length_le h]
theorem plC_drop (l : List (Nat × Nat)) (k : Nat) : (plC l).drop (k * 2) = plC (l.drop k) := by
  rcases Nat.le_total k l.length with h | h
  · have e : plC l = plC (l.take k) ++ plC (l.drop k) := by rw [← plC_app, List.take_append_drop]
    rw [e, List.drop_left' (by rw [plC_len, List.length_take]; omega)]
  · rw [List.drop_of_length_le (by rw [plC_len]; omega), List.drop_of_length_le h]; rfl
/-- A slice of pages. -/
def SlP (w : World) (v : Value) (l : List (Nat × Nat)) : Prop := SlC w 2 v l.length (plC l)
/-- Where an id is. -/
def atP (l : List (Nat × Nat)) (id : Nat) : Option Nat := l.findIdx? (fun p => p.1 == id)
def atZ : Option Nat → Int
  | none => -1
  | some k => k
section
variable {w w' : World} {v : Value} {l : List (Nat × Nat)}
theorem SlP.fr (h : SlP w v l) {G : Nat → Prop} (f : Fr G w w') (hG : ∀ b, v.ownBlock = some b → ¬ G b) : SlP w' v l := SlC.fr h f hG
theorem SlP.fr0 (h : SlP w v l) (f : Fr NoF w w') : SlP w' v l := SlC.keep h f
theorem SlP.shape (h : SlP w v l) : ∃ a c, v = .slice a l.length c ∧ l.length ≤ c ∧ c ≤ maxLen := SlC.shape h
theorem SlP.at (h : SlP w v l) {i : Nat} (hi : i < l.length) : ∃ b off c, v = .slice (some ⟨b, off, none⟩) l.length c ∧ l.length ≤ c ∧ c ≤ maxLen ∧ b < w.heap.size ∧ w.cell? ⟨b, off + i * 2, none⟩ = some (.int .u32 (l[i].1 : Nat)) ∧ w.cell? ⟨b, off + (i * 2 + 1), none⟩ = some (.int .u64 (l[i].2 : Nat)) := by
  obtain ⟨b, off, c, e, h1, h2, h3, h4⟩ := SlC.at h hi (by omega)
  exact ⟨b, off, c, e, h1, h2, h3, h4 _ _ (plC_at l hi).1, h4 _ _ (plC_at l hi).2⟩
theorem atP_none {l : List (Nat × Nat)} {id : Nat} (h : ∀ k (hk : k < l.length), ¬ l[k].1 = id) : atP l id = none := by
  unfold atP
  rw [List.findIdx?_eq_none_iff]
  intro p hp
  obtain ⟨k, hk, rfl⟩ := List.mem_iff_getElem.1 hp
  simpa using h k hk
theorem atP_some {l : List (Nat × Nat)} {id k : Nat} (hk : k < l.length) (h : l[k].1 = id) (hn : ∀ j (hj : j < k), ¬ (l[j]'(by omega)).1 = id) : atP l id = some k := by
  unfold atP
  rw [List.findIdx?_eq_some_iff_getElem]
  exact ⟨hk, by simpa using h, fun j hj => by simpa using hn j hj⟩
end
end Go.Proofs.YtcdakiodmgdepaaDoor

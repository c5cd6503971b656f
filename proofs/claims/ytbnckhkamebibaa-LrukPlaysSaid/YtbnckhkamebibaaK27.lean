/-
  The document's queue: a list of things in their order: less, Drop, Put.
-/
import Derived.Test.YtbnckhkamebibaaK26
namespace Go.Proofs.Ytbnckhkamebibaa
open Go.RowKit Go.Maps
set_option linter.unusedVariables false

/-- v holds the things of l. -/
def IL (w : World) (v : Value) (l : List Th) : Prop := SlC w 3 v l.length (l.flatMap thC)
theorem thC_one (l : List Th) : ∀ u ∈ l.flatMap thC, u.oneCell' = true := by
  intro u hu
  obtain ⟨t, _, h⟩ := List.mem_flatMap.1 hu
  simp [thC] at h
  rcases h with rfl | rfl | rfl <;> rfl
theorem thC_length (l : List Th) : (l.flatMap thC).length = l.length * 3 := by
  induction l with
  | nil => rfl
  | cons t l ih => rw [List.flatMap_cons, List.length_append, ih, List.length_cons]; show 3 + _ = _; omega
theorem thC_get : ∀ (l : List Th) (k : Nat) (hk : k < l.length), (l.flatMap thC)[k * 3]? = some (.int .i64 l[k].x) ∧ (l.flatMap thC)[k * 3 + 1]? = some (.int .i64 l[k].a) ∧ (l.flatMap thC)[k * 3 + 2]? = some (.int .i64 l[k].b) := by
  intro l
  induction l with
  | nil => intro k hk; simp at hk
  | cons t l ih =>
    intro k hk
    have e : ((t :: l).flatMap thC) = Value.int .i64 t.x :: Value.int .i64 t.a :: Value.int .i64 t.b :: (l.flatMap thC) := rfl
    rw [e]
    cases k with
    | zero => exact ⟨rfl, rfl, rfl⟩
    | succ k =>
      have hk' : k < l.length := by simpa using hk
      obtain ⟨h1, h2, h3⟩ := ih k hk'
      rw [show (k + 1) * 3 = k * 3 + 1 + 1 + 1 from by omega]
      exact ⟨h1, h2, h3⟩
section
variable {w w' : World} {v : Value} {l : List Th} {base : Nat}
theorem IL.fr (h : IL w v l) {G : Nat → Prop} (f : Fr G w w') (hG : ∀ b, v.ownBlock = some b → ¬ G b) : IL w' v l := SlC.fr h f hG
theorem IL.fr0 (h : IL w v l) (f : Fr NoF w w') : IL w' v l := SlC.fr h f (fun _ _ q => q)
theorem IL.lt (h : IL w v l) : ∀ b, v.ownBlock = some b → b < w.heap.size := SlC.lt h
theorem IL.shape (h : IL w v l) : ∃ a c, v = .slice a l.length c ∧ l.length ≤ c ∧ c ≤ 9223372036854775807 := by
  obtain ⟨a, c, e, h1, h2⟩ := SlC.shape h
  exact ⟨a, c, e, h1, by unfold maxLen at h2; omega⟩
theorem IL.at (h : IL w v l) {k : Nat} (hk : k < l.length) : ∃ b off c, v = .slice (some ⟨b, off, none⟩) l.length c ∧ b < w.heap.size ∧ w.cell? ⟨b, off + k * 3, none⟩ = some (.int .i64 l[k].x) ∧ w.cell? ⟨b, off + k * 3 + 1, none⟩ = some (.int .i64 l[k].a) ∧ w.cell? ⟨b, off + k * 3 + 2, none⟩ = some (.int .i64 l[k].b) := by
  obtain ⟨b, off, c, e, h1, h2, h3, h4⟩ := SlC.at h hk (by omega)
  obtain ⟨g1, g2, g3⟩ := thC_get l k hk
  exact ⟨b, off, c, e, h3, h4 _ _ g1, by rw [Nat.add_assoc]; exact h4 _ _ g2, by rw [Nat.add_assoc]; exact h4 _ _ g3⟩
theorem take_snoc {α : Type} (l : List α) {k : Nat} (hk : k < l.length) : l.take (k + 1) = l.take k ++ [l[k]] := by simp

def dropT (l : List Th) (x : Int) : List Th := l.filter (fun t => decide (¬ t.x = x))
theorem dropT_len (l : List Th) (x : Int) : (dropT l x).length ≤ l.length := List.length_filter_le _ _
theorem dropT_snoc (l : List Th) (x : Int) (t : Th) : dropT (l ++ [t]) x = if t.x = x then dropT l x else dropT l x ++ [t] := by
  unfold dropT
  rw [List.filter_append]
  by_cases h : t.x = x
  · rw [if_pos h]; simp [h]
  · rw [if_neg h]; simp [h]
end
end Go.Proofs.Ytbnckhkamebibaa

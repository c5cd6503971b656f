/-
  A slice over a block of its own (or nil), its cells as a function: read, written, grown, shortened. No program in sight.
-/
import Derived.Test.YtmpjnphnljakiaaGreatDoorK02
namespace Go.Proofs.YtmpjnphnljakiaaGreatDoor
open Go.RowKit
set_option linter.unusedVariables false

/-- The slice v has n elements of type e, of size cells each: c. -/
def SlF (w : World) (e : TypeId) (size : Nat) (v : Value) (n : Nat) (c : Nat → Value) : Prop := w.ownsRow 0 e size v n ((List.range (n * size)).map c)

section
variable {w w' : World} {e : TypeId} {size n : Nat} {v : Value} {c : Nat → Value}
theorem SlF.nil (w : World) (e : TypeId) (size : Nat) (c : Nat → Value) : SlF w e size (.slice none 0 0) 0 c := by
  unfold SlF; rw [Nat.zero_mul]; exact World.ownsRow_nil _ _ _ _
theorem SlF.congr (h : SlF w e size v n c) {c' : Nat → Value} (hc : ∀ i, i < n * size → c i = c' i) : SlF w e size v n c' := by
  unfold SlF at *
  have : (List.range (n * size)).map c = (List.range (n * size)).map c' := List.map_congr_left (fun i hi => hc i (List.mem_range.1 hi))
  rw [← this]; exact h
theorem SlF.fr (h : SlF w e size v n c) {G : Nat → Prop} (f : Fr G w w') (hG : ∀ b, v.ownBlock = some b → ¬ G b) : SlF w' e size v n c := own_keep h f hG
theorem SlF.fr0 (h : SlF w e size v n c) (f : Fr NoF w w') : SlF w' e size v n c := own_keep h f (fun _ _ q => q)
theorem SlF.lt (h : SlF w e size v n c) : ∀ b, v.ownBlock = some b → b < w.heap.size := fun b hb => (World.ownsRow.lt h b hb).2
theorem SlF.shape (h : SlF w e size v n c) : ∃ a cap, v = .slice a n cap ∧ n ≤ cap ∧ cap ≤ maxLen := by
  obtain ⟨hl, h2⟩ := h
  rcases h2 with ⟨rfl, rfl⟩ | ⟨g, cap, cur, rfl, hg, hh, h3, h4, h5, h6⟩
  · exact ⟨none, 0, rfl, Nat.le_refl _, by unfold maxLen; omega⟩
  · exact ⟨_, cap, rfl, h3, h4⟩
/-- Where there is an element. -/
theorem SlF.at (h : SlF w e size v n c) (hn : 0 < n) : ∃ g cap, v = .slice (some ⟨g, 0, none⟩) n cap ∧ n ≤ cap ∧ cap ≤ maxLen ∧ g < w.heap.size ∧ (∀ i, w.frozen? ⟨g, i, none⟩ = false) ∧ (∀ i, i < n * size → w.cell? ⟨g, i, none⟩ = some (c i)) := by
  have hlt := h.lt
  obtain ⟨hl, h2⟩ := h
  rcases h2 with ⟨rfl, rfl⟩ | ⟨g, cap, cur, rfl, hg, hh, h3, h4, h5, h6⟩
  · omega
  · refine ⟨g, cap, rfl, h3, h4, hlt g rfl, fun i => by simp [World.frozen?, hh], fun i hi => ?_⟩
    have : ((List.range (n * size)).map c)[i]? = some (c i) := by simp [hi]
    rw [← h6, List.getElem?_take, if_pos (by simpa using hi)] at this
    simpa [World.cell?, hh] using this
theorem SlF.set {g cap : Nat} (h : SlF w e size (.slice (some ⟨g, 0, none⟩) n cap) n c) {i : Nat} (hi : i < n * size) (u : Value) : SlF (w.setCell ⟨g, i, none⟩ u) e size (.slice (some ⟨g, 0, none⟩) n cap) n (upd c i u) := by
  obtain ⟨hl, h2⟩ := h
  refine ⟨by simp, .inr ?_⟩
  rcases h2 with ⟨h2, _⟩ | ⟨g', cap', cur, h2, hg, hh, h3, h4, h5, h6⟩
  · cases h2
  · simp only [Value.slice.injEq, Option.some.injEq, Addr.mk.injEq] at h2
    obtain ⟨⟨rfl, _⟩, _, rfl⟩ := h2
    refine ⟨g, cap, cur.setIfInBounds i u, rfl, Nat.zero_le _, ?_, h3, h4, by simp [h5], ?_⟩
    · simp [World.setCell, Array.getElem?_modify, hh]
    · apply List.ext_getElem?
      intro j
      rw [List.getElem?_take]
      by_cases hj : j < n * size
      · have h7 : ((List.range (n * size)).map c)[j]? = some (c j) := by simp [hj]
        rw [← h6, List.getElem?_take, if_pos (by simpa using hj)] at h7
        rw [if_pos (by simpa using hj)]
        have h8 : ((List.range (n * size)).map (upd c i u))[j]? = some (upd c i u j) := by simp [hj]
        rw [h8, Array.toList_setIfInBounds, List.getElem?_set]
        by_cases e1 : i = j
        · subst e1
          have hlen : i < cur.toList.length := (List.getElem?_eq_some_iff.1 h7).1
          rw [if_pos rfl, if_pos hlen, upd_same]
        · rw [if_neg e1, h7, upd_other _ _ (fun q => e1 q.symm)]
      · rw [if_neg (by simpa using hj)]
        simp [Nat.le_of_not_lt hj]
/-- Fewer elements. -/
theorem SlF.cut {a : Option Addr} {cap : Nat} (h : SlF w e size (.slice a n cap) n c) {m : Nat} (hm : m ≤ n) : SlF w e size (.slice a m cap) m c := by
  obtain ⟨hl, h2⟩ := h
  refine ⟨by simp, ?_⟩
  rcases h2 with ⟨h2, h3⟩ | ⟨g', cap', cur, h2, hg, hh, h3, h4, h5, h6⟩
  · simp only [Value.slice.injEq] at h2
    obtain ⟨rfl, rfl, rfl⟩ := h2
    left
    have : m = 0 := by omega
    subst this; exact ⟨rfl, rfl⟩
  · simp only [Value.slice.injEq] at h2
    obtain ⟨rfl, _, rfl⟩ := h2
    refine .inr ⟨g', cap, cur, rfl, hg, hh, by omega, h4, h5, ?_⟩
    have hmn : m * size ≤ n * size := Nat.mul_le_mul_right _ hm
    apply List.ext_getElem?
    intro j
    rw [List.getElem?_take]
    by_cases hj : j < m * size
    · rw [if_pos (by simpa using hj)]
      have h7 : ((List.range (n * size)).map c)[j]? = some (c j) := by simp [show j < n * size from by omega]
      rw [← h6, List.getElem?_take, if_pos (by omega)] at h7
      rw [h7]; simp [hj]
    · rw [if_neg (by simpa using hj)]
      simp [Nat.le_of_not_lt hj]
theorem range_snoc (c : Nat → Value) (k : Nat) (u : Value) : (List.range k).map c ++ [u] = (List.range (k + 1)).map (upd c k u) := by
  rw [List.range_succ, List.map_append]
  congr 1
  · apply List.map_congr_left
    intro i hi
    rw [upd_other]
    have := List.mem_range.1 hi
    omega
  · simp [upd_same]
/-- One element of one cell more. -/
theorem SlF.snoc1 {k : Nat} {u : Value} (h : w.ownsRow 0 e 1 v (k + 1) ((List.range (k * 1)).map c ++ [u])) : SlF w e 1 v (k + 1) (upd c k u) := by
  unfold SlF
  rw [Nat.mul_one] at *
  rw [← range_snoc]; exact h
/-- .. of two cells. -/
theorem SlF.snoc2 {k : Nat} {u1 u2 : Value} (h : w.ownsRow 0 e 2 v (k + 1) ((List.range (k * 2)).map c ++ [u1, u2])) : SlF w e 2 v (k + 1) (upd (upd c (k * 2) u1) (k * 2 + 1) u2) := by
  unfold SlF
  rw [show (k + 1) * 2 = k * 2 + 1 + 1 from by omega, ← range_snoc, ← range_snoc, List.append_assoc]
  exact h
end
/-- Numbers as cells. -/
def uN (g : Nat → Nat) (i : Nat) : Value := .int .u32 (g i : Nat)
theorem uN_set (g : Nat → Nat) (i x : Nat) : upd (uN g) i (.int .u32 (x : Nat)) = uN (upd g i x) := by
  funext j
  by_cases e : j = i
  · subst e; simp [upd_same, uN]
  · rw [upd_other _ _ e]; simp [uN, upd_other _ _ e]
end Go.Proofs.YtmpjnphnljakiaaGreatDoor

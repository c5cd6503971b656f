/-
  Slices of ints as they are read: what a slice value holds; package hatcheckref02's Same.
-/
import Derived.Test.YtoainbdkhhblbaaRows
import Derived.Test.YtoainbdkhhblbaaK01
import Derived.WalkSpells
import Derived.Lib.Hide
import Derived.Deep.DeepMust
import Derived.Deep.QuietTactic
import Derived.BigQuiet
namespace Go.Proofs.Ytoainbdkhhblbaa
open Go.RowKit
set_option linter.unusedVariables false

def nums (l : List Nat) : List Int := l.map fun (x : Nat) => (x : Int)
/-- The slice v holds the numbers zs. -/
def SlI (w : World) (v : Value) (zs : List Int) : Prop :=
  ∃ a c, v = .slice a zs.length c ∧ zs.length ≤ c ∧ c ≤ maxLen ∧ ((a = none ∧ c = 0) ∨ ∃ b off, a = some ⟨b, off, none⟩ ∧ b < w.heap.size ∧ ∀ (j : Nat) (z : Int), zs[j]? = some z → w.cell? ⟨b, off + j, none⟩ = some (.int .i64 z))
theorem SlI.nil (w : World) : SlI w (.slice none 0 0) [] := ⟨none, 0, rfl, by simp, by unfold maxLen; omega, .inl ⟨rfl, rfl⟩⟩
theorem SlI.len {w : World} {v : Value} {zs : List Int} (h : SlI w v zs) : zs.length ≤ maxLen := by
  obtain ⟨a, c, _, h1, h2, _⟩ := h; omega
theorem SlI.at {w : World} {v : Value} {zs : List Int} (h : SlI w v zs) {k : Nat} (hk : k < zs.length) : ∃ b off c, v = .slice (some ⟨b, off, none⟩) zs.length c ∧ zs.length ≤ c ∧ c ≤ maxLen ∧ b < w.heap.size ∧ ∀ (j : Nat) (z : Int), zs[j]? = some z → w.cell? ⟨b, off + j, none⟩ = some (.int .i64 z) := by
  obtain ⟨a, c, rfl, h1, h2, h3⟩ := h
  rcases h3 with ⟨_, rfl⟩ | ⟨b, off, rfl, hb, hc⟩
  · omega
  · exact ⟨b, off, c, rfl, h1, h2, hb, hc⟩
/-- A slice that came in: its elements are the numbers zs. -/
def ArgI (w : World) (v : Value) (zs : List Int) : Prop :=
  ∃ a c, v = .slice a zs.length c ∧ zs.length ≤ c ∧ c ≤ maxLen ∧ (0 < zs.length → ∃ b off, a = some ⟨b, off, none⟩ ∧ b < w.heap.size ∧ ∀ (j : Nat) (z : Int), zs[j]? = some z → w.cell? ⟨b, off + j, none⟩ = some (.int .i64 z))
theorem ArgI.at {w : World} {v : Value} {zs : List Int} (h : ArgI w v zs) {k : Nat} (hk : k < zs.length) : ∃ b off c, v = .slice (some ⟨b, off, none⟩) zs.length c ∧ zs.length ≤ c ∧ c ≤ maxLen ∧ b < w.heap.size ∧ ∀ (j : Nat) (z : Int), zs[j]? = some z → w.cell? ⟨b, off + j, none⟩ = some (.int .i64 z) := by
  obtain ⟨a, c, rfl, h1, h2, h3⟩ := h
  obtain ⟨b, off, rfl, hb, hc⟩ := h3 (by omega)
  exact ⟨b, off, c, rfl, h1, h2, hb, hc⟩
theorem ArgI.len {w : World} {v : Value} {zs : List Int} (h : ArgI w v zs) : zs.length ≤ maxLen := by
  obtain ⟨a, c, _, h1, h2, _⟩ := h; omega
/-- .. out of the row's own reading of it. -/
theorem ArgI.ofRow {w : World} {a : Addr} {len cap : Nat} {zs : List Int} (hl : len ≤ cap) (hm : cap ≤ maxLen) (hz : len ≤ zs.length) (hcell : ∀ i, i < zs.length → w.cell? (a.add i) = some (.int .i64 (zs.getD i 0))) :
    ArgI w (.slice (some a) len cap) (zs.take len) := by
  have e : (zs.take len).length = len := by simp; omega
  refine ⟨some a, cap, by rw [e], by rw [e]; exact hl, hm, fun h0 => ?_⟩
  rw [e] at h0
  obtain ⟨b, off, spot⟩ := a
  have c0 := hcell 0 (by omega)
  have hs : spot = none := by
    cases spot with
    | none => rfl
    | some q =>
      simp only [Addr.add, World.cell?] at c0
      split at c0 <;> simp at c0
  subst hs
  refine ⟨b, off, rfl, (by have c1 : w.cell? ⟨b, off, none⟩ = some (.int .i64 (zs.getD 0 0)) := c0; have := World.block_lt_of_cell? (w := w) (a := ⟨b, off, none⟩) c1; exact this), fun j z hj => ?_⟩
  have hjl : j < len := by
    have := (List.getElem?_eq_some_iff.1 hj).1
    omega
  have cj := hcell j (by omega)
  have e2 : ({ block := b, off := off, spot := none } : Addr).add j = ⟨b, off + j, none⟩ := by
    cases j with
    | zero => rfl
    | succ j => simp [Addr.add]
  rw [e2] at cj
  rw [cj]
  rw [List.getElem?_take, if_pos hjl] at hj
  simp [hj]
theorem SlI.fr {w w' : World} {v : Value} {zs : List Int} (h : SlI w v zs) {G : Nat → Prop} (f : Fr G w w') (hG : ∀ b, v.ownBlock = some b → ¬ G b) : SlI w' v zs := by
  obtain ⟨a, c, rfl, h1, h2, h3⟩ := h
  refine ⟨a, c, rfl, h1, h2, h3.imp id ?_⟩
  rintro ⟨b, off, rfl, hb, hc⟩
  exact ⟨b, off, rfl, Nat.lt_of_lt_of_le hb f.size, fun j z hj => by rw [f.cell (p := ⟨b, off + j, none⟩) hb (hG b rfl)]; exact hc j z hj⟩
theorem SlI.drewN {w : World} {v : Value} {zs : List Int} (h : SlI w v zs) (d : Nat) : SlI (w.drewN d) v zs := h.fr ((Fr.refl NoF w).drewN d) (fun _ _ q => q)
theorem SlI.ofOwn {w : World} {base e : Nat} {v : Value} {n : Nat} {zs : List Int} (h : w.ownsRow base e 1 v n (zs.map (Value.int .i64))) : SlI w v zs ∧ zs.length = n ∧ ∀ b, v.ownBlock = some b → base ≤ b := by
  obtain ⟨h1, h2⟩ := h
  simp only [List.length_map, Nat.mul_one] at h1
  subst h1
  rcases h2 with ⟨rfl, h2⟩ | ⟨g, cap, cur, rfl, hg, hh, h3, h4, h5, h6⟩
  · have : zs = [] := List.eq_nil_of_length_eq_zero h2
    subst this
    exact ⟨SlI.nil w, rfl, fun b hb => by cases hb⟩
  · refine ⟨⟨_, cap, rfl, h3, h4, .inr ⟨g, 0, rfl, ?_, ?_⟩⟩, rfl, fun b hb => by simp [Value.ownBlock] at hb; omega⟩
    · rcases Nat.lt_or_ge g w.heap.size with h' | h'
      · exact h'
      · simp [Array.getElem?_eq_none h'] at hh
    · intro j z hj
      have hjl : j < zs.length := (List.getElem?_eq_some_iff.1 hj).1
      have e1 : (zs.map (Value.int .i64))[j]? = some (.int .i64 z) := by simp [hj]
      rw [← h6, List.getElem?_take, if_pos (by omega)] at e1
      simpa [World.cell?, hh] using e1

theorem infoInt : (Try.prog.info? 3).map (fun i => (i.zero, i.size, i.bytes)) = some (some (.int .i64 0), 1, 8) := by kernel_rfl

end Go.Proofs.Ytoainbdkhhblbaa

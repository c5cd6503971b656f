/-
  A slice of things that may happen, that came in, out of a row's own reading of it.
-/
import Derived.Test.YtbnckhkamebibaaK38
import Derived.ProofKit
import Derived.OpenShut
import Derived.ChangeOld
import Derived.ChangeSame
import Derived.Below
import Derived.Deep.Slices
import Derived.Deep.Strs
namespace Go.Proofs.Ytbnckhkamebibaa
open Go.ChangeShapes Go.WideShapes Go.ChangeAt Go.RowKit
set_option linter.unusedVariables false

section
open Go.Deep
theorem cells_opQ : Try.prog.cellsOf 65 = 2 := by kernel_rfl
theorem cells_intQ : Try.prog.cellsOf 3 = 1 := by kernel_rfl
theorem cells_u32Q : Try.prog.cellsOf 35 = 1 := by kernel_rfl
theorem add_atQ (b off i j : Nat) : ((({ block := b, off := off, spot := none } : Addr).add (i * 2)).add j) = ⟨b, off + i * 2 + j, none⟩ := by
  unfold Addr.add
  by_cases h1 : i * 2 = 0
  · by_cases h2 : j = 0
    · simp [h1, h2]
    · simp [h1, h2]
  · by_cases h2 : j = 0
    · simp [h1, h2]
    · simp [h1, h2]
theorem flat2_get : ∀ {zs : List (Int × Int)} {j : Nat} {u : Value}, (zs.flatMap fun z => [Value.int .i64 z.1, Value.int .u32 z.2])[j]? = some u → ∃ z, zs[j / 2]? = some z ∧ ((j % 2 = 0 ∧ u = .int .i64 z.1) ∨ (j % 2 = 1 ∧ u = .int .u32 z.2))
  | [], j, u, h => by simp at h
  | z :: zs, 0, u, h => by simp at h; exact ⟨z, by simp, .inl ⟨rfl, h.symm⟩⟩
  | z :: zs, 1, u, h => by simp at h; exact ⟨z, by simp, .inr ⟨rfl, h.symm⟩⟩
  | z :: zs, j + 2, u, h => by
    have h : (zs.flatMap fun z => [Value.int .i64 z.1, Value.int .u32 z.2])[j]? = some u := by simpa using h
    obtain ⟨z', h1, h2⟩ := flat2_get h
    exact ⟨z', by rw [show (j + 2) / 2 = j / 2 + 1 from by omega]; simpa using h1, by rw [show (j + 2) % 2 = j % 2 from by omega]; exact h2⟩
theorem flat2_len (zs : List (Int × Int)) : (zs.flatMap fun z => [Value.int .i64 z.1, Value.int .u32 z.2]).length = zs.length * 2 := by
  induction zs with
  | nil => rfl
  | cons z zs ih => simp only [List.flatMap_cons, List.length_append, ih, List.length_cons, List.length_nil]; omega
theorem list_two {α : Type} {l : List α} (h : l.length = 2) : ∃ a b, l = [a, b] := by
  match l, h with
  | [a, b], _ => exact ⟨a, b, rfl⟩
theorem argQ_of {H : Type} {enc : TypeId × Value → H} {W : World} {base fuel : Nat} {held : Bool} {a1 : Option Addr} {len1 cap1 : Nat} {x : DataW H × List MemPlace}
    (h : DataW.trod enc Try.prog W base (fun _ => true) held fuel 23 [.slice a1 len1 cap1] = some x) : ∃ zs, ArgQ W (.slice a1 len1 cap1) zs ∧ zs.length = len1 := by
  rcases open_slice Try.underlying23 h with ⟨hcs, _⟩ | ⟨a, len, cap, m, n, D, Pl, hcs, _, hl, hm, hmm, _, hi⟩
  · simp at hcs
    obtain ⟨rfl, rfl, rfl⟩ := hcs
    exact ⟨[], ⟨⟨none, 0, rfl, by simp, by unfold maxLen; omega⟩, fun q => by simp at q, fun z hz => (by cases hz)⟩, rfl⟩
  · simp at hcs
    obtain ⟨rfl, rfl, rfl⟩ := hcs
    simp only [if_true] at hmm
    have each : ∀ i, ∃ z : Int × Int, i < len1 → W.cell? ((a.add (i * 2)).add 0) = some (.int .i64 z.1) ∧ W.cell? ((a.add (i * 2)).add 1) = some (.int .u32 z.2) ∧ 0 ≤ z.2 ∧ z.2 < 4294967296 := by
      intro i
      by_cases hil : i < len1
      · obtain ⟨cs, hc, ht⟩ := hi i (by omega)
        rw [cells_opQ] at hc
        obtain ⟨_, hlen, hat⟩ := World.cells?_some hc
        obtain ⟨y0, y1, n', _, _, t0, t1⟩ := trod_struct2 Try.underlying65 ht
        obtain ⟨v0, v1, rfl⟩ := list_two hlen
        have g0 := hat 0 (by omega)
        have g1 := hat 1 (by omega)
        simp only [cells_intQ, cells_u32Q, List.drop_zero, List.drop_succ_cons, List.take_succ_cons, List.take_zero] at t0 t1
        obtain ⟨z0, e0, _, _⟩ := DataW.trod_int Try.underlying3 t0
        obtain ⟨z1, e1, _, wf⟩ := DataW.trod_int Try.underlying35 t1
        simp at e0 e1
        subst e0 e1
        have hr : 0 ≤ z1 ∧ z1 < 4294967296 := by
          have h1 : IntKind.u32.min ≤ z1 ∧ z1 ≤ IntKind.u32.max := by simpa [Lit.wf] using wf
          have e1 : IntKind.u32.min = 0 := rfl
          have e2 : IntKind.u32.max = 4294967295 := rfl
          omega
        exact ⟨(z0, z1), fun _ => ⟨g0, g1, hr⟩⟩
      · exact ⟨(0, 0), fun h => (hil h).elim⟩
    obtain ⟨f, hf⟩ := Classical.skolem.1 each
    have hzl : ((List.range len1).map f).length = len1 := by simp
    refine ⟨(List.range len1).map f, ⟨⟨some a, cap1, by rw [hzl], by rw [hzl]; exact hl, hm⟩, fun h0 => ?_, fun z hz => ?_⟩, hzl⟩
    · rw [hzl] at h0
      refine ⟨some a, cap1, by rw [hzl], flat2_len _, fun u hu => ?_, by rw [hzl]; exact hl, hm, ?_⟩
      · obtain ⟨z, _, hz⟩ := List.mem_flatMap.1 hu
        simp at hz; rcases hz with rfl | rfl <;> rfl
      · obtain ⟨b, off, spot⟩ := a
        have c0 := (hf 0 h0).1
        have hs : spot = none := by
          cases spot with
          | none => rfl
          | some q =>
            simp only [Nat.zero_mul, Addr.add, World.cell?] at c0
            split at c0 <;> simp at c0
        subst hs
        rw [add_atQ] at c0
        refine .inr ⟨b, off, rfl, by have := World.block_lt_of_cell? (w := W) (a := ⟨b, off + 0 * 2 + 0, none⟩) c0; exact this, fun j u hj => ?_⟩
        obtain ⟨z, hz, hu⟩ := flat2_get hj
        rw [List.getElem?_map] at hz
        have hjl : j / 2 < len1 := by
          rcases Nat.lt_or_ge (j / 2) len1 with q | q
          · exact q
          · rw [List.getElem?_eq_none (by simpa using q)] at hz; cases hz
        rw [List.getElem?_range hjl] at hz
        obtain rfl : f (j / 2) = z := by simpa using hz
        have hh := hf (j / 2) hjl
        rw [add_atQ, add_atQ] at hh
        rcases hu with ⟨q, rfl⟩ | ⟨q, rfl⟩
        · have : off + j / 2 * 2 + 0 = off + j := by omega
          rw [this] at hh; exact hh.1
        · have : off + j / 2 * 2 + 1 = off + j := by omega
          rw [this] at hh; exact hh.2.1
    · obtain ⟨i, hi', rfl⟩ := List.mem_map.1 hz
      exact (hf i (List.mem_range.1 hi')).2.2
end
end Go.Proofs.Ytbnckhkamebibaa

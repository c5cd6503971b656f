/-
  What layer 9's statements are handed, out of a row's own reading of it: a slice of things to be done, a slice of numbers.
-/
import Derived.Test.YtnideelidfpicaaGreatDoorK47
import Derived.Test.YtnideelidfpicaaGreatDoorK52
import Derived.Deep.Slices
import Derived.Deep.Strs
namespace Go.Proofs.YtnideelidfpicaaGreatDoor
open Go.ChangeShapes Go.WideShapes Go.ChangeAt Go.RowKit
set_option linter.unusedVariables false
set_option maxRecDepth 100000

/-- A thing to be done. -/
structure OpZ where
  k : Int
  id : Nat
  x : Nat
/-- A slice of things to be done, that came in. -/
def ArgZ (w : World) (v : Value) (zs : List OpZ) : Prop :=
  ∃ a c, v = .slice a zs.length c ∧ zs.length ≤ c ∧ c ≤ maxLen ∧ (0 < zs.length → ∃ b off, a = some ⟨b, off, none⟩ ∧ b < w.heap.size ∧ ∀ (j : Nat) (z : OpZ), zs[j]? = some z →
    w.cell? ⟨b, off + j * 3, none⟩ = some (.int .i64 z.k) ∧ w.cell? ⟨b, off + j * 3 + 1, none⟩ = some (.int .u32 z.id) ∧ w.cell? ⟨b, off + j * 3 + 2, none⟩ = some (.int .u64 z.x)) ∧
    ∀ z ∈ zs, z.id < 4294967296 ∧ z.x < 18446744073709551616
section
open Go.Deep
theorem cellsOpO : Tryz.prog.cellsOf 45 = 3 := by kernel_rfl
theorem cellsIo : Tryz.prog.cellsOf 3 = 1 := by kernel_rfl
theorem cellsUo : Tryz.prog.cellsOf 43 = 1 := by kernel_rfl
theorem cellsVo : Tryz.prog.cellsOf 24 = 1 := by kernel_rfl
theorem trod3o {H : Type} {enc : TypeId × Value → H} {P : Program} {w : World} {base : Nat} {spare : Nat → Bool} {held : Bool} {t : TypeId} {f0 f1 f2 : Field} {fuel : Nat} {cs : List Value} {x : DataW H × List MemPlace} (ht : P.underlying t = some (.struct #[f0, f1, f2])) (h : DataW.trod enc P w base spare held fuel t cs = some x) :
    ∃ y0 y1 y2 n, x = (.agg [y0.1, y1.1, y2.1], y0.2 ++ (y1.2 ++ y2.2)) ∧ DataW.trod enc P w base spare held n f0.type ((cs.drop f0.offset).take (P.cellsOf f0.type)) = some y0 ∧
      DataW.trod enc P w base spare held n f1.type ((cs.drop f1.offset).take (P.cellsOf f1.type)) = some y1 ∧ DataW.trod enc P w base spare held n f2.type ((cs.drop f2.offset).take (P.cellsOf f2.type)) = some y2 := by
  obtain ⟨xs, n, _, rfl, hl, hlen, hf⟩ := DataW.trod_struct ht h
  match xs, hlen with
  | [y0, y1, y2], _ => exact ⟨y0, y1, y2, n, by simp, by simpa using hf 0 f0 rfl, by simpa using hf 1 f1 rfl, by simpa using hf 2 f2 rfl⟩
theorem nat_ofO {k : IntKind} {z : Int} (h : (Lit.int k z).wf = true) (hm : k.min = 0) : ∃ m : Nat, z = (m : Int) ∧ (m : Int) ≤ k.max := by
  simp only [Lit.wf, Bool.and_eq_true, decide_eq_true_eq] at h
  obtain ⟨m, rfl⟩ := Int.eq_ofNat_of_zero_le (show 0 ≤ z by omega)
  exact ⟨m, rfl, h.2⟩
theorem add_at3o (b off i j : Nat) : ((({ block := b, off := off, spot := none } : Addr).add (i * 3)).add j) = ⟨b, off + i * 3 + j, none⟩ := by
  unfold Addr.add
  by_cases h1 : i * 3 = 0
  · by_cases h2 : j = 0
    · simp [h1, h2]
    · simp [h1, h2]
  · by_cases h2 : j = 0
    · simp [h1, h2]
    · simp [h1, h2]
theorem list3o {α : Type} {cs : List α} (h : cs.length = 3) : ∃ c0 c1 c2, cs = [c0, c1, c2] := by
  match cs, h with
  | [c0, c1, c2], _ => exact ⟨c0, c1, c2, rfl⟩
theorem argO_of {H : Type} {enc : TypeId × Value → H} {W : World} {base fuel : Nat} {held : Bool} {a1 : Option Addr} {len1 cap1 : Nat} {x : DataW H × List MemPlace}
    (h : DataW.trod enc Tryz.prog W base (fun _ => true) held fuel 22 [.slice a1 len1 cap1] = some x) : ∃ zs, ArgZ W (.slice a1 len1 cap1) zs := by
  rcases open_slice Tryz.underlying22 h with ⟨hcs, _⟩ | ⟨a, len, cap, m, n, D, Pl, hcs, _, hl, hm, hmm, _, hi⟩
  · simp at hcs
    obtain ⟨rfl, rfl, rfl⟩ := hcs
    exact ⟨[], none, 0, rfl, by simp, by unfold maxLen; omega, fun h => by simp at h, fun z hz => by cases hz⟩
  · simp at hcs
    obtain ⟨rfl, rfl, rfl⟩ := hcs
    simp only [if_true] at hmm
    have each : ∀ i, ∃ z : OpZ, (z.id < 4294967296 ∧ z.x < 18446744073709551616) ∧ (i < len1 → W.cell? ((a.add (i * 3)).add 0) = some (.int .i64 z.k) ∧ W.cell? ((a.add (i * 3)).add 1) = some (.int .u32 z.id) ∧ W.cell? ((a.add (i * 3)).add 2) = some (.int .u64 z.x)) := by
      intro i
      by_cases hil : i < len1
      · obtain ⟨cs, hc, ht⟩ := hi i (by omega)
        rw [cellsOpO] at hc
        obtain ⟨_, hlen, hat⟩ := World.cells?_some hc
        obtain ⟨y0, y1, y2, n', _, t0, t1, t2⟩ := trod3o Tryz.underlying45 ht
        obtain ⟨v0, v1, v2, rfl⟩ := list3o hlen
        have g0 := hat 0 (by omega)
        have g1 := hat 1 (by omega)
        have g2 := hat 2 (by omega)
        simp only [cellsIo, cellsUo, cellsVo, List.drop_zero, List.drop_succ_cons, List.take_succ_cons, List.take_zero] at t0 t1 t2
        obtain ⟨z0, e0, _, _⟩ := DataW.trod_int Tryz.underlying3 t0
        obtain ⟨z1, e1, _, wf1⟩ := DataW.trod_int Tryz.underlying43 t1
        obtain ⟨z2, e2, _, wf2⟩ := DataW.trod_int Tryz.underlying24 t2
        obtain ⟨m1, rfl, b1⟩ := nat_ofO wf1 rfl
        obtain ⟨m2, rfl, b2⟩ := nat_ofO wf2 rfl
        simp at e0 e1 e2
        subst e0 e1 e2
        exact ⟨⟨z0, m1, m2⟩, ⟨by show m1 < 4294967296; simp [IntKind.max, IntKind.bits, IntKind.signed] at b1; omega, by show m2 < 18446744073709551616; simp [IntKind.max, IntKind.bits, IntKind.signed] at b2; omega⟩, fun _ => ⟨g0, g1, g2⟩⟩
      · exact ⟨⟨0, 0, 0⟩, ⟨by decide, by decide⟩, fun h => (hil h).elim⟩
    obtain ⟨f, hf⟩ := Classical.skolem.1 each
    refine ⟨(List.range len1).map f, some a, cap1, by simp, by simp; exact hl, hm, fun h0 => ?_, fun z hz => ?_⟩
    rotate_left
    · obtain ⟨i, _, rfl⟩ := List.mem_map.1 hz
      exact (hf i).1
    simp only [List.length_map, List.length_range] at h0
    obtain ⟨b, off, spot⟩ := a
    have c0 := ((hf 0).2 h0).1
    have hs : spot = none := by
      cases spot with
      | none => rfl
      | some q =>
        simp only [Nat.zero_mul, Addr.add, World.cell?] at c0
        split at c0 <;> simp at c0
    subst hs
    rw [add_at3o] at c0
    refine ⟨b, off, rfl, by have := World.block_lt_of_cell? (w := W) (a := ⟨b, off + 0 * 3 + 0, none⟩) c0; exact this, fun j z hj => ?_⟩
    rw [List.getElem?_map] at hj
    have hjl : j < len1 := by
      rcases Nat.lt_or_ge j len1 with q | q
      · exact q
      · rw [List.getElem?_eq_none (by simpa using q)] at hj; cases hj
    rw [List.getElem?_range hjl] at hj
    obtain rfl : f j = z := by simpa using hj
    have := (hf j).2 hjl
    rw [add_at3o, add_at3o, add_at3o] at this
    exact this
theorem has_slice {W : World} {base : Nat} {a : Addr} {len1 cap1 : Nat} (h : Value.okWide Tryz.prog W .any base 23 (.slice (some a) len1 cap1)) : a.spot = none ∧ a.block < W.heap.size := by
  simp only [Value.okWide, Tryz.underlying23, Cell.okWide, Cell.ok] at h
  obtain ⟨_, _, _, h2, row, cells, h3, _⟩ := h
  refine ⟨h2, ?_⟩
  unfold World.shape? at h3
  rcases Nat.lt_or_ge a.block W.heap.size with q | q
  · exact q
  · rw [Array.getElem?_eq_none q] at h3; cases h3
set_option maxRecDepth 100000 in
theorem argI_of {H : Type} {enc : TypeId × Value → H} {W : World} {base fuel : Nat} {held : Bool} {a1 : Option Addr} {len1 cap1 : Nat} {x : DataW H × List MemPlace}
    (hv : ∀ a, a1 = some a → a.spot = none ∧ a.block < W.heap.size) (h : DataW.trod enc Tryz.prog W base (fun _ => true) held fuel 23 [.slice a1 len1 cap1] = some x) : ∃ l : List Int, SlZ W (.slice a1 len1 cap1) l ∧ l.length = len1 := by
  rcases open_slice Tryz.underlying23 h with ⟨hcs, _⟩ | ⟨a, len, cap, m, n, D, Pl, hcs, _, hl, hm, hmm, _, hi⟩
  · simp at hcs
    obtain ⟨rfl, rfl, rfl⟩ := hcs
    exact ⟨[], SlC.nil _ _, rfl⟩
  · simp at hcs
    obtain ⟨rfl, rfl, rfl⟩ := hcs
    simp only [if_true] at hmm
    have each : ∀ i, ∃ z : Int, i < len1 → W.cell? ((a.add (i * 1)).add 0) = some (.int .i64 z) := by
      intro i
      by_cases hil : i < len1
      · obtain ⟨cs, hc, ht⟩ := hi i (by omega)
        rw [cellsIo] at hc
        obtain ⟨_, hlen, hat⟩ := World.cells?_some hc
        match cs, hlen with
        | [v0], _ =>
          have g0 := hat 0 (by omega)
          obtain ⟨z0, e0, _, _⟩ := DataW.trod_int Tryz.underlying3 ht
          simp at e0
          subst e0
          exact ⟨z0, fun _ => g0⟩
      · exact ⟨0, fun h => (hil h).elim⟩
    obtain ⟨f, hf⟩ := Classical.skolem.1 each
    have hzl : ((List.range len1).map f).length = len1 := by simp
    refine ⟨(List.range len1).map f, ?_, hzl⟩
    unfold SlZ
    rw [hzl]
    by_cases h0 : 0 < len1
    · obtain ⟨b, off, spot⟩ := a
      have c0 := hf 0 h0
      have hs : spot = none := by
        cases spot with
        | none => rfl
        | some q =>
          simp only [Nat.zero_mul, Addr.add, World.cell?] at c0
          split at c0 <;> simp at c0
      subst hs
      have ad : ∀ i, ((({ block := b, off := off, spot := none } : Addr).add (i * 1)).add 0) = ⟨b, off + i, none⟩ := by
        intro i
        unfold Addr.add
        by_cases h1 : i = 0 <;> simp [h1]
      rw [ad] at c0
      refine ⟨_, cap1, rfl, by simp, fun u hu => ?_, hl, hm, .inr ⟨b, off, rfl, World.block_lt_of_cell? (w := W) (a := ⟨b, off + 0, none⟩) c0, fun j u hj => ?_⟩⟩
      · obtain ⟨z, _, rfl⟩ := List.mem_map.1 hu; rfl
      · rw [List.map_map, List.getElem?_map] at hj
        have hjl : j < len1 := by
          rcases Nat.lt_or_ge j len1 with q | q
          · exact q
          · rw [List.getElem?_eq_none (by simpa using q)] at hj; cases hj
        rw [List.getElem?_range hjl] at hj
        obtain rfl : Value.int .i64 (f j) = u := by simpa using hj
        have := hf j hjl
        rw [ad] at this
        exact this
    · obtain rfl : len1 = 0 := by omega
      obtain ⟨e1, e2⟩ := hv _ rfl
      obtain ⟨b, off, spot⟩ := a
      simp only at e1 e2
      subst e1
      exact ⟨_, cap1, rfl, by simp, fun u hu => by simp at hu, hl, hm, .inr ⟨b, off, rfl, e2, fun j u hj => by simp at hj⟩⟩
end
end Go.Proofs.YtnideelidfpicaaGreatDoor

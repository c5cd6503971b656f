/-
  QueueActs: whatever is done, one thing behind the other, all things are told in order: the row. No condition.
-/
import Derived.Test.YtpebonpibhdfoaaQueActs
import Derived.ProofKit
import Derived.OpenShut
import Derived.ChangeOld
import Derived.Below
import Derived.Deep.Slices
import Derived.Deep.Strs
namespace Go.Proofs.Ytpebonpibhdfoaa
open Go.ChangeShapes Go.WideShapes Go.ChangeAt Go.RowKit
set_option linter.unusedVariables false

section
open Go.Deep
theorem trod4 {H : Type} {enc : TypeId × Value → H} {P : Program} {w : World} {base : Nat} {spare : Nat → Bool} {held : Bool} {t : TypeId} {f0 f1 f2 f3 : Field} {fuel : Nat} {cs : List Value} {x : DataW H × List MemPlace} (ht : P.underlying t = some (.struct #[f0, f1, f2, f3])) (h : DataW.trod enc P w base spare held fuel t cs = some x) :
    ∃ y0 y1 y2 y3 n, DataW.trod enc P w base spare held n f0.type ((cs.drop f0.offset).take (P.cellsOf f0.type)) = some y0 ∧
      DataW.trod enc P w base spare held n f1.type ((cs.drop f1.offset).take (P.cellsOf f1.type)) = some y1 ∧ DataW.trod enc P w base spare held n f2.type ((cs.drop f2.offset).take (P.cellsOf f2.type)) = some y2 ∧
      DataW.trod enc P w base spare held n f3.type ((cs.drop f3.offset).take (P.cellsOf f3.type)) = some y3 := by
  obtain ⟨xs, n, _, rfl, hl, hlen, hf⟩ := DataW.trod_struct ht h
  match xs, hlen with
  | [y0, y1, y2, y3], _ => exact ⟨y0, y1, y2, y3, n, by simpa using hf 0 f0 rfl, by simpa using hf 1 f1 rfl, by simpa using hf 2 f2 rfl, by simpa using hf 3 f3 rfl⟩
theorem cells_opQ : Try.prog.cellsOf 28 = 4 := by kernel_rfl
theorem cells_int : Try.prog.cellsOf 3 = 1 := by kernel_rfl
theorem cells_i64 : Try.prog.cellsOf 2 = 1 := by kernel_rfl
theorem add_at4 (b off i j : Nat) : ((({ block := b, off := off, spot := none } : Addr).add (i * 4)).add j) = ⟨b, off + i * 4 + j, none⟩ := by
  unfold Addr.add
  by_cases h1 : i * 4 = 0
  · by_cases h2 : j = 0
    · simp [h1, h2]
    · simp [h1, h2]
  · by_cases h2 : j = 0
    · simp [h1, h2]
    · simp [h1, h2]
theorem list4 {α : Type} {cs : List α} (h : cs.length = 4) : ∃ c0 c1 c2 c3, cs = [c0, c1, c2, c3] := by
  match cs, h with
  | [c0, c1, c2, c3], _ => exact ⟨c0, c1, c2, c3, rfl⟩
theorem argP_of {H : Type} {enc : TypeId × Value → H} {W : World} {base fuel : Nat} {held : Bool} {a1 : Option Addr} {len1 cap1 : Nat} {x : DataW H × List MemPlace}
    (h : DataW.trod enc Try.prog W base (fun _ => true) held fuel 22 [.slice a1 len1 cap1] = some x) : ∃ zs, ArgP W (.slice a1 len1 cap1) zs := by
  rcases open_slice Try.underlying22 h with ⟨hcs, _⟩ | ⟨a, len, cap, m, n, D, Pl, hcs, _, hl, hm, hmm, _, hi⟩
  · simp at hcs
    obtain ⟨rfl, rfl, rfl⟩ := hcs
    exact ⟨[], none, 0, rfl, by simp, by unfold maxLen; omega, fun h => by simp at h, fun z hz => by cases hz⟩
  · simp at hcs
    obtain ⟨rfl, rfl, rfl⟩ := hcs
    simp only [if_true] at hmm
    have each : ∀ i, ∃ z : OpQ, (i64 z.x ∧ i64 z.a ∧ i64 z.b) ∧ (i < len1 → W.cell? ((a.add (i * 4)).add 0) = some (.int .i64 z.k) ∧ W.cell? ((a.add (i * 4)).add 1) = some (.int .i64 z.x) ∧ W.cell? ((a.add (i * 4)).add 2) = some (.int .i64 z.a) ∧ W.cell? ((a.add (i * 4)).add 3) = some (.int .i64 z.b)) := by
      intro i
      by_cases hil : i < len1
      · obtain ⟨cs, hc, ht⟩ := hi i (by omega)
        rw [cells_opQ] at hc
        obtain ⟨_, hlen, hat⟩ := World.cells?_some hc
        obtain ⟨y0, y1, y2, y3, n', t0, t1, t2, t3⟩ := trod4 Try.underlying28 ht
        obtain ⟨v0, v1, v2, v3, rfl⟩ := list4 hlen
        have g0 := hat 0 (by omega)
        have g1 := hat 1 (by omega)
        have g2 := hat 2 (by omega)
        have g3 := hat 3 (by omega)
        simp only [cells_int, cells_i64, List.drop_zero, List.drop_succ_cons, List.take_succ_cons, List.take_zero] at t0 t1 t2 t3
        obtain ⟨z0, e0, _, _⟩ := DataW.trod_int Try.underlying3 t0
        obtain ⟨z1, e1, _, wf1⟩ := DataW.trod_int Try.underlying3 t1
        obtain ⟨z2, e2, _, wf2⟩ := DataW.trod_int Try.underlying2 t2
        obtain ⟨z3, e3, _, wf3⟩ := DataW.trod_int Try.underlying2 t3
        simp at e0 e1 e2 e3
        subst e0 e1 e2 e3
        exact ⟨⟨z0, z1, z2, z3⟩, ⟨wf1, wf2, wf3⟩, fun _ => ⟨g0, g1, g2, g3⟩⟩
      · exact ⟨⟨0, 0, 0, 0⟩, ⟨rfl, rfl, rfl⟩, fun h => (hil h).elim⟩
    obtain ⟨f, hf⟩ := Classical.skolem.1 each
    refine ⟨(List.range len1).map f, some a, cap1, by simp, by simp; exact hl, hm, fun h0 => ?_, fun z hz => ?_⟩
    rotate_left
    · obtain ⟨i, _, rfl⟩ := List.mem_map.1 hz
      exact (hf i).1
    simp only [List.length_map, List.length_range] at h0
    obtain ⟨b, off, spot⟩ := a
    have c0 := ((hf 0).2 h0).1
    have hs : spot = none := by
      cases spot with
      | none => rfl
      | some q =>
        simp only [Nat.zero_mul, Addr.add, World.cell?] at c0
        split at c0 <;> simp at c0
    subst hs
    rw [add_at4] at c0
    refine ⟨b, off, rfl, by have := World.block_lt_of_cell? (w := W) (a := ⟨b, off + 0 * 4 + 0, none⟩) c0; exact this, fun j z hj => ?_⟩
    rw [List.getElem?_map] at hj
    have hjl : j < len1 := by
      rcases Nat.lt_or_ge j len1 with q | q
      · exact q
      · rw [List.getElem?_eq_none (by simpa using q)] at hj; cases hj
    rw [List.getElem?_range hjl] at hj
    obtain rfl : f j = z := by simpa using hj
    have := (hf j).2 hjl
    rw [add_at4, add_at4, add_at4, add_at4] at this
    exact this
end

namespace queueActs
theorem own : ownKnob Try.prog.godebug = none := by kernel_rfl
theorem laidOut : laidOutB Try.prog = true := by kernel_rfl

set_option maxRecDepth 100000 in
theorem lifted (os : Os) (started : os.Started) (H : Type) (enc : TypeId × Value → H) :
    ReturnsInHanded {} Try.checked os 3 .any (Rows.queueActsSpec.pre6 enc Try.prog Try.f3 Rows.queueActsRow.domain false) (Rows.queueActsSpec.post enc Try.prog Try.f3 false true false false) := by
  refine returnsInHanded_of_change (C := Try.checked) own started (by kernel_rfl) Try.func3
    (ChangeSpec.witness6 (enc := enc) (C := Try.checked) false ⟨#[], #[.slice none 0 0], []⟩ 8 (by kernel_rfl) (by kernel_rfl) (by kernel_rfl) (by kernel_rfl)) ?_
  intro W base args ds gs before hval0 hW hcnd _
  have hval : ∀ (j : Nat) t v, Try.f3.params[j]? = some t → args[j]? = some v → Value.okWide Try.prog W .any base t v := hval0
  have hW' := hW
  obtain ⟨p, q, hA0, hV, rfl, hfz, hnd⟩ := hW
  have hA : DataW.TrodAll enc Try.prog W 0 (fun _ => true) true Try.f3.params.toList args.toList ds p := hA0
  rw [Try.params3] at hA hval
  obtain ⟨v0, vs0, d0, ds0, p0, q0, hargs, rfl, rfl, h0, r0⟩ := trodAll_cons hA
  obtain ⟨rfl, rfl, rfl⟩ := trodAll_nil r0
  obtain rfl : args = #[v0] := by cases args; simp_all
  obtain ⟨rfl, rfl⟩ := trodVars_none hV
  obtain ⟨a2, len2, cap2, rfl⟩ := okWide_slice Try.underlying22 (hval 0 22 v0 rfl rfl)
  have k2 := h0
  have lt2 : ∀ x ∈ p0, x.block < W.heap.size := by obtain ⟨m, hm⟩ := k2; exact DataW.trod_lt m _ _ _ hm
  obtain ⟨zs, wz⟩ : ∃ zs, ArgP W (.slice a2 len2 cap2) zs := by
    obtain ⟨fuel, hf⟩ := h0
    exact argP_of hf
  clear hA0 hval0
  refine (queue_walk _ zs W wz).mono fun e W' ⟨he, hf⟩ => ?_
  have bel := hf.below
  subst he
  exact ⟨_, rfl, _, _, _, [], _, [], hW', trodAll_mk1 (shut_bool Try.underlying4 _), (trodAll_cons_mk (Below.trod laidOut (by kernel_rfl) (of_decide_eq_true (by kernel_rfl)) k2 bel lt2) trodAll_mk0), rfl, bel.frame _, fun h => by cases h⟩

/-- THE STATEMENT. -/
theorem proved : Rows.QueueActsSaid :=
  OpenClaim.holds_of_wide 3 Try.f3 rfl rfl rfl rfl rfl rfl rfl ⟨rfl, rfl, rfl, rfl, rfl⟩ rfl rfl rfl rfl rfl (by kernel_rfl) Try.func3 (by kernel_rfl)
    (of_decide_eq_true (by kernel_rfl)) (by unfold Func.isWrapper; first | (rw [if_pos (by decide +kernel)]; kernel_rfl) | (rw [if_neg (by decide +kernel)]; exact ⟨rfl, rfl⟩))
    (fun os started H enc _ => lifted os started H enc)
#print axioms proved
end queueActs
end Go.Proofs.Ytpebonpibhdfoaa

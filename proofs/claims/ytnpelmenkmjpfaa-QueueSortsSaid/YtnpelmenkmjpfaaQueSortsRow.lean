/-
  QueueSorts: things that are taken out, the least one first, come in the order of their keys; none comes twice: the row. No condition.
-/
import Derived.Test.YtnpelmenkmjpfaaQueSorts
import Derived.ProofKit
import Derived.OpenShut
import Derived.ChangeOld
import Derived.Below
import Derived.Deep.Slices
import Derived.Deep.Strs
namespace Go.Proofs.Ytnpelmenkmjpfaa
open Go.ChangeShapes Go.WideShapes Go.ChangeAt Go.RowKit
set_option linter.unusedVariables false

section
open Go.Deep
theorem cells_i64 : Try.prog.cellsOf 2 = 1 := by kernel_rfl
theorem add_at1 (b off i : Nat) : ((({ block := b, off := off, spot := none } : Addr).add (i * 1)).add 0) = ⟨b, off + i, none⟩ := by
  rw [Nat.mul_one]
  unfold Addr.add
  by_cases h1 : i = 0
  · simp [h1]
  · simp [h1]
theorem argZ_of {H : Type} {enc : TypeId × Value → H} {W : World} {base fuel : Nat} {held : Bool} {a1 : Option Addr} {len1 cap1 : Nat} {x : DataW H × List MemPlace}
    (h : DataW.trod enc Try.prog W base (fun _ => true) held fuel 47 [.slice a1 len1 cap1] = some x) : ∃ z, ArgZ W (.slice a1 len1 cap1) len1 z := by
  rcases open_slice Try.underlying47 h with ⟨hcs, _⟩ | ⟨a, len, cap, m, n, D, Pl, hcs, _, hl, hm, hmm, _, hi⟩
  · simp at hcs
    obtain ⟨rfl, rfl, rfl⟩ := hcs
    exact ⟨fun _ => 0, none, 0, rfl, by omega, by unfold maxLen; omega, fun h => by omega, fun j q => by omega⟩
  · simp at hcs
    obtain ⟨rfl, rfl, rfl⟩ := hcs
    simp only [if_true] at hmm
    have each : ∀ i, ∃ z : Int, i64 z ∧ (i < len1 → W.cell? ((a.add (i * 1)).add 0) = some (.int .i64 z)) := by
      intro i
      by_cases hil : i < len1
      · obtain ⟨cs, hc, ht⟩ := hi i (by omega)
        rw [cells_i64] at hc
        obtain ⟨_, hlen, hat⟩ := World.cells?_some hc
        have g0 := hat 0 (by omega)
        obtain ⟨z0, e0, _, wf⟩ := DataW.trod_int Try.underlying2 ht
        subst e0
        exact ⟨z0, wf, fun _ => g0⟩
      · exact ⟨0, rfl, fun h => (hil h).elim⟩
    obtain ⟨f, hf⟩ := Classical.skolem.1 each
    refine ⟨f, some a, cap1, rfl, hl, hm, fun h0 => ?_, fun j _ => (hf j).1⟩
    obtain ⟨b, off, spot⟩ := a
    have c0 := (hf 0).2 h0
    have hs : spot = none := by
      cases spot with
      | none => rfl
      | some q =>
        simp only [Nat.zero_mul, Addr.add, World.cell?] at c0
        split at c0 <;> simp at c0
    subst hs
    rw [add_at1] at c0
    refine ⟨b, off, rfl, by have := World.block_lt_of_cell? (w := W) (a := ⟨b, off + 0, none⟩) c0; exact this, fun j hj => ?_⟩
    have := (hf j).2 hj
    rw [add_at1] at this
    exact this
end

namespace queueSorts
theorem own : ownKnob Try.prog.godebug = none := by kernel_rfl
theorem laidOut : laidOutB Try.prog = true := by kernel_rfl

set_option maxRecDepth 100000 in
theorem lifted (os : Os) (started : os.Started) (H : Type) (enc : TypeId × Value → H) :
    ReturnsInHanded {} Try.checked os 4 .any (Rows.queueSortsSpec.pre6 enc Try.prog Try.f4 Rows.queueSortsRow.domain false) (Rows.queueSortsSpec.post enc Try.prog Try.f4 false true false false) := by
  refine returnsInHanded_of_change (C := Try.checked) own started (by kernel_rfl) Try.func4
    (ChangeSpec.witness6 (enc := enc) (C := Try.checked) false ⟨#[], #[.slice none 0 0], []⟩ 8 (by kernel_rfl) (by kernel_rfl) (by kernel_rfl) (by kernel_rfl)) ?_
  intro W base args ds gs before hval0 hW hcnd _
  have hval : ∀ (j : Nat) t v, Try.f4.params[j]? = some t → args[j]? = some v → Value.okWide Try.prog W .any base t v := hval0
  have hW' := hW
  obtain ⟨p, q, hA0, hV, rfl, hfz, hnd⟩ := hW
  have hA : DataW.TrodAll enc Try.prog W 0 (fun _ => true) true Try.f4.params.toList args.toList ds p := hA0
  rw [Try.params4] at hA hval
  obtain ⟨v0, vs0, d0, ds0, p0, q0, hargs, rfl, rfl, h0, r0⟩ := trodAll_cons hA
  obtain ⟨rfl, rfl, rfl⟩ := trodAll_nil r0
  obtain rfl : args = #[v0] := by cases args; simp_all
  obtain ⟨rfl, rfl⟩ := trodVars_none hV
  obtain ⟨a2, len2, cap2, rfl⟩ := okWide_slice Try.underlying47 (hval 0 47 v0 rfl rfl)
  have k2 := h0
  have lt2 : ∀ x ∈ p0, x.block < W.heap.size := by obtain ⟨m, hm⟩ := k2; exact DataW.trod_lt m _ _ _ hm
  obtain ⟨zs, wz⟩ : ∃ zs, ArgZ W (.slice a2 len2 cap2) len2 zs := by
    obtain ⟨fuel, hf⟩ := h0
    exact argZ_of hf
  clear hA0 hval0
  refine (sorts_walk wz).mono fun e W' ⟨he, hf⟩ => ?_
  have bel := hf.below
  subst he
  exact ⟨_, rfl, _, _, _, [], _, [], hW', trodAll_mk1 (shut_bool Try.underlying4 _), (trodAll_cons_mk (Below.trod laidOut (by kernel_rfl) (of_decide_eq_true (by kernel_rfl)) k2 bel lt2) trodAll_mk0), rfl, bel.frame _, fun h => by cases h⟩

/-- THE STATEMENT. -/
theorem proved : Rows.QueueSortsSaid :=
  OpenClaim.holds_of_wide 4 Try.f4 rfl rfl rfl rfl rfl rfl rfl ⟨rfl, rfl, rfl, rfl, rfl⟩ rfl rfl rfl rfl rfl (by kernel_rfl) Try.func4 (by kernel_rfl)
    (of_decide_eq_true (by kernel_rfl)) (by unfold Func.isWrapper; first | (rw [if_pos (by decide +kernel)]; kernel_rfl) | (rw [if_neg (by decide +kernel)]; exact ⟨rfl, rfl⟩))
    (fun os started H enc _ => lifted os started H enc)
#print axioms proved
end queueSorts
end Go.Proofs.Ytnpelmenkmjpfaa

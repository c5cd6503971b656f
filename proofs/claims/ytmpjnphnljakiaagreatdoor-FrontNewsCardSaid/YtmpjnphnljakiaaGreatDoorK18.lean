/-
  Remainders of numbers as Go has them: plain facts.
-/
import Derived.Test.YtmpjnphnljakiaaGreatDoorK01
namespace Go.Proofs.YtmpjnphnljakiaaGreatDoor
open Go.RowKit
set_option linter.unusedVariables false

theorem u64_range (z : Int) : 0 ≤ IntKind.u64.wrap z ∧ IntKind.u64.wrap z < 18446744073709551616 := by
  simp only [IntKind.wrap, IntKind.signed, IntKind.bits]
  simp
  omega
theorem w64_small {z : Int} (h0 : 0 ≤ z) (h1 : z < 1000000) : wrap64 z = z := by
  have := IntKind.wrap_i64 z
  unfold wrap64
  omega
theorem modu (z : Int) {k : Int} (h0 : 0 < k) (h1 : k < 1000) : ∃ r : Nat, (r : Int) < k ∧ wrap64 ((IntKind.u64.wrap z).tmod k) = r := by
  obtain ⟨a, b⟩ := u64_range z
  have h2 : (IntKind.u64.wrap z).tmod k = (IntKind.u64.wrap z) % k := Int.tmod_eq_emod_of_nonneg a
  have h3 : 0 ≤ (IntKind.u64.wrap z) % k := Int.emod_nonneg _ (by omega)
  have h4 : (IntKind.u64.wrap z) % k < k := Int.emod_lt_of_pos _ h0
  refine ⟨((IntKind.u64.wrap z) % k).toNat, by omega, ?_⟩
  rw [h2, w64_small h3 (by omega)]; omega
theorem modu1 (z : Int) {k : Int} (h0 : 0 < k) (h1 : k < 1000) : ∃ m : Nat, 1 ≤ m ∧ (m : Int) ≤ k ∧ wrap64 (1 + wrap64 ((IntKind.u64.wrap z).tmod k)) = (m : Int) := by
  obtain ⟨r, h2, h3⟩ := modu z h0 h1
  exact ⟨r + 1, by omega, by omega, by rw [h3, w64_small (by omega) (by omega)]; omega⟩
theorem u64_nat (z : Int) : ∃ m : Nat, IntKind.u64.wrap z = (m : Int) := by
  obtain ⟨a, b⟩ := u64_range z
  exact ⟨(IntKind.u64.wrap z).toNat, by omega⟩
end Go.Proofs.YtmpjnphnljakiaaGreatDoor

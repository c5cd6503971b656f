/-
  ProNews: of every number, New tells whether there may be a Pro of so many frames. No condition.
-/
import Derived.Test.YtfgkaoncojhdeaaProAF
import Derived.ProofKit
import Derived.OpenShut
namespace Go.Proofs.Ytfgkaoncojhdeaa
open Go.ChangeShapes Go.WideShapes Go.ChangeAt Go.RowKit
set_option linter.unusedVariables false

namespace proNews
theorem own : ownKnob Try.prog.godebug = none := by kernel_rfl

theorem walk (a0 : Int) (w : World) : Calls Try.prog 4 #[.int .i64 a0] w fun e w' => e = .returned (.bool true) ∧ Fr NoF w w' := by
  by_cases h1 : a0 < 1
  · have HN := Lib.hid (pr_new_no a0 w (by omega))
    have d1 : decide (1 ≤ a0) = false := by simp; omega
    go_enter Try.func4, Try.ntmps4
    go_wp2_with (first
      | (go_at_call 6; refine HN.out.mono ?_; rintro e w1 ⟨rfl, rfl⟩)
      | (go_at_call 7; refine (told8_calls _).mono ?_; rintro e w2 ⟨rfl, hf2⟩))
    go_returns
    exact ⟨rfl, hf2⟩
  by_cases h2 : 65535 < a0
  · have HN := Lib.hid (pr_new_no a0 w (by omega))
    have d1 : 1 ≤ a0 := by omega
    have d2 : decide (a0 ≤ 65535) = false := by simp; omega
    go_enter Try.func4, Try.ntmps4
    go_wp2_with (first
      | (go_at_call 6; refine HN.out.mono ?_; rintro e w1 ⟨rfl, rfl⟩)
      | (go_at_call 7; refine (told8_calls _).mono ?_; rintro e w2 ⟨rfl, hf2⟩))
    go_returns
    exact ⟨rfl, hf2⟩
  obtain ⟨n, rfl⟩ := Int.eq_ofNat_of_zero_le (show 0 ≤ a0 by omega)
  have HN := Lib.hid (pr_new_yes n w (by omega) (by omega))
  have d1 : 1 ≤ (n : Int) := by omega
  have d2 : (n : Int) ≤ 65535 := by omega
  go_enter Try.func4, Try.ntmps4
  go_wp2_with (first
    | (go_at_call 6; refine HN.out.mono ?_; rintro e w1 ⟨b, F, rfl, _, _, hf1⟩)
    | (go_at_call 7; refine (told8_calls _).mono ?_; rintro e w2 ⟨rfl, hf2⟩))
  go_returns
  exact ⟨rfl, hf1.trans hf2 (fun _ q => .inl q)⟩

set_option maxRecDepth 100000 in
theorem lifted (os : Os) (started : os.Started) (H : Type) (enc : TypeId × Value → H) :
    ReturnsInHanded {} Try.checked os 4 .any (Rows.proNewsSpec.pre6 enc Try.prog Try.f4 Rows.proNewsRow.domain false) (Rows.proNewsSpec.post enc Try.prog Try.f4 false true false false) := by
  refine returnsInHanded_of_change (C := Try.checked) own started (by kernel_rfl) Try.func4
    (ChangeSpec.witness6 (enc := enc) (C := Try.checked) false ⟨#[], #[.int .i64 0], []⟩ 8 (by kernel_rfl) (by kernel_rfl) (by kernel_rfl) (by kernel_rfl)) ?_
  intro W base args ds gs before hval0 hW hcnd _
  have hval : ∀ (j : Nat) t v, Try.f4.params[j]? = some t → args[j]? = some v → Value.okWide Try.prog W .any base t v := hval0
  have hW' := hW
  obtain ⟨p, q, hA0, hV, rfl, hfz, hnd⟩ := hW
  have hA : DataW.TrodAll enc Try.prog W 0 (fun _ => true) true Try.f4.params.toList args.toList ds p := hA0
  rw [Try.params4] at hA hval
  obtain ⟨v0, vs0, d0, ds0, p0, q0, hargs, rfl, rfl, h0, r0⟩ := trodAll_cons hA
  obtain ⟨rfl, rfl, rfl⟩ := trodAll_nil r0
  obtain rfl : args = #[v0] := by cases args; simp_all
  obtain ⟨rfl, rfl⟩ := trodVars_none hV
  obtain ⟨a0, rfl, rfl, rfl, w0⟩ := open_int Try.underlying3 (hval 0 3 v0 rfl rfl) h0
  clear hA0 hval0
  simp only [List.append_nil] at hW'
  refine (walk a0 W).mono fun e W' ⟨he, hf⟩ => ?_
  subst he
  exact ⟨_, rfl, _, _, _, [], [], [], hW', trodAll_cons_mk (shut_bool Try.underlying4 _) trodAll_mk0, trodAll_cons_mk (shut_int Try.underlying3 w0) trodAll_mk0, rfl, hf.below.frame _, fun h => by cases h⟩

/-- THE STATEMENT. -/
theorem proved : Rows.ProNewsSaid :=
  OpenClaim.holds_of_wide 4 Try.f4 rfl rfl rfl rfl rfl rfl rfl ⟨rfl, rfl, rfl, rfl, rfl⟩ rfl rfl rfl rfl rfl (by kernel_rfl) Try.func4 (by kernel_rfl)
    (of_decide_eq_true (by kernel_rfl)) (by unfold Func.isWrapper; first | (rw [if_pos (by decide +kernel)]; kernel_rfl) | (rw [if_neg (by decide +kernel)]; exact ⟨rfl, rfl⟩))
    (fun os started H enc _ => lifted os started H enc)
#print axioms proved
end proNews
end Go.Proofs.Ytfgkaoncojhdeaa

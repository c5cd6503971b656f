/-
  TwoqNews: of every three numbers, New tells whether there may be a 2Q of them. No condition.
-/
import Derived.Test.YtiemelhholbngaaTwoF
import Derived.ProofKit
import Derived.OpenShut
namespace Go.Proofs.Ytiemelhholbngaa
open Go.ChangeShapes Go.WideShapes Go.ChangeAt Go.RowKit
set_option linter.unusedVariables false

namespace twoqNews
theorem own : ownKnob Try.prog.godebug = none := by kernel_rfl

set_option maxHeartbeats 1000000 in
theorem walk (a0 a1 a2 : Int) (w : World) : Calls Try.prog 4 #[.int .i64 a0, .int .i64 a1, .int .i64 a2] w fun e w' => e = .returned (.bool true) ∧ Fr NoF w w' := by
  by_cases la0 : a0 < 1
  · have HN := Lib.hid (tq_new_no a0 a1 a2 w (by omega))
    have da0 : decide (1 ≤ a0) = false := by simp; omega
    go_enter Try.func4, Try.ntmps4
    go_wp2_with (first
      | (go_at_call 5; refine HN.out.mono ?_; rintro e w1 ⟨rfl, rfl⟩)
      | (go_at_call 6; refine (toldT_calls _).mono ?_; rintro e w2 ⟨rfl, hf2⟩))
    go_returns
    exact ⟨rfl, hf2⟩
  by_cases ua0 : 65535 < a0
  · have HN := Lib.hid (tq_new_no a0 a1 a2 w (by omega))
    have pa0 : 1 ≤ a0 := by omega
    have da0 : decide (a0 ≤ 65535) = false := by simp; omega
    go_enter Try.func4, Try.ntmps4
    go_wp2_with (first
      | (go_at_call 5; refine HN.out.mono ?_; rintro e w1 ⟨rfl, rfl⟩)
      | (go_at_call 6; refine (toldT_calls _).mono ?_; rintro e w2 ⟨rfl, hf2⟩))
    go_returns
    exact ⟨rfl, hf2⟩
  by_cases la1 : a1 < 0
  · have HN := Lib.hid (tq_new_no a0 a1 a2 w (by omega))
    have pa0 : 1 ≤ a0 := by omega
    have qa0 : a0 ≤ 65535 := by omega
    have da1 : decide (0 ≤ a1) = false := by simp; omega
    go_enter Try.func4, Try.ntmps4
    go_wp2_with (first
      | (go_at_call 5; refine HN.out.mono ?_; rintro e w1 ⟨rfl, rfl⟩)
      | (go_at_call 6; refine (toldT_calls _).mono ?_; rintro e w2 ⟨rfl, hf2⟩))
    go_returns
    exact ⟨rfl, hf2⟩
  by_cases ua1 : 65535 < a1
  · have HN := Lib.hid (tq_new_no a0 a1 a2 w (by omega))
    have pa0 : 1 ≤ a0 := by omega
    have qa0 : a0 ≤ 65535 := by omega
    have pa1 : 0 ≤ a1 := by omega
    have da1 : decide (a1 ≤ 65535) = false := by simp; omega
    go_enter Try.func4, Try.ntmps4
    go_wp2_with (first
      | (go_at_call 5; refine HN.out.mono ?_; rintro e w1 ⟨rfl, rfl⟩)
      | (go_at_call 6; refine (toldT_calls _).mono ?_; rintro e w2 ⟨rfl, hf2⟩))
    go_returns
    exact ⟨rfl, hf2⟩
  by_cases la2 : a2 < 0
  · have HN := Lib.hid (tq_new_no a0 a1 a2 w (by omega))
    have pa0 : 1 ≤ a0 := by omega
    have qa0 : a0 ≤ 65535 := by omega
    have pa1 : 0 ≤ a1 := by omega
    have qa1 : a1 ≤ 65535 := by omega
    have da2 : decide (0 ≤ a2) = false := by simp; omega
    go_enter Try.func4, Try.ntmps4
    go_wp2_with (first
      | (go_at_call 5; refine HN.out.mono ?_; rintro e w1 ⟨rfl, rfl⟩)
      | (go_at_call 6; refine (toldT_calls _).mono ?_; rintro e w2 ⟨rfl, hf2⟩))
    go_returns
    exact ⟨rfl, hf2⟩
  by_cases ua2 : 65535 < a2
  · have HN := Lib.hid (tq_new_no a0 a1 a2 w (by omega))
    have pa0 : 1 ≤ a0 := by omega
    have qa0 : a0 ≤ 65535 := by omega
    have pa1 : 0 ≤ a1 := by omega
    have qa1 : a1 ≤ 65535 := by omega
    have pa2 : 0 ≤ a2 := by omega
    have da2 : decide (a2 ≤ 65535) = false := by simp; omega
    go_enter Try.func4, Try.ntmps4
    go_wp2_with (first
      | (go_at_call 5; refine HN.out.mono ?_; rintro e w1 ⟨rfl, rfl⟩)
      | (go_at_call 6; refine (toldT_calls _).mono ?_; rintro e w2 ⟨rfl, hf2⟩))
    go_returns
    exact ⟨rfl, hf2⟩
  obtain ⟨n, rfl⟩ := Int.eq_ofNat_of_zero_le (show 0 ≤ a0 by omega)
  obtain ⟨i, rfl⟩ := Int.eq_ofNat_of_zero_le (show 0 ≤ a1 by omega)
  obtain ⟨o, rfl⟩ := Int.eq_ofNat_of_zero_le (show 0 ≤ a2 by omega)
  have HN := Lib.hid (tq_new_yes n i o w (by omega) (by omega) (by omega) (by omega))
  have d1 : 1 ≤ (n : Int) := by omega
  have d2 : (n : Int) ≤ 65535 := by omega
  have d3 : (i : Int) ≤ 65535 := by omega
  have d4 : (o : Int) ≤ 65535 := by omega
  have d5 : 0 ≤ (i : Int) := by omega
  have d6 : 0 ≤ (o : Int) := by omega
  go_enter Try.func4, Try.ntmps4
  go_wp2_with (first
    | (go_at_call 5; refine HN.out.mono ?_; rintro e w1 ⟨b, F, rfl, _, _, hf1⟩)
    | (go_at_call 6; refine (toldT_calls _).mono ?_; rintro e w2 ⟨rfl, hf2⟩))
  go_returns
  exact ⟨rfl, hf1.trans hf2 (fun _ q => .inl q)⟩

set_option maxRecDepth 100000 in
theorem lifted (os : Os) (started : os.Started) (H : Type) (enc : TypeId × Value → H) :
    ReturnsInHanded {} Try.checked os 4 .any (Rows.twoqNewsSpec.pre6 enc Try.prog Try.f4 Rows.twoqNewsRow.domain false) (Rows.twoqNewsSpec.post enc Try.prog Try.f4 false true false false) := by
  refine returnsInHanded_of_change (C := Try.checked) own started (by kernel_rfl) Try.func4
    (ChangeSpec.witness6 (enc := enc) (C := Try.checked) false ⟨#[], #[.int .i64 0, .int .i64 0, .int .i64 0], []⟩ 8 (by kernel_rfl) (by kernel_rfl) (by kernel_rfl) (by kernel_rfl)) ?_
  intro W base args ds gs before hval0 hW hcnd _
  have hval : ∀ (j : Nat) t v, Try.f4.params[j]? = some t → args[j]? = some v → Value.okWide Try.prog W .any base t v := hval0
  have hW' := hW
  obtain ⟨p, q, hA0, hV, rfl, hfz, hnd⟩ := hW
  have hA : DataW.TrodAll enc Try.prog W 0 (fun _ => true) true Try.f4.params.toList args.toList ds p := hA0
  rw [Try.params4] at hA hval
  obtain ⟨v0, vs0, d0, ds0, p0, q0, hargs, rfl, rfl, h0, r0⟩ := trodAll_cons hA
  obtain ⟨v1, vs1, d1, ds1, p1, q1, rfl, rfl, rfl, h1, r1⟩ := trodAll_cons r0
  obtain ⟨v2, vs2, d2, ds2, p2, q2, rfl, rfl, rfl, h2, r2⟩ := trodAll_cons r1
  obtain ⟨rfl, rfl, rfl⟩ := trodAll_nil r2
  obtain rfl : args = #[v0, v1, v2] := by cases args; simp_all
  obtain ⟨rfl, rfl⟩ := trodVars_none hV
  obtain ⟨a0, rfl, rfl, rfl, w0⟩ := open_int Try.underlying3 (hval 0 3 v0 rfl rfl) h0
  obtain ⟨a1, rfl, rfl, rfl, w1⟩ := open_int Try.underlying3 (hval 1 3 v1 rfl rfl) h1
  obtain ⟨a2, rfl, rfl, rfl, w2⟩ := open_int Try.underlying3 (hval 2 3 v2 rfl rfl) h2
  clear hA0 hval0
  simp only [List.append_nil] at hW'
  refine (walk a0 a1 a2 W).mono fun e W' ⟨he, hf⟩ => ?_
  subst he
  exact ⟨_, rfl, _, _, _, [], [], [], hW', trodAll_cons_mk (shut_bool Try.underlying4 _) trodAll_mk0, trodAll_cons_mk (shut_int Try.underlying3 w0) (trodAll_cons_mk (shut_int Try.underlying3 w1) (trodAll_cons_mk (shut_int Try.underlying3 w2) trodAll_mk0)), rfl, hf.below.frame _, fun h => by cases h⟩

/-- THE STATEMENT. -/
theorem proved : Rows.TwoqNewsSaid :=
  OpenClaim.holds_of_wide 4 Try.f4 rfl rfl rfl rfl rfl rfl rfl ⟨rfl, rfl, rfl, rfl, rfl⟩ rfl rfl rfl rfl rfl (by kernel_rfl) Try.func4 (by kernel_rfl)
    (of_decide_eq_true (by kernel_rfl)) (by unfold Func.isWrapper; first | (rw [if_pos (by decide +kernel)]; kernel_rfl) | (rw [if_neg (by decide +kernel)]; exact ⟨rfl, rfl⟩))
    (fun os started H enc _ => lifted os started H enc)
#print axioms proved
end twoqNews
end Go.Proofs.Ytiemelhholbngaa

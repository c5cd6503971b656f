/-
  RingNews: of every pair of numbers, New tells whether there may be Rows; of a nil one nothing is told. No condition.
-/
import Derived.Test.YtgpjjdaboapkjaaRingT
import Derived.ProofKit
import Derived.OpenShut
namespace Go.Proofs.Ytgpjjdaboapkjaa
open Go.ChangeShapes Go.WideShapes Go.ChangeAt Go.RowKit
set_option linter.unusedVariables false

namespace ringNews
theorem own : ownKnob Try.prog.godebug = none := by kernel_rfl

set_option maxHeartbeats 2000000 in
theorem yes (a0 a1 : Int) (w : World) (h1 : 0 ≤ a0) (h2 : a0 ≤ 200000) (h3 : 1 ≤ a1) (h4 : a1 ≤ 16)
    (HN : Hid (Calls Try.prog 6 #[.int .i64 a0, .int .i64 a1] w fun e' w' => ∃ b, e' = .returned (.tuple #[.pointer (some ⟨b, 0, none⟩), .int .i64 0]) ∧ Fr NoF w w')) :
    Calls Try.prog 4 #[.int .i64 a0, .int .i64 a1] w fun e w' => e = .returned (.bool true) ∧ Fr NoF w w' := by
  go_enter Try.func4, Try.ntmps4
  go_wp2_with (first
    | (go_at_call 6; refine HN.out.mono ?_; rintro e w1 ⟨b, rfl, hf⟩)
    | (go_at_call 7; refine (told_calls _).mono ?_; rintro e w2 ⟨rfl, hf2⟩)
    | (go_at_call 8; refine (front_nil 0 0 _).mono ?_; rintro e w' ⟨rfl, rfl⟩)
    | (go_at_call 10; refine (back_nil 0 0 _).mono ?_; rintro e w' ⟨rfl, rfl⟩)
    | (go_at_call 11; refine (before_nil 0 1 _).mono ?_; rintro e w' ⟨rfl, rfl⟩)
    | (go_at_call 13; refine (out_nil 0 _).mono ?_; rintro e w' ⟨rfl, rfl⟩)
    | (go_at_call 16; refine (in_nil 0 _).mono ?_; rintro e w' ⟨rfl, rfl⟩)
    | (go_at_call 17; refine (first_nil 0 _).mono ?_; rintro e w' ⟨rfl, rfl⟩)
    | (go_at_call 18; refine (last_nil 0 _).mono ?_; rintro e w' ⟨rfl, rfl⟩)
    | (go_at_call 19; refine (next_nil 0 _).mono ?_; rintro e w' ⟨rfl, rfl⟩)
    | (go_at_call 20; refine (prev_nil 0 _).mono ?_; rintro e w' ⟨rfl, rfl⟩)
    | (go_at_call 21; refine (len_nil 0 _).mono ?_; rintro e w' ⟨rfl, rfl⟩)
    | (go_at_call 22; refine (all_nil 0 _).mono ?_; rintro e w3 ⟨⟨a, c, rfl⟩, hf3⟩))
  go_ret
  exact ⟨rfl, (hf.trans hf2 (fun _ q => .inl q)).trans hf3 (fun _ q => .inl q)⟩

set_option maxHeartbeats 2000000 in
theorem no1 (a0 a1 : Int) (w : World) (h1 : a0 < 0)
    (HN : Hid (Calls Try.prog 6 #[.int .i64 a0, .int .i64 a1] w fun e' w' => ∃ b : Nat, e' = .returned (.tuple #[.pointer none, .int .i64 1]) ∧ Fr NoF w w')) :
    Calls Try.prog 4 #[.int .i64 a0, .int .i64 a1] w fun e w' => e = .returned (.bool true) ∧ Fr NoF w w' := by
  go_enter Try.func4, Try.ntmps4
  go_wp2_with (first
    | (go_at_call 6; refine HN.out.mono ?_; rintro e w1 ⟨b, rfl, hf⟩)
    | (go_at_call 7; refine (told_calls _).mono ?_; rintro e w2 ⟨rfl, hf2⟩)
    | (go_at_call 8; refine (front_nil 0 0 _).mono ?_; rintro e w' ⟨rfl, rfl⟩)
    | (go_at_call 10; refine (back_nil 0 0 _).mono ?_; rintro e w' ⟨rfl, rfl⟩)
    | (go_at_call 11; refine (before_nil 0 1 _).mono ?_; rintro e w' ⟨rfl, rfl⟩)
    | (go_at_call 13; refine (out_nil 0 _).mono ?_; rintro e w' ⟨rfl, rfl⟩)
    | (go_at_call 16; refine (in_nil 0 _).mono ?_; rintro e w' ⟨rfl, rfl⟩)
    | (go_at_call 17; refine (first_nil 0 _).mono ?_; rintro e w' ⟨rfl, rfl⟩)
    | (go_at_call 18; refine (last_nil 0 _).mono ?_; rintro e w' ⟨rfl, rfl⟩)
    | (go_at_call 19; refine (next_nil 0 _).mono ?_; rintro e w' ⟨rfl, rfl⟩)
    | (go_at_call 20; refine (prev_nil 0 _).mono ?_; rintro e w' ⟨rfl, rfl⟩)
    | (go_at_call 21; refine (len_nil 0 _).mono ?_; rintro e w' ⟨rfl, rfl⟩)
    | (go_at_call 22; refine (all_nil 0 _).mono ?_; rintro e w3 ⟨⟨a, c, rfl⟩, hf3⟩))
  go_ret
  exact ⟨rfl, (hf.trans hf2 (fun _ q => .inl q)).trans hf3 (fun _ q => .inl q)⟩

set_option maxHeartbeats 2000000 in
theorem no2 (a0 a1 : Int) (w : World) (h1 : 0 ≤ a0) (h2 : 200000 < a0)
    (HN : Hid (Calls Try.prog 6 #[.int .i64 a0, .int .i64 a1] w fun e' w' => ∃ b : Nat, e' = .returned (.tuple #[.pointer none, .int .i64 1]) ∧ Fr NoF w w')) :
    Calls Try.prog 4 #[.int .i64 a0, .int .i64 a1] w fun e w' => e = .returned (.bool true) ∧ Fr NoF w w' := by
  go_enter Try.func4, Try.ntmps4
  go_wp2_with (first
    | (go_at_call 6; refine HN.out.mono ?_; rintro e w1 ⟨b, rfl, hf⟩)
    | (go_at_call 7; refine (told_calls _).mono ?_; rintro e w2 ⟨rfl, hf2⟩)
    | (go_at_call 8; refine (front_nil 0 0 _).mono ?_; rintro e w' ⟨rfl, rfl⟩)
    | (go_at_call 10; refine (back_nil 0 0 _).mono ?_; rintro e w' ⟨rfl, rfl⟩)
    | (go_at_call 11; refine (before_nil 0 1 _).mono ?_; rintro e w' ⟨rfl, rfl⟩)
    | (go_at_call 13; refine (out_nil 0 _).mono ?_; rintro e w' ⟨rfl, rfl⟩)
    | (go_at_call 16; refine (in_nil 0 _).mono ?_; rintro e w' ⟨rfl, rfl⟩)
    | (go_at_call 17; refine (first_nil 0 _).mono ?_; rintro e w' ⟨rfl, rfl⟩)
    | (go_at_call 18; refine (last_nil 0 _).mono ?_; rintro e w' ⟨rfl, rfl⟩)
    | (go_at_call 19; refine (next_nil 0 _).mono ?_; rintro e w' ⟨rfl, rfl⟩)
    | (go_at_call 20; refine (prev_nil 0 _).mono ?_; rintro e w' ⟨rfl, rfl⟩)
    | (go_at_call 21; refine (len_nil 0 _).mono ?_; rintro e w' ⟨rfl, rfl⟩)
    | (go_at_call 22; refine (all_nil 0 _).mono ?_; rintro e w3 ⟨⟨a, c, rfl⟩, hf3⟩))
  go_ret
  exact ⟨rfl, (hf.trans hf2 (fun _ q => .inl q)).trans hf3 (fun _ q => .inl q)⟩

set_option maxHeartbeats 2000000 in
theorem no3 (a0 a1 : Int) (w : World) (h1 : 0 ≤ a0) (h2 : a0 ≤ 200000) (h3 : a1 < 1)
    (HN : Hid (Calls Try.prog 6 #[.int .i64 a0, .int .i64 a1] w fun e' w' => ∃ b : Nat, e' = .returned (.tuple #[.pointer none, .int .i64 1]) ∧ Fr NoF w w')) :
    Calls Try.prog 4 #[.int .i64 a0, .int .i64 a1] w fun e w' => e = .returned (.bool true) ∧ Fr NoF w w' := by
  go_enter Try.func4, Try.ntmps4
  go_wp2_with (first
    | (go_at_call 6; refine HN.out.mono ?_; rintro e w1 ⟨b, rfl, hf⟩)
    | (go_at_call 7; refine (told_calls _).mono ?_; rintro e w2 ⟨rfl, hf2⟩)
    | (go_at_call 8; refine (front_nil 0 0 _).mono ?_; rintro e w' ⟨rfl, rfl⟩)
    | (go_at_call 10; refine (back_nil 0 0 _).mono ?_; rintro e w' ⟨rfl, rfl⟩)
    | (go_at_call 11; refine (before_nil 0 1 _).mono ?_; rintro e w' ⟨rfl, rfl⟩)
    | (go_at_call 13; refine (out_nil 0 _).mono ?_; rintro e w' ⟨rfl, rfl⟩)
    | (go_at_call 16; refine (in_nil 0 _).mono ?_; rintro e w' ⟨rfl, rfl⟩)
    | (go_at_call 17; refine (first_nil 0 _).mono ?_; rintro e w' ⟨rfl, rfl⟩)
    | (go_at_call 18; refine (last_nil 0 _).mono ?_; rintro e w' ⟨rfl, rfl⟩)
    | (go_at_call 19; refine (next_nil 0 _).mono ?_; rintro e w' ⟨rfl, rfl⟩)
    | (go_at_call 20; refine (prev_nil 0 _).mono ?_; rintro e w' ⟨rfl, rfl⟩)
    | (go_at_call 21; refine (len_nil 0 _).mono ?_; rintro e w' ⟨rfl, rfl⟩)
    | (go_at_call 22; refine (all_nil 0 _).mono ?_; rintro e w3 ⟨⟨a, c, rfl⟩, hf3⟩))
  go_ret
  exact ⟨rfl, (hf.trans hf2 (fun _ q => .inl q)).trans hf3 (fun _ q => .inl q)⟩

set_option maxHeartbeats 2000000 in
theorem no4 (a0 a1 : Int) (w : World) (h1 : 0 ≤ a0) (h2 : a0 ≤ 200000) (h3 : 1 ≤ a1) (h4 : decide (a1 ≤ 16) = false)
    (HN : Hid (Calls Try.prog 6 #[.int .i64 a0, .int .i64 a1] w fun e' w' => ∃ b : Nat, e' = .returned (.tuple #[.pointer none, .int .i64 1]) ∧ Fr NoF w w')) :
    Calls Try.prog 4 #[.int .i64 a0, .int .i64 a1] w fun e w' => e = .returned (.bool true) ∧ Fr NoF w w' := by
  go_enter Try.func4, Try.ntmps4
  go_wp2_with (first
    | (go_at_call 6; refine HN.out.mono ?_; rintro e w1 ⟨b, rfl, hf⟩)
    | (go_at_call 7; refine (told_calls _).mono ?_; rintro e w2 ⟨rfl, hf2⟩)
    | (go_at_call 8; refine (front_nil 0 0 _).mono ?_; rintro e w' ⟨rfl, rfl⟩)
    | (go_at_call 10; refine (back_nil 0 0 _).mono ?_; rintro e w' ⟨rfl, rfl⟩)
    | (go_at_call 11; refine (before_nil 0 1 _).mono ?_; rintro e w' ⟨rfl, rfl⟩)
    | (go_at_call 13; refine (out_nil 0 _).mono ?_; rintro e w' ⟨rfl, rfl⟩)
    | (go_at_call 16; refine (in_nil 0 _).mono ?_; rintro e w' ⟨rfl, rfl⟩)
    | (go_at_call 17; refine (first_nil 0 _).mono ?_; rintro e w' ⟨rfl, rfl⟩)
    | (go_at_call 18; refine (last_nil 0 _).mono ?_; rintro e w' ⟨rfl, rfl⟩)
    | (go_at_call 19; refine (next_nil 0 _).mono ?_; rintro e w' ⟨rfl, rfl⟩)
    | (go_at_call 20; refine (prev_nil 0 _).mono ?_; rintro e w' ⟨rfl, rfl⟩)
    | (go_at_call 21; refine (len_nil 0 _).mono ?_; rintro e w' ⟨rfl, rfl⟩)
    | (go_at_call 22; refine (all_nil 0 _).mono ?_; rintro e w3 ⟨⟨a, c, rfl⟩, hf3⟩))
  go_ret
  exact ⟨rfl, (hf.trans hf2 (fun _ q => .inl q)).trans hf3 (fun _ q => .inl q)⟩


theorem new_no' (n m : Int) (w : World) (h : (n < 0 ∨ 200000 < n) ∨ (m < 1 ∨ 16 < m)) :
    Calls Try.prog 6 #[.int .i64 n, .int .i64 m] w fun e' w' => ∃ b : Nat, e' = .returned (.tuple #[.pointer none, .int .i64 1]) ∧ Fr NoF w w' :=
  (new_no n m w h).mono fun _ _ ⟨he, hw⟩ => ⟨0, he, hw ▸ Fr.refl _ _⟩
theorem walk (a0 a1 : Int) (w : World) : Calls Try.prog 4 #[.int .i64 a0, .int .i64 a1] w fun e w' => e = .returned (.bool true) ∧ Fr NoF w w' := by
  by_cases h1 : a0 < 0
  · exact no1 a0 a1 w h1 (new_no' a0 a1 w (by omega))
  by_cases h2 : 200000 < a0
  · exact no2 a0 a1 w (by omega) h2 (new_no' a0 a1 w (by omega))
  by_cases h3 : a1 < 1
  · exact no3 a0 a1 w (by omega) (by omega) h3 (new_no' a0 a1 w (by omega))
  by_cases h4 : 16 < a1
  · exact no4 a0 a1 w (by omega) (by omega) (by omega) (by simp; omega) (new_no' a0 a1 w (by omega))
  obtain ⟨n, rfl⟩ := Int.eq_ofNat_of_zero_le (show 0 ≤ a0 by omega)
  obtain ⟨m, rfl⟩ := Int.eq_ofNat_of_zero_le (show 0 ≤ a1 by omega)
  exact yes n m w (by omega) (by omega) (by omega) (by omega) ((new_yes n m w (by omega) (by omega) (by omega)).mono fun _ _ ⟨b, _, he, _, _, hf⟩ => ⟨b, he, hf⟩)

set_option maxRecDepth 100000 in
theorem lifted (os : Os) (started : os.Started) (H : Type) (enc : TypeId × Value → H) :
    ReturnsInHanded {} Try.checked os 4 .any (Rows.ringNewsSpec.pre6 enc Try.prog Try.f4 Rows.ringNewsRow.domain false) (Rows.ringNewsSpec.post enc Try.prog Try.f4 false true false false) := by
  refine returnsInHanded_of_change (C := Try.checked) own started (by kernel_rfl) Try.func4
    (ChangeSpec.witness6 (enc := enc) (C := Try.checked) false ⟨#[], #[.int .i64 0, .int .i64 0], []⟩ 8 (by kernel_rfl) (by kernel_rfl) (by kernel_rfl) (by kernel_rfl)) ?_
  intro W base args ds gs before hval0 hW hcnd _
  have hval : ∀ (j : Nat) t v, Try.f4.params[j]? = some t → args[j]? = some v → Value.okWide Try.prog W .any base t v := hval0
  have hW' := hW
  obtain ⟨p, q, hA0, hV, rfl, hfz, hnd⟩ := hW
  have hA : DataW.TrodAll enc Try.prog W 0 (fun _ => true) true Try.f4.params.toList args.toList ds p := hA0
  rw [Try.params4] at hA hval
  obtain ⟨v0, vs0, d0, ds0, p0, q0, hargs, rfl, rfl, h0, r0⟩ := trodAll_cons hA
  obtain ⟨v1, vs1, d1, ds1, p1, q1, rfl, rfl, rfl, h1, r1⟩ := trodAll_cons r0
  obtain ⟨rfl, rfl, rfl⟩ := trodAll_nil r1
  obtain rfl : args = #[v0, v1] := by cases args; simp_all
  obtain ⟨rfl, rfl⟩ := trodVars_none hV
  obtain ⟨a0, rfl, rfl, rfl, w0⟩ := open_int Try.underlying3 (hval 0 3 v0 rfl rfl) h0
  obtain ⟨a1, rfl, rfl, rfl, w1⟩ := open_int Try.underlying3 (hval 1 3 v1 rfl rfl) h1
  clear hA0 hval0
  simp only [List.append_nil] at hW'
  refine (walk a0 a1 W).mono fun e W' ⟨he, hf⟩ => ?_
  subst he
  exact ⟨_, rfl, _, _, _, [], [], [], hW', trodAll_cons_mk (shut_bool Try.underlying4 _) trodAll_mk0, trodAll_cons_mk (shut_int Try.underlying3 w0) (trodAll_cons_mk (shut_int Try.underlying3 w1) trodAll_mk0), rfl, hf.below.frame _, fun h => by cases h⟩

/-- THE STATEMENT. -/
theorem proved : Rows.RingNewsSaid :=
  OpenClaim.holds_of_wide 4 Try.f4 rfl rfl rfl rfl rfl rfl rfl ⟨rfl, rfl, rfl, rfl, rfl⟩ rfl rfl rfl rfl rfl (by kernel_rfl) Try.func4 (by kernel_rfl)
    (of_decide_eq_true (by kernel_rfl)) (by unfold Func.isWrapper; first | (rw [if_pos (by decide +kernel)]; kernel_rfl) | (rw [if_neg (by decide +kernel)]; exact ⟨rfl, rfl⟩))
    (fun os started H enc _ => lifted os started H enc)
#print axioms proved
end ringNews
end Go.Proofs.Ytgpjjdaboapkjaa

/-
  The law's own told: one run of fixed calls.
-/
import Derived.Test.YtgpjjdaboapkjaaRingG
namespace Go.Proofs.Ytgpjjdaboapkjaa
open Go.RowKit
set_option linter.unusedVariables false

set_option maxHeartbeats 1000000 in
theorem told_calls (w : World) : Calls Try.prog 7 #[] w fun e w' => e = .returned (.bool true) ∧ Fr NoF w w' := by
  have N := Lib.hid (new_yes 5 2 w (by omega) (by omega) (by omega))
  go_enter Try.func7, Try.ntmps7
  go_wp2_with fail
  refine N.out.mono ?_
  rintro e w1 ⟨b, F, rfl, hR1, hF, hf1⟩
  have HF := Lib.hid hF
  clear hF N
  have B1 := Lib.hid (back_yes hR1 0 3 (by omega) (by omega))
  go_wp2_with fail
  refine B1.out.mono ?_
  rintro e w2 ⟨rfl, hR2, hf2⟩
  rw [show putL (List.replicate 2 []) 0 3 false = [[3], []] from rfl] at hR2
  have B2 := Lib.hid (back_yes hR2 0 1 (by omega) (by omega))
  clear hR1 B1
  go_wp2_with fail
  refine B2.out.mono ?_
  rintro e w3 ⟨rfl, hR3, hf3⟩
  rw [show putL [[3], []] 0 1 false = [[3, 1], []] from by decide] at hR3
  have B3 := Lib.hid (before_yes hR3 2 1 0 (by omega) (by decide) (by omega))
  clear hR2 B2
  go_wp2_with fail
  refine B3.out.mono ?_
  rintro e w4 ⟨rfl, hR4, hf4⟩
  rw [show befL [[3, 1], []] 2 1 = [[3, 2, 1], []] from by decide] at hR4
  have hf : Fr NoF w w4 := ((hf1.trans hf2 (fun i q => .inr (HF.out i q))).trans hf3 (fun i q => .inr (HF.out i q))).trans hf4 (fun i q => .inr (HF.out i q))
  clear hR3 B3 hf1 hf2 hf3 hf4
  have A1 := Lib.hid (All_all hR4 0)
  go_wp2_with fail
  refine A1.out.mono ?_
  rintro e w5 ⟨v, rfl, ho, hR5, hf5⟩
  rw [show rowZ [[3, 2, 1], []] 0 = [3, 2, 1] from rfl, ints_nums] at ho
  obtain ⟨hv, _, hvb⟩ := SlI.ofOwn ho
  have S1 : Hid (Calls Try.prog 23 #[v, .slice (some ⟨w5.heap.size, 0, none⟩) 3 3] (w5.alloc (.cells #[.int .i64 3, .int .i64 2, .int .i64 1] 3)) fun e w' => e = .returned (.bool true) ∧ ∃ d, (w5.alloc (.cells #[.int .i64 3, .int .i64 2, .int .i64 1] 3)).drewN d = w') :=
    same_calls (xs := nums [3, 2, 1]) (ys := [3, 2, 1]) (hv.fr ((Fr.refl NoF w5).alloc _) (fun _ _ q => q)) ⟨_, 3, rfl, by simp, by unfold maxLen; omega, .inr ⟨_, 0, rfl, by simp, fun j z hj => by
      match j, hj with
      | 0, hj => simp at hj; subst hj; simp
      | 1, hj => simp at hj; subst hj; simp
      | 2, hj => simp at hj; subst hj; simp⟩⟩
  have hf6 : Fr NoF w (w5.alloc (.cells #[.int .i64 3, .int .i64 2, .int .i64 1] 3)) := (hf.trans hf5 (fun i q => q.elim)).alloc _
  have hR6 := hR5.fr ((Fr.refl NoF w5).alloc (.cells #[.int .i64 3, .int .i64 2, .int .i64 1] 3)) (fun _ _ q => q)
  clear hR5 hf5 hf hR4 A1 ho hv hvb
  go_wp2_with fail
  refine S1.out.mono ?_
  clear S1
  rintro e w6 ⟨rfl, d, rfl⟩
  have hf7 := hf6.drewN d
  have hR7 := hR6.fr ((Fr.refl NoF _).drewN d) (fun _ _ q => q)
  clear hf6 hR6
  generalize (w5.alloc (.cells #[.int .i64 3, .int .i64 2, .int .i64 1] 3)).drewN d = w7 at *
  have I1 := Lib.hid (In_all hR7 2)
  go_wp2_with fail
  refine I1.out.mono ?_
  rw [show ixI (ixZ [[3, 2, 1], []] 2) = 0 from by decide]
  rintro e w8 ⟨rfl, rfl⟩
  have I2 := Lib.hid (In_all hR7 0)
  go_wp2_with fail
  refine I2.out.mono ?_
  rw [show ixI (ixZ [[3, 2, 1], []] 0) = -1 from by decide]
  rintro e w8 ⟨rfl, rfl⟩
  have I3 := Lib.hid (Next_all hR7 3)
  go_wp2_with fail
  refine I3.out.mono ?_
  rw [show ixI (nextZ [[3, 2, 1], []] 3) = 2 from by decide]
  rintro e w8 ⟨rfl, rfl⟩
  have I4 := Lib.hid (Last_all hR7 0)
  go_wp2_with fail
  refine I4.out.mono ?_
  rw [show ixI (rowZ [[3, 2, 1], []] 0).getLast? = 1 from by decide]
  rintro e w8 ⟨rfl, d, rfl⟩
  have hf8 := hf7.drewN d
  have hR8 := hR7.fr ((Fr.refl NoF _).drewN d) (fun _ _ q => q)
  clear hf7 hR7 I1 I2 I3 I4
  generalize w7.drewN d = w8 at *
  have I5 := Lib.hid (Len_all hR8 0)
  go_wp2_with fail
  refine I5.out.mono ?_
  rw [show (rowZ [[3, 2, 1], []] 0).length = 3 from by decide]
  rintro e w9 ⟨rfl, rfl⟩
  go_wp2
  go_ret
  exact ⟨rfl, hf8⟩
end Go.Proofs.Ytgpjjdaboapkjaa

/-
  lruk's past of a page: touched.
-/
import Derived.Test.YtdkddcgkbbckfaaMapV
import Derived.Test.YtdkddcgkbbckfaaQueG
import Derived.Handy
import Derived.ProofKit
import Derived.IntWalk

namespace Go.Proofs.Ytdkddcgkbbckfaa
open Go.RowKit
set_option linter.unusedVariables false

/-- A past: its last touch, eight times. -/
def pastV (last : Int) (t : Nat → Int) : Value := .agg #[.int .i64 last, .int .i64 (t 0), .int .i64 (t 1), .int .i64 (t 2), .int .i64 (t 3), .int .i64 (t 4), .int .i64 (t 5), .int .i64 (t 6), .int .i64 (t 7)]
def pastC (last : Int) (t : Nat → Int) : Nat → Value := fun i => if i = 0 then .int .i64 last else .int .i64 (t (i - 1))
/-- .. behind one touch more, of which k times are told: the times from place i on are new. -/
def timesF (t : Nat → Int) (took : Int) (k i : Nat) : Nat → Int := fun j => if i < j ∧ j < k then (if t (j - 1) = 0 then 0 else t (j - 1) + took) else t j
def touchT (last : Int) (t : Nat → Int) (now near : Int) (k : Nat) : Nat → Int :=
  if ¬ last = 0 ∧ now - last ≤ near then t else upd (timesF t (last - t 0) k 0) 0 now
theorem timesF_top (t : Nat → Int) (took : Int) (k : Nat) : timesF t took k (k - 1) = t := by
  funext j
  unfold timesF
  rw [if_neg (by omega)]
theorem timesF_step (t : Nat → Int) (took : Int) {k i : Nat} (hi : 0 < i) (hk : i < k) : timesF t took k (i - 1) = upd (timesF t took k i) i (if t (i - 1) = 0 then 0 else t (i - 1) + took) := by
  funext j
  by_cases e : j = i
  · subst e
    rw [upd_same]; unfold timesF; rw [if_pos ⟨by omega, hk⟩]
  · rw [upd_other _ _ e]; unfold timesF
    by_cases h : i < j ∧ j < k
    · rw [if_pos h, if_pos ⟨by omega, h.2⟩]
    · rw [if_neg h, if_neg (by omega)]
theorem pastC_set (last : Int) (t : Nat → Int) (i : Nat) (z : Int) : upd (pastC last t) (1 + i) (.int .i64 z) = pastC last (upd t i z) := by
  funext j
  by_cases e : j = 1 + i
  · subst e
    rw [upd_same]; unfold pastC; rw [if_neg (by omega), show 1 + i - 1 = i from by omega, upd_same]
  · rw [upd_other _ _ e]; unfold pastC
    by_cases h : j = 0
    · rw [if_pos h, if_pos h]
    · rw [if_neg h, if_neg h, upd_other _ _ (by omega)]
theorem pastC_last (last : Int) (t : Nat → Int) (z : Int) : upd (pastC last t) 0 (.int .i64 z) = pastC z t := by
  funext j
  by_cases e : j = 0
  · subst e; rw [upd_same]; rfl
  · rw [upd_other _ _ e]; unfold pastC; rw [if_neg e, if_neg e]
section
variable {w w' : World}
set_option maxRecDepth 100000 in
set_option maxHeartbeats 4000000 in
theorem touched_near (last : Int) (t : Nat → Int) (now near : Int) (k : Nat) (h0 : ¬ last = 0) (hnear : now - last ≤ near) (hb : 0 ≤ last ∧ last ≤ now ∧ now < 100000000) : Calls Try.prog 29 #[pastV last t, .int .i64 now, .int .i64 near, .int .i64 k] w fun e w' => e = .returned (pastV now t) ∧ Fr NoF w w' := by
  have g0 : (last != 0) = true := by simpa using h0
  have hwr : IntKind.i64.wrap (now - last) = now - last := IntWalk.i64_in _ (by omega)
  unfold pastV
  generalize t 0 = t0
  generalize t 1 = t1
  generalize t 2 = t2
  generalize t 3 = t3
  generalize t 4 = t4
  generalize t 5 = t5
  generalize t 6 = t6
  generalize t 7 = t7
  clear h0
  go_enter Try.func29, Try.ntmps29
  go_wp2
  go_returns
  exact ⟨rfl, ((Fr.refl NoF w).alloc _).alloc _⟩
end
end Go.Proofs.Ytdkddcgkbbckfaa

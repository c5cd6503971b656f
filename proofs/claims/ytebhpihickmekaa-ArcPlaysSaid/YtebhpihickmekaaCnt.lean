/-
  How many of a list may go. Plain facts, with no program in sight.
-/
import Derived.Test.YtebhpihickmekaaBase
namespace Go.Proofs.Ytebhpihickmekaa
open Go.RowKit
set_option linter.unusedVariables false

def cntL (l : List Nat) (ev : Nat → Bool) : Nat := (l.filter ev).length
theorem filter_not' {l : List Nat} {x : Nat} (h : ¬ x ∈ l) : (l.filter fun y => !decide (y = x)) = l := by
  rw [List.filter_eq_self]
  intro a ha
  have : ¬ a = x := fun e => h (e ▸ ha)
  simp [this]
/-! ### Lists -/
def awayL (l : List Nat) (f : Nat) : List Nat := l.filter fun y => !decide (y = f)
def backL (l : List Nat) (f : Nat) : List Nat := awayL l f ++ [f]
theorem mem_away {l : List Nat} {f x : Nat} : x ∈ awayL l f ↔ x ∈ l ∧ ¬ x = f := by simp [awayL]
theorem mem_back {l : List Nat} {f x : Nat} : x ∈ backL l f ↔ x ∈ l ∨ x = f := by
  simp only [backL, List.mem_append, mem_away, List.mem_singleton]
  by_cases e : x = f <;> simp [e]
theorem cnt_away {l : List Nat} (hn : l.Nodup) (ev : Nat → Bool) (f : Nat) : cntL (awayL l f) ev + (if f ∈ l ∧ ev f = true then 1 else 0) = cntL l ev := by
  induction l with
  | nil => simp [awayL, cntL]
  | cons a l ih =>
    have hn' := List.nodup_cons.1 hn
    have ih := ih hn'.2
    by_cases e : a = f
    · subst e
      have e2 : awayL (a :: l) a = l := by
        have : awayL (a :: l) a = awayL l a := by simp [awayL]
        rw [this]; exact filter_not' hn'.1
      rw [e2]
      by_cases h : ev a = true <;> simp [cntL, h]
    · have e2 : awayL (a :: l) f = a :: awayL l f := by simp [awayL, e]
      rw [e2]
      have e3 : (f ∈ a :: l ∧ ev f = true) ↔ (f ∈ l ∧ ev f = true) := by simp [show ¬ f = a from fun q => e q.symm]
      have e4 : ∀ l', cntL (a :: l') ev = cntL l' ev + (if ev a = true then 1 else 0) := by
        intro l'; by_cases h : ev a = true <;> simp [cntL, h]
      rw [e4, e4]
      simp only [e3]
      omega
theorem cnt_append (l l' : List Nat) (ev : Nat → Bool) : cntL (l ++ l') ev = cntL l ev + cntL l' ev := by simp [cntL]
theorem cnt_back {l : List Nat} (hn : l.Nodup) (ev : Nat → Bool) (f : Nat) (ho : ev f = true → f ∈ l) : cntL (backL l f) ev = cntL l ev := by
  have := cnt_away hn ev f
  rw [backL, cnt_append]
  by_cases h : ev f = true
  · have hm := ho h
    rw [if_pos ⟨hm, h⟩] at this
    rw [← this]; simp [cntL, h]
  · rw [if_neg (fun q => h q.2)] at this
    rw [← this]; simp [cntL, h]
theorem cnt_upd_not {l : List Nat} (ev : Nat → Bool) (f : Nat) (v : Bool) (h : ¬ f ∈ l) : cntL l (upd ev f v) = cntL l ev := by
  unfold cntL
  congr 1
  apply List.filter_congr
  intro x hx
  rw [upd_other]
  intro e; exact h (e ▸ hx)
theorem cnt_upd {l : List Nat} (hn : l.Nodup) (ev : Nat → Bool) (f : Nat) (v : Bool) (h : f ∈ l) : cntL l (upd ev f v) + (if ev f = true then 1 else 0) = cntL l ev + (if v = true then 1 else 0) := by
  have h1 := cnt_away hn ev f
  have h2 := cnt_away hn (upd ev f v) f
  rw [cnt_upd_not _ _ _ (by simp [mem_away])] at h2
  simp only [upd_same, h, true_and] at h1 h2
  omega
theorem cnt_le (l : List Nat) (ev : Nat → Bool) : cntL l ev ≤ l.length := List.length_filter_le _ _
end Go.Proofs.Ytebhpihickmekaa

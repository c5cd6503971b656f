/-
  All; New; and what a nil one answers.
-/
import Derived.Test.YtoainbdkhhblbaaK17
import Derived.Test.YtoainbdkhhblbaaK18
import Derived.Deep.DeepMust
namespace Go.Proofs.Ytoainbdkhhblbaa
open Go.RowKit
set_option linter.unusedVariables false

/-- Numbers as cells. -/
def ints (l : List Nat) : List Value := l.map fun (x : Nat) => Value.int .i64 (x : Int)
theorem ints_nums (l : List Nat) : ints l = (nums l).map (Value.int .i64) := by simp [ints, nums]

section
variable {w : World} {b n m : Nat} {L : List (List Nat)} {F : Nat → Prop}
theorem rowZ_facts (h : RR w b n m L F) (k : Int) : (rowZ L k).length ≤ n ∧ ∀ (j x : Nat), (rowZ L k)[j]? = some x → nextZ L (x : Int) = (rowZ L k)[j + 1]? := by
  obtain ⟨nb, lb, rw, nx, pv, ls, hc, hi, hF⟩ := h.ex
  by_cases hk : 0 ≤ k ∧ k < m
  · obtain ⟨k, rfl⟩ := Int.eq_ofNat_of_zero_le hk.1
    have hk' : k < m := by omega
    obtain ⟨l, hl, hl'⟩ := hi.get_out hk'
    have el : rowZ L (k : Int) = l := by simp [rowZ, hl']
    rw [el]
    refine ⟨?_, fun j x hx => ?_⟩
    · have := List.Nodup.length_le_of_subset (l₁ := l) (l₂ := List.range n) (hi.nd k _ hl) (fun y hy => List.mem_range.2 (hi.mem k _ hl y hy).1)
      simpa using this
    · obtain ⟨hj, rfl⟩ := List.getElem?_eq_some_iff.1 hx
      have hsp : l = l.take j ++ l[j] :: l.drop (j + 1) := by simp
      have hl2 : L[k]? = some (l.take j ++ l[j] :: l.drop (j + 1)) := by rw [← hsp]; exact hl
      rw [nextZ_eq hi hl2]; simp
  · have hl := hi.len
    have e : rowZ L k = [] := by
      unfold rowZ
      split
      · rw [List.getElem?_eq_none (by omega)]; rfl
      · rfl
    rw [e]
    exact ⟨by simp, fun j x hx => by simp at hx⟩

theorem own_some {w : World} {base e size n : Nat} {v : Value} {xs : List Value} (h : w.ownsRow base e size v n xs) (hn : 0 < n) : ∃ g cap, v = .slice (some ⟨g, 0, none⟩) n cap ∧ n ≤ cap := by
  obtain ⟨_, h⟩ := h
  rcases h with ⟨_, h⟩ | ⟨g, cap, cur, rfl, _, _, h, _⟩
  · omega
  · exact ⟨g, cap, rfl, h⟩
def lenV : Value → Nat | .slice _ n _ => n | _ => 0
theorem lenV_own {w : World} {base e size n : Nat} {v : Value} {xs : List Value} (h : w.ownsRow base e size v n xs) : lenV v = n := by
  obtain ⟨_, h⟩ := h
  rcases h with ⟨rfl, rfl⟩ | ⟨g, cap, cur, rfl, _⟩ <;> rfl
/-- The loop of All behind j things: what it has gathered, and the next one. -/
def AllRel (w0 : World) (l : List Nat) (v i : Value) (wr : World) : Prop :=
  ∃ j : Nat, j ≤ l.length ∧ i = .int .i64 (ixI l[j]?) ∧ wr.ownsRow w0.heap.size 3 1 v j (ints (l.take j)) ∧ Fr NoF w0 wr

end
end Go.Proofs.Ytoainbdkhhblbaa

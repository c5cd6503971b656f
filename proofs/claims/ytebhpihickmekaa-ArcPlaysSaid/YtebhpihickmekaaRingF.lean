/-
  All; New; and what a nil one answers.
-/
import Derived.Test.YtebhpihickmekaaRingE
import Derived.Test.YtebhpihickmekaaInts
import Derived.Deep.DeepMust
namespace Go.Proofs.Ytebhpihickmekaa
open Go.RowKit
set_option linter.unusedVariables false

/-- Numbers as cells. -/
def ints (l : List Nat) : List Value := l.map fun (x : Nat) => Value.int .i64 (x : Int)
theorem ints_nums (l : List Nat) : ints l = (nums l).map (Value.int .i64) := by simp [ints, nums]

section
variable {w : World} {b n m : Nat} {L : List (List Nat)} {F : Nat → Prop}
theorem rowZ_facts (h : RR w b n m L F) (k : Int) : (rowZ L k).length ≤ n ∧ ∀ (j x : Nat), (rowZ L k)[j]? = some x → nextZ L (x : Int) = (rowZ L k)[j + 1]? := by
  obtain ⟨nb, lb, rw, nx, pv, ls, hc, hi, hF⟩ := h.ex
  by_cases hk : 0 ≤ k ∧ k < m
  · obtain ⟨k, rfl⟩ := Int.eq_ofNat_of_zero_le hk.1
    have hk' : k < m := by omega
    obtain ⟨l, hl, hl'⟩ := hi.get_out hk'
    have el : rowZ L (k : Int) = l := by simp [rowZ, hl']
    rw [el]
    refine ⟨?_, fun j x hx => ?_⟩
    · have := List.Nodup.length_le_of_subset (l₁ := l) (l₂ := List.range n) (hi.nd k _ hl) (fun y hy => List.mem_range.2 (hi.mem k _ hl y hy).1)
      simpa using this
    · obtain ⟨hj, rfl⟩ := List.getElem?_eq_some_iff.1 hx
      have hsp : l = l.take j ++ l[j] :: l.drop (j + 1) := by simp
      have hl2 : L[k]? = some (l.take j ++ l[j] :: l.drop (j + 1)) := by rw [← hsp]; exact hl
      rw [nextZ_eq hi hl2]; simp
  · have hl := hi.len
    have e : rowZ L k = [] := by
      unfold rowZ
      split
      · rw [List.getElem?_eq_none (by omega)]; rfl
      · rfl
    rw [e]
    exact ⟨by simp, fun j x hx => by simp at hx⟩

theorem own_some {w : World} {base e size n : Nat} {v : Value} {xs : List Value} (h : w.ownsRow base e size v n xs) (hn : 0 < n) : ∃ g cap, v = .slice (some ⟨g, 0, none⟩) n cap ∧ n ≤ cap := by
  obtain ⟨_, h⟩ := h
  rcases h with ⟨_, h⟩ | ⟨g, cap, cur, rfl, _, _, h, _⟩
  · omega
  · exact ⟨g, cap, rfl, h⟩
def lenV : Value → Nat | .slice _ n _ => n | _ => 0
theorem lenV_own {w : World} {base e size n : Nat} {v : Value} {xs : List Value} (h : w.ownsRow base e size v n xs) : lenV v = n := by
  obtain ⟨_, h⟩ := h
  rcases h with ⟨rfl, rfl⟩ | ⟨g, cap, cur, rfl, _⟩ <;> rfl
/-- The loop of All behind j things: what it has gathered, and the next one. -/
def AllRel (w0 : World) (l : List Nat) (v i : Value) (wr : World) : Prop :=
  ∃ j : Nat, j ≤ l.length ∧ i = .int .i64 (ixI l[j]?) ∧ wr.ownsRow w0.heap.size 3 1 v j (ints (l.take j)) ∧ Fr NoF w0 wr

set_option maxHeartbeats 400000 in
theorem All_all (h : RR w b n m L F) (k : Int) :
    Calls Try.prog 56 #[.pointer (some ⟨b, 0, none⟩), .int .i64 k] w fun e w' => ∃ v, e = .returned v ∧ w'.ownsRow w.heap.size 3 1 v (rowZ L k).length (ints (rowZ L k)) ∧ RR w' b n m L F ∧ Fr NoF w w' := by
  obtain ⟨i0, hi, hz0, hz1, hz2⟩ := info_parts infoInt
  obtain ⟨hlen, hnx⟩ := rowZ_facts h k
  have hn : n ≤ 200000 := by obtain ⟨nb, lb, rw, nx, pv, ls, hc, _⟩ := h.ex; exact hc.hn
  have HL := Lib.hid (Len_all h k)
  have HF : Hid (∀ w', RR w' b n m L F → Calls Try.prog 55 #[.pointer (some ⟨b, 0, none⟩), .int .i64 k] w' fun e w'' => e = .returned (.int .i64 (ixI (rowZ L k).head?)) ∧ ∃ d, w'.drewN d = w'') := fun w' h' => First_all h' k
  generalize hl : rowZ L k = l at *
  have HNX := Lib.hid hnx
  have HW : Hid (RR w b n m L F) := h
  clear hl hnx h
  go_enter Try.func56, Try.ntmps56
  go_wp2_with (first
    | (go_at_call 36; refine HL.out.mono ?_; rintro e w' ⟨rfl, rfl⟩)
    | (at_make; refine wpList_make_own _ rfl _ _ 42 rfl w.heap.size 3 i0 (.int .i64 0) 1 Try.underlying42 hi hz0 hz1 .i64 .i64 _ l.length rfl rfl rfl (by rw [hz2]; omega) (by unfold maxLen; omega) (Nat.le_refl _) ?_; intro w1 hown hgrow)
    | (go_at_call 55; refine (HF.out _ (HW.out.fr ((Fr.refl NoF w).grown hgrow (by intro k hk; cases hk)) (fun _ _ q => q))).mono ?_; rintro e w' ⟨rfl, d, rfl⟩))
  have hB := (Fr.refl NoF w).grown hgrow (by intro k hk; cases hk)
  have hR0 : RR (w1.drewN d) b n m L F := HW.out.fr (hB.drewN d) (fun _ _ q => q)
  have hF0 : Fr NoF w (w1.drewN d) := hB.drewN d
  clear hB hgrow
  clear hR0
  go_loopw [5, 6] (AllRel w l) (fun v _ _ => l.length - lenV v)
  case atStart => exact ⟨0, Nat.zero_le _, by simp [List.head?_eq_getElem?], (show w1.ownsRow _ _ _ _ _ _ from by simpa [ints] using hown), hF0⟩
  case round =>
    obtain ⟨j, hj, rfl, ho, hf⟩ := hrel
    clear hown hF0
    have hlv := lenV_own ho
    by_cases hlt : j < l.length
    · have HJ := Lib.hid (HNX.out j l[j] (List.getElem?_eq_getElem hlt))
      have HN : Hid (∀ w', Fr NoF w w' → Calls Try.prog 57 #[.pointer (some ⟨b, 0, none⟩), .int .i64 ((l[j] : Nat) : Int)] w' fun e w'' => e = .returned (.int .i64 (ixI l[j + 1]?)) ∧ w' = w'') := by
        intro w' h'; rw [← HJ.out]; exact Next_all (HW.out.fr h' (fun _ _ q => q)) _
      have e1 : ixI l[j]? = (l[j] : Nat) := by simp [ixI, hlt]
      have HT := Lib.hid (List.take_succ_eq_append_getElem hlt)
      rw [e1]
      generalize l[j] = y at *
      have HO := Lib.hid ho
      have HLV := Lib.hid hlv
      clear e1 HJ ho hlv
      go_wp2_with (first
        | (at_builtin; go_must (refine app1 (w0 := w) rfl _ _ 42 rfl 3 i0 (.int .i64 0) 1 8 Try.underlying42 hi hz0 hz1 hz2 rfl (by decide) u5 j _ (by rfl) hf #[.int .i64 y] HO.out wr.heap.size rfl (by rfl) rfl (by simp [Value.oneCell']) (by omega) (by omega) 3 ?_); intro v' w2 hown' hf'; clear hf HO)
        | (go_at_call 57; refine (HN.out _ hf').mono ?_; rintro e w' ⟨rfl, rfl⟩))
      go_roundw
      case rel => exact ⟨j + 1, by omega, rfl, by rw [HT.out]; simpa [ints] using hown', hf'⟩
      case measure =>
        have h1 := lenV_own hown'
        have h2 := HLV.out
        simp at *; omega
    · have hj' : j = l.length := by omega
      subst hj'
      have HO := Lib.hid ho
      clear ho hlv
      rw [show ixI l[l.length]? = -1 from by simp [ixI]]
      go_wp2
      go_ret
      exact ⟨_, rfl, by simpa using HO.out, HW.out.fr hf (fun _ _ q => q), hf⟩
end
end Go.Proofs.Ytebhpihickmekaa

/-
  The four moves at whatever numbers, of the code's Rows and of the model's, by the same words.
-/
import Derived.Test.YtgpjjdaboapkjaaRingSame
namespace Go.Proofs.Ytgpjjdaboapkjaa
open Go.RowKit
set_option linter.unusedVariables false

def okP (n m : Nat) (k x : Int) : Bool := decide (0 ≤ k ∧ k < m ∧ 0 ≤ x ∧ x < n)
def putZ (L : List (List Nat)) (n m : Nat) (k x : Int) (fr : Bool) : List (List Nat) := if okP n m k x then putL L k.toNat x.toNat fr else L
def okB (L : List (List Nat)) (n : Nat) (x o : Int) : Bool := decide (0 ≤ x ∧ x < n ∧ (ixZ L o).isSome ∧ ¬ x = o)
def befZ (L : List (List Nat)) (n : Nat) (x o : Int) : List (List Nat) := if okB L n x o then befL L x.toNat o.toNat else L

section
variable {w : World} {b n m : Nat} {L : List (List Nat)} {F : Nat → Prop}
theorem front_any (h : RR w b n m L F) (k x : Int) :
    Calls Try.prog 8 #[.pointer (some ⟨b, 0, none⟩), .int .i64 k, .int .i64 x] w fun e w' => e = .returned (.bool (okP n m k x)) ∧ RR w' b n m (putZ L n m k x true) F ∧ Fr F w w' := by
  by_cases hk : 0 ≤ k ∧ k < m ∧ 0 ≤ x ∧ x < n
  · have e : okP n m k x = true := by simp [okP, hk]
    obtain ⟨k, rfl⟩ := Int.eq_ofNat_of_zero_le hk.1
    obtain ⟨x, rfl⟩ := Int.eq_ofNat_of_zero_le hk.2.2.1
    rw [show putZ L n m (k : Int) (x : Int) true = putL L k x true from by simp only [putZ, e]; rfl, e]
    exact front_yes h k x (by omega) (by omega)
  · have e : okP n m k x = false := by simp [okP, hk]
    rw [show putZ L n m k x true = L from by simp [putZ, e], e]
    exact (front_no h k x (by omega)).mono fun _ _ ⟨he, hw⟩ => ⟨he, hw ▸ h, hw ▸ Fr.refl _ _⟩
theorem back_any (h : RR w b n m L F) (k x : Int) :
    Calls Try.prog 10 #[.pointer (some ⟨b, 0, none⟩), .int .i64 k, .int .i64 x] w fun e w' => e = .returned (.bool (okP n m k x)) ∧ RR w' b n m (putZ L n m k x false) F ∧ Fr F w w' := by
  by_cases hk : 0 ≤ k ∧ k < m ∧ 0 ≤ x ∧ x < n
  · have e : okP n m k x = true := by simp [okP, hk]
    obtain ⟨k, rfl⟩ := Int.eq_ofNat_of_zero_le hk.1
    obtain ⟨x, rfl⟩ := Int.eq_ofNat_of_zero_le hk.2.2.1
    rw [show putZ L n m (k : Int) (x : Int) false = putL L k x false from by simp only [putZ, e]; rfl, e]
    exact back_yes h k x (by omega) (by omega)
  · have e : okP n m k x = false := by simp [okP, hk]
    rw [show putZ L n m k x false = L from by simp [putZ, e], e]
    exact (back_no h k x (by omega)).mono fun _ _ ⟨he, hw⟩ => ⟨he, hw ▸ h, hw ▸ Fr.refl _ _⟩
theorem ixZ_pos {x : Int} {k : Nat} (e : ixZ L x = some k) : 0 ≤ x := by
  unfold ixZ at e
  split at e
  · assumption
  · cases e
theorem before_any (h : RR w b n m L F) (x o : Int) :
    Calls Try.prog 11 #[.pointer (some ⟨b, 0, none⟩), .int .i64 x, .int .i64 o] w fun e w' => e = .returned (.bool (okB L n x o)) ∧ RR w' b n m (befZ L n x o) F ∧ Fr F w w' := by
  by_cases hk : 0 ≤ x ∧ x < n ∧ (ixZ L o).isSome ∧ ¬ x = o
  · have e : okB L n x o = true := by simp only [okB, decide_eq_true_eq]; exact hk
    obtain ⟨k, hk2⟩ := Option.isSome_iff_exists.1 hk.2.2.1
    obtain ⟨x, rfl⟩ := Int.eq_ofNat_of_zero_le hk.1
    obtain ⟨o, rfl⟩ := Int.eq_ofNat_of_zero_le (ixZ_pos hk2)
    rw [show befZ L n (x : Int) (o : Int) = befL L x o from by simp only [befZ, e]; rfl, e]
    exact before_yes h x o k (by omega) (by rw [← ixZ_nat]; exact hk2) (by omega)
  · have e : okB L n x o = false := by simp only [okB, decide_eq_false_iff_not]; exact hk
    rw [show befZ L n x o = L from by simp [befZ, e], e]
    refine (before_no h x o ?_).mono fun _ _ ⟨he, hw⟩ => ⟨he, hw ▸ h, hw ▸ Fr.refl _ _⟩
    by_cases q1 : 0 ≤ x ∧ x < n
    · by_cases q2 : x = o
      · exact .inr (.inr q2)
      · right; left
        cases q3 : ixZ L o with
        | none => rfl
        | some k => exact (hk ⟨q1.1, q1.2, by simp [q3], q2⟩).elim
    · left; omega
end

section
variable {w : World} {r N m : Nat} {L : List (List Nat)} {F : Nat → Prop}
theorem putr_any (h : RefR w r N m L F) (k x : Int) (fr : Bool) :
    Calls Try.prog 9 #[.pointer (some ⟨r, 0, none⟩), .int .i64 k, .int .i64 x, .bool fr] w fun e w' => e = .returned (.bool (okP N m k x)) ∧ ∃ F', RefR w' r N m (putZ L N m k x fr) F' ∧ Fr F w w' ∧ ∀ i, F' i → F i ∨ w.heap.size ≤ i := by
  by_cases hk : 0 ≤ k ∧ k < m ∧ 0 ≤ x ∧ x < N
  · have e : okP N m k x = true := by simp [okP, hk]
    obtain ⟨k, rfl⟩ := Int.eq_ofNat_of_zero_le hk.1
    obtain ⟨x, rfl⟩ := Int.eq_ofNat_of_zero_le hk.2.2.1
    rw [show putZ L N m (k : Int) (x : Int) fr = putL L k x fr from by simp only [putZ, e]; rfl, e]
    cases fr with
    | true => exact put_front h (by omega) (by omega)
    | false => exact put_back h (by omega) (by omega)
  · have e : okP N m k x = false := by simp [okP, hk]
    rw [show putZ L N m k x fr = L from by simp [putZ, e], e]
    exact (put_no h k x fr (by omega)).mono fun _ _ ⟨he, hw⟩ => ⟨he, F, hw ▸ h, hw ▸ Fr.refl _ _, fun i q => .inl q⟩
theorem befr_any (h : RefR w r N m L F) (x o : Int) :
    Calls Try.prog 12 #[.pointer (some ⟨r, 0, none⟩), .int .i64 x, .int .i64 o] w fun e w' => e = .returned (.bool (okB L N x o)) ∧ ∃ F', RefR w' r N m (befZ L N x o) F' ∧ Fr F w w' ∧ ∀ i, F' i → F i ∨ w.heap.size ≤ i := by
  by_cases hk : 0 ≤ x ∧ x < N ∧ (ixZ L o).isSome ∧ ¬ x = o
  · have e : okB L N x o = true := by simp only [okB, decide_eq_true_eq]; exact hk
    obtain ⟨k, hk2⟩ := Option.isSome_iff_exists.1 hk.2.2.1
    obtain ⟨x, rfl⟩ := Int.eq_ofNat_of_zero_le hk.1
    obtain ⟨o, rfl⟩ := Int.eq_ofNat_of_zero_le (ixZ_pos hk2)
    rw [show befZ L N (x : Int) (o : Int) = befL L x o from by simp only [befZ, e]; rfl, e]
    exact bef_ref h (k := k) (by omega) (by rw [← ixZ_nat]; exact hk2) (by omega)
  · have e : okB L N x o = false := by simp only [okB, decide_eq_false_iff_not]; exact hk
    rw [show befZ L N x o = L from by simp [befZ, e], e]
    refine (bef_no h x o ?_).mono fun _ _ ⟨he, hw⟩ => ⟨he, F, hw ▸ h, hw ▸ Fr.refl _ _, fun i q => .inl q⟩
    by_cases q1 : 0 ≤ x ∧ x < N
    · by_cases q2 : x = o
      · exact .inr (.inr q2)
      · right; left
        cases q3 : ixZ L o with
        | none => rfl
        | some k => exact (hk ⟨q1.1, q1.2, by simp [q3], q2⟩).elim
    · left; omega
end
end Go.Proofs.Ytgpjjdaboapkjaa

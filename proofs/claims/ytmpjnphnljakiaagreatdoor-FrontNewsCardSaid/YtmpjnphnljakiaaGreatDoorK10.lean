/-
  A heap in a row of places, as container/heap has it: up, down. Plain facts, with no program in sight.
-/
import Derived.WalkKit
namespace Go.Proofs.YtmpjnphnljakiaaGreatDoor
set_option linter.unusedVariables false

def par (k : Nat) : Nat := (k - 1) / 2
section
variable {α : Type} (lt : α → α → Bool)
def swp (a : Nat → α) (i j : Nat) : Nat → α := fun k => if k = i then a j else if k = j then a i else a k
theorem swp_mem {a : Nat → α} {i j n : Nat} (hi : i < n) (hj : j < n) (t : α) : (∃ k, k < n ∧ swp a i j k = t) ↔ ∃ k, k < n ∧ a k = t := by
  constructor
  · rintro ⟨k, hk, rfl⟩
    unfold swp
    split
    · exact ⟨j, hj, rfl⟩
    · split
      · exact ⟨i, hi, rfl⟩
      · exact ⟨k, hk, rfl⟩
  · rintro ⟨k, hk, rfl⟩
    by_cases e1 : k = i
    · refine ⟨j, hj, ?_⟩
      unfold swp
      by_cases e2 : j = i
      · rw [if_pos e2, e1, e2]
      · rw [if_neg e2, if_pos rfl, e1]
    · by_cases e2 : k = j
      · exact ⟨i, hi, by unfold swp; rw [if_pos rfl, e2]⟩
      · exact ⟨k, hk, by unfold swp; rw [if_neg e1, if_neg e2]⟩
/-- No two places hold what f tells alike. -/
def InjF {β : Type} (f : α → β) (a : Nat → α) (n : Nat) : Prop := ∀ k m, k < n → m < n → f (a k) = f (a m) → k = m
theorem swp_inj {β : Type} {f : α → β} {a : Nat → α} {i j n : Nat} (hi : i < n) (hj : j < n) (h : InjF f a n) : InjF f (swp a i j) n := by
  intro k m hk hm e
  have key : ∀ k, k < n → ∃ k', k' < n ∧ swp a i j k = a k' ∧ k' = (if k = i then j else if k = j then i else k) := by
    intro k hk
    unfold swp
    split
    · exact ⟨j, hj, rfl, rfl⟩
    · split
      · exact ⟨i, hi, rfl, rfl⟩
      · exact ⟨k, hk, rfl, rfl⟩
  obtain ⟨k', h1, h2, h3⟩ := key k hk
  obtain ⟨m', h4, h5, h6⟩ := key m hm
  rw [h2, h5] at e
  have := h k' m' h1 h4 e
  rw [h3, h6] at this
  split at this <;> split at this <;> (try split at this) <;> (try split at this) <;> omega

/-- Up. -/
def upF (a : Nat → α) (j : Nat) : Nat → α :=
  if h : j = 0 then a else if lt (a j) (a (par j)) then upF (swp a (par j) j) (par j) else a
termination_by j
decreasing_by unfold par; omega
/-- Down. -/
def least2 (a : Nat → α) (n j1 : Nat) : Nat := if j1 + 1 < n ∧ lt (a (j1 + 1)) (a j1) = true then j1 + 1 else j1
theorem least2_le (a : Nat → α) (n j1 : Nat) : j1 ≤ least2 lt a n j1 ∧ least2 lt a n j1 ≤ j1 + 1 ∧ (j1 < n → least2 lt a n j1 < n) := by
  unfold least2; split
  · rename_i h; exact ⟨by omega, by omega, fun _ => h.1⟩
  · exact ⟨by omega, by omega, fun h => h⟩
def downF (n : Nat) (a : Nat → α) (i : Nat) : (Nat → α) × Nat :=
  if h : n ≤ 2 * i + 1 then (a, i) else if lt (a (least2 lt a n (2 * i + 1))) (a i) then downF n (swp a i (least2 lt a n (2 * i + 1))) (least2 lt a n (2 * i + 1)) else (a, i)
termination_by n - i
decreasing_by have := least2_le lt a n (2 * i + 1); omega

theorem up_mem {n : Nat} (t : α) : ∀ (a : Nat → α) (j : Nat), j < n → ((∃ k, k < n ∧ upF lt a j k = t) ↔ ∃ k, k < n ∧ a k = t) := by
  intro a j
  induction j using Nat.strongRecOn generalizing a with
  | _ j ih =>
    intro hj
    unfold upF
    split
    · rfl
    · split
      · have hp : par j < j := by unfold par; omega
        rw [ih (par j) hp _ (by omega), swp_mem (by omega) hj]
      · rfl
theorem up_inj {β : Type} {f : α → β} {n : Nat} : ∀ (a : Nat → α) (j : Nat), j < n → InjF f a n → InjF f (upF lt a j) n := by
  intro a j
  induction j using Nat.strongRecOn generalizing a with
  | _ j ih =>
    intro hj h
    unfold upF
    split
    · exact h
    · split
      · have hp : par j < j := by unfold par; omega
        exact ih (par j) hp _ (by omega) (swp_inj (by omega) hj h)
      · exact h
theorem up_out {n : Nat} : ∀ (a : Nat → α) (j : Nat), j < n → ∀ k, n ≤ k → upF lt a j k = a k := by
  intro a j
  induction j using Nat.strongRecOn generalizing a with
  | _ j ih =>
    intro hj k hk
    unfold upF
    split
    · rfl
    · split
      · have hp : par j < j := by unfold par; omega
        rw [ih (par j) hp _ (by omega) k hk]
        unfold swp; rw [if_neg (by omega), if_neg (by omega)]
      · rfl
theorem down_mem {n : Nat} (t : α) : ∀ (m : Nat) (a : Nat → α) (i : Nat), n - i ≤ m → i < n → ((∃ k, k < n ∧ (downF lt n a i).1 k = t) ↔ ∃ k, k < n ∧ a k = t) := by
  intro m
  induction m with
  | zero => intro a i h1 h2; omega
  | succ m ih =>
    intro a i h1 h2
    unfold downF
    split
    · rfl
    · rename_i hn
      split
      · have := least2_le lt a n (2 * i + 1)
        rw [ih _ _ (by omega) (by omega), swp_mem h2 (by omega)]
      · rfl
theorem down_inj {β : Type} {f : α → β} {n : Nat} : ∀ (m : Nat) (a : Nat → α) (i : Nat), n - i ≤ m → i < n → InjF f a n → InjF f (downF lt n a i).1 n := by
  intro m
  induction m with
  | zero => intro a i h1 h2; omega
  | succ m ih =>
    intro a i h1 h2 h
    unfold downF
    split
    · exact h
    · rename_i hn
      split
      · have := least2_le lt a n (2 * i + 1)
        exact ih _ _ (by omega) (by omega) (swp_inj h2 (by omega) h)
      · exact h
theorem down_out {n : Nat} : ∀ (m : Nat) (a : Nat → α) (i : Nat), n - i ≤ m → i < n → ∀ k, n ≤ k → (downF lt n a i).1 k = a k := by
  intro m
  induction m with
  | zero => intro a i h1 h2; omega
  | succ m ih =>
    intro a i h1 h2 k hk
    unfold downF
    split
    · rfl
    · rename_i hn
      split
      · have := least2_le lt a n (2 * i + 1)
        rw [ih _ _ (by omega) (by omega) k hk]
        unfold swp; rw [if_neg (by omega), if_neg (by omega)]
      · rfl
theorem down_ge {n : Nat} : ∀ (m : Nat) (a : Nat → α) (i : Nat), n - i ≤ m → i < n → i ≤ (downF lt n a i).2 ∧ ((downF lt n a i).2 = i → (downF lt n a i).1 = a) ∧ (downF lt n a i).2 < n := by
  intro m
  induction m with
  | zero => intro a i h1 h2; omega
  | succ m ih =>
    intro a i h1 h2
    unfold downF
    split
    · exact ⟨Nat.le_refl _, fun _ => rfl, h2⟩
    · rename_i hn
      split
      · have hl := least2_le lt a n (2 * i + 1)
        have := ih (swp a i (least2 lt a n (2 * i + 1))) (least2 lt a n (2 * i + 1)) (by omega) (by omega)
        exact ⟨by omega, fun e => by omega, this.2.2⟩
      · exact ⟨Nat.le_refl _, fun _ => rfl, h2⟩

/-- An order: nothing is below itself; 'not below' goes on. -/
structure Ord : Prop where
  ay : ∀ x y, lt x y = true → lt y x = false
  tr : ∀ x y z, lt y x = false → lt z y = false → lt z x = false
def IsHeap (a : Nat → α) (n : Nat) : Prop := ∀ k, 0 < k → k < n → lt (a k) (a (par k)) = false
/-- .. but for what stands at j: it may be below its parent. -/
def UpHeap (a : Nat → α) (n j : Nat) : Prop := (∀ k, 0 < k → k < n → ¬ k = j → lt (a k) (a (par k)) = false) ∧ ∀ k, 0 < k → k < n → par k = j → 0 < j → lt (a k) (a (par j)) = false
/-- .. whatever stands at j. -/
def GapHeap (a : Nat → α) (n j : Nat) : Prop := (∀ k, 0 < k → k < n → ¬ k = j → ¬ par k = j → lt (a k) (a (par k)) = false) ∧ ∀ k, 0 < k → k < n → par k = j → 0 < j → lt (a k) (a (par j)) = false

variable {lt}
theorem Ord.irr (O : Ord lt) (x : α) : lt x x = false := by
  cases e : lt x x with
  | false => rfl
  | true => have := O.ay x x e; rw [e] at this; exact this
theorem IsHeap.root (O : Ord lt) {a : Nat → α} {n : Nat} (h : IsHeap lt a n) : ∀ k, k < n → lt (a k) (a 0) = false := by
  intro k
  induction k using Nat.strongRecOn with
  | _ k ih =>
    intro hk
    by_cases e : k = 0
    · rw [e]; exact O.irr _
    · have hp : par k < k := by unfold par; omega
      exact O.tr _ _ _ (ih (par k) hp (by omega)) (h k (by omega) hk)
theorem UpHeap.up (O : Ord lt) {n : Nat} : ∀ (a : Nat → α) (j : Nat), j < n → UpHeap lt a n j → IsHeap lt (upF lt a j) n := by
  intro a j
  induction j using Nat.strongRecOn generalizing a with
  | _ j ih =>
    intro hj h
    unfold upF
    split
    · rename_i hj0
      intro k h1 h2
      exact h.1 k h1 h2 (by omega)
    · rename_i hj0
      have hp : par j < j := by unfold par; omega
      split
      · rename_i hlt
        refine ih (par j) hp _ (by omega) ⟨fun k h1 h2 h3 => ?_, fun k h1 h2 h3 h4 => ?_⟩
        · -- an edge that doesn't end at par j
          by_cases e1 : k = j
          · subst e1
            have : swp a (par k) k k = a (par k) := by unfold swp; rw [if_neg (by omega), if_pos rfl]
            have e2 : swp a (par k) k (par k) = a k := by unfold swp; rw [if_pos rfl]
            rw [this, e2]; exact O.ay _ _ hlt
          · have ek : swp a (par j) j k = a k := by unfold swp; rw [if_neg h3, if_neg e1]
            rw [ek]
            by_cases e2 : par k = par j
            · have e3 : swp a (par j) j (par k) = a j := by unfold swp; rw [e2, if_pos rfl]
              rw [e3]
              have h5 := h.1 k h1 h2 e1
              rw [e2] at h5
              exact O.tr _ _ _ (O.ay _ _ hlt) h5
            · by_cases e4 : par k = j
              · have e3 : swp a (par j) j (par k) = a (par j) := by unfold swp; rw [e4, if_neg (by omega), if_pos rfl]
                rw [e3]
                exact h.2 k h1 h2 e4 (by omega)
              · have e3 : swp a (par j) j (par k) = a (par k) := by unfold swp; rw [if_neg e2, if_neg e4]
                rw [e3]
                exact h.1 k h1 h2 e1
        · -- children of par j, against its parent
          have hpp : par (par j) < par j := by unfold par at *; omega
          have e0 : swp a (par j) j (par (par j)) = a (par (par j)) := by unfold swp; rw [if_neg (by omega), if_neg (by omega)]
          rw [e0]
          have hg := h.1 (par j) h4 (by omega) (by omega)
          by_cases e1 : k = j
          · subst e1
            have : swp a (par k) k k = a (par k) := by unfold swp; rw [if_neg (by omega), if_pos rfl]
            rw [this]; exact hg
          · have ek : swp a (par j) j k = a k := by
              unfold swp; rw [if_neg, if_neg e1]
              intro e; rw [e] at h3; unfold par at *; omega
            rw [ek]
            have h5 := h.1 k h1 h2 e1
            rw [h3] at h5
            exact O.tr _ _ _ hg h5
      · rename_i hlt
        intro k h1 h2
        by_cases e : k = j
        · rw [e]; simpa using hlt
        · exact h.1 k h1 h2 e
theorem child {k i : Nat} (h : 0 < k) (e : par k = i) : k = 2 * i + 1 ∨ k = 2 * i + 2 := by unfold par at e; omega
theorem par_child (i : Nat) : par (2 * i + 1) = i ∧ par (2 * i + 2) = i := by unfold par; omega
theorem least2_min (O : Ord lt) (a : Nat → α) {n j1 : Nat} : (lt (a j1) (a (least2 lt a n j1)) = false) ∧ (j1 + 1 < n → lt (a (j1 + 1)) (a (least2 lt a n j1)) = false) := by
  unfold least2
  split
  · rename_i h
    exact ⟨O.ay _ _ h.2, fun _ => O.irr _⟩
  · rename_i h
    refine ⟨O.irr _, fun hn => ?_⟩
    cases e : lt (a (j1 + 1)) (a j1) with
    | false => rfl
    | true => exact (h ⟨hn, e⟩).elim
/-- Down: where it moved, a heap; where it didn't, a heap but for the parent. -/
theorem GapHeap.down (O : Ord lt) {n : Nat} : ∀ (m : Nat) (a : Nat → α) (i : Nat), n - i ≤ m → i < n → GapHeap lt a n i →
    ((downF lt n a i).2 = i → UpHeap lt a n i) ∧ (¬ (downF lt n a i).2 = i → IsHeap lt (downF lt n a i).1 n) ∧ ((i = 0 ∨ lt (a i) (a (par i)) = false) → IsHeap lt (downF lt n a i).1 n) := by
  intro m
  induction m with
  | zero => intro a i h1 h2; omega
  | succ m ih =>
    intro a i h1 h2 h
    have noKids : n ≤ 2 * i + 1 → UpHeap lt a n i := by
      intro hn
      refine ⟨fun k k1 k2 k3 => h.1 k k1 k2 k3 (fun e => ?_), h.2⟩
      rcases child k1 e with q | q <;> omega
    have fin : UpHeap lt a n i → (i = 0 ∨ lt (a i) (a (par i)) = false) → IsHeap lt a n := by
      intro hu hp k k1 k2
      by_cases e : k = i
      · subst e; rcases hp with q | q
        · omega
        · exact q
      · exact hu.1 k k1 k2 e
    unfold downF
    split
    · rename_i hn
      exact ⟨fun _ => noKids hn, fun e => (e rfl).elim, fin (noKids hn)⟩
    · rename_i hn
      have hl := least2_le lt a n (2 * i + 1)
      have hmin := least2_min O a (n := n) (j1 := 2 * i + 1)
      have hc := par_child i
      generalize hj : least2 lt a n (2 * i + 1) = j at *
      have hpj : par j = i := by
        have : j = 2 * i + 1 ∨ j = 2 * i + 2 := by omega
        rcases this with q | q <;> rw [q]
        · exact hc.1
        · exact hc.2
      have hkids : ∀ k, 0 < k → k < n → par k = i → lt (a k) (a j) = false := by
        intro k k1 k2 k3
        rcases child k1 k3 with q | q
        · rw [q]; exact hmin.1
        · rw [q]; exact hmin.2 (by omega)
      split
      · rename_i hlt
        have hg : GapHeap lt (swp a i j) n j := by
          refine ⟨fun k k1 k2 k3 k4 => ?_, fun k k1 k2 k3 k4 => ?_⟩
          · by_cases e1 : k = i
            · subst e1
              have ei : swp a k j k = a j := by unfold swp; rw [if_pos rfl]
              have ep : swp a k j (par k) = a (par k) := by unfold swp; rw [if_neg (by unfold par; omega), if_neg (by unfold par; omega)]
              rw [ei, ep]
              exact h.2 j (by omega) (by omega) hpj k1
            · have ek : swp a i j k = a k := by unfold swp; rw [if_neg e1, if_neg k3]
              rw [ek]
              by_cases e2 : par k = i
              · have ep : swp a i j (par k) = a j := by unfold swp; rw [if_pos e2]
                rw [ep]; exact hkids k k1 k2 e2
              · have ep : swp a i j (par k) = a (par k) := by unfold swp; rw [if_neg e2, if_neg k4]
                rw [ep]; exact h.1 k k1 k2 e1 e2
          · have e1 : ¬ k = i := by unfold par at k3; omega
            have e2 : ¬ k = j := by unfold par at k3; omega
            have ek : swp a i j k = a k := by unfold swp; rw [if_neg e1, if_neg e2]
            have ep : swp a i j (par j) = a j := by unfold swp; rw [hpj, if_pos rfl]
            rw [ek, ep]
            have := h.1 k k1 k2 e1 (by rw [k3]; omega)
            rw [k3] at this; exact this
        have hrec := ih (swp a i j) j (by omega) (by omega) hg
        have hdg := down_ge lt m (swp a i j) j (n := n) (by omega) (by omega)
        have hpar : lt (swp a i j j) (swp a i j (par j)) = false := by
          have ej : swp a i j j = a i := by unfold swp; rw [if_neg (by omega), if_pos rfl]
          have ep : swp a i j (par j) = a j := by unfold swp; rw [hpj, if_pos rfl]
          rw [ej, ep]; exact O.ay _ _ hlt
        exact ⟨fun e => by omega, fun _ => hrec.2.2 (.inr hpar), fun _ => hrec.2.2 (.inr hpar)⟩
      · rename_i hlt
        have hlt : lt (a j) (a i) = false := by simpa using hlt
        have hu : UpHeap lt a n i := by
          refine ⟨fun k k1 k2 k3 => ?_, h.2⟩
          by_cases e : par k = i
          · rw [e]; exact O.tr _ _ _ hlt (hkids k k1 k2 e)
          · exact h.1 k k1 k2 k3 e
        exact ⟨fun _ => hu, fun e => (e rfl).elim, fin hu⟩
end
end Go.Proofs.YtmpjnphnljakiaaGreatDoor

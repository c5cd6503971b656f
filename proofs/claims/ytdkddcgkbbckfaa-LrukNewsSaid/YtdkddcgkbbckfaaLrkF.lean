/-
  lruk's LRUK in memory: isFrame, has, rank, Size, Miss.
-/
import Derived.Test.YtdkddcgkbbckfaaLrkE
import Derived.Test.YtdkddcgkbbckfaaMapV
namespace Go.Proofs.Ytdkddcgkbbckfaa
open Go.RowKit Go.Maps
set_option linter.unusedVariables false

/-- What an LRUK is. -/
structure LK where
  n : Nat
  k : Nat
  near : Nat
  kept : Nat
  T : Nat
  fr : Nat → Bool × Nat
  P : Nat → Option (Int × (Nat → Int))
  R : Nat → Option (Int × Int)
  Fa : Nat → Bool
  t : Nat
  Old : List (Nat × Nat)
  gone : Nat

def zeroPast : Value := pastV 0 (fun _ => 0)
def psM (P : Nat → Option (Int × (Nat → Int))) : Int → Option Value := fun x => if x < 0 then none else (P x.toNat).map fun p => pastV p.1 p.2
def updO {α : Type} (P : Nat → Option α) (x : Nat) (y : Option α) : Nat → Option α := fun z => if z = x then y else P z
theorem updO_same {α : Type} (P : Nat → Option α) (x : Nat) (y : Option α) : updO P x y x = y := if_pos rfl
theorem updO_other {α : Type} (P : Nat → Option α) {x z : Nat} (y : Option α) (h : ¬ z = x) : updO P x y z = P z := if_neg h
theorem psM_at (P : Nat → Option (Int × (Nat → Int))) (x : Nat) : psM P (x : Int) = (P x).map fun p => pastV p.1 p.2 := by
  unfold psM
  rw [if_neg (by omega)]; rfl
theorem psM_upd (P : Nat → Option (Int × (Nat → Int))) (x : Nat) (p : Option (Int × (Nat → Int))) : updV (psM P) (x : Int) (p.map fun p => pastV p.1 p.2) = psM (updO P x p) := by
  funext z
  by_cases e : z = (x : Int)
  · subst e; rw [updV_same, psM_at, updO_same]
  · rw [updV_other _ _ e]
    unfold psM
    by_cases h : z < 0
    · rw [if_pos h, if_pos h]
    · rw [if_neg h, if_neg h, updO_other _ _ (by omega)]
def pastOf (S : LK) (x : Nat) : Int × (Nat → Int) := (S.P x).getD (0, fun _ => 0)
def rankOf (S : LK) (x : Nat) : Int × Int := ((pastOf S x).2 (S.k - 1), (pastOf S x).1)
def oldK (l : List (Nat × Nat)) : Nat → Option (Int × Int) := fun x => (l.find? fun p => decide (p.1 = x)).map fun p => ((p.2 : Int), 0)
def frC (f : Nat → Bool × Nat) : Nat → Value := fun i => if i % 2 = 0 then .bool (f (i / 2)).1 else .int .u32 ((f (i / 2)).2 : Nat)
def lC (S : LK) (fb mb q1 q2 q3 q4 : Nat) : Nat → Value
  | 0 => .int .i64 S.k
  | 1 => .int .i64 S.near
  | 2 => .int .i64 S.kept
  | 3 => .int .i64 S.T
  | 4 => .slice (some ⟨fb, 0, none⟩) S.n S.n
  | 5 => .map (some mb)
  | 6 => .pointer (some ⟨q1, 0, none⟩)
  | 7 => .pointer (some ⟨q2, 0, none⟩)
  | 8 => .pointer (some ⟨q3, 0, none⟩)
  | 9 => .pointer (some ⟨q4, 0, none⟩)
  | _ => .int .i64 S.gone
theorem MVp : MV Try.prog 45 35 85 .u32 zeroPast := ⟨Try.underlying45, Try.underlying35, fun w => by kernel_rfl⟩
/-- How many of the first n there are. -/
def cntR (R : Nat → Option (Int × Int)) : Nat → Nat
  | 0 => 0
  | n + 1 => cntR R n + (if (R n).isSome then 1 else 0)
theorem cntR_le (R : Nat → Option (Int × Int)) (n : Nat) : cntR R n ≤ n := by
  induction n with
  | zero => exact Nat.le_refl _
  | succ n ih => unfold cntR; split <;> omega
theorem cntR_beyond (R : Nat → Option (Int × Int)) {x : Nat} (y : Option (Int × Int)) : ∀ {n : Nat}, n ≤ x → cntR (updK R x y) n = cntR R n
  | 0, _ => rfl
  | n + 1, h => by unfold cntR; rw [cntR_beyond R y (by omega), updK_other _ _ (by omega)]
theorem cntR_pos (R : Nat → Option (Int × Int)) {x : Nat} : ∀ {n : Nat}, x < n → (R x).isSome = true → 0 < cntR R n
  | n + 1, h, hx => by
    unfold cntR
    by_cases e : x = n
    · subst e; rw [if_pos hx]; omega
    · have := cntR_pos R (n := n) (by omega) hx; omega
theorem cntR_put (R : Nat → Option (Int × Int)) {x : Nat} (p : Int × Int) : ∀ {n : Nat}, x < n → cntR (updK R x (some p)) n = moreN (cntR R n) (R x).isSome
  | n + 1, h => by
    unfold cntR
    by_cases e : x = n
    · subst e; rw [cntR_beyond R _ (Nat.le_refl _), updK_same]; unfold moreN; cases (R x).isSome <;> simp
    · rw [cntR_put R p (n := n) (by omega), updK_other _ _ (by omega)]; unfold moreN; split <;> split <;> omega
theorem cntR_drop (R : Nat → Option (Int × Int)) {x : Nat} : ∀ {n : Nat}, x < n → cntR (updK R x none) n = lessN (cntR R n) (R x).isSome
  | n + 1, h => by
    unfold cntR
    by_cases e : x = n
    · subst e; rw [cntR_beyond R _ (Nat.le_refl _), updK_same]; unfold lessN; cases (R x).isSome <;> simp
    · rw [cntR_drop R (n := n) (by omega), updK_other _ _ (by omega)]
      have hp := cntR_pos R (x := x) (n := n) (by omega)
      unfold lessN
      cases hx : (R x).isSome with
      | false => simp
      | true => have := hp hx; rw [if_pos rfl, if_pos rfl]; split <;> omega
/-- What stays true of the numbers. -/
structure LOk (S : LK) : Prop where
  n1 : 1 ≤ S.n ∧ S.n ≤ 65535
  k1 : 1 ≤ S.k ∧ S.k ≤ 8
  near : S.near ≤ 1000000
  kept : S.kept ≤ 65535
  fr : ∀ i, okN (S.fr i).2
  past : ∀ x p, S.P x = some p → 0 ≤ p.1 ∧ p.1 ≤ S.T ∧ ∀ j, 0 ≤ p.2 j ∧ p.2 j ≤ p.1 ∧ p.2 j ≤ p.2 0
  tn : S.t = cntR S.R S.n
  old : ∀ p, p ∈ S.Old → okN p.1 ∧ p.2 ≤ S.gone
  oldn : S.Old.length ≤ S.gone
  ord : S.Old.Pairwise fun p q => p.2 < q.2 ∧ ¬ p.1 = q.1
theorem LOk.tle {S : LK} (h : LOk S) : S.t ≤ S.n := by rw [h.tn]; exact cntR_le _ _
/-- An LRUK in memory. -/
structure LM (w : World) (lb : Nat) (S : LK) (fb mb q1 q2 q3 q4 ne : Nat) (FC F4 : Nat → Prop) : Prop where
  blk : Blk w lb 11 (lC S fb mb q1 q2 q3 q4)
  frs : Blk w fb (2 * S.n) (frC S.fr)
  mp : MpV Try.prog 35 .u32 zeroPast w mb ne (psM S.P)
  cc : CC w lb S.R S.Fa S.t FC
  qk : QK w q4 (oldK S.Old) S.Old.length F4
  d1 : ¬ fb = lb
  d2 : ¬ mb = lb
  d3 : ¬ mb = fb
  d4 : ¬ FC fb
  d5 : ¬ FC mb
  d6 : ¬ F4 lb
  d7 : ¬ F4 fb
  d8 : ¬ F4 mb
  d9 : ∀ i, FC i → ¬ F4 i
  ne : ne ≤ S.T
  ok : LOk S
/-- All its blocks. -/
def LF (lb fb mb : Nat) (FC F4 : Nat → Prop) : Nat → Prop := fun i => i = lb ∨ i = fb ∨ i = mb ∨ FC i ∨ F4 i
section
variable {w w' : World} {lb fb mb q1 q2 q3 q4 ne : Nat} {S : LK} {FC F4 : Nat → Prop}
theorem LM.fr0 (h : LM w lb S fb mb q1 q2 q3 q4 ne FC F4) (f : Fr NoF w w') : LM w' lb S fb mb q1 q2 q3 q4 ne FC F4 :=
  ⟨h.blk.fr f (fun q => q), h.frs.fr f (fun q => q), h.mp.fr f (fun q => q), h.cc.fr0 f, h.qk.fr0 f, h.d1, h.d2, h.d3, h.d4, h.d5, h.d6, h.d7, h.d8, h.d9, h.ne, h.ok⟩
theorem LM.fr (h : LM w lb S fb mb q1 q2 q3 q4 ne FC F4) {G : Nat → Prop} (f : Fr G w w') (g : ∀ i, LF lb fb mb FC F4 i → ¬ G i) : LM w' lb S fb mb q1 q2 q3 q4 ne FC F4 :=
  ⟨h.blk.fr f (g lb (.inl rfl)), h.frs.fr f (g fb (.inr (.inl rfl))), h.mp.fr f (g mb (.inr (.inr (.inl rfl)))), h.cc.fr f (fun i q => g i (.inr (.inr (.inr (.inl q))))) (g lb (.inl rfl)), h.qk.fr f (fun i q => g i (.inr (.inr (.inr (.inr q))))), h.d1, h.d2, h.d3, h.d4, h.d5, h.d6, h.d7, h.d8, h.d9, h.ne, h.ok⟩
theorem LM.lt (h : LM w lb S fb mb q1 q2 q3 q4 ne FC F4) : ∀ i, LF lb fb mb FC F4 i → i < w.heap.size := by
  rintro i (rfl | rfl | rfl | q | q)
  · exact h.blk.lt
  · exact h.frs.lt
  · exact h.mp.lt
  · exact h.cc.lt i q
  · exact h.qk.lt i q
theorem LM.ce (h : LM w lb S fb mb q1 q2 q3 q4 ne FC F4) (i : Nat) (hi : i < 11) : w.cell? ⟨lb, i, none⟩ = some (lC S fb mb q1 q2 q3 q4 i) := h.blk.cell hi
theorem LM.full (h : LM w lb S fb mb q1 q2 q3 q4 ne FC F4) {at' : Nat} (ha : at' < S.n) : w.cell? ⟨fb, at' * 2, none⟩ = some (.bool (S.fr at').1) := by
  have := h.frs.cell (i := at' * 2) (by omega)
  unfold frC at this
  rw [if_pos (by omega), show at' * 2 / 2 = at' from by omega] at this
  exact this
theorem LM.page (h : LM w lb S fb mb q1 q2 q3 q4 ne FC F4) {at' : Nat} (ha : at' < S.n) : w.cell? ⟨fb, at' * 2 + 1, none⟩ = some (.int .u32 ((S.fr at').2 : Nat)) := by
  have := h.frs.cell (i := at' * 2 + 1) (by omega)
  unfold frC at this
  rw [if_neg (by omega), show (at' * 2 + 1) / 2 = at' from by omega] at this
  exact this
theorem isFrame_calls (h : LM w lb S fb mb q1 q2 q3 q4 ne FC F4) {at' : Nat} (ha : at' < S.n) : Calls Try.prog 27 #[.pointer (some ⟨lb, 0, none⟩), .int .i64 at'] w fun e w' => e = .returned (.bool true) ∧ w = w' := by
  have c4 : w.cell? ⟨lb, 4, none⟩ = some (.slice (some ⟨fb, 0, none⟩) S.n S.n) := h.ce 4 (by omega)
  have lt := h.blk.lt
  have h1 : (at' : Int) < S.n := by omega
  have h2 : 0 ≤ (at' : Int) := by omega
  clear h
  go_enter Try.func27, Try.ntmps27
  go_wp2
  go_returns
  exact ⟨rfl, rfl⟩
theorem has_calls (h : LM w lb S fb mb q1 q2 q3 q4 ne FC F4) {at' : Nat} (ha : at' < S.n) : Calls Try.prog 33 #[.pointer (some ⟨lb, 0, none⟩), .int .i64 at'] w fun e w' => e = .returned (.bool (S.fr at').1) ∧ w = w' := by
  have HI := Lib.hid (isFrame_calls h ha)
  have c4 : w.cell? ⟨lb, 4, none⟩ = some (.slice (some ⟨fb, 0, none⟩) S.n S.n) := h.ce 4 (by omega)
  have lt := h.blk.lt
  have hfu := h.full ha
  have lf := h.frs.lt
  have h1 : (at' : Int) < S.n := by omega
  have h2 : 0 ≤ (at' : Int) := by omega
  generalize (S.fr at').1 = fu at *
  clear h
  go_enter Try.func33, Try.ntmps33
  go_wp2_with fail
  refine HI.out.mono ?_
  rintro e w1 ⟨rfl, rfl⟩
  go_wp2
  go_returns
  exact ⟨rfl, rfl⟩
theorem lsize_calls (h : LM w lb S fb mb q1 q2 q3 q4 ne FC F4) : Calls Try.prog 19 #[.pointer (some ⟨lb, 0, none⟩)] w fun e w' => e = .returned (.int .i64 (S.t : Nat)) ∧ Fr NoF w w' := by
  have HL := Lib.hid (cc_len h.cc (by have := h.ok.tle; have := h.ok.n1; omega))
  have lt := h.blk.lt
  clear h
  go_enter Try.func19, Try.ntmps19
  go_wp2_with fail
  refine HL.out.mono ?_
  rintro e w1 ⟨rfl, f1⟩
  go_wp2
  go_returns
  exact ⟨rfl, f1⟩
theorem lmiss_calls (w : World) (lb : Nat) (x : Int) : Calls Try.prog 14 #[.pointer (some ⟨lb, 0, none⟩), .int .u32 x] w fun e w' => e = .returned (.tuple #[]) ∧ w = w' := by
  go_enter Try.func14, Try.ntmps14
  go_wp2
  go_returns
  exact ⟨rfl, rfl⟩
theorem okN_wf {x : Nat} (h : okN x) : (Lit.int .u32 (x : Nat)).wf = true := WalkArith.wf_u32 ⟨by omega, by unfold okN at h; omega⟩
end
end Go.Proofs.Ytdkddcgkbbckfaa

/-
  A Queue of the caller's own; told; QueueSorts: things that are taken out, the least one first, come in the order of their keys: the walk. No condition.
-/
import Derived.Test.YtbnckhkamebibaaK18
namespace Go.Proofs.Ytbnckhkamebibaa
open Go.RowKit Go.Maps
set_option linter.unusedVariables false

/-- .. with what has been left since a world, whose blocks are none of its own. -/
def QN (w w' : World) (qb : Nat) (M : Th → Prop) (n : Nat) : Prop := ∃ F, QS w' qb M n F ∧ (∀ i, F i → w.heap.size ≤ i) ∧ Fr NoF w w'
section
variable {w w1 w' : World} {qb n : Nat} {M : Th → Prop}
theorem QN.fr0 (h : QN w w1 qb M n) (f : Fr NoF w1 w') : QN w w' qb M n := by
  obtain ⟨F, h, hb, hf⟩ := h
  exact ⟨F, h.fr0 f, hb, hf.trans f (fun _ q => q.elim)⟩
theorem QN.f (h : QN w w1 qb M n) : Fr NoF w w1 := by obtain ⟨F, h, hb, hf⟩ := h; exact hf
theorem QN.congr (h : QN w w1 qb M n) {M' : Th → Prop} (e : ∀ t, M t ↔ M' t) : QN w w1 qb M' n := by
  obtain ⟨F, h, hb, hf⟩ := h
  exact ⟨F, h.congr e, hb, hf⟩
theorem qn_new (w : World) : Calls Try.prog 13 #[] w fun e w' => ∃ qb, e = .returned (.pointer (some ⟨qb, 0, none⟩)) ∧ QN w w' qb (fun _ => False) 0 :=
  (qu_new w).mono fun e w' ⟨he, hq, hf⟩ => ⟨_, he, _, hq, fun i q => (by have : i = w.heap.size := q; omega), hf⟩
theorem qn_put_new (h : QN w w1 qb M n) {t : Th} (hok : thOk t) (hn : n < 900000) (hne : ∀ u, M u → ¬ u.x = t.x) : Calls Try.prog 49 #[.pointer (some ⟨qb, 0, none⟩), .int .i64 t.x, .agg #[.int .i64 t.a, .int .i64 t.b]] w1 fun e w' => e = .returned (.tuple #[]) ∧ QN w w' qb (fun u => u = t ∨ M u) (n + 1) := by
  obtain ⟨F, h, hb, hf⟩ := h
  refine (qu_put_new h hok hn hne).mono ?_
  rintro e w' ⟨he, F', hq, f, hF⟩
  exact ⟨he, F', hq, fun i q => (hF i q).elim (hb i) (fun q => Nat.le_trans hf.size q), hf.trans f (fun i q => .inr (hb i q))⟩
theorem qn_drop_yes (h : QN w w1 qb M (n + 1)) {x : Int} (hex : ∃ u, M u ∧ u.x = x) : Calls Try.prog 28 #[.pointer (some ⟨qb, 0, none⟩), .int .i64 x] w1 fun e w' => e = .returned (.bool true) ∧ QN w w' qb (fun u => M u ∧ ¬ u.x = x) n := by
  obtain ⟨F, h, hb, hf⟩ := h
  refine (qu_drop_yes h hex).mono ?_
  rintro e w' ⟨he, hq, f⟩
  exact ⟨he, F, hq, hb, hf.trans f (fun i q => .inr (hb i q))⟩
theorem qn_drop_no (h : QN w w1 qb M n) {x : Int} (hx : i64 x) (hne : ∀ u, M u → ¬ u.x = x) : Calls Try.prog 28 #[.pointer (some ⟨qb, 0, none⟩), .int .i64 x] w1 fun e w' => e = .returned (.bool false) ∧ w1 = w' := by
  obtain ⟨F, h, hb, hf⟩ := h
  exact qu_drop_no h hx hne
theorem qn_len (h : QN w w1 qb M n) : Calls Try.prog 38 #[.pointer (some ⟨qb, 0, none⟩)] w1 fun e w' => e = .returned (.int .i64 (n : Nat)) ∧ w1 = w' := by
  obtain ⟨F, h, hb, hf⟩ := h
  exact qu_len h
theorem qn_least (h : QN w w1 qb M n) (hn : 0 < n) : ∃ t, LeastT M t ∧ Hid (Calls Try.prog 51 #[.pointer (some ⟨qb, 0, none⟩)] w1 fun e w' => e = .returned (.tuple #[.int .i64 t.x, .bool true]) ∧ w1 = w') := by
  obtain ⟨F, h, hb, hf⟩ := h
  obtain ⟨t, h1, h2⟩ := qu_least_yes h hn
  exact ⟨t, h1, h2.out w1 (Fr.refl _ _)⟩

def tq1 : Th := ⟨1, 2, 0⟩
def tq2 : Th := ⟨3, 1, 9⟩
def tq3 : Th := ⟨2, 1, 9⟩
def mq1 : Th → Prop := fun u => u = tq1 ∨ False
def mq2 : Th → Prop := fun u => u = tq2 ∨ mq1 u
def mq3 : Th → Prop := fun u => u = tq3 ∨ mq2 u
end
end Go.Proofs.Ytbnckhkamebibaa

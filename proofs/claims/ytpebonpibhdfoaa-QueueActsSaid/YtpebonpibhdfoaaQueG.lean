/-
  A Queue of the caller's own; told; QueueSorts: things that are taken out, the least one first, come in the order of their keys: the walk. No condition.
-/
import Derived.Test.YtpebonpibhdfoaaQueF
namespace Go.Proofs.Ytpebonpibhdfoaa
open Go.RowKit Go.Maps
set_option linter.unusedVariables false

/-- .. with what has been left since a world, whose blocks are none of its own. -/
def QN (w w' : World) (qb : Nat) (M : Th → Prop) (n : Nat) : Prop := ∃ F, QS w' qb M n F ∧ (∀ i, F i → w.heap.size ≤ i) ∧ Fr NoF w w'
section
variable {w w1 w' : World} {qb n : Nat} {M : Th → Prop}
theorem QN.fr0 (h : QN w w1 qb M n) (f : Fr NoF w1 w') : QN w w' qb M n := by
  obtain ⟨F, h, hb, hf⟩ := h
  exact ⟨F, h.fr0 f, hb, hf.trans f (fun _ q => q.elim)⟩
theorem QN.f (h : QN w w1 qb M n) : Fr NoF w w1 := by obtain ⟨F, h, hb, hf⟩ := h; exact hf
theorem QN.congr (h : QN w w1 qb M n) {M' : Th → Prop} (e : ∀ t, M t ↔ M' t) : QN w w1 qb M' n := by
  obtain ⟨F, h, hb, hf⟩ := h
  exact ⟨F, h.congr e, hb, hf⟩
theorem qn_new (w : World) : Calls Try.prog 4 #[] w fun e w' => ∃ qb, e = .returned (.pointer (some ⟨qb, 0, none⟩)) ∧ QN w w' qb (fun _ => False) 0 :=
  (qu_new w).mono fun e w' ⟨he, hq, hf⟩ => ⟨_, he, _, hq, fun i q => (by have : i = w.heap.size := q; omega), hf⟩
theorem qn_put_new (h : QN w w1 qb M n) {t : Th} (hok : thOk t) (hn : n < 900000) (hne : ∀ u, M u → ¬ u.x = t.x) : Calls Try.prog 7 #[.pointer (some ⟨qb, 0, none⟩), .int .i64 t.x, .agg #[.int .i64 t.a, .int .i64 t.b]] w1 fun e w' => e = .returned (.tuple #[]) ∧ QN w w' qb (fun u => u = t ∨ M u) (n + 1) := by
  obtain ⟨F, h, hb, hf⟩ := h
  refine (qu_put_new h hok hn hne).mono ?_
  rintro e w' ⟨he, F', hq, f, hF⟩
  exact ⟨he, F', hq, fun i q => (hF i q).elim (hb i) (fun q => Nat.le_trans hf.size q), hf.trans f (fun i q => .inr (hb i q))⟩
theorem qn_drop_yes (h : QN w w1 qb M (n + 1)) {x : Int} (hex : ∃ u, M u ∧ u.x = x) : Calls Try.prog 10 #[.pointer (some ⟨qb, 0, none⟩), .int .i64 x] w1 fun e w' => e = .returned (.bool true) ∧ QN w w' qb (fun u => M u ∧ ¬ u.x = x) n := by
  obtain ⟨F, h, hb, hf⟩ := h
  refine (qu_drop_yes h hex).mono ?_
  rintro e w' ⟨he, hq, f⟩
  exact ⟨he, F, hq, hb, hf.trans f (fun i q => .inr (hb i q))⟩
theorem qn_drop_no (h : QN w w1 qb M n) {x : Int} (hx : i64 x) (hne : ∀ u, M u → ¬ u.x = x) : Calls Try.prog 10 #[.pointer (some ⟨qb, 0, none⟩), .int .i64 x] w1 fun e w' => e = .returned (.bool false) ∧ w1 = w' := by
  obtain ⟨F, h, hb, hf⟩ := h
  exact qu_drop_no h hx hne
theorem qn_len (h : QN w w1 qb M n) : Calls Try.prog 12 #[.pointer (some ⟨qb, 0, none⟩)] w1 fun e w' => e = .returned (.int .i64 (n : Nat)) ∧ w1 = w' := by
  obtain ⟨F, h, hb, hf⟩ := h
  exact qu_len h
theorem qn_least (h : QN w w1 qb M n) (hn : 0 < n) : ∃ t, LeastT M t ∧ Hid (Calls Try.prog 6 #[.pointer (some ⟨qb, 0, none⟩)] w1 fun e w' => e = .returned (.tuple #[.int .i64 t.x, .bool true]) ∧ w1 = w') := by
  obtain ⟨F, h, hb, hf⟩ := h
  obtain ⟨t, h1, h2⟩ := qu_least_yes h hn
  exact ⟨t, h1, h2.out w1 (Fr.refl _ _)⟩

def tq1 : Th := ⟨1, 2, 0⟩
def tq2 : Th := ⟨3, 1, 9⟩
def tq3 : Th := ⟨2, 1, 9⟩
def mq1 : Th → Prop := fun u => u = tq1 ∨ False
def mq2 : Th → Prop := fun u => u = tq2 ∨ mq1 u
def mq3 : Th → Prop := fun u => u = tq3 ∨ mq2 u
set_option maxRecDepth 100000 in
set_option maxHeartbeats 2000000 in
theorem toldQ_calls (w : World) : Calls Try.prog 5 #[] w fun e w' => e = .returned (.bool true) ∧ Fr NoF w w' := by
  have A1 : Hid (∀ w1 qb, QN w w1 qb (fun _ => False) 0 → Calls Try.prog 7 #[.pointer (some ⟨qb, 0, none⟩), .int .i64 1, .agg #[.int .i64 2, .int .i64 0]] w1 fun e w' => e = .returned (.tuple #[]) ∧ QN w w' qb mq1 1) := fun w1 qb h => qn_put_new h (t := tq1) ⟨rfl, rfl, rfl⟩ (by omega) (fun u q => q.elim)
  have A2 : Hid (∀ w1 qb, QN w w1 qb mq1 1 → Calls Try.prog 7 #[.pointer (some ⟨qb, 0, none⟩), .int .i64 3, .agg #[.int .i64 1, .int .i64 9]] w1 fun e w' => e = .returned (.tuple #[]) ∧ QN w w' qb mq2 2) := fun w1 qb h => qn_put_new h (t := tq2) ⟨rfl, rfl, rfl⟩ (by omega) (fun u q => by rcases q with rfl | q; decide; exact q.elim)
  have A3 : Hid (∀ w1 qb, QN w w1 qb mq2 2 → Calls Try.prog 7 #[.pointer (some ⟨qb, 0, none⟩), .int .i64 2, .agg #[.int .i64 1, .int .i64 9]] w1 fun e w' => e = .returned (.tuple #[]) ∧ QN w w' qb mq3 3) := fun w1 qb h => qn_put_new h (t := tq3) ⟨rfl, rfl, rfl⟩ (by omega) (fun u q => by rcases q with rfl | rfl | q; decide; decide; exact q.elim)
  have A4 : Hid (∀ w1 qb, QN w w1 qb mq3 3 → Calls Try.prog 6 #[.pointer (some ⟨qb, 0, none⟩)] w1 fun e w' => e = .returned (.tuple #[.int .i64 2, .bool true]) ∧ w1 = w') := by
    intro w1 qb h
    obtain ⟨t, ⟨h1, h2⟩, hc⟩ := qn_least h (by omega)
    have h3 := h2 tq3 (.inl rfl)
    have ht : t = tq3 := by
      rcases h1 with q | q | q | q
      · exact q
      · subst q; exact absurd h3 (by decide)
      · subst q; exact absurd h3 (by decide)
      · exact q.elim
    subst ht
    exact hc.out
  have A5 : Hid (∀ w1 qb, QN w w1 qb mq3 3 → Calls Try.prog 12 #[.pointer (some ⟨qb, 0, none⟩)] w1 fun e w' => e = .returned (.int .i64 3) ∧ w1 = w') := fun w1 qb h => qn_len h
  have A6 : Hid (∀ w1 qb, QN w w1 qb mq3 3 → Calls Try.prog 10 #[.pointer (some ⟨qb, 0, none⟩), .int .i64 2] w1 fun e w' => e = .returned (.bool true) ∧ QN w w' qb (fun u => mq3 u ∧ ¬ u.x = 2) 2) := fun w1 qb h => qn_drop_yes h ⟨tq3, .inl rfl, rfl⟩
  have A7 : Hid (∀ w1 qb, QN w w1 qb (fun u => mq3 u ∧ ¬ u.x = 2) 2 → Calls Try.prog 10 #[.pointer (some ⟨qb, 0, none⟩), .int .i64 2] w1 fun e w' => e = .returned (.bool false) ∧ w1 = w') := fun w1 qb h => qn_drop_no h rfl (fun u q => q.2)
  go_enter Try.func5, Try.ntmps5
  go_wp2_with fail
  refine (qn_new w).mono ?_
  rintro e w1 ⟨qb, rfl, h1⟩
  have H1 := Lib.hid h1
  clear h1
  go_wp2_with fail
  refine (A1.out _ _ H1.out).mono ?_
  rintro e w2 ⟨rfl, h2⟩
  have H2 := Lib.hid h2
  clear h2 H1 A1
  go_wp2_with fail
  refine (A2.out _ _ H2.out).mono ?_
  rintro e w3 ⟨rfl, h3⟩
  have H3 := Lib.hid h3
  clear h3 H2 A2
  go_wp2_with fail
  refine (A3.out _ _ H3.out).mono ?_
  rintro e w4 ⟨rfl, h4⟩
  have H4 := Lib.hid h4
  clear h4 H3 A3
  go_wp2_with fail
  refine (A4.out _ _ H4.out).mono ?_
  rintro e w5 ⟨rfl, rfl⟩
  go_wp2_with fail
  refine (A5.out _ _ H4.out).mono ?_
  rintro e w5 ⟨rfl, rfl⟩
  go_wp2_with fail
  refine (A6.out _ _ H4.out).mono ?_
  rintro e w6 ⟨rfl, h6⟩
  have H6 := Lib.hid h6
  clear h6 H4 A4 A5 A6
  go_wp2_with fail
  refine (A7.out _ _ H6.out).mono ?_
  rintro e w7 ⟨rfl, rfl⟩
  go_wp2
  go_returns
  exact ⟨rfl, H6.out.f⟩
end
end Go.Proofs.Ytpebonpibhdfoaa

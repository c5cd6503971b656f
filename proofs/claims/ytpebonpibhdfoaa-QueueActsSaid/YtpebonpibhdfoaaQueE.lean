/-
  A Queue in memory: New, Len, find, Least.
-/
import Derived.Test.YtpebonpibhdfoaaQueD
namespace Go.Proofs.Ytpebonpibhdfoaa
open Go.RowKit Go.Maps
set_option linter.unusedVariables false

theorem ltT_ord : Ord ltT := ⟨fun x y h => by rw [ltT_iff] at h; rw [ltT_not]; omega, fun x y z h1 h2 => by rw [ltT_not] at *; omega⟩
/-- The things of M, n of them, in a Queue at block qb. -/
def QS (w : World) (qb : Nat) (M : Th → Prop) (n : Nat) (F : Nat → Prop) : Prop := ∃ a, HRq qb w a n F ∧ IsHeap ltT a n ∧ ∀ t, M t ↔ ∃ k, k < n ∧ a k = t
section
variable {w w' : World} {qb n : Nat} {a : Nat → Th} {lv : Value} {mo : Option Nat} {g : Int → Option Int} {F : Nat → Prop} {M : Th → Prop}
theorem QS.fr (h : QS w qb M n F) {G : Nat → Prop} (f : Fr G w w') (hG : ∀ i, F i → ¬ G i) : QS w' qb M n F := by
  obtain ⟨a, h, r⟩ := h
  exact ⟨a, (q_sys qb).fr h f hG, r⟩
theorem QS.fr0 (h : QS w qb M n F) (f : Fr NoF w w') : QS w' qb M n F := h.fr f (fun _ _ q => q)
theorem QS.lt (h : QS w qb M n F) : ∀ i, F i → i < w.heap.size := by
  obtain ⟨a, h, r⟩ := h
  exact (q_sys qb).bd h
theorem QS.self (h : QS w qb M n F) : F qb := by
  obtain ⟨a, ⟨lv, mo, g, h, hF⟩, r⟩ := h
  exact (hF qb).2 (.inl rfl)
theorem QS.ok (h : QS w qb M n F) {t : Th} (ht : M t) : thOk t := by
  obtain ⟨a, ⟨lv, mo, g, h, hF⟩, _, hM⟩ := h
  obtain ⟨k, hk, rfl⟩ := (hM t).1 ht
  exact h.ok k hk
theorem QS.one (h : QS w qb M n F) {t u : Th} (ht : M t) (hu : M u) (e : t.x = u.x) : t = u := by
  obtain ⟨a, ⟨lv, mo, g, h, hF⟩, _, hM⟩ := h
  obtain ⟨k, hk, rfl⟩ := (hM t).1 ht
  obtain ⟨m, hm, rfl⟩ := (hM u).1 hu
  rw [h.inj k m hk hm e]
theorem QS.congr (h : QS w qb M n F) {M' : Th → Prop} (e : ∀ t, M t ↔ M' t) : QS w qb M' n F := by
  obtain ⟨a, h, hh, hM⟩ := h
  exact ⟨a, h, hh, fun t => (e t).symm.trans (hM t)⟩
theorem qu_new (w : World) : Calls Try.prog 4 #[] w fun e w' => e = .returned (.pointer (some ⟨w.heap.size, 0, none⟩)) ∧ QS w' w.heap.size (fun _ => False) 0 (fun i => i = w.heap.size) ∧ Fr NoF w w' := by
  have K : Hid (QS (w.alloc (.cells #[.slice none 0 0, .map none] 52)) w.heap.size (fun _ => False) 0 (fun i => i = w.heap.size)) := by
    refine ⟨fun _ => ⟨0, 0, 0⟩, ⟨.slice none 0 0, none, fun _ => none, ⟨⟨_, _, heap_alloc_new _ _ _ rfl, rfl, fun i hi => ?_⟩, SlF.nil _ _ _ _, ⟨rfl, fun _ => rfl⟩, fun x k => ⟨fun q => (by cases q), fun ⟨j, _, q, _⟩ => (by omega)⟩, fun k q => (by omega), fun b q => (by cases q), fun b q => (by cases q), by omega⟩, fun i => ⟨fun q => .inl q, fun q => ?_⟩⟩, fun k _ q => (by omega), fun t => ⟨fun q => q.elim, fun ⟨k, q, _⟩ => (by omega)⟩⟩
    · match i, hi with
      | 0, _ => rfl
      | 1, _ => rfl
    · rcases q with q | q | q
      · exact q
      · cases q
      · cases q
  go_enter Try.func4, Try.ntmps4
  go_wp2
  go_returns
  exact ⟨rfl, K.out, (Fr.refl NoF w).alloc _⟩
theorem qu_len (h : QS w qb M n F) : Calls Try.prog 12 #[.pointer (some ⟨qb, 0, none⟩)] w fun e w' => e = .returned (.int .i64 (n : Nat)) ∧ w = w' := by
  obtain ⟨a, ⟨lv, mo, g, h, hF⟩, _⟩ := h
  have HL := Lib.hid (q_len h)
  have lb := h.hd.lt
  clear h hF
  go_enter Try.func12, Try.ntmps12
  go_wp2_with fail
  refine HL.out.mono ?_
  rintro e w1 ⟨rfl, rfl⟩
  go_wp2
  go_returns
  exact ⟨rfl, rfl⟩
/-- Where x is. -/
theorem qc_find_yes (h : QC w qb a n lv mo g) {k : Nat} (hk : k < n) : Calls Try.prog 17 #[.pointer (some ⟨qb, 0, none⟩), .int .i64 (a k).x] w fun e w' => e = .returned (.tuple #[.int .i64 k, .bool true]) ∧ w = w' := by
  have c1 := h.c1
  have lb := h.hd.lt
  have HX : Hid (g (a k).x = some (k : Int)) := (h.pl (a k).x (k : Int)).2 ⟨k, rfl, hk, rfl⟩
  have HW : Hid (i64 (a k).x) := (h.ok k hk).1
  cases mo with
  | none => have := h.mp.1; omega
  | some mb =>
    have HM : Hid (MpN Try.prog 3 3 .i64 .i64 w mb n g) := h.mp
    generalize (a k).x = x at *
    clear h
    go_enter Try.func17, Try.ntmps17
    go_wp2_with (at_lookup; go_must (refine wp_lookN_some MIq HM.out HX.out rfl _ _ rfl (by rfl) (by rfl) HW.out ?_))
    go_returns
    exact ⟨rfl, rfl⟩
theorem qc_find_no (h : QC w qb a n lv mo g) {x : Int} (hx : i64 x) (hno : ∀ k, k < n → ¬ (a k).x = x) : Calls Try.prog 17 #[.pointer (some ⟨qb, 0, none⟩), .int .i64 x] w fun e w' => e = .returned (.tuple #[.int .i64 0, .bool false]) ∧ w = w' := by
  have c1 := h.c1
  have lb := h.hd.lt
  have HX : Hid (g x = none) := by
    cases e : g x with
    | none => rfl
    | some k =>
      obtain ⟨j, _, hj, q⟩ := (h.pl x k).1 e
      exact (hno j hj q).elim
  have HW := Lib.hid hx
  cases mo with
  | none =>
    have hln : ∀ W : World, (Instr.lookup 48 (.map none) (.int .i64 x) true).run Try.prog W = .ok (.tuple #[.int .i64 0, .bool false]) W := by
      intro W
      have := Maps.look_nil (P := Try.prog) (w := W) true (int_keyed MIq.uk) MIq.ut (MIq.z W) (keyOf_int_mk MIq.uk hx)
      exact this
    clear h hno hx
    go_enter Try.func17, Try.ntmps17
    go_wp2
    go_returns
    exact ⟨rfl, rfl⟩
  | some mb =>
    have HM : Hid (MpN Try.prog 3 3 .i64 .i64 w mb n g) := h.mp
    clear h hno hx
    go_enter Try.func17, Try.ntmps17
    go_wp2_with (at_lookup; go_must (refine wp_lookN_none MIq HM.out HX.out rfl _ _ rfl (by rfl) (by rfl) HW.out ?_))
    go_returns
    exact ⟨rfl, rfl⟩
theorem qu_least_no (h : QS w qb M 0 F) : Calls Try.prog 6 #[.pointer (some ⟨qb, 0, none⟩)] w fun e w' => e = .returned (.tuple #[.int .i64 0, .bool false]) ∧ w = w' := by
  have HL := Lib.hid (qu_len h)
  clear h
  go_enter Try.func6, Try.ntmps6
  go_wp2_with fail
  refine HL.out.mono ?_
  rintro e w1 ⟨rfl, rfl⟩
  go_wp2
  go_returns
  exact ⟨rfl, rfl⟩
/-- The least one. -/
def LeastT (M : Th → Prop) (t : Th) : Prop := M t ∧ ∀ u, M u → ltT u t = false
theorem qu_least_yes (h : QS w qb M n F) (hn : 0 < n) : ∃ t, LeastT M t ∧ Hid (∀ W, Fr NoF w W → Calls Try.prog 6 #[.pointer (some ⟨qb, 0, none⟩)] W fun e w' => e = .returned (.tuple #[.int .i64 t.x, .bool true]) ∧ W = w') := by
  have h0 := h
  obtain ⟨a, ⟨lv, mo, g, h, hF⟩, hh, hM⟩ := h
  refine ⟨a 0, ⟨(hM (a 0)).2 ⟨0, hn, rfl⟩, fun u hu => ?_⟩, fun W f => ?_⟩
  · obtain ⟨k, hk, rfl⟩ := (hM u).1 hu
    exact hh.root ltT_ord k hk
  · have HL := Lib.hid (qu_len (h0.fr0 f))
    have hq := h.fr0 f
    have c0 := hq.c0
    have lb := hq.hd.lt
    have hnb : ((n : Int) == 0) = false := by simp; omega
    have hnd : (n == 0) = false := by simp; omega
    have hnp : 0 < (n : Int) := by omega
    obtain ⟨gb, cap, rfl, h1, h2, h3, h4, i0, i1, i2⟩ := hq.el hn
    rw [Nat.zero_mul] at i0
    generalize (a 0).x = ix at *
    clear h hq h0 hF hh hM i1 i2 f
    go_enter Try.func6, Try.ntmps6
    go_wp2_with fail
    refine HL.out.mono ?_
    rintro e w1 ⟨rfl, rfl⟩
    go_wp2
    go_returns
    exact ⟨rfl, rfl⟩
end
end Go.Proofs.Ytpebonpibhdfoaa

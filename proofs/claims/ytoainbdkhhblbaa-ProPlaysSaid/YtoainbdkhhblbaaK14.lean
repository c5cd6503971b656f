/-
  Out and place: the calls of package ring that write.
-/
import Derived.Test.YtoainbdkhhblbaaK13
namespace Go.Proofs.Ytoainbdkhhblbaa
open Go.RowKit
set_option linter.unusedVariables false

section
variable {w : World} {b nb lb n m : Nat} {rw nx pv ls : Nat → Nat}

set_option maxHeartbeats 400000 in
theorem out_core (x k q p l : Nat) (v1 v2 : Int) (hbn : ¬ b = nb) (hbl : ¬ b = lb) (hnl : ¬ nb = lb) (hb : b < w.heap.size) (hnb : nb < w.heap.size) (hlb : lb < w.heap.size)
    (c0 : w.cell? ⟨b, 0, none⟩ = some (.int .i64 n)) (c1 : w.cell? ⟨b, 1, none⟩ = some (.slice (some ⟨nb, 0, none⟩) (n + m) (n + m))) (c2 : w.cell? ⟨b, 2, none⟩ = some (.slice (some ⟨lb, 0, none⟩) m m))
    (f1 : ∀ i, w.frozen? ⟨nb, i, none⟩ = false) (f2 : ∀ i, w.frozen? ⟨lb, i, none⟩ = false) (hn : n ≤ 200000) (hm : m ≤ 16) (hx : x < n) (hk : k < m) (hq : q < n + m) (hp : p < n + m) (hpx : ¬ p = x) (hqx : ¬ q = x)
    (r0 : w.cell? ⟨nb, x * 3, none⟩ = some (.int .i64 (k + 1))) (r1 : w.cell? ⟨nb, x * 3 + 1, none⟩ = some (.int .i64 q)) (r2 : w.cell? ⟨nb, x * 3 + 2, none⟩ = some (.int .i64 p))
    (r3 : w.cell? ⟨nb, p * 3 + 1, none⟩ = some (.int .i64 v1)) (r4 : w.cell? ⟨nb, q * 3 + 2, none⟩ = some (.int .i64 v2)) (r5 : w.cell? ⟨lb, k, none⟩ = some (.int .i64 l)) (hl : 1 ≤ l) (hl' : l < 1000000)
    (HI : Hid (Calls Try.prog 72 #[.pointer (some ⟨b, 0, none⟩), .int .i64 x] w fun e w' => e = .returned (.int .i64 k) ∧ w = w')) :
    Calls Try.prog 57 #[.pointer (some ⟨b, 0, none⟩), .int .i64 x] w fun e w' => e = .returned (.bool true) ∧
      w' = (((((((w.setCell ⟨nb, p * 3 + 1, none⟩ (.int .i64 q)).setCell ⟨nb, q * 3 + 2, none⟩ (.int .i64 p)).setCell ⟨nb, x * 3, none⟩ (.int .i64 0)).setCell ⟨nb, x * 3 + 1, none⟩ (.int .i64 0)).setCell
          ⟨nb, x * 3 + 2, none⟩ (.int .i64 0)).setCell ⟨lb, k, none⟩ (.int .i64 (l - 1))).alloc (.cells #[.int .i64 (k + 1), .int .i64 q, .int .i64 p] 92)).drew.drew := by
  go_enter Try.func57, Try.ntmps57
  go_wp2_with (go_at_call 72; refine HI.out.mono ?_; rintro e w' ⟨rfl, rfl⟩)
  go_region
  go_wp2
  go_region
  go_wp2
  go_ret
  exact ⟨rfl, rfl⟩

/-- Out, of a thing that is in a row. -/
theorem out_some {L : List (List Nat)} (h : RC w b nb lb n m rw nx pv ls) (hi : RInv n m rw nx pv ls L) {x k : Nat} (e : rowIx L x = some k) (hn : n ≤ 200000) {F : Nat → Prop} (hF : ∀ i, i = nb ∨ i = lb → F i) :
    Calls Try.prog 57 #[.pointer (some ⟨b, 0, none⟩), .int .i64 x] w fun e w' => e = .returned (.bool true) ∧
      (∃ rw' nx' pv' ls', RC w' b nb lb n m rw' nx' pv' ls' ∧ RInv n m rw' nx' pv' ls' (outL L x)) ∧ Fr F w w' := by
  obtain ⟨l1, l2, hl⟩ := hi.split e
  obtain ⟨b1, b2, b3, b4, b5, b6⟩ := hi.bounds hl
  have hk := hi.k_lt hl
  have hlen := hi.lsz k _ hl
  have hnodup := hi.nd k _ hl
  have hle : l1.length + l2.length + 1 ≤ n := by
    have := List.Nodup.length_le_of_subset (l₁ := l1 ++ x :: l2) (l₂ := List.range n) hnodup (fun y hy => List.mem_range.2 (hi.mem k _ hl y hy).1)
    simp at this; omega
  simp only [List.length_append, List.length_cons] at hlen
  have HI := In_calls h hi x
  rw [e] at HI
  have r0 := h.row (i := x) (by omega)
  rw [b2] at r0
  refine (out_core x k (nx x) (pv x) (ls k) _ _ h.d1 h.d2 h.d3 h.hd.lt h.nd.lt h.ln.lt h.c0 h.c1 h.c2 h.nd.frozen h.ln.frozen h.hn h.hm b1 hk b4 b3 b5 b6 r0 (h.next (by omega)) (h.prev (by omega)) (h.next b3) (h.prev b4) (h.len hk) (by omega) (by omega) HI).mono ?_
  rintro e w' ⟨rfl, rfl⟩
  refine ⟨rfl, ⟨_, _, _, _, ((((((((h.setNext (pv x) (nx x) rfl).setPrev (nx x) (pv x) rfl).setRow x 0 rfl).setNext x 0 rfl).setPrev x 0 rfl).setLen k (ls k - 1) (by omega)).alloc _).drew).drew, ?_⟩, ?_⟩
  · rw [hi.outL_eq hl]
    exact hi.take hl
  · have f1 : F nb := hF _ (.inl rfl)
    have f2 : F lb := hF _ (.inr rfl)
    exact ((((((((Fr.refl F w).setCell (.inl f1) _).setCell (.inl f1) _).setCell (.inl f1) _).setCell (.inl f1) _).setCell (.inl f1) _).setCell (.inl f2) _).alloc _).drew.drew
/-- Out, of what is in none. -/
theorem out_none (x : Int)
    (HI : Hid (Calls Try.prog 72 #[.pointer (some ⟨b, 0, none⟩), .int .i64 x] w fun e w' => e = .returned (.int .i64 (-1)) ∧ w = w')) :
    Calls Try.prog 57 #[.pointer (some ⟨b, 0, none⟩), .int .i64 x] w fun e w' => e = .returned (.bool false) ∧ w = w' := by
  go_enter Try.func57, Try.ntmps57
  go_wp2_with (go_at_call 72; refine HI.out.mono ?_; rintro e w' ⟨rfl, rfl⟩)
  go_ret
  exact ⟨rfl, rfl⟩
end
end Go.Proofs.Ytoainbdkhhblbaa

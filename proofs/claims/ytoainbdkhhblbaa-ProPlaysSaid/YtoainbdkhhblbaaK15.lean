/-
  place, Front, Back, Before.
-/
import Derived.Test.YtoainbdkhhblbaaK14
import Derived.Deep.RegionWith
namespace Go.Proofs.Ytoainbdkhhblbaa
open Go.RowKit
set_option linter.unusedVariables false

section
variable {w : World} {b nb lb n m : Nat} {rw nx pv ls : Nat → Nat}

set_option maxHeartbeats 400000 in
theorem place_core (x t k p l : Nat) (v0 v1 v2 v3 : Int) (hbn : ¬ b = nb) (hbl : ¬ b = lb) (hnl : ¬ nb = lb) (hb : b < w.heap.size) (hnb : nb < w.heap.size) (hlb : lb < w.heap.size)
    (c0 : w.cell? ⟨b, 0, none⟩ = some (.int .i64 n)) (c1 : w.cell? ⟨b, 1, none⟩ = some (.slice (some ⟨nb, 0, none⟩) (n + m) (n + m))) (c2 : w.cell? ⟨b, 2, none⟩ = some (.slice (some ⟨lb, 0, none⟩) m m))
    (f1 : ∀ i, w.frozen? ⟨nb, i, none⟩ = false) (f2 : ∀ i, w.frozen? ⟨lb, i, none⟩ = false) (hn : n ≤ 200000) (hm : m ≤ 16) (hx : x < n) (hk : k < m) (ht : t < n + m) (hp : p < n + m) (hpx : ¬ p = x) (htx : ¬ t = x)
    (r0 : w.cell? ⟨nb, t * 3, none⟩ = some (.int .i64 (k + 1))) (r1 : w.cell? ⟨nb, t * 3 + 2, none⟩ = some (.int .i64 p)) (r2 : w.cell? ⟨nb, x * 3, none⟩ = some (.int .i64 v0)) (r3 : w.cell? ⟨nb, x * 3 + 1, none⟩ = some (.int .i64 v1))
    (r4 : w.cell? ⟨nb, x * 3 + 2, none⟩ = some (.int .i64 v2)) (r5 : w.cell? ⟨nb, p * 3 + 1, none⟩ = some (.int .i64 v3)) (r6 : w.cell? ⟨lb, k, none⟩ = some (.int .i64 l)) (hl' : l < 1000000) :
    Calls Try.prog 58 #[.pointer (some ⟨b, 0, none⟩), .int .i64 x, .int .i64 t] w fun e w' => e = .returned (.tuple #[]) ∧
      w' = ((((((w.setCell ⟨nb, x * 3, none⟩ (.int .i64 (k + 1))).setCell ⟨nb, x * 3 + 1, none⟩ (.int .i64 t)).setCell ⟨nb, x * 3 + 2, none⟩ (.int .i64 p)).setCell ⟨nb, p * 3 + 1, none⟩ (.int .i64 x)).setCell
          ⟨nb, t * 3 + 2, none⟩ (.int .i64 x)).setCell ⟨lb, k, none⟩ (.int .i64 (l + 1))).drew := by
  go_enter Try.func58, Try.ntmps58
  go_wp2
  go_region
  go_wp2
  go_end0
  exact ⟨rfl, rfl⟩

theorem place_any {L : List (List Nat)} (h : RC w b nb lb n m rw nx pv ls) (hi : RInv n m rw nx pv ls L) {x k t : Nat} {l1 l2 : List Nat} (hl : L[k]? = some (l1 ++ l2)) (hx : x < n) (hrx : rw x = 0) (ht : t = l2.head?.getD (n + k))
    {F : Nat → Prop} (hF : ∀ i, i = nb ∨ i = lb → F i) :
    Calls Try.prog 58 #[.pointer (some ⟨b, 0, none⟩), .int .i64 x, .int .i64 t] w fun e w' => e = .returned (.tuple #[]) ∧
      (∃ rw' nx' pv' ls', RC w' b nb lb n m rw' nx' pv' ls' ∧ RInv n m rw' nx' pv' ls' (L.set k (l1 ++ x :: l2))) ∧ Fr F w w' := by
  have hk := hi.k_lt hl
  have hlen := hi.lsz k _ hl
  have hmem := hi.mem k _ hl
  have hle : l1.length + l2.length ≤ n := by
    have := List.Nodup.length_le_of_subset (l₁ := l1 ++ l2) (l₂ := List.range n) (hi.nd k _ hl) (fun y hy => List.mem_range.2 (hmem y hy).1)
    simp at this; omega
  simp only [List.length_append] at hlen
  have hn := h.hn
  have hm := h.hm
  have hp : pv t = l1.getLast?.getD (n + k) := by
    have hlk := hi.lk k _ hl
    rw [ht]
    cases l2 with
    | nil => simp only [List.append_nil] at hlk; simpa using hlk.last
    | cons z l2 => simpa using (Lk.append.1 hlk).1.last
  have htc : (t = n + k ∧ l2 = []) ∨ t ∈ l2 := ht ▸ head_mem_or
  have hpc : (pv t = n + k ∧ l1 = []) ∨ pv t ∈ l1 := hp ▸ getLast_mem_or
  have ht1 : t < n + m ∧ ¬ t = x ∧ rw t = k + 1 := by
    rcases htc with ⟨e, _⟩ | e
    · exact ⟨by omega, by omega, by rw [e]; exact hi.cl k hk⟩
    · have := hmem t (by simp [e])
      exact ⟨by omega, fun q => by rw [q] at this; omega, this.2⟩
  have hp1 : pv t < n + m ∧ ¬ pv t = x := by
    rcases hpc with ⟨e, _⟩ | e
    · exact ⟨by omega, by omega⟩
    · have := hmem (pv t) (by simp [e])
      exact ⟨by omega, fun q => by rw [q] at this; omega⟩
  have r0 := h.row ht1.1
  rw [ht1.2.2] at r0
  have r1 := h.prev ht1.1
  have r2 := h.row (i := x) (by omega)
  have r3 := h.next (i := x) (by omega)
  have r4 := h.prev (i := x) (by omega)
  have r5 := h.next hp1.1
  have r6 := h.len hk
  have hl9 : (ls k : Nat) < 1000000 := by omega
  have HC := place_core x t k (pv t) (ls k) _ _ _ _ h.d1 h.d2 h.d3 h.hd.lt h.nd.lt h.ln.lt h.c0 h.c1 h.c2 h.nd.frozen h.ln.frozen h.hn h.hm hx hk ht1.1 hp1.1 hp1.2 ht1.2.1 r0 r1 r2 r3 r4 r5 r6 hl9
  refine HC.mono ?_
  rintro e w' ⟨rfl, rfl⟩
  refine ⟨rfl, ⟨_, _, _, _, ((((((h.setRow x (k + 1) rfl).setNext x t rfl).setPrev x (pv t) rfl).setNext (pv t) x rfl).setPrev t x rfl).setLen k (ls k + 1) (by omega)).drew, ?_⟩, ?_⟩
  · exact hi.give hl hx hrx ht rfl
  · have f1 : F nb := hF _ (.inl rfl)
    have f2 : F lb := hF _ (.inr rfl)
    exact (((((((Fr.refl F w).setCell (.inl f1) _).setCell (.inl f1) _).setCell (.inl f1) _).setCell (.inl f1) _).setCell (.inl f1) _).setCell (.inl f2) _).drew

/-- Out, of a thing. -/
theorem out_any {L : List (List Nat)} (h : RC w b nb lb n m rw nx pv ls) (hi : RInv n m rw nx pv ls L) (x : Nat) {F : Nat → Prop} (hF : ∀ i, i = nb ∨ i = lb → F i) :
    Calls Try.prog 57 #[.pointer (some ⟨b, 0, none⟩), .int .i64 x] w fun e w' => e = .returned (.bool (rowIx L x).isSome) ∧
      (∃ rw' nx' pv' ls', RC w' b nb lb n m rw' nx' pv' ls' ∧ RInv n m rw' nx' pv' ls' (outL L x)) ∧ Fr F w w' := by
  cases e : rowIx L x with
  | none =>
    have HI := In_calls h hi x
    rw [e] at HI
    refine (out_none x HI).mono ?_
    rintro e' w' ⟨rfl, rfl⟩
    exact ⟨rfl, ⟨rw, nx, pv, ls, h, by simpa [outL, e] using hi⟩, Fr.refl _ _⟩
  | some k => exact out_some h hi e h.hn hF
end

section
variable {w : World} {b nb lb n m : Nat} {rw nx pv ls : Nat → Nat}
end
end Go.Proofs.Ytoainbdkhhblbaa

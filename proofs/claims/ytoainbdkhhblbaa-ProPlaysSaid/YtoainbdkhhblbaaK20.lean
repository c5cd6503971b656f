/-
  New, and what a nil one answers.
-/
import Derived.Test.YtoainbdkhhblbaaK19
namespace Go.Proofs.Ytoainbdkhhblbaa
open Go.RowKit
set_option linter.unusedVariables false

theorem infoNode : (Try.prog.info? 92).map (fun i => (i.zero, i.size, i.bytes)) = some (some (.agg #[.int .i64 0, .int .i64 0, .int .i64 0]), 3, 24) := by kernel_rfl

theorem made_get {z : Array Value} {N i : Nat} (hi : i < N) : (madeCells z N)[i]? = some z[i % z.size]! := by
  unfold madeCells
  rw [Array.getElem?_map, Array.getElem?_range, if_pos hi]; rfl
def z0 : Nat → Nat := fun _ => 0
/-- The nodes behind k rounds of New's loop. -/
def clR (n k : Nat) : Nat → Nat := fun i => if n ≤ i ∧ i < n + k then i - n + 1 else 0
def clN (n k : Nat) : Nat → Nat := fun i => if n ≤ i ∧ i < n + k then i else 0
theorem clR_succ (n k : Nat) : upd (clR n k) (n + k) (k + 1) = clR n (k + 1) := by
  funext i; unfold upd clR
  split
  · subst i; rw [if_pos (by omega)]; omega
  · by_cases h : n ≤ i ∧ i < n + k
    · rw [if_pos h, if_pos (by omega)]
    · rw [if_neg h, if_neg (by omega)]
theorem clN_succ (n k : Nat) : upd (clN n k) (n + k) (n + k) = clN n (k + 1) := by
  funext i; unfold upd clN
  split
  · subst i; rw [if_pos (by omega)]
  · by_cases h : n ≤ i ∧ i < n + k
    · rw [if_pos h, if_pos (by omega)]
    · rw [if_neg h, if_neg (by omega)]
theorem clR_zero (n : Nat) : clR n 0 = z0 := by funext i; unfold clR z0; rw [if_neg (by omega)]
theorem clN_zero (n : Nat) : clN n 0 = z0 := by funext i; unfold clN z0; rw [if_neg (by omega)]
theorem cl_inv (n m : Nat) : RInv n m (clR n m) (clN n m) (clN n m) z0 (List.replicate m []) := by
  have g : ∀ (k : Nat) (l : List Nat), (List.replicate m ([] : List Nat))[k]? = some l → k < m ∧ l = [] := by
    intro k l h
    rw [List.getElem?_replicate] at h
    split at h
    · exact ⟨by assumption, (Option.some.inj h).symm⟩
    · cases h
  refine ⟨by simp, ?_, ?_, ?_, ?_, ?_, ?_⟩
  · intro k l h; obtain ⟨hk, rfl⟩ := g k l h
    exact ⟨by unfold clN; rw [if_pos (by omega)], by unfold clN; rw [if_pos (by omega)]⟩
  · intro k l h; obtain ⟨hk, rfl⟩ := g k l h; rfl
  · intro k l h; obtain ⟨hk, rfl⟩ := g k l h; simp
  · intro k l h x hx; obtain ⟨hk, rfl⟩ := g k l h; simp at hx
  · intro k hk; unfold clR; rw [if_pos (by omega)]; omega
  · intro x hx; left; unfold clR; rw [if_neg (by omega)]

def NewRel (w0 : World) (b nb lb n m : Nat) (i : Value) (wr : World) : Prop :=
  ∃ k : Nat, k ≤ m ∧ i = .int .i64 k ∧ RC wr b nb lb n m (clR n k) (clN n k) (clN n k) z0 ∧ Fr NoF w0 wr

theorem rc_made {w w' : World} {b nb lb n m : Nat} (hn : n ≤ 200000) (hm : m ≤ 16) (h1 : w'.heap[b]? = some (.cells #[.int .i64 n, .slice (some ⟨nb, 0, none⟩) (n + m) (n + m), .slice (some ⟨lb, 0, none⟩) m m] 90 (0, 0)))
    (h2 : w'.heap[nb]? = some (.cells (madeCells #[.int .i64 0, .int .i64 0, .int .i64 0] ((n + m) * 3)) 92 (0, 0))) (h3 : w'.heap[lb]? = some (.cells (madeCells #[.int .i64 0] m) 3 (0, 0))) (d1 : ¬ b = nb) (d2 : ¬ b = lb) (d3 : ¬ nb = lb) :
    RC w' b nb lb n m z0 z0 z0 z0 := by
  refine ⟨⟨_, _, h1, rfl, ?_⟩, ⟨_, _, h2, by simp [size_madeCells], ?_⟩, ⟨_, _, h3, by simp [size_madeCells], ?_⟩, d1, d2, d3, hn, hm⟩
  · intro i hi
    match i, hi with
    | 0, _ => rfl
    | 1, _ => rfl
    | 2, _ => rfl
  · intro i hi
    rw [made_get hi]
    have : i % 3 < 3 := Nat.mod_lt _ (by decide)
    have e : ∀ j, j < 3 → (#[Value.int .i64 0, .int .i64 0, .int .i64 0] : Array Value)[j]! = .int .i64 0 := by
      intro j hj
      match j, hj with
      | 0, _ => rfl
      | 1, _ => rfl
      | 2, _ => rfl
    rw [show (#[Value.int .i64 0, .int .i64 0, .int .i64 0] : Array Value).size = 3 from rfl, e _ this]
    simp [ndF, z0]
  · intro i hi
    rw [made_get hi]
    rw [show (#[Value.int .i64 0] : Array Value).size = 1 from rfl, Nat.mod_one]
    rfl

theorem h0 (w : World) (o : Obj) : (w.alloc o).heap[w.heap.size]? = some o := heap_alloc_new w o _ rfl
theorem hstep (w : World) (o o' : Obj) (k : Nat) (h : w.heap[k]? = some o') : (w.alloc o).heap[k]? = some o' := by
  rw [Below.heap_alloc w o k ?_]; exact h
  rcases Nat.lt_or_ge k w.heap.size with h' | h'
  · exact h'
  · simp [Array.getElem?_eq_none h'] at h

abbrev nodesO (n m : Nat) : Obj := .cells (madeCells #[.int .i64 0, .int .i64 0, .int .i64 0] ((n + m) * 3)) 92
abbrev lensO (m : Nat) : Obj := .cells (madeCells #[.int .i64 0] m) 3
abbrev rowsO (n m nb lb : Nat) : Obj := .cells #[.int .i64 n, .slice (some ⟨nb, 0, none⟩) (n + m) (n + m), .slice (some ⟨lb, 0, none⟩) m m] 90
theorem startA (w : World) (n m : Nat) (hn : n ≤ 200000) (hm : m ≤ 16) : RC (((w.alloc (nodesO n m)).alloc (lensO m)).alloc (rowsO n m w.heap.size (w.heap.size + 1))).drew (w.heap.size + 1 + 1) w.heap.size (w.heap.size + 1) n m z0 z0 z0 z0 := by
  have e1 : (w.alloc (nodesO n m)).heap.size = w.heap.size + 1 := by simp
  have e2 : ((w.alloc (nodesO n m)).alloc (lensO m)).heap.size = w.heap.size + 2 := by simp
  refine rc_made hn hm (w := w) ?_ ?_ ?_ (by omega) (by omega) (by omega)
  · exact heap_alloc_new _ _ _ e2.symm
  · exact hstep _ _ _ _ (hstep _ _ _ _ (h0 _ _))
  · exact hstep _ _ _ _ (heap_alloc_new _ _ _ e1.symm)
theorem startB (w : World) (n m : Nat) (hn : n ≤ 200000) (hm : m ≤ 16) : RC (((w.alloc (lensO m)).alloc (nodesO n m)).alloc (rowsO n m (w.heap.size + 1) w.heap.size)).drew (w.heap.size + 1 + 1) (w.heap.size + 1) w.heap.size n m z0 z0 z0 z0 := by
  have e1 : (w.alloc (lensO m)).heap.size = w.heap.size + 1 := by simp
  have e2 : ((w.alloc (lensO m)).alloc (nodesO n m)).heap.size = w.heap.size + 2 := by simp
  refine rc_made hn hm (w := w) ?_ ?_ ?_ (by omega) (by omega) (by omega)
  · exact heap_alloc_new _ _ _ e2.symm
  · exact hstep _ _ _ _ (heap_alloc_new _ _ _ e1.symm)
  · exact hstep _ _ _ _ (hstep _ _ _ _ (h0 _ _))
theorem newRel_step {w0 wr : World} {b nb lb n m k : Nat} (hk : k < m) (h : RC wr b nb lb n m (clR n k) (clN n k) (clN n k) z0) (f : Fr NoF w0 wr) (hb : w0.heap.size ≤ nb) :
    NewRel w0 b nb lb n m (.int .i64 ((k : Int) + 1)) (((wr.setCell ⟨nb, (n + k) * 3, none⟩ (.int .i64 ((k : Int) + 1))).setCell ⟨nb, (n + k) * 3 + 1, none⟩ (.int .i64 ((n : Int) + k))).setCell ⟨nb, (n + k) * 3 + 2, none⟩ (.int .i64 ((n : Int) + k))) := by
  refine ⟨k + 1, hk, rfl, ?_, ((f.setCell (.inr hb) _).setCell (.inr hb) _).setCell (.inr hb) _⟩
  have := ((h.setRow (n + k) (k + 1) (z := (k : Int) + 1) (by omega)).setNext (n + k) (n + k) (z := (n : Int) + k) (by omega)).setPrev (n + k) (n + k) (z := (n : Int) + k) (by omega)
  rw [clR_succ, clN_succ] at this
  exact this

set_option maxHeartbeats 1000000 in
theorem new_yes (n m : Nat) (w : World) (hn : n ≤ 200000) (h1 : 1 ≤ m) (hm : m ≤ 16) :
    Calls Try.prog 31 #[.int .i64 n, .int .i64 m] w fun e w' => ∃ b F, e = .returned (.tuple #[.pointer (some ⟨b, 0, none⟩), .int .i64 0]) ∧ RR w' b n m (List.replicate m []) F ∧ (∀ i, F i → w.heap.size ≤ i) ∧ Fr NoF w w' := by
  obtain ⟨i0, hi, hz0, hz1, hz2⟩ := info_parts infoInt
  obtain ⟨i1, hj, hy0, hy1, hy2⟩ := info_parts infoNode
  have mk1 : ∀ w : World, (Instr.makeSlice 88 (.int .i64 ((n : Int) + m)) (.int .i64 ((n : Int) + m))).run Try.prog w =
      .ok (.slice (some ⟨w.heap.size, 0, none⟩) (n + m) (n + m)) (w.alloc (.cells (madeCells #[.int .i64 0, .int .i64 0, .int .i64 0] ((n + m) * 3)) 92)) := by
    intro w
    have := run_make (P := Try.prog) w 88 92 i1 _ Try.underlying88 hj hy0 .i64 .i64 ((n : Int) + m) ((n : Int) + m) (by omega) (Int.le_refl _) (by rw [hy2]; omega) (by omega)
    rw [show ((n : Int) + m).toNat = n + m from by omega, hy1] at this
    exact this
  have mk2 : ∀ w : World, (Instr.makeSlice 55 (.int .i64 (m : Int)) (.int .i64 (m : Int))).run Try.prog w =
      .ok (.slice (some ⟨w.heap.size, 0, none⟩) m m) (w.alloc (.cells (madeCells #[.int .i64 0] m) 3)) := by
    intro w
    have := run_make (P := Try.prog) w 55 3 i0 _ Try.underlying55 hi hz0 .i64 .i64 (m : Int) (m : Int) (by omega) (Int.le_refl _) (by rw [hz2]; omega) (by omega)
    rw [show ((m : Int)).toNat = m from by omega, hz1, Nat.mul_one] at this
    exact this
  have d1 : decide ((n : Int) < 0) = false := by simp
  have d2 : decide ((200000 : Int) < n) = false := by simp; omega
  have d3 : decide ((m : Int) < 1) = false := by simp; omega
  have d4 : decide ((16 : Int) < m) = false := by simp; omega
  clear hi hz0 hz1 hz2 hj hy0 hy1 hy2
  go_enter Try.func31, Try.ntmps31
  go_wp2
  go_region
  · go_wp2
    have st := startA w n m hn hm
    have hf : Fr NoF w (((w.alloc (nodesO n m)).alloc (lensO m)).alloc (rowsO n m w.heap.size (w.heap.size + 1))).drew := ((((Fr.refl NoF w).alloc _).alloc _).alloc _).drew
    generalize (((w.alloc (nodesO n m)).alloc (lensO m)).alloc (rowsO n m w.heap.size (w.heap.size + 1))).drew = wz at st hf
    obtain ⟨b, hb⟩ : ∃ b, b = w.heap.size + 1 + 1 := ⟨_, rfl⟩
    obtain ⟨nb, hnb⟩ : ∃ b, b = w.heap.size := ⟨_, rfl⟩
    obtain ⟨lb, hlb⟩ : ∃ b, b = w.heap.size + 1 := ⟨_, rfl⟩
    rw [← hb, ← hlb, ← hnb] at st
    rw [← hb, ← hlb, ← hnb]
    have hB : Hid (w.heap.size ≤ b ∧ w.heap.size ≤ nb ∧ w.heap.size ≤ lb) := ⟨by omega, by omega, by omega⟩
    clear hb hnb hlb
    go_loopw [33] (NewRel w b nb lb n m) (fun i _ => m - (intOf i).toNat)
    case atStart => exact ⟨0, Nat.zero_le _, rfl, by rw [clR_zero, clN_zero]; exact st, hf⟩
    case round =>
      obtain ⟨k, hk, rfl, hc, hf'⟩ := hrel
      clear st hf
      by_cases hlt : k < m
      · have c1 := hc.c1
        have hnz := hc.nd.lt
        have hfz := hc.nd.frozen
        have r0 := hc.row (i := n + k) (by omega)
        have r1 := hc.next (i := n + k) (by omega)
        have r2 := hc.prev (i := n + k) (by omega)
        have HS := Lib.hid (newRel_step (w0 := w) hlt hc hf' hB.out.2.1)
        have HC : Hid (Calls Try.prog 54 #[.pointer (some ⟨b, 0, none⟩), .int .i64 k] wr fun e w' => e = .returned (.int .i64 (n + k)) ∧ wr = w') := closing_any hc (by omega) (by omega)
        have ht : ((n : Int) + k).toNat = n + k := by omega
        go_wp2_with (go_at_call 54; refine HC.out.mono ?_; rintro e w' ⟨rfl, rfl⟩)
        go_roundw
        case rel => exact HS.out
        case measure => simp [intOf]; omega
      · obtain rfl : k = m := by omega
        go_wp2
        go_ret2
        exact ⟨b, fun i => i = b ∨ i = nb ∨ i = lb, rfl, ⟨nb, lb, _, _, _, _, hc, cl_inv n k, fun _ => Iff.rfl⟩, fun i hi => by have := hB.out; omega, hf'⟩
  · go_wp2
    have st := startB w n m hn hm
    have hf : Fr NoF w (((w.alloc (lensO m)).alloc (nodesO n m)).alloc (rowsO n m (w.heap.size + 1) w.heap.size)).drew := ((((Fr.refl NoF w).alloc _).alloc _).alloc _).drew
    generalize (((w.alloc (lensO m)).alloc (nodesO n m)).alloc (rowsO n m (w.heap.size + 1) w.heap.size)).drew = wz at st hf
    obtain ⟨b, hb⟩ : ∃ b, b = w.heap.size + 1 + 1 := ⟨_, rfl⟩
    obtain ⟨nb, hnb⟩ : ∃ b, b = w.heap.size + 1 := ⟨_, rfl⟩
    obtain ⟨lb, hlb⟩ : ∃ b, b = w.heap.size := ⟨_, rfl⟩
    rw [← hb, ← hnb, ← hlb] at st
    rw [← hb, ← hnb, ← hlb]
    have hB : Hid (w.heap.size ≤ b ∧ w.heap.size ≤ nb ∧ w.heap.size ≤ lb) := ⟨by omega, by omega, by omega⟩
    clear hb hnb hlb
    go_loopw [33] (NewRel w b nb lb n m) (fun i _ => m - (intOf i).toNat)
    case atStart => exact ⟨0, Nat.zero_le _, rfl, by rw [clR_zero, clN_zero]; exact st, hf⟩
    case round =>
      obtain ⟨k, hk, rfl, hc, hf'⟩ := hrel
      clear st hf
      by_cases hlt : k < m
      · have c1 := hc.c1
        have hnz := hc.nd.lt
        have hfz := hc.nd.frozen
        have r0 := hc.row (i := n + k) (by omega)
        have r1 := hc.next (i := n + k) (by omega)
        have r2 := hc.prev (i := n + k) (by omega)
        have HS := Lib.hid (newRel_step (w0 := w) hlt hc hf' hB.out.2.1)
        have HC : Hid (Calls Try.prog 54 #[.pointer (some ⟨b, 0, none⟩), .int .i64 k] wr fun e w' => e = .returned (.int .i64 (n + k)) ∧ wr = w') := closing_any hc (by omega) (by omega)
        have ht : ((n : Int) + k).toNat = n + k := by omega
        go_wp2_with (go_at_call 54; refine HC.out.mono ?_; rintro e w' ⟨rfl, rfl⟩)
        go_roundw
        case rel => exact HS.out
        case measure => simp [intOf]; omega
      · obtain rfl : k = m := by omega
        go_wp2
        go_ret2
        exact ⟨b, fun i => i = b ∨ i = nb ∨ i = lb, rfl, ⟨nb, lb, _, _, _, _, hc, cl_inv n k, fun _ => Iff.rfl⟩, fun i hi => by have := hB.out; omega, hf'⟩

theorem new_no (n m : Int) (w : World) (h : (n < 0 ∨ 200000 < n) ∨ (m < 1 ∨ 16 < m)) :
    Calls Try.prog 31 #[.int .i64 n, .int .i64 m] w fun e w' => e = .returned (.tuple #[.pointer none, .int .i64 1]) ∧ w = w' := by
  by_cases h1 : n < 0
  · have d1 : decide (n < 0) = true := by simp [h1]
    clear h
    go_enter Try.func31, Try.ntmps31
    go_wp2
    go_ret2
    exact ⟨rfl, rfl⟩
  have d1 : decide (n < 0) = false := by simp; omega
  by_cases h2 : 200000 < n
  · have d2 : decide (200000 < n) = true := by simp [h2]
    clear h h1
    go_enter Try.func31, Try.ntmps31
    go_wp2
    go_ret2
    exact ⟨rfl, rfl⟩
  have d2 : decide (200000 < n) = false := by simp; omega
  by_cases h3 : m < 1
  · have d3 : decide (m < 1) = true := by simp [h3]
    clear h h1 h2
    go_enter Try.func31, Try.ntmps31
    go_wp2
    go_ret2
    exact ⟨rfl, rfl⟩
  have d3 : decide (m < 1) = false := by simp; omega
  have d4 : decide (16 < m) = true := by simp; omega
  clear h h1 h2 h3
  go_enter Try.func31, Try.ntmps31
  go_wp2
  go_ret2
  exact ⟨rfl, rfl⟩

/-! ### A nil one -/
theorem back_nil (k x : Int) (w : World) : Calls Try.prog 32 #[.pointer none, .int .i64 k, .int .i64 x] w fun e w' => e = .returned (.bool false) ∧ w = w' := by
  go_enter Try.func32, Try.ntmps32
  go_wp2
  go_ret
  exact ⟨rfl, rfl⟩
theorem before_nil (k x : Int) (w : World) : Calls Try.prog 74 #[.pointer none, .int .i64 k, .int .i64 x] w fun e w' => e = .returned (.bool false) ∧ w = w' := by
  go_enter Try.func74, Try.ntmps74
  go_wp2
  go_ret
  exact ⟨rfl, rfl⟩
theorem out_nil (x : Int) (w : World) : Calls Try.prog 57 #[.pointer none, .int .i64 x] w fun e w' => e = .returned (.bool false) ∧ w = w' := by
  go_enter Try.func57, Try.ntmps57
  go_wp2
  go_ret
  exact ⟨rfl, rfl⟩
theorem in_nil (x : Int) (w : World) : Calls Try.prog 72 #[.pointer none, .int .i64 x] w fun e w' => e = .returned (.int .i64 (-1)) ∧ w = w' := by
  go_enter Try.func72, Try.ntmps72
  go_wp2
  go_ret
  exact ⟨rfl, rfl⟩
theorem first_nil (x : Int) (w : World) : Calls Try.prog 59 #[.pointer none, .int .i64 x] w fun e w' => e = .returned (.int .i64 (-1)) ∧ w = w' := by
  go_enter Try.func59, Try.ntmps59
  go_wp2
  go_ret
  exact ⟨rfl, rfl⟩
theorem next_nil (x : Int) (w : World) : Calls Try.prog 68 #[.pointer none, .int .i64 x] w fun e w' => e = .returned (.int .i64 (-1)) ∧ w = w' := by
  go_enter Try.func68, Try.ntmps68
  go_wp2
  go_ret
  exact ⟨rfl, rfl⟩
theorem len_nil (x : Int) (w : World) : Calls Try.prog 63 #[.pointer none, .int .i64 x] w fun e w' => e = .returned (.int .i64 0) ∧ w = w' := by
  go_enter Try.func63, Try.ntmps63
  go_wp2
  go_ret
  exact ⟨rfl, rfl⟩
end Go.Proofs.Ytoainbdkhhblbaa

/-
  Package hatcheckref07's P is what Run is told of: its shape; New.
-/
import Derived.Test.YtebhpihickmekaaRef07C
namespace Go.Proofs.Ytebhpihickmekaa
open Go.RowKit
set_option linter.unusedVariables false

def PR7 (pb n : Nat) : PRel S7 := PRG pb 8 n (H7 n) rows7 S7.page S7.on
def co7 : S7 → List Nat → Prop := fun _ _ => True
theorem Res7.left {w w' : World} {pb gb ob n : Nat} {hc : Nat → Value} {s s' : S7} {F D : Nat → Prop} (h : Res7 w pb gb ob n hc s s' w') (hF : ∀ i, F i ↔ FP pb gb ob i) (hD : ∀ i, D i ↔ DP pb gb ob hc (rows7 s) i) : Left (PR7 pb n) w s' F D w' := by
  obtain ⟨hc', h1, h2⟩ := h
  exact h1.left h2 hF hD

set_option maxHeartbeats 1000000 in
theorem s7_new (n : Nat) (w : World) (hn : n < 1000) :
    Calls Try.prog 7 #[.int .i64 n] w fun e w' => ∃ pb F D, e = .returned (.pointer (some ⟨pb, 0, none⟩)) ∧ PR7 pb n w' ⟨List.replicate n 0, fun _ => false, [], [], [], [], 0⟩ F D ∧ (∀ i, D i → w.heap.size ≤ i) ∧ Fr NoF w w' := by
  obtain ⟨i0, hi0, hz0, hz1, hz2⟩ := info_parts' (P := Try.prog) (e := 34) (z := .int .u32 0) (s := 1) (b := 4) (by kernel_rfl)
  obtain ⟨i1, hi1, hy0, hy1, hy2⟩ := info_parts' (P := Try.prog) (e := 4) (z := .bool false) (s := 1) (b := 1) (by kernel_rfl)
  have mk1 : ∀ w : World, (Instr.makeSlice 35 (.int .i64 (n : Int)) (.int .i64 (n : Int))).run Try.prog w =
      .ok (.slice (some ⟨w.heap.size, 0, none⟩) n n) (w.alloc (.cells (madeCells #[.int .u32 0] n) 34)) := by
    intro w
    have := run_make (P := Try.prog) w 35 34 i0 _ Try.underlying35 hi0 hz0 .i64 .i64 (n : Int) (n : Int) (by omega) (Int.le_refl _) (by rw [hz2]; omega) (by omega)
    rw [show ((n : Int)).toNat = n from by omega, hz1, Nat.mul_one] at this
    exact this
  have mk2 : ∀ w : World, (Instr.makeSlice 41 (.int .i64 (n : Int)) (.int .i64 (n : Int))).run Try.prog w =
      .ok (.slice (some ⟨w.heap.size, 0, none⟩) n n) (w.alloc (.cells (madeCells #[.bool false] n) 4)) := by
    intro w
    have := run_make (P := Try.prog) w 41 4 i1 _ Try.underlying41 hi1 hy0 .i64 .i64 (n : Int) (n : Int) (by omega) (Int.le_refl _) (by rw [hy2]; omega) (by omega)
    rw [show ((n : Int)).toNat = n from by omega, hy1, Nat.mul_one] at this
    exact this
  have KEY : Hid (∀ (wz : World) (gb ob pb : Nat), wz.heap[gb]? = some (.cells (madeCells #[.int .u32 0] n) 34 (0, 0)) → wz.heap[ob]? = some (.cells (madeCells #[.bool false] n) 4 (0, 0)) →
      wz.heap[pb]? = some (.cells #[.int .i64 n, .slice (some ⟨gb, 0, none⟩) n n, .slice (some ⟨ob, 0, none⟩) n n, .slice none 0 0, .slice none 0 0, .slice none 0 0, .slice none 0 0, .int .i64 0] 44 (0, 0)) → ¬ pb = gb → ¬ pb = ob → ¬ gb = ob →
      ∃ F D, PR7 pb n wz ⟨List.replicate n 0, fun _ => false, [], [], [], [], 0⟩ F D ∧ ∀ i, D i → i = pb ∨ i = gb ∨ i = ob) := by
    intro wz gb ob pb h1 h2 h3 d1 d2 d3
    let hc : Nat → Value := fun i => (#[.int .i64 n, .slice (some ⟨gb, 0, none⟩) n n, .slice (some ⟨ob, 0, none⟩) n n, .slice none 0 0, .slice none 0 0, .slice none 0 0, .slice none 0 0, .int .i64 0] : Array Value).getD i (.slice none 0 0)
    have hrow : ∀ i k l, rows7 ⟨List.replicate n 0, fun _ => false, [], [], [], [], 0⟩ i = some (k, l) → l = [] ∧ hc i = .slice none 0 0 := by
      intro i k l e
      unfold rows7 at e
      split at e
      · rename_i q; subst q; simp at e; exact ⟨e.2, rfl⟩
      · split at e
        · rename_i q; subst q; simp at e; exact ⟨e.2, rfl⟩
        · split at e
          · rename_i q; subst q; simp at e; exact ⟨e.2, rfl⟩
          · split at e
            · rename_i q; subst q; simp at e; exact ⟨e.2, rfl⟩
            · cases e
    refine ⟨_, _, ⟨gb, ob, hc, ⟨⟨_, _, h3, rfl, fun i hi => ?_⟩, ⟨_, _, h1, by simp [size_madeCells], fun i hi => ?_⟩, ⟨_, _, h2, by simp [size_madeCells], fun i hi => ?_⟩, fun i k l e => ?_, d1, d2, d3, by simp, hn⟩, ⟨rfl, rfl, rfl, rfl, List.nodup_nil, List.nodup_nil, fun x hx => (by cases hx), fun x hx => (by cases hx), Nat.zero_le _, Nat.zero_le _⟩, fun _ => Iff.rfl, fun _ => Iff.rfl⟩, fun i q => ?_⟩
    · match i, hi with
      | 0, _ => rfl
      | 1, _ => rfl
      | 2, _ => rfl
      | 3, _ => rfl
      | 4, _ => rfl
      | 5, _ => rfl
      | 6, _ => rfl
      | 7, _ => rfl
    · rw [made_at hi, show (#[Value.int .u32 0] : Array Value).size = 1 from rfl, Nat.mod_one]
      simp [uF, hi]
    · rw [made_at hi, show (#[Value.bool false] : Array Value).size = 1 from rfl, Nat.mod_one]; rfl
    · obtain ⟨rfl, e2⟩ := hrow i k l e
      rw [e2]
      exact ⟨SlK.nil _ _, fun b hb => (by cases hb)⟩
    · rcases q with q | ⟨j, k, l, e, hb⟩
      · exact q
      · rw [(hrow j k l e).2] at hb; cases hb
  clear hi0 hz0 hz1 hz2 hi1 hy0 hy1 hy2
  go_enter Try.func7, Try.ntmps7
  go_wp2
  go_region
  · go_wp2
    go_returns
    obtain ⟨F, D, P, hD⟩ := KEY.out (((w.alloc (.cells (madeCells #[.int .u32 0] n) 34)).alloc (.cells (madeCells #[.bool false] n) 4)).alloc (.cells #[.int .i64 n, .slice (some ⟨w.heap.size, 0, none⟩) n n, .slice (some ⟨w.heap.size + 1, 0, none⟩) n n, .slice none 0 0, .slice none 0 0, .slice none 0 0, .slice none 0 0, .int .i64 0] 44)) w.heap.size (w.heap.size + 1) (w.heap.size + 2)
      (heap_step _ _ _ _ (heap_step _ _ _ _ (heap_alloc_new _ _ _ rfl))) (heap_step _ _ _ _ (heap_alloc_new _ _ _ (by simp))) (heap_alloc_new _ _ _ (by simp)) (by omega) (by omega) (by omega)
    refine ⟨w.heap.size + 2, F, D, rfl, PRG_fr.fr P ((Fr.refl NoF _).drew) (fun _ _ q => q), fun i hi => ?_, (((((Fr.refl NoF w).alloc _).alloc _).alloc _).drew)⟩
    rcases hD i hi with rfl | rfl | rfl
    · omega
    · omega
    · omega
  · go_wp2
    go_returns
    obtain ⟨F, D, P, hD⟩ := KEY.out (((w.alloc (.cells (madeCells #[.bool false] n) 4)).alloc (.cells (madeCells #[.int .u32 0] n) 34)).alloc (.cells #[.int .i64 n, .slice (some ⟨w.heap.size + 1, 0, none⟩) n n, .slice (some ⟨w.heap.size, 0, none⟩) n n, .slice none 0 0, .slice none 0 0, .slice none 0 0, .slice none 0 0, .int .i64 0] 44)) (w.heap.size + 1) w.heap.size (w.heap.size + 2)
      (heap_step _ _ _ _ (heap_alloc_new _ _ _ (by simp))) (heap_step _ _ _ _ (heap_step _ _ _ _ (heap_alloc_new _ _ _ rfl))) (heap_alloc_new _ _ _ (by simp)) (by omega) (by omega) (by omega)
    refine ⟨w.heap.size + 2, F, D, rfl, PRG_fr.fr P ((Fr.refl NoF _).drew) (fun _ _ q => q), fun i hi => ?_, (((((Fr.refl NoF w).alloc _).alloc _).alloc _).drew)⟩
    rcases hD i hi with rfl | rfl | rfl
    · omega
    · omega
    · omega
end Go.Proofs.Ytebhpihickmekaa

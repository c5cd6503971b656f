/-
  Pro's New: the clock.
-/
import Derived.Test.YtfgkaoncojhdeaaProAB
namespace Go.Proofs.Ytfgkaoncojhdeaa
open Go.RowKit Go.Maps
set_option linter.unusedVariables false
set_option linter.unusedSimpArgs false

theorem made_at6 {N i : Nat} (hi : i < N) : (madeCells #[Value.int .u32 0, .int .i64 0, .bool false, .bool false, .bool false, .bool false] N)[i]? = some (enF (fun _ => ⟨0, 0, false, false, false⟩) (fun _ => false) i) := by
  rw [made_get hi]
  have h6 : i % 6 < 6 := Nat.mod_lt _ (by omega)
  show some (#[Value.int .u32 0, .int .i64 0, .bool false, .bool false, .bool false, .bool false] : Array Value)[i % 6]! = _
  unfold enF
  generalize i % 6 = k at *
  match k, h6 with
  | 0, _ => rfl
  | 1, _ => rfl
  | 2, _ => rfl
  | 3, _ => rfl
  | 4, _ => rfl
  | 5, _ => rfl
theorem range_put2 (k : Nat) : putL [[], List.range k] 1 k false = [[], List.range (k + 1)] := by
  rw [putL2_1 (by simp)]
  rw [awayN_not (l := List.range k) (fun q => by have := List.mem_range.1 q; omega), List.range_succ]
  rfl
theorem infoEntry : (Try.prog.info? 79).map (fun i => (i.zero, i.size, i.bytes)) = some (some (.agg #[.int .u32 0, .int .i64 0, .bool false, .bool false, .bool false, .bool false]), 6, 24) := by kernel_rfl
set_option maxRecDepth 100000 in
set_option maxHeartbeats 2000000 in
theorem ck_new (N : Nat) (w : World) (hN : N ≤ 200000) :
    Calls Try.prog 16 #[.int .i64 N] w fun e w' => ∃ rb eb FR, e = .returned (.tuple #[.agg #[.pointer (some ⟨rb, 0, none⟩), .slice (some ⟨eb, 0, none⟩) N N, .int .i64 0, .int .i64 0, .int .i64 0], .int .i64 0]) ∧
      RR w' rb N 2 [[], List.range N] FR ∧ Blk w' eb (N * 6) (enF (fun _ => ⟨0, 0, false, false, false⟩) (fun _ => false)) ∧ (∀ i, FR i → w.heap.size ≤ i ∧ ¬ i = eb) ∧ w.heap.size ≤ eb ∧ Fr NoF w w' := by
  obtain ⟨i0, hi0, hz0, hz1, hz2⟩ := info_parts infoEntry
  have mk1 : ∀ w : World, (Instr.makeSlice 50 (.int .i64 (N : Int)) (.int .i64 (N : Int))).run Try.prog w =
      .ok (.slice (some ⟨w.heap.size, 0, none⟩) N N) (w.alloc (.cells (madeCells #[.int .u32 0, .int .i64 0, .bool false, .bool false, .bool false, .bool false] (N * 6)) 79)) := by
    intro w
    have := run_make (P := Try.prog) w 50 79 i0 _ Try.underlying50 hi0 hz0 .i64 .i64 (N : Int) (N : Int) (by omega) (Int.le_refl _) (by rw [hz2]; omega) (by omega)
    rw [show ((N : Int)).toNat = N from by omega, hz1] at this
    exact this
  have HN : Hid (∀ w : World, Calls Try.prog 31 #[.int .i64 N, .int .i64 2] w fun e w' => ∃ b F, e = .returned (.tuple #[.pointer (some ⟨b, 0, none⟩), .int .i64 0]) ∧ RR w' b N 2 (List.replicate 2 []) F ∧ (∀ i, F i → w.heap.size ≤ i) ∧ Fr NoF w w') := fun w => new_yes N 2 w (by omega) (by omega) (by omega)
  clear hi0 hz0 hz1 hz2
  go_enter Try.func16, Try.ntmps16
  go_wp2_with fail
  refine (HN.out _).mono ?_
  clear HN
  rintro e w1 ⟨gr, FG, rfl, hR, hFG, hf⟩
  have hw0 : ¬ FG w.heap.size := fun q => by have := hFG _ q; simp at this; omega
  have hgs := hR.lt
  have hsz := hf.size
  simp only [World.size_alloc] at hsz
  have lw : w.heap.size < w1.heap.size := by omega
  have HFG := Lib.hid hFG
  have HF := Lib.hid hf
  have HR := Lib.hid hR
  have HW0 := Lib.hid hw0
  clear hR hFG hf hw0 hgs
  go_wp2
  go_loopw [6, 17] (fun _ i wr => ∃ k : Nat, k ≤ N ∧ i = .int .i64 k ∧ RR wr gr N 2 [[], List.range k] FG ∧ Fr FG w1 wr) (fun _ i _ => N - (intOf i).toNat)
  case atStart => exact ⟨0, Nat.zero_le _, rfl, HR.out, Fr.refl _ _⟩
  case round =>
    obtain ⟨k, hk, rfl, hR, hf⟩ := hrel
    by_cases hlt : k < N
    · have HB := back_yes hR 1 k (by omega) hlt
      rw [range_put2] at HB
      have HB := Lib.hid HB
      have HF2 := Lib.hid hf
      clear hR hf
      go_wp2_with fail
      refine HB.out.mono ?_
      rintro e w2 ⟨rfl, hR2, f2⟩
      have KEY := Lib.hid (And.intro hR2 (HF2.out.trans f2 (fun _ q => .inl q)))
      clear hR2 f2 HB HF2
      go_wp2
      go_roundw
      case rel => exact ⟨k + 1, hlt, by go_num, KEY.out⟩
      case measure => first | (simp [intOf]; done) | (simp [intOf]; omega)
    · obtain rfl : k = N := by omega
      have hB0 : Blk (w.alloc (.cells #[.pointer none, .slice none 0 0, .int .i64 0, .int .i64 0, .int .i64 0] 52)) w.heap.size 5 (fun i => (#[.pointer none, .slice none 0 0, .int .i64 0, .int .i64 0, .int .i64 0] : Array Value).getD i undef) := Blk.new _ _ _ 5 _ _ rfl rfl (fun i hi => by
        match i, hi with
        | 0, _ => rfl
        | 1, _ => rfl
        | 2, _ => rfl
        | 3, _ => rfl
        | 4, _ => rfl)
      have hB := (hB0.fr HF.out id).fr hf HW0.out
      have r0 : wr.cell? ⟨w.heap.size, 0, none⟩ = some (.pointer none) := hB.cell (i := 0) (by omega)
      have r1 : wr.cell? ⟨w.heap.size, 1, none⟩ = some (.slice none 0 0) := hB.cell (i := 1) (by omega)
      have r2 : wr.cell? ⟨w.heap.size, 2, none⟩ = some (.int .i64 0) := hB.cell (i := 2) (by omega)
      have r3 : wr.cell? ⟨w.heap.size, 3, none⟩ = some (.int .i64 0) := hB.cell (i := 3) (by omega)
      have r4 : wr.cell? ⟨w.heap.size, 4, none⟩ = some (.int .i64 0) := hB.cell (i := 4) (by omega)
      have rf : ∀ i, wr.frozen? ⟨w.heap.size, i, none⟩ = false := hB.frozen
      have hs2 := hf.size
      have lw2 : w.heap.size < wr.heap.size := by omega
      have HRR := Lib.hid hR
      have HF2 := Lib.hid hf
      have HB := Lib.hid hB
      clear hR hf hB hB0
      have hG : Blk ((((((wr.setCell ⟨w.heap.size, 0, none⟩ (.pointer (some ⟨gr, 0, none⟩))).setCell ⟨w.heap.size, 1, none⟩ (.slice (some ⟨wr.heap.size, 0, none⟩) k k)).setCell ⟨w.heap.size, 2, none⟩ (.int .i64 0)).setCell ⟨w.heap.size, 3, none⟩ (.int .i64 0)).setCell ⟨w.heap.size, 4, none⟩ (.int .i64 0)).alloc (.cells (madeCells #[.int .u32 0, .int .i64 0, .bool false, .bool false, .bool false, .bool false] (k * 6)) 79)) w.heap.size 5 _ := (((((HB.out.set 0 _).set 1 _).set 2 _).set 3 _).set 4 _).alloc _
      have r0' : ((((((wr.setCell ⟨w.heap.size, 0, none⟩ (.pointer (some ⟨gr, 0, none⟩))).setCell ⟨w.heap.size, 1, none⟩ (.slice (some ⟨wr.heap.size, 0, none⟩) k k)).setCell ⟨w.heap.size, 2, none⟩ (.int .i64 0)).setCell ⟨w.heap.size, 3, none⟩ (.int .i64 0)).setCell ⟨w.heap.size, 4, none⟩ (.int .i64 0)).alloc (.cells (madeCells #[.int .u32 0, .int .i64 0, .bool false, .bool false, .bool false, .bool false] (k * 6)) 79)).cell? ⟨w.heap.size, 0, none⟩ = some (.pointer (some ⟨gr, 0, none⟩)) := by have := hG.cell (i := 0) (by omega); simpa [upd] using this
      have r1' : ((((((wr.setCell ⟨w.heap.size, 0, none⟩ (.pointer (some ⟨gr, 0, none⟩))).setCell ⟨w.heap.size, 1, none⟩ (.slice (some ⟨wr.heap.size, 0, none⟩) k k)).setCell ⟨w.heap.size, 2, none⟩ (.int .i64 0)).setCell ⟨w.heap.size, 3, none⟩ (.int .i64 0)).setCell ⟨w.heap.size, 4, none⟩ (.int .i64 0)).alloc (.cells (madeCells #[.int .u32 0, .int .i64 0, .bool false, .bool false, .bool false, .bool false] (k * 6)) 79)).cell? ⟨w.heap.size, 1, none⟩ = some (.slice (some ⟨wr.heap.size, 0, none⟩) k k) := by have := hG.cell (i := 1) (by omega); simpa [upd] using this
      have r2' : ((((((wr.setCell ⟨w.heap.size, 0, none⟩ (.pointer (some ⟨gr, 0, none⟩))).setCell ⟨w.heap.size, 1, none⟩ (.slice (some ⟨wr.heap.size, 0, none⟩) k k)).setCell ⟨w.heap.size, 2, none⟩ (.int .i64 0)).setCell ⟨w.heap.size, 3, none⟩ (.int .i64 0)).setCell ⟨w.heap.size, 4, none⟩ (.int .i64 0)).alloc (.cells (madeCells #[.int .u32 0, .int .i64 0, .bool false, .bool false, .bool false, .bool false] (k * 6)) 79)).cell? ⟨w.heap.size, 2, none⟩ = some (.int .i64 0) := by have := hG.cell (i := 2) (by omega); simpa [upd] using this
      have r3' : ((((((wr.setCell ⟨w.heap.size, 0, none⟩ (.pointer (some ⟨gr, 0, none⟩))).setCell ⟨w.heap.size, 1, none⟩ (.slice (some ⟨wr.heap.size, 0, none⟩) k k)).setCell ⟨w.heap.size, 2, none⟩ (.int .i64 0)).setCell ⟨w.heap.size, 3, none⟩ (.int .i64 0)).setCell ⟨w.heap.size, 4, none⟩ (.int .i64 0)).alloc (.cells (madeCells #[.int .u32 0, .int .i64 0, .bool false, .bool false, .bool false, .bool false] (k * 6)) 79)).cell? ⟨w.heap.size, 3, none⟩ = some (.int .i64 0) := by have := hG.cell (i := 3) (by omega); simpa [upd] using this
      have r4' : ((((((wr.setCell ⟨w.heap.size, 0, none⟩ (.pointer (some ⟨gr, 0, none⟩))).setCell ⟨w.heap.size, 1, none⟩ (.slice (some ⟨wr.heap.size, 0, none⟩) k k)).setCell ⟨w.heap.size, 2, none⟩ (.int .i64 0)).setCell ⟨w.heap.size, 3, none⟩ (.int .i64 0)).setCell ⟨w.heap.size, 4, none⟩ (.int .i64 0)).alloc (.cells (madeCells #[.int .u32 0, .int .i64 0, .bool false, .bool false, .bool false, .bool false] (k * 6)) 79)).cell? ⟨w.heap.size, 4, none⟩ = some (.int .i64 0) := by have := hG.cell (i := 4) (by omega); simpa [upd] using this
      have KEY : Hid (RR ((((((wr.setCell ⟨w.heap.size, 0, none⟩ (.pointer (some ⟨gr, 0, none⟩))).setCell ⟨w.heap.size, 1, none⟩ (.slice (some ⟨wr.heap.size, 0, none⟩) k k)).setCell ⟨w.heap.size, 2, none⟩ (.int .i64 0)).setCell ⟨w.heap.size, 3, none⟩ (.int .i64 0)).setCell ⟨w.heap.size, 4, none⟩ (.int .i64 0)).alloc (.cells (madeCells #[.int .u32 0, .int .i64 0, .bool false, .bool false, .bool false, .bool false] (k * 6)) 79)) gr k 2 [[], List.range k] FG ∧ Blk ((((((wr.setCell ⟨w.heap.size, 0, none⟩ (.pointer (some ⟨gr, 0, none⟩))).setCell ⟨w.heap.size, 1, none⟩ (.slice (some ⟨wr.heap.size, 0, none⟩) k k)).setCell ⟨w.heap.size, 2, none⟩ (.int .i64 0)).setCell ⟨w.heap.size, 3, none⟩ (.int .i64 0)).setCell ⟨w.heap.size, 4, none⟩ (.int .i64 0)).alloc (.cells (madeCells #[.int .u32 0, .int .i64 0, .bool false, .bool false, .bool false, .bool false] (k * 6)) 79)) wr.heap.size (k * 6) (enF (fun _ => ⟨0, 0, false, false, false⟩) (fun _ => false)) ∧ (∀ i, FG i → w.heap.size ≤ i ∧ ¬ i = wr.heap.size) ∧ w.heap.size ≤ wr.heap.size ∧ Fr NoF w ((((((wr.setCell ⟨w.heap.size, 0, none⟩ (.pointer (some ⟨gr, 0, none⟩))).setCell ⟨w.heap.size, 1, none⟩ (.slice (some ⟨wr.heap.size, 0, none⟩) k k)).setCell ⟨w.heap.size, 2, none⟩ (.int .i64 0)).setCell ⟨w.heap.size, 3, none⟩ (.int .i64 0)).setCell ⟨w.heap.size, 4, none⟩ (.int .i64 0)).alloc (.cells (madeCells #[.int .u32 0, .int .i64 0, .bool false, .bool false, .bool false, .bool false] (k * 6)) 79))) := by
        have hlt := HRR.out.lt
        have f5 : Fr (fun i => i = w.heap.size) wr (((((wr.setCell ⟨w.heap.size, 0, none⟩ (.pointer (some ⟨gr, 0, none⟩))).setCell ⟨w.heap.size, 1, none⟩ (.slice (some ⟨wr.heap.size, 0, none⟩) k k)).setCell ⟨w.heap.size, 2, none⟩ (.int .i64 0)).setCell ⟨w.heap.size, 3, none⟩ (.int .i64 0)).setCell ⟨w.heap.size, 4, none⟩ (.int .i64 0)) := (((((Fr.refl (fun i => i = w.heap.size) wr).setCell (p := ⟨w.heap.size, 0, none⟩) (.inl rfl) _).setCell (p := ⟨w.heap.size, 1, none⟩) (.inl rfl) _).setCell (p := ⟨w.heap.size, 2, none⟩) (.inl rfl) _).setCell (p := ⟨w.heap.size, 3, none⟩) (.inl rfl) _).setCell (p := ⟨w.heap.size, 4, none⟩) (.inl rfl) _
        have f6 := f5.alloc (.cells (madeCells #[.int .u32 0, .int .i64 0, .bool false, .bool false, .bool false, .bool false] (k * 6)) 79)
        have hsz5 : (((((wr.setCell ⟨w.heap.size, 0, none⟩ (.pointer (some ⟨gr, 0, none⟩))).setCell ⟨w.heap.size, 1, none⟩ (.slice (some ⟨wr.heap.size, 0, none⟩) k k)).setCell ⟨w.heap.size, 2, none⟩ (.int .i64 0)).setCell ⟨w.heap.size, 3, none⟩ (.int .i64 0)).setCell ⟨w.heap.size, 4, none⟩ (.int .i64 0)).heap.size = wr.heap.size := by simp
        have f0 : Fr NoF w wr := ((((Fr.refl NoF w).alloc _).trans HF.out (fun _ q => q.elim))).trans HF2.out (fun i q => .inr (by have := HFG.out i q; simp at this; omega))
        refine ⟨HRR.out.fr f6 (fun i hi e => HW0.out (e ▸ hi)), Blk.new _ _ _ _ _ _ hsz5.symm (by simp [size_madeCells]) (fun i hi => made_at6 hi), fun i q => ⟨by have := HFG.out i q; simp at this; omega, fun e => by have := hlt i q; omega⟩, by omega, f0.trans f6 (fun i e => .inr (by omega))⟩
      clear hG
      go_wp2
      refine bodyPost_ret (v := .tuple #[.agg #[.pointer (some ⟨gr, 0, none⟩), .slice (some ⟨wr.heap.size, 0, none⟩) k k, .int .i64 0, .int .i64 0, .int .i64 0], .int .i64 0]) (by simp only [results, Try.results16, go_sem]; simp [go_sem, r0', r1', r2', r3', r4']) rfl ⟨gr, wr.heap.size, FG, rfl, KEY.out⟩
end Go.Proofs.Ytfgkaoncojhdeaa

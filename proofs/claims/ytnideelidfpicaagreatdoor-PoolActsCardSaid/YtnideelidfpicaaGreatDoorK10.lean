/-
  least's Set in memory: Full.
-/
import Derived.Test.YtnideelidfpicaaGreatDoorK09
namespace Go.Proofs.YtnideelidfpicaaGreatDoor
open Go.RowKit
set_option linter.unusedVariables false

/-- All numbers below k. -/
def belowB (k : Nat) : Nat → Bool := fun y => decide (y < k)
theorem belowB_zero : belowB 0 = noneB := by funext y; simp [belowB, noneB]
theorem belowB_at (k : Nat) : belowB k k = false := by simp [belowB]
theorem belowB_add (k : Nat) : updB (belowB k) k true = belowB (k + 1) := by
  funext y
  by_cases e : y = k
  · subst e; rw [updB_same]; simp [belowB]
  · rw [updB_other _ _ e]; unfold belowB
    by_cases q : y < k
    · simp [q, Nat.lt_succ_of_lt q]
    · have : ¬ y < k + 1 := by omega
      simp [q, this]
theorem cntB_below (k : Nat) : ∀ n, k ≤ n → cntB (belowB k) n = k
  | 0, h => by obtain rfl : k = 0 := by omega
               rfl
  | n + 1, h => by
    unfold cntB
    by_cases e : k = n + 1
    · have e2 : cntB (belowB k) n = n := by
        rw [cntB_congr (T := belowB n) n (fun x hx => by unfold belowB; simp [hx]; omega)]
        exact cntB_below n n (Nat.le_refl _)
      rw [e2]; subst e; simp [belowB]
    · rw [cntB_below k n (by omega)]
      have : ¬ n < k := by omega
      simp [belowB, this]
def setN (bound : Nat) (n : Int) (v : Value) : Nat → Value
  | 0 => .int .i64 bound
  | 1 => .int .i64 n
  | _ => v
section
variable {w w' : World} {b off N bound L : Nat} {c : Nat → Value} {S : Nat → Bool} {v : Value} {h : Nat → Nat}
theorem LC.congr (H : LC w b off N c bound S v h L) {c' : Nat → Value} (e : ∀ i, i < N → c i = c' i) : LC w b off N c' bound S v h L :=
  ⟨H.blk.congr e, H.inb, by rw [← e _ (by have := H.inb; omega)]; exact H.c0, by rw [← e _ (by have := H.inb; omega)]; exact H.c1, by rw [← e _ (by have := H.inb; omega)]; exact H.c2, H.ls, H.nb⟩
theorem setN_set (bound : Nat) (n m : Int) (v : Value) (i : Nat) (hi : i < 3) : upd (setN bound n v) (0 + 1) (.int .i64 m) i = setN bound m v i := by
  match i, hi with
  | 0, _ => rfl
  | 1, _ => rfl
  | 2, _ => rfl
end
set_option maxHeartbeats 2000000 in
theorem full_calls (bound : Nat) (w : World) (hb0 : 1 ≤ bound) (hb : bound ≤ 65535) : Calls Tryz.prog 22 #[.int .i64 bound] w fun e w' => ∃ v h L, e = .returned (.agg #[.int .i64 bound, .int .i64 bound, v]) ∧ LS w' bound (belowB bound) v h L ∧ (∀ k, LF v h L k → w.heap.size ≤ k) ∧ Fr NoF w w' := by
  have HE : Hid (∀ W, Calls Tryz.prog 23 #[.int .i64 bound] W _) := fun W => empty_calls bound W hb0 hb
  go_enter Tryz.func22, Tryz.ntmps22
  go_wp2_with fail
  refine (HE.out _).mono ?_
  clear HE
  rintro e w1 ⟨v, h, L, rfl, hls, hnew, hf⟩
  obtain ⟨g, cap, rfl, g1, g2⟩ := hls.r.shape
  have hfs := hf.size
  simp only [World.size_alloc] at hfs
  have B0 : Blk w1 w.heap.size 3 (setN 0 0 (.slice none 0 0)) := (Blk.new _ _ _ _ _ _ rfl rfl (fun i hi => by
    match i, hi with
    | 0, _ => rfl
    | 1, _ => rfl
    | 2, _ => rfl)).fr hf id
  have F1 : Fr NoF w w1 := ((Fr.refl NoF w).alloc _).trans hf (fun _ q => .inl q)
  have HLA : Hid (LC (w1.alloc (.cells #[.int .i64 bound, .int .i64 0, .slice (some ⟨g, 0, none⟩) L cap] 68)) w1.heap.size 0 3 (setN bound 0 (.slice (some ⟨g, 0, none⟩) L cap)) bound (belowB 0) (.slice (some ⟨g, 0, none⟩) L cap) h L) := by
    refine ⟨Blk.new _ _ _ _ _ _ rfl rfl (fun i hi => by
      match i, hi with
      | 0, _ => rfl
      | 1, _ => rfl
      | 2, _ => rfl), by omega, rfl, by rw [cntB_below 0 bound (by omega)]; rfl, rfl, ⟨?_, fun x q => by simp [belowB] at q⟩, fun q => by have := hls.r.lt _ q; omega⟩
    rw [belowB_zero]
    exact hls.r.fr ((Fr.refl NoF w1).alloc _) (fun _ _ q => q)
  have HB0 := Lib.hid (B0.alloc (.cells #[.int .i64 bound, .int .i64 0, .slice (some ⟨g, 0, none⟩) L cap] 68))
  have HF1 := Lib.hid (F1.alloc (.cells #[.int .i64 bound, .int .i64 0, .slice (some ⟨g, 0, none⟩) L cap] 68))
  have HNEW := Lib.hid (fun k q => (show w.heap.size + 1 ≤ k from by have := hnew k q; simpa using this))
  clear hls hnew hf B0 F1
  go_wp2
  have hsb : w.heap.size < w1.heap.size := by omega
  generalize w1.alloc (.cells #[.int .i64 bound, .int .i64 0, .slice (some ⟨g, 0, none⟩) L cap] 68) = wA at *
  generalize w1.heap.size = sb at *
  go_loopw [8] (fun xv wr => ∃ k : Nat, k ≤ bound ∧ xv = .int .i64 k ∧ Hid (LC wr sb 0 3 (setN bound k (.slice (some ⟨g, 0, none⟩) L cap)) bound (belowB k) (.slice (some ⟨g, 0, none⟩) L cap) h L) ∧ Hid (Fr (SF sb (.slice (some ⟨g, 0, none⟩) L cap) h L) wA wr)) (fun xv _ => bound - (intOf xv).toNat)
  case atStart => exact ⟨0, Nat.zero_le _, rfl, HLA.out, Fr.refl _ _⟩
  case round =>
    obtain ⟨k, hk, rfl, HL, HF⟩ := hrel
    by_cases hlt : k < bound
    · have HADD := Lib.hid (add_in HL.out hlt (belowB_at k))
      clear HL
      go_wp2_with fail
      refine HADD.out.mono ?_
      clear HADD
      rintro e w2 ⟨rfl, h1, h2⟩
      have HL2 : Hid (LC w2 sb 0 3 (setN bound (k + 1 : Nat) (.slice (some ⟨g, 0, none⟩) L cap)) bound (belowB (k + 1)) (.slice (some ⟨g, 0, none⟩) L cap) h L) := by
        rw [cntB_below k bound hk, belowB_add] at h1
        exact h1.congr (fun i hi => setN_set _ _ _ _ i hi)
      have HF2 := Lib.hid (HF.out.trans h2 (fun _ q => .inl q))
      clear h1 h2 HF
      go_wp2
      go_roundw
      case rel => exact ⟨k + 1, by omega, by go_num, HL2.out, HF2.out⟩
      case measure => simp [intOf] <;> omega
    · obtain rfl : k = bound := by omega
      have RB := HB0.out.fr HF.out (fun q => by rcases q with q | q; omega; have := HNEW.out _ q; omega)
      have HRB := Lib.hid RB
      have s0 : wr.cell? ⟨sb, 0, none⟩ = some (.int .i64 k) := HL.out.blk.cell (i := 0) (by omega)
      have s1 : wr.cell? ⟨sb, 1, none⟩ = some (.int .i64 k) := HL.out.blk.cell (i := 1) (by omega)
      have s2 : wr.cell? ⟨sb, 2, none⟩ = some (.slice (some ⟨g, 0, none⟩) L cap) := HL.out.blk.cell (i := 2) (by omega)
      have ls := HL.out.blk.lt
      have t0 : wr.cell? ⟨w.heap.size, 0, none⟩ = some (.int .i64 0) := RB.cell (i := 0) (by omega)
      have t1 : wr.cell? ⟨w.heap.size, 1, none⟩ = some (.int .i64 0) := RB.cell (i := 1) (by omega)
      have t2 : wr.cell? ⟨w.heap.size, 2, none⟩ = some (.slice none 0 0) := RB.cell (i := 2) (by omega)
      have g0 := RB.frozen 0
      have g1' := RB.frozen 1
      have g2' := RB.frozen 2
      have lr := RB.lt
      have hne : ¬ w.heap.size = sb := by omega
      clear RB hlt
      have HRS : Hid (Blk (((wr.setCell ⟨w.heap.size, 0, none⟩ (.int .i64 k)).setCell ⟨w.heap.size, 1, none⟩ (.int .i64 k)).setCell ⟨w.heap.size, 2, none⟩ (.slice (some ⟨g, 0, none⟩) L cap)) w.heap.size 3 (upd (upd (upd (setN 0 0 (.slice none 0 0)) 0 (.int .i64 k)) 1 (.int .i64 k)) 2 (.slice (some ⟨g, 0, none⟩) L cap))) := ((HRB.out.set 0 _).set 1 _).set 2 _
      have F3 : Fr (fun i => i = w.heap.size) wr (((wr.setCell ⟨w.heap.size, 0, none⟩ (.int .i64 k)).setCell ⟨w.heap.size, 1, none⟩ (.int .i64 k)).setCell ⟨w.heap.size, 2, none⟩ (.slice (some ⟨g, 0, none⟩) L cap)) := (((Fr.refl (fun i => i = w.heap.size) wr).setCell (p := ⟨w.heap.size, 0, none⟩) (.inl rfl) _).setCell (p := ⟨w.heap.size, 1, none⟩) (.inl rfl) _).setCell (p := ⟨w.heap.size, 2, none⟩) (.inl rfl) _
      have HF3 := Lib.hid F3
      clear F3
      go_wp2
      (try simp only [Exit.inBlock, Exit.then])
      refine bodyPost_ret (results_blk Tryz.results22 _ _ HRS.out rfl Tryz.underlying68 rfl (by kernel_rfl)) rfl ?_
      refine ⟨.slice (some ⟨g, 0, none⟩) L cap, h, L, rfl, ⟨HL.out.ls.r.fr HF3.out (fun i q e => by have := HNEW.out i q; omega), HL.out.ls.dom⟩, fun i q => by have := HNEW.out i q; omega, ((HF1.out.trans (G := SF sb (.slice (some ⟨g, 0, none⟩) L cap) h L) HF.out (fun i q => .inr (by rcases q with q | q; omega; have := HNEW.out i q; omega))).trans (G := fun i => i = w.heap.size) HF3.out (fun i q => .inr (by omega)))⟩
end Go.Proofs.YtnideelidfpicaaGreatDoor

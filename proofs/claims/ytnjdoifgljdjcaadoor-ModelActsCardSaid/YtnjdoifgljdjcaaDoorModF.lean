/-
  model's Model in memory: Begin.
-/
import Derived.Test.YtnjdoifgljdjcaaDoorModE
namespace Go.Proofs.YtnjdoifgljdjcaaDoor
open Go.RowKit Go.Maps
set_option linter.unusedVariables false

def noPg : Nat → Option (Nat × Nat) := fun _ => none
theorem freeB_noPg (room : Nat) : freeB room noPg = belowB room := by funext x; simp [freeB, noPg, belowB]
theorem pgM_noPg : pgM noPg = fun _ => none := by funext x; simp [pgM, noPg]
set_option maxHeartbeats 1000000 in
theorem begin_no (n room : Int) (w : World) (hbad : ¬ (1 ≤ n ∧ n ≤ 65535 ∧ 1 ≤ room ∧ room ≤ 65535)) : Calls Tryd.prog 5 #[.int .i64 n, .int .i64 room] w fun e w' => e = .returned (.tuple #[.pointer none, .int .i64 1]) ∧ Fr NoF w w' := by
  by_cases h1 : n < 1
  · have g1 : decide (n < 1) = true := by simpa using h1
    clear hbad h1
    go_enter Tryd.func5, Tryd.ntmps5
    go_wp2
    go_returns
    exact ⟨rfl, Fr.refl _ _⟩
  · have g1 : decide (n < 1) = false := by simpa using h1
    by_cases h2 : 65535 < n
    · have g2 : decide (65535 < n) = true := by simpa using h2
      clear hbad
      go_enter Tryd.func5, Tryd.ntmps5
      go_wp2
      go_returns
      exact ⟨rfl, Fr.refl _ _⟩
    · have g2 : decide (65535 < n) = false := by simpa using h2
      by_cases h3 : room < 1
      · have g3 : decide (room < 1) = true := by simpa using h3
        clear hbad
        go_enter Tryd.func5, Tryd.ntmps5
        go_wp2
        go_returns
        exact ⟨rfl, Fr.refl _ _⟩
      · have g3 : decide (room < 1) = false := by simpa using h3
        have g4 : decide (65535 < room) = true := by simp; omega
        clear hbad
        go_enter Tryd.func5, Tryd.ntmps5
        go_wp2
        go_returns
        exact ⟨rfl, Fr.refl _ _⟩
set_option maxHeartbeats 1000000 in
theorem begin_yes (n room : Nat) (w : World) (h1 : 1 ≤ n) (h2 : n ≤ 65535) (h3 : 1 ≤ room) (h4 : room ≤ 65535) : Calls Tryd.prog 5 #[.int .i64 n, .int .i64 room] w fun e w' => ∃ b mb v h L, e = .returned (.tuple #[.pointer (some ⟨b, 0, none⟩), .int .i64 0]) ∧
    MM w' b n room noPg 0 0 mb v h L ∧ (∀ k, MF b mb v h L k → w.heap.size ≤ k) ∧ Fr NoF w w' := by
  have g1 : decide ((n : Int) < 1) = false := by simp; omega
  have g2 : decide (65535 < (n : Int)) = false := by simp; omega
  have g3 : decide ((room : Int) < 1) = false := by simp; omega
  have g4 : decide (65535 < (room : Int)) = false := by simp; omega
  have HFU : Hid (∀ W, Calls Tryd.prog 13 #[.int .i64 room] W _) := fun W => full_calls room W h3 h4
  have hmm := @run_makeMap Tryd.prog
  go_enter Tryd.func5, Tryd.ntmps5
  go_wp2_with fail
  refine (HFU.out _).mono ?_
  clear HFU
  rintro e w1 ⟨v, h, L, rfl, q1, q2, q3⟩
  have Q1 := Lib.hid q1
  have Q2 := Lib.hid q2
  have Q3 := Lib.hid q3
  have hs := q3.size
  clear q1 q2 q3
  go_wp2
  go_returns
  have hs' : w.heap.size < w1.heap.size := by simp at hs; omega
  have hmp := MpV.made Tryd.prog 33 .u32 zeroP w
  refine ⟨w1.heap.size, w.heap.size, v, h, L, rfl, ⟨⟨Blk.new _ _ _ _ _ _ rfl rfl (fun i hi => ?_), by omega, rfl, rfl, rfl, ⟨by rw [freeB_noPg]; exact Q1.out.r.fr ((Fr.refl NoF _).alloc _) (fun _ _ q => q), by rw [freeB_noPg]; exact Q1.out.dom⟩, fun q => by have := Q1.out.r.lt _ q; omega⟩, ?_, fun id p q => (by cases q), ?_, ⟨by omega, fun q => by have := Q2.out _ q; simp at this; omega⟩, fun id p q => (by cases q), h2, Nat.le_refl _⟩, fun k q => ?_, (((Fr.refl NoF w).alloc _).trans Q3.out (fun _ q => .inl q)).alloc _⟩
  · match i, hi with
    | 0, _ => rfl
    | 1, _ => rfl
    | 2, _ => rfl
    | 3, _ => rw [freeB_noPg]; show some (Value.int .i64 (room : Int)) = some (.int .i64 (cntB (belowB room) room : Nat)); rw [cntB_below room room (Nat.le_refl _)]
    | 4, _ => rfl
    | 5, _ => rfl
  · rw [pgM_noPg]
    exact (hmp.fr Q3.out (fun q => q)).alloc _
  · rw [freeB_noPg, cntB_below room room (Nat.le_refl _)]; omega
  · rcases q with rfl | rfl | q
    · omega
    · exact Nat.le_refl _
    · have := Q2.out _ q; simp at this; omega
end Go.Proofs.YtnjdoifgljdjcaaDoor

/-
  LRU: New; the law's own told.
-/
import Derived.Test.YtefkalamodpjmaaLruC
namespace Go.Proofs.Ytefkalamodpjmaa
open Go.RowKit
set_option linter.unusedVariables false

theorem infoBool : (Try.prog.info? 4).map (fun i => (i.zero, i.size, i.bytes)) = some (some (.bool false), 1, 1) := by kernel_rfl
theorem lru_new_no (n : Int) (w : World) (h : n < 1 ∨ 65535 < n) :
    Calls Try.prog 5 #[.int .i64 n] w fun e w' => e = .returned (.tuple #[.pointer none, .int .i64 1]) ∧ w = w' := by
  by_cases h1 : n < 1
  · have d1 : decide (n < 1) = true := by simp [h1]
    clear h
    go_enter Try.func5, Try.ntmps5
    go_wp2
    go_ret2
    exact ⟨rfl, rfl⟩
  · have d1 : decide (n < 1) = false := by simp; omega
    have d2 : decide (65535 < n) = true := by simp; omega
    clear h h1
    go_enter Try.func5, Try.ntmps5
    go_wp2
    go_ret2
    exact ⟨rfl, rfl⟩

set_option maxHeartbeats 1000000 in
theorem lru_new_yes (n : Nat) (w : World) (h1 : 1 ≤ n) (hn : n ≤ 65535) :
    Calls Try.prog 5 #[.int .i64 n] w fun e w' => ∃ b F, e = .returned (.tuple #[.pointer (some ⟨b, 0, none⟩), .int .i64 0]) ∧ LR w' b n [] (fun _ => false) F ∧ (∀ i, F i → w.heap.size ≤ i) ∧ Fr NoF w w' := by
  obtain ⟨i0, hi, hz0, hz1, hz2⟩ := info_parts infoBool
  have mk1 : ∀ w : World, (Instr.makeSlice 41 (.int .i64 (n : Int)) (.int .i64 (n : Int))).run Try.prog w =
      .ok (.slice (some ⟨w.heap.size, 0, none⟩) n n) (w.alloc (.cells (madeCells #[.bool false] n) 4)) := by
    intro w
    have := run_make (P := Try.prog) w 41 4 i0 _ Try.underlying41 hi hz0 .i64 .i64 (n : Int) (n : Int) (by omega) (Int.le_refl _) (by rw [hz2]; omega) (by omega)
    rw [show ((n : Int)).toNat = n from by omega, hz1, Nat.mul_one] at this
    exact this
  have MK := Lib.hid mk1
  have HN := Lib.hid (new_yes n 1 w (by omega) (by omega) (by omega))
  clear mk1 hi hz0 hz1 hz2
  go_enter Try.func5, Try.ntmps5
  go_wp2_with fail
  refine HN.out.mono ?_
  clear HN
  rintro e w1 ⟨rb, FR, rfl, hR, hF, hf⟩
  have HR := Lib.hid hR
  have HF := Lib.hid hF
  have HFr := Lib.hid hf
  have mk1 := MK.out w1
  clear hR hF hf
  go_wp2
  go_returns
  have hz := HFr.out.size
  have hfA : Fr NoF w1 ((w1.alloc (.cells (madeCells #[.bool false] n) 4)).alloc (.cells #[.pointer (some ⟨rb, 0, none⟩), .slice (some ⟨w1.heap.size, 0, none⟩) n n, .int .i64 0] 43)) := ((Fr.refl _ _).alloc _).alloc _
  have hlt := HR.out.lt
  refine ⟨w1.heap.size + 1, fun i => i = w1.heap.size + 1 ∨ i = w1.heap.size ∨ FR i, rfl, ⟨rb, w1.heap.size, FR, ⟨?_, ?_, HR.out.fr hfA (fun _ _ q => q), by omega, fun q => by have := hlt _ q; omega, fun q => by have := hlt _ q; omega, fun f hf => (by cases hf), hn⟩, fun _ => Iff.rfl⟩, ?_, HFr.out.trans hfA (fun _ q => q.elim)⟩
  · refine Blk.new _ _ _ 3 _ _ (by simp) rfl (fun i hi => ?_)
    match i, hi with
    | 0, _ => rfl
    | 1, _ => rfl
    | 2, _ => rfl
  · refine (Blk.new _ _ _ n _ _ rfl (by simp [size_madeCells]) (fun i hi => ?_)).alloc _
    rw [made_get hi, show (#[Value.bool false] : Array Value).size = 1 from rfl, Nat.mod_one]; rfl
  · intro i hi
    rcases hi with rfl | rfl | q
    · omega
    · omega
    · exact HF.out i q

theorem back_range (k : Nat) : backL (List.range k) k = List.range (k + 1) := by
  unfold backL awayL
  rw [List.range_succ]
  congr 1
  rw [List.filter_eq_self]
  intro a ha
  have := List.mem_range.1 ha
  simp; omega
theorem set_range (k : Nat) : setL (List.range (k + 1)) (fun f => decide (f < k)) k true = fun f => decide (f < k + 1) := by
  funext f
  unfold setL
  rw [if_pos (List.mem_range.2 (by omega))]
  unfold upd
  split
  · subst f; simp
  · rw [decide_eq_decide]; omega

set_option maxHeartbeats 1000000 in
theorem told_calls (w : World) : Calls Try.prog 6 #[] w fun e w' => e = .returned (.bool true) ∧ Fr NoF w w' := by
  have N := Lib.hid (lru_new_yes 3 w (by omega) (by omega))
  go_enter Try.func6, Try.ntmps6
  go_wp2_with fail
  refine N.out.mono ?_
  clear N
  rintro e w1 ⟨b, F, rfl, hR1, hF, hf1⟩
  have HF := Lib.hid hF
  have HR1 := Lib.hid hR1
  have HFr1 := Lib.hid hf1
  clear hF hR1 hf1
  go_wp2
  go_loopw [3] (fun i wr => ∃ k : Nat, k ≤ 3 ∧ i = .int .i64 k ∧ LR wr b 3 (List.range k) (fun f => decide (f < k)) F ∧ Fr NoF w wr) (fun i _ => 3 - (intOf i).toNat)
  case atStart => exact ⟨0, by omega, rfl, by simpa using HR1.out, HFr1.out⟩
  case round =>
    obtain ⟨k, hk, rfl, hR, hf⟩ := hrel
    have HR := Lib.hid hR
    have HFr := Lib.hid hf
    clear hR hf HR1 HFr1
    by_cases h3 : k < 3
    · have hp : (k : Int) + 1 < 100 := by omega
      have CA := Lib.hid (fun p : Int => lru_access HR.out k h3 p)
      go_wp2_with (first
        | (go_at_call 13; refine (lru_miss (w := wr) _ _).mono ?_; rintro e w' ⟨rfl, rfl⟩)
        | fail)
      refine (CA.out _).mono ?_
      clear CA
      rintro e w2 ⟨rfl, hR2, hf2⟩
      rw [back_range] at hR2
      have CS := Lib.hid (lru_set hR2 k h3 true)
      have HF2 := Lib.hid hf2
      clear hR2 hf2
      go_wp2_with fail
      refine CS.out.mono ?_
      clear CS
      rintro e w3 ⟨rfl, hR3, hf3⟩
      rw [set_range] at hR3
      have HR3 := Lib.hid hR3
      have HF3 := Lib.hid ((HFr.out.trans HF2.out (fun i q => .inr (HF.out i q))).trans hf3 (fun i q => .inr (HF.out i q)))
      clear hR3 hf3
      go_wp2
      go_roundw
      case rel => exact ⟨k + 1, by omega, by go_num, HR3.out, HF3.out⟩
      case measure => simp [intOf]; omega
    · obtain rfl : k = 3 := by omega
      have CA := Lib.hid (lru_access HR.out 0 (by omega) 1)
      go_wp2_with fail
      refine CA.out.mono ?_
      clear CA
      rintro e w2 ⟨rfl, hR2, hf2⟩
      rw [show backL (List.range 3) 0 = [1, 2, 0] from by decide] at hR2
      have CV := Lib.hid (lru_victim_yes hR2 4 1 (by decide))
      have HF2 := Lib.hid hf2
      clear hR2 hf2
      go_wp2_with (first
        | (go_at_call 13; refine (lru_miss (w := w2) _ _).mono ?_; rintro e w' ⟨rfl, rfl⟩)
        | fail)
      refine CV.out.mono ?_
      clear CV
      rintro e w3 ⟨rfl, hR3, hf3⟩
      have HF3 := Lib.hid ((HFr.out.trans HF2.out (fun i q => .inr (HF.out i q))).trans hf3 (fun i q => .inr (HF.out i q)))
      obtain ⟨rb, eb, FR, hc, _⟩ := hR3
      have hz := lru_size hc
      rw [show cntL (awayL [1, 2, 0] 1) (setL [1, 2, 0] (fun f => decide (f < 3)) 1 false) = 2 from by decide] at hz
      have HZ := Lib.hid hz
      clear hz hc hf3
      go_wp2_with (first
        | (go_at_call 17; refine HZ.out.mono ?_; rintro e w' ⟨rfl, rfl⟩)
        | (go_at_call 18; refine (lru_ghosts (w := w3) _).mono ?_; rintro e w' ⟨rfl, rfl⟩)
        | fail)
      go_returns
      exact ⟨rfl, HF3.out⟩
end Go.Proofs.Ytefkalamodpjmaa

/-
  ModelNews: of all numbers it is told whether there may be a Model; of one that isn't there nothing is told. No condition of its own; the library's table of trailing zeros (math/bits.deBruijn64tab) is as its initialiser lays it: the card ties it to the program's text.
-/
import Derived.Test.YtnjdoifgljdjcaaDoorModG
import Derived.ProofKit
namespace Go.Proofs.YtnjdoifgljdjcaaDoor
open Go.RowKit Go.Maps
set_option linter.unusedVariables false

namespace modelNews
set_option maxHeartbeats 2000000 in
theorem news_yes (n room : Nat) (k id x : Int) (w : World) (hT : TabT w) (h1 : 1 ≤ n) (h2 : n ≤ 65535) (h3 : 1 ≤ room) (h4 : room ≤ 65535) : Calls Tryd.prog 4 #[.int .i64 n, .int .i64 room, .agg #[.int .i64 k, .int .u32 id, .int .u64 x]] w fun e w' => e = .returned (.bool true) ∧ Fr NoF w w' := by
  have fA : Fr NoF w (w.alloc (.cells #[.int .i64 k, .int .u32 id, .int .u64 x] 43)) := (Fr.refl NoF w).alloc _
  have HFA := Lib.hid fA
  have HT := Lib.hid (hT.fr0 fA)
  have HBG := Lib.hid (begin_yes n room (w.alloc (.cells #[.int .i64 k, .int .u32 id, .int .u64 x] 43)) h1 h2 h3 h4)
  have HB0 := Lib.hid (blk_three w (.int .i64 k) (.int .u32 id) (.int .u64 x) (t := 43))
  have g1 : decide (1 ≤ (n : Int)) = true := by simp; omega
  have g2 : decide ((n : Int) ≤ 65535) = true := by simp; omega
  have g3 : decide (1 ≤ (room : Int)) = true := by simp; omega
  have g4 : decide ((room : Int) ≤ 65535) = true := by simp; omega
  clear hT fA
  go_enter Tryd.func4, Tryd.ntmps4
  go_wp2_with fail
  refine HBG.out.mono ?_
  clear HBG
  rintro e w1 ⟨b, mb, v, h, L, rfl, q1, q2, q3⟩
  have HT1 := Lib.hid (HT.out.fr0 q3)
  have HF1 := Lib.hid (HFA.out.trans q3 (fun _ q => .inl q))
  have HB1 := Lib.hid (HB0.out.fr q3 (fun q => q))
  clear q1 q2 q3
  go_wp2_with fail
  refine (value_nil w1 1).mono ?_
  rintro e w2 ⟨rfl, rfl⟩
  go_wp2_with fail
  refine (toldM_calls HT1.out).mono ?_
  rintro e w3 ⟨rfl, f3⟩
  have B3 := HB1.out.fr f3 (fun q => q)
  have c0 : w3.cell? ⟨w.heap.size, 0, none⟩ = some (.int .i64 k) := B3.cell (i := 0) (by omega)
  have c1 : w3.cell? ⟨w.heap.size, 1, none⟩ = some (.int .u32 id) := B3.cell (i := 1) (by omega)
  have c2 : w3.cell? ⟨w.heap.size, 2, none⟩ = some (.int .u64 x) := B3.cell (i := 2) (by omega)
  have l3 := B3.lt
  have HF3 := Lib.hid (HF1.out.trans f3 (fun _ q => .inl q))
  clear B3 f3
  go_wp2_with fail
  refine (to_calls k id x w3).mono ?_
  rintro e w4 ⟨rfl, f4⟩
  have HF4 := Lib.hid (HF3.out.trans f4 (fun _ q => .inl q))
  clear f4
  go_wp2_with fail
  refine (do_nil w4 k id x).mono ?_
  rintro e w5 ⟨rfl, f5⟩
  have HF5 := Lib.hid (HF4.out.trans f5 (fun _ q => .inl q))
  clear f5
  go_wp2_with fail
  refine (from_calls 1 0 0 w5).mono ?_
  rintro e w6 ⟨rfl, f6⟩
  have HF6 := Lib.hid (HF5.out.trans f6 (fun _ q => .inl q))
  clear f6
  go_wp2
  go_returns
  exact ⟨rfl, HF6.out⟩
set_option maxHeartbeats 2000000 in
theorem news_no1 (n room : Int) (k id x : Int) (w : World) (hT : TabT w)  (h1 : ¬ 1 ≤ n) : Calls Tryd.prog 4 #[.int .i64 n, .int .i64 room, .agg #[.int .i64 k, .int .u32 id, .int .u64 x]] w fun e w' => e = .returned (.bool true) ∧ Fr NoF w w' := by
  have fA : Fr NoF w (w.alloc (.cells #[.int .i64 k, .int .u32 id, .int .u64 x] 43)) := (Fr.refl NoF w).alloc _
  have HFA := Lib.hid fA
  have HT := Lib.hid (hT.fr0 fA)
  have HBG := Lib.hid (begin_no n room (w.alloc (.cells #[.int .i64 k, .int .u32 id, .int .u64 x] 43)) (by omega))
  have HB0 := Lib.hid (blk_three w (.int .i64 k) (.int .u32 id) (.int .u64 x) (t := 43))
  have g1 : decide (1 ≤ n) = false := by simpa using h1
  clear hT fA
  go_enter Tryd.func4, Tryd.ntmps4
  go_wp2_with fail
  refine HBG.out.mono ?_
  clear HBG
  rintro e w1 ⟨rfl, q3⟩
  have HT1 := Lib.hid (HT.out.fr0 q3)
  have HF1 := Lib.hid (HFA.out.trans q3 (fun _ q => .inl q))
  have HB1 := Lib.hid (HB0.out.fr q3 (fun q => q))
  clear q3
  go_wp2_with fail
  refine (value_nil w1 1).mono ?_
  rintro e w2 ⟨rfl, rfl⟩
  go_wp2_with fail
  refine (toldM_calls HT1.out).mono ?_
  rintro e w3 ⟨rfl, f3⟩
  have B3 := HB1.out.fr f3 (fun q => q)
  have c0 : w3.cell? ⟨w.heap.size, 0, none⟩ = some (.int .i64 k) := B3.cell (i := 0) (by omega)
  have c1 : w3.cell? ⟨w.heap.size, 1, none⟩ = some (.int .u32 id) := B3.cell (i := 1) (by omega)
  have c2 : w3.cell? ⟨w.heap.size, 2, none⟩ = some (.int .u64 x) := B3.cell (i := 2) (by omega)
  have l3 := B3.lt
  have HF3 := Lib.hid (HF1.out.trans f3 (fun _ q => .inl q))
  clear B3 f3
  go_wp2_with fail
  refine (to_calls k id x w3).mono ?_
  rintro e w4 ⟨rfl, f4⟩
  have HF4 := Lib.hid (HF3.out.trans f4 (fun _ q => .inl q))
  clear f4
  go_wp2_with fail
  refine (do_nil w4 k id x).mono ?_
  rintro e w5 ⟨rfl, f5⟩
  have HF5 := Lib.hid (HF4.out.trans f5 (fun _ q => .inl q))
  clear f5
  go_wp2_with fail
  refine (from_calls 1 0 0 w5).mono ?_
  rintro e w6 ⟨rfl, f6⟩
  have HF6 := Lib.hid (HF5.out.trans f6 (fun _ q => .inl q))
  clear f6
  go_wp2
  go_returns
  exact ⟨rfl, HF6.out⟩
set_option maxHeartbeats 2000000 in
theorem news_no2 (n room : Int) (k id x : Int) (w : World) (hT : TabT w) (h1 : 1 ≤ n) (h2 : ¬ n ≤ 65535) : Calls Tryd.prog 4 #[.int .i64 n, .int .i64 room, .agg #[.int .i64 k, .int .u32 id, .int .u64 x]] w fun e w' => e = .returned (.bool true) ∧ Fr NoF w w' := by
  have fA : Fr NoF w (w.alloc (.cells #[.int .i64 k, .int .u32 id, .int .u64 x] 43)) := (Fr.refl NoF w).alloc _
  have HFA := Lib.hid fA
  have HT := Lib.hid (hT.fr0 fA)
  have HBG := Lib.hid (begin_no n room (w.alloc (.cells #[.int .i64 k, .int .u32 id, .int .u64 x] 43)) (by omega))
  have HB0 := Lib.hid (blk_three w (.int .i64 k) (.int .u32 id) (.int .u64 x) (t := 43))
  have g1 : decide (1 ≤ n) = true := by simpa using h1
  have g2 : decide (n ≤ 65535) = false := by simpa using h2
  clear hT fA
  go_enter Tryd.func4, Tryd.ntmps4
  go_wp2_with fail
  refine HBG.out.mono ?_
  clear HBG
  rintro e w1 ⟨rfl, q3⟩
  have HT1 := Lib.hid (HT.out.fr0 q3)
  have HF1 := Lib.hid (HFA.out.trans q3 (fun _ q => .inl q))
  have HB1 := Lib.hid (HB0.out.fr q3 (fun q => q))
  clear q3
  go_wp2_with fail
  refine (value_nil w1 1).mono ?_
  rintro e w2 ⟨rfl, rfl⟩
  go_wp2_with fail
  refine (toldM_calls HT1.out).mono ?_
  rintro e w3 ⟨rfl, f3⟩
  have B3 := HB1.out.fr f3 (fun q => q)
  have c0 : w3.cell? ⟨w.heap.size, 0, none⟩ = some (.int .i64 k) := B3.cell (i := 0) (by omega)
  have c1 : w3.cell? ⟨w.heap.size, 1, none⟩ = some (.int .u32 id) := B3.cell (i := 1) (by omega)
  have c2 : w3.cell? ⟨w.heap.size, 2, none⟩ = some (.int .u64 x) := B3.cell (i := 2) (by omega)
  have l3 := B3.lt
  have HF3 := Lib.hid (HF1.out.trans f3 (fun _ q => .inl q))
  clear B3 f3
  go_wp2_with fail
  refine (to_calls k id x w3).mono ?_
  rintro e w4 ⟨rfl, f4⟩
  have HF4 := Lib.hid (HF3.out.trans f4 (fun _ q => .inl q))
  clear f4
  go_wp2_with fail
  refine (do_nil w4 k id x).mono ?_
  rintro e w5 ⟨rfl, f5⟩
  have HF5 := Lib.hid (HF4.out.trans f5 (fun _ q => .inl q))
  clear f5
  go_wp2_with fail
  refine (from_calls 1 0 0 w5).mono ?_
  rintro e w6 ⟨rfl, f6⟩
  have HF6 := Lib.hid (HF5.out.trans f6 (fun _ q => .inl q))
  clear f6
  go_wp2
  go_returns
  exact ⟨rfl, HF6.out⟩
set_option maxHeartbeats 2000000 in
theorem news_no3 (n room : Int) (k id x : Int) (w : World) (hT : TabT w) (h1 : 1 ≤ n) (h2 : n ≤ 65535) (h3 : ¬ 1 ≤ room) : Calls Tryd.prog 4 #[.int .i64 n, .int .i64 room, .agg #[.int .i64 k, .int .u32 id, .int .u64 x]] w fun e w' => e = .returned (.bool true) ∧ Fr NoF w w' := by
  have fA : Fr NoF w (w.alloc (.cells #[.int .i64 k, .int .u32 id, .int .u64 x] 43)) := (Fr.refl NoF w).alloc _
  have HFA := Lib.hid fA
  have HT := Lib.hid (hT.fr0 fA)
  have HBG := Lib.hid (begin_no n room (w.alloc (.cells #[.int .i64 k, .int .u32 id, .int .u64 x] 43)) (by omega))
  have HB0 := Lib.hid (blk_three w (.int .i64 k) (.int .u32 id) (.int .u64 x) (t := 43))
  have g1 : decide (1 ≤ n) = true := by simpa using h1
  have g2 : decide (n ≤ 65535) = true := by simpa using h2
  have g3 : decide (1 ≤ room) = false := by simpa using h3
  clear hT fA
  go_enter Tryd.func4, Tryd.ntmps4
  go_wp2_with fail
  refine HBG.out.mono ?_
  clear HBG
  rintro e w1 ⟨rfl, q3⟩
  have HT1 := Lib.hid (HT.out.fr0 q3)
  have HF1 := Lib.hid (HFA.out.trans q3 (fun _ q => .inl q))
  have HB1 := Lib.hid (HB0.out.fr q3 (fun q => q))
  clear q3
  go_wp2_with fail
  refine (value_nil w1 1).mono ?_
  rintro e w2 ⟨rfl, rfl⟩
  go_wp2_with fail
  refine (toldM_calls HT1.out).mono ?_
  rintro e w3 ⟨rfl, f3⟩
  have B3 := HB1.out.fr f3 (fun q => q)
  have c0 : w3.cell? ⟨w.heap.size, 0, none⟩ = some (.int .i64 k) := B3.cell (i := 0) (by omega)
  have c1 : w3.cell? ⟨w.heap.size, 1, none⟩ = some (.int .u32 id) := B3.cell (i := 1) (by omega)
  have c2 : w3.cell? ⟨w.heap.size, 2, none⟩ = some (.int .u64 x) := B3.cell (i := 2) (by omega)
  have l3 := B3.lt
  have HF3 := Lib.hid (HF1.out.trans f3 (fun _ q => .inl q))
  clear B3 f3
  go_wp2_with fail
  refine (to_calls k id x w3).mono ?_
  rintro e w4 ⟨rfl, f4⟩
  have HF4 := Lib.hid (HF3.out.trans f4 (fun _ q => .inl q))
  clear f4
  go_wp2_with fail
  refine (do_nil w4 k id x).mono ?_
  rintro e w5 ⟨rfl, f5⟩
  have HF5 := Lib.hid (HF4.out.trans f5 (fun _ q => .inl q))
  clear f5
  go_wp2_with fail
  refine (from_calls 1 0 0 w5).mono ?_
  rintro e w6 ⟨rfl, f6⟩
  have HF6 := Lib.hid (HF5.out.trans f6 (fun _ q => .inl q))
  clear f6
  go_wp2
  go_returns
  exact ⟨rfl, HF6.out⟩
set_option maxHeartbeats 2000000 in
theorem news_no4 (n room : Int) (k id x : Int) (w : World) (hT : TabT w) (h1 : 1 ≤ n) (h2 : n ≤ 65535) (h3 : 1 ≤ room) (h4 : ¬ room ≤ 65535) : Calls Tryd.prog 4 #[.int .i64 n, .int .i64 room, .agg #[.int .i64 k, .int .u32 id, .int .u64 x]] w fun e w' => e = .returned (.bool true) ∧ Fr NoF w w' := by
  have fA : Fr NoF w (w.alloc (.cells #[.int .i64 k, .int .u32 id, .int .u64 x] 43)) := (Fr.refl NoF w).alloc _
  have HFA := Lib.hid fA
  have HT := Lib.hid (hT.fr0 fA)
  have HBG := Lib.hid (begin_no n room (w.alloc (.cells #[.int .i64 k, .int .u32 id, .int .u64 x] 43)) (by omega))
  have HB0 := Lib.hid (blk_three w (.int .i64 k) (.int .u32 id) (.int .u64 x) (t := 43))
  have g1 : decide (1 ≤ n) = true := by simpa using h1
  have g2 : decide (n ≤ 65535) = true := by simpa using h2
  have g3 : decide (1 ≤ room) = true := by simpa using h3
  have g4 : decide (room ≤ 65535) = false := by simpa using h4
  clear hT fA
  go_enter Tryd.func4, Tryd.ntmps4
  go_wp2_with fail
  refine HBG.out.mono ?_
  clear HBG
  rintro e w1 ⟨rfl, q3⟩
  have HT1 := Lib.hid (HT.out.fr0 q3)
  have HF1 := Lib.hid (HFA.out.trans q3 (fun _ q => .inl q))
  have HB1 := Lib.hid (HB0.out.fr q3 (fun q => q))
  clear q3
  go_wp2_with fail
  refine (value_nil w1 1).mono ?_
  rintro e w2 ⟨rfl, rfl⟩
  go_wp2_with fail
  refine (toldM_calls HT1.out).mono ?_
  rintro e w3 ⟨rfl, f3⟩
  have B3 := HB1.out.fr f3 (fun q => q)
  have c0 : w3.cell? ⟨w.heap.size, 0, none⟩ = some (.int .i64 k) := B3.cell (i := 0) (by omega)
  have c1 : w3.cell? ⟨w.heap.size, 1, none⟩ = some (.int .u32 id) := B3.cell (i := 1) (by omega)
  have c2 : w3.cell? ⟨w.heap.size, 2, none⟩ = some (.int .u64 x) := B3.cell (i := 2) (by omega)
  have l3 := B3.lt
  have HF3 := Lib.hid (HF1.out.trans f3 (fun _ q => .inl q))
  clear B3 f3
  go_wp2_with fail
  refine (to_calls k id x w3).mono ?_
  rintro e w4 ⟨rfl, f4⟩
  have HF4 := Lib.hid (HF3.out.trans f4 (fun _ q => .inl q))
  clear f4
  go_wp2_with fail
  refine (do_nil w4 k id x).mono ?_
  rintro e w5 ⟨rfl, f5⟩
  have HF5 := Lib.hid (HF4.out.trans f5 (fun _ q => .inl q))
  clear f5
  go_wp2_with fail
  refine (from_calls 1 0 0 w5).mono ?_
  rintro e w6 ⟨rfl, f6⟩
  have HF6 := Lib.hid (HF5.out.trans f6 (fun _ q => .inl q))
  clear f6
  go_wp2
  go_returns
  exact ⟨rfl, HF6.out⟩
theorem walk (n room k id x : Int) (w : World) (hT : TabT w) : Calls Tryd.prog 4 #[.int .i64 n, .int .i64 room, .agg #[.int .i64 k, .int .u32 id, .int .u64 x]] w fun e w' => e = .returned (.bool true) ∧ Fr NoF w w' := by
  by_cases h1 : 1 ≤ n
  · by_cases h2 : n ≤ 65535
    · by_cases h3 : 1 ≤ room
      · by_cases h4 : room ≤ 65535
        · obtain ⟨n', rfl⟩ := Int.eq_ofNat_of_zero_le (show 0 ≤ n by omega)
          obtain ⟨r', rfl⟩ := Int.eq_ofNat_of_zero_le (show 0 ≤ room by omega)
          exact news_yes n' r' k id x w hT (by omega) (by omega) (by omega) (by omega)
        · exact news_no4 n room k id x w hT h1 h2 h3 h4
      · exact news_no3 n room k id x w hT h1 h2 h3
    · exact news_no2 n room k id x w hT h1 h2
  · exact news_no1 n room k id x w hT h1
end modelNews
end Go.Proofs.YtnjdoifgljdjcaaDoor

/-
  model's Model in memory: Do, by the kind of the call.
-/
import Derived.Test.YtnjdoifgljdjcaaDoorModD
namespace Go.Proofs.YtnjdoifgljdjcaaDoor
open Go.RowKit Go.Maps
set_option linter.unusedVariables false

section
variable {w : World} {b : Nat} {Q : World → Prop} {G : Nat → Prop}
theorem blk_three' (w : World) (y1 y2 y3 u1 u2 u3 : Value) {t t' : TypeId} : Blk ((w.alloc (.cells #[y1, y2, y3] t')).alloc (.cells #[u1, u2, u3] t)) (w.heap.size + 1) 3 (fun i => if i = 0 then u1 else if i = 1 then u2 else u3) :=
  Blk.new _ _ _ _ _ _ (by simp) rfl (fun i hi => by
    match i, hi with
    | 0, _ => rfl
    | 1, _ => rfl
    | 2, _ => rfl)
theorem do_nil (w : World) (k id x : Int) : Calls Tryd.prog 8 #[.pointer none, .agg #[.int .i64 k, .int .u32 id, .int .u64 x]] w fun e w' => e = .returned (.agg #[.int .i64 1, .int .u32 0, .int .u64 0]) ∧ Fr NoF w w' := by
  go_enter Tryd.func8, Tryd.ntmps8
  go_wp2
  (try simp only [Exit.inBlock, Exit.then])
  refine bodyPost_ret (results_blk Tryd.results8 _ _ (blk_three' w _ _ _ _ _ _) rfl Tryd.underlying38 rfl (by kernel_rfl)) rfl ?_
  exact ⟨rfl, ((Fr.refl NoF w).alloc _).alloc _⟩
theorem do_6 (w : World) (b : Nat) (id x : Int) : Calls Tryd.prog 8 #[.pointer (some ⟨b, 0, none⟩), .agg #[.int .i64 6, .int .u32 id, .int .u64 x]] w fun e w' => e = .returned (.agg #[.int .i64 0, .int .u32 0, .int .u64 0]) ∧ Fr NoF w w' := by
  go_enter Tryd.func8, Tryd.ntmps8
  go_wp2
  (try simp only [Exit.inBlock, Exit.then])
  refine bodyPost_ret (results_blk Tryd.results8 _ _ (blk_three' w _ _ _ _ _ _) rfl Tryd.underlying38 rfl (by kernel_rfl)) rfl ?_
  exact ⟨rfl, ((Fr.refl NoF w).alloc _).alloc _⟩
theorem do_other (w : World) (b : Nat) (k id x : Int) (hk : k < 0 ∨ 7 < k) : Calls Tryd.prog 8 #[.pointer (some ⟨b, 0, none⟩), .agg #[.int .i64 k, .int .u32 id, .int .u64 x]] w fun e w' => e = .returned (.agg #[.int .i64 1, .int .u32 0, .int .u64 0]) ∧ Fr NoF w w' := by
  have g0 : (k == 0) = false := by simp; omega
  have g1 : (k == 1) = false := by simp; omega
  have g2 : (k == 2) = false := by simp; omega
  have g3 : (k == 3) = false := by simp; omega
  have g4 : (k == 4) = false := by simp; omega
  have g5 : (k == 5) = false := by simp; omega
  have g6 : (k == 6) = false := by simp; omega
  have g7 : (k == 7) = false := by simp; omega
  clear hk
  go_enter Tryd.func8, Tryd.ntmps8
  go_wp2
  (try simp only [Exit.inBlock, Exit.then])
  refine bodyPost_ret (results_blk Tryd.results8 _ _ (blk_three' w _ _ _ _ _ _) rfl Tryd.underlying38 rfl (by kernel_rfl)) rfl ?_
  exact ⟨rfl, ((Fr.refl NoF w).alloc _).alloc _⟩
set_option maxHeartbeats 1000000 in
theorem do_0 {E I V : Int} {id x : Int} (hG : ∀ i, G i → i < w.heap.size) (hQ : ∀ a c, Q a → Fr (fun i => w.heap.size ≤ i) a c → Q c) (hin : ∀ W, Fr NoF w W → Calls Tryd.prog 14 #[.pointer (some ⟨b, 0, none⟩)] W fun e w' => e = .returned (.agg #[.int .i64 E, .int .u32 I, .int .u64 V]) ∧ Q w' ∧ Fr G W w') :
    Calls Tryd.prog 8 #[.pointer (some ⟨b, 0, none⟩), .agg #[.int .i64 0, .int .u32 id, .int .u64 x]] w fun e w' => e = .returned (.agg #[.int .i64 E, .int .u32 I, .int .u64 V]) ∧ Q w' ∧ Fr G w w' := by
  have fA : Fr NoF w ((w.alloc (.cells #[.int .i64 0, .int .u32 id, .int .u64 x] 41)).alloc (.cells #[.int .i64 0, .int .u32 0, .int .u64 0] 38)) := ((Fr.refl NoF w).alloc _).alloc _
  have HIN := Lib.hid (hin _ fA)
  have HFA := Lib.hid fA
  have HG := Lib.hid hG
  have HQ := Lib.hid hQ
  clear hin fA hG hQ
  go_enter Tryd.func8, Tryd.ntmps8
  go_wp2_with fail
  refine HIN.out.mono ?_
  rintro e w1 ⟨rfl, q1, q2⟩
  have RB := (blk_three' w (.int .i64 0) (.int .u32 id) (.int .u64 x) (.int .i64 0) (.int .u32 0) (.int .u64 0) (t := 38) (t' := 41)).fr q2 (fun q => absurd (HG.out _ q) (by omega))
  have HRB := Lib.hid RB
  have HQ1 := Lib.hid q1
  have HF : Hid (Fr G w w1) := (HFA.out.mono (fun _ q => q.elim)).trans q2 (fun i q => .inl q)
  have t0 : w1.cell? ⟨w.heap.size + 1, 0, none⟩ = some (.int .i64 0) := RB.cell (i := 0) (by omega)
  have t1 : w1.cell? ⟨w.heap.size + 1, 1, none⟩ = some (.int .u32 0) := RB.cell (i := 1) (by omega)
  have t2 : w1.cell? ⟨w.heap.size + 1, 2, none⟩ = some (.int .u64 0) := RB.cell (i := 2) (by omega)
  have g0 := RB.frozen 0
  have g1 := RB.frozen 1
  have g2 := RB.frozen 2
  have lr := RB.lt
  clear RB q1 q2 HIN
  go_wp2
  have RS := ((HRB.out.set 0 (.int .i64 E)).set 1 (.int .u32 I)).set 2 (.int .u64 V)
  have FS := (((Fr.refl (fun i => i = w.heap.size + 1) w1).setCell (p := ⟨w.heap.size + 1, 0, none⟩) (.inl rfl) (.int .i64 E)).setCell (p := ⟨w.heap.size + 1, 1, none⟩) (.inl rfl) (.int .u32 I)).setCell (p := ⟨w.heap.size + 1, 2, none⟩) (.inl rfl) (.int .u64 V)
  (try simp only [Exit.inBlock, Exit.then])
  refine bodyPost_ret (results_blk Tryd.results8 _ _ RS rfl Tryd.underlying38 rfl (by kernel_rfl)) rfl ?_
  exact ⟨rfl, HQ.out _ _ HQ1.out (FS.mono (fun i q => by omega)), HF.out.trans FS (fun i q => .inr (by omega))⟩
set_option maxHeartbeats 1000000 in
theorem do_1 {E : Int} {id x : Int} (hG : ∀ i, G i → i < w.heap.size) (hQ : ∀ a c, Q a → Fr (fun i => w.heap.size ≤ i) a c → Q c) (hin : ∀ W, Fr NoF w W → Calls Tryd.prog 15 #[.pointer (some ⟨b, 0, none⟩), .int .u32 id] W fun e w' => e = .returned (.int .i64 E) ∧ Q w' ∧ Fr G W w') :
    Calls Tryd.prog 8 #[.pointer (some ⟨b, 0, none⟩), .agg #[.int .i64 1, .int .u32 id, .int .u64 x]] w fun e w' => e = .returned (.agg #[.int .i64 E, .int .u32 0, .int .u64 0]) ∧ Q w' ∧ Fr G w w' := by
  have fA : Fr NoF w ((w.alloc (.cells #[.int .i64 1, .int .u32 id, .int .u64 x] 41)).alloc (.cells #[.int .i64 0, .int .u32 0, .int .u64 0] 38)) := ((Fr.refl NoF w).alloc _).alloc _
  have HIN := Lib.hid (hin _ fA)
  have HFA := Lib.hid fA
  have HG := Lib.hid hG
  have HQ := Lib.hid hQ
  clear hin fA hG hQ
  go_enter Tryd.func8, Tryd.ntmps8
  go_wp2_with fail
  refine HIN.out.mono ?_
  rintro e w1 ⟨rfl, q1, q2⟩
  have RB := (blk_three' w (.int .i64 1) (.int .u32 id) (.int .u64 x) (.int .i64 0) (.int .u32 0) (.int .u64 0) (t := 38) (t' := 41)).fr q2 (fun q => absurd (HG.out _ q) (by omega))
  have HRB := Lib.hid RB
  have HQ1 := Lib.hid q1
  have HF : Hid (Fr G w w1) := (HFA.out.mono (fun _ q => q.elim)).trans q2 (fun i q => .inl q)
  have t0 : w1.cell? ⟨w.heap.size + 1, 0, none⟩ = some (.int .i64 0) := RB.cell (i := 0) (by omega)
  have t1 : w1.cell? ⟨w.heap.size + 1, 1, none⟩ = some (.int .u32 0) := RB.cell (i := 1) (by omega)
  have t2 : w1.cell? ⟨w.heap.size + 1, 2, none⟩ = some (.int .u64 0) := RB.cell (i := 2) (by omega)
  have g0 := RB.frozen 0
  have g1 := RB.frozen 1
  have g2 := RB.frozen 2
  have lr := RB.lt
  clear RB q1 q2 HIN
  go_wp2
  have RS := ((HRB.out.set 0 (.int .i64 E)).set 1 (.int .u32 0)).set 2 (.int .u64 0)
  have FS := (((Fr.refl (fun i => i = w.heap.size + 1) w1).setCell (p := ⟨w.heap.size + 1, 0, none⟩) (.inl rfl) (.int .i64 E)).setCell (p := ⟨w.heap.size + 1, 1, none⟩) (.inl rfl) (.int .u32 0)).setCell (p := ⟨w.heap.size + 1, 2, none⟩) (.inl rfl) (.int .u64 0)
  (try simp only [Exit.inBlock, Exit.then])
  refine bodyPost_ret (results_blk Tryd.results8 _ _ RS rfl Tryd.underlying38 rfl (by kernel_rfl)) rfl ?_
  exact ⟨rfl, HQ.out _ _ HQ1.out (FS.mono (fun i q => by omega)), HF.out.trans FS (fun i q => .inr (by omega))⟩
set_option maxHeartbeats 1000000 in
theorem do_2 {E : Int} {id x : Int} (hG : ∀ i, G i → i < w.heap.size) (hQ : ∀ a c, Q a → Fr (fun i => w.heap.size ≤ i) a c → Q c) (hin : ∀ W, Fr NoF w W → Calls Tryd.prog 16 #[.pointer (some ⟨b, 0, none⟩), .int .u32 id] W fun e w' => e = .returned (.int .i64 E) ∧ Q w' ∧ Fr G W w') :
    Calls Tryd.prog 8 #[.pointer (some ⟨b, 0, none⟩), .agg #[.int .i64 2, .int .u32 id, .int .u64 x]] w fun e w' => e = .returned (.agg #[.int .i64 E, .int .u32 0, .int .u64 0]) ∧ Q w' ∧ Fr G w w' := by
  have fA : Fr NoF w ((w.alloc (.cells #[.int .i64 2, .int .u32 id, .int .u64 x] 41)).alloc (.cells #[.int .i64 0, .int .u32 0, .int .u64 0] 38)) := ((Fr.refl NoF w).alloc _).alloc _
  have HIN := Lib.hid (hin _ fA)
  have HFA := Lib.hid fA
  have HG := Lib.hid hG
  have HQ := Lib.hid hQ
  clear hin fA hG hQ
  go_enter Tryd.func8, Tryd.ntmps8
  go_wp2_with fail
  refine HIN.out.mono ?_
  rintro e w1 ⟨rfl, q1, q2⟩
  have RB := (blk_three' w (.int .i64 2) (.int .u32 id) (.int .u64 x) (.int .i64 0) (.int .u32 0) (.int .u64 0) (t := 38) (t' := 41)).fr q2 (fun q => absurd (HG.out _ q) (by omega))
  have HRB := Lib.hid RB
  have HQ1 := Lib.hid q1
  have HF : Hid (Fr G w w1) := (HFA.out.mono (fun _ q => q.elim)).trans q2 (fun i q => .inl q)
  have t0 : w1.cell? ⟨w.heap.size + 1, 0, none⟩ = some (.int .i64 0) := RB.cell (i := 0) (by omega)
  have t1 : w1.cell? ⟨w.heap.size + 1, 1, none⟩ = some (.int .u32 0) := RB.cell (i := 1) (by omega)
  have t2 : w1.cell? ⟨w.heap.size + 1, 2, none⟩ = some (.int .u64 0) := RB.cell (i := 2) (by omega)
  have g0 := RB.frozen 0
  have g1 := RB.frozen 1
  have g2 := RB.frozen 2
  have lr := RB.lt
  clear RB q1 q2 HIN
  go_wp2
  have RS := ((HRB.out.set 0 (.int .i64 E)).set 1 (.int .u32 0)).set 2 (.int .u64 0)
  have FS := (((Fr.refl (fun i => i = w.heap.size + 1) w1).setCell (p := ⟨w.heap.size + 1, 0, none⟩) (.inl rfl) (.int .i64 E)).setCell (p := ⟨w.heap.size + 1, 1, none⟩) (.inl rfl) (.int .u32 0)).setCell (p := ⟨w.heap.size + 1, 2, none⟩) (.inl rfl) (.int .u64 0)
  (try simp only [Exit.inBlock, Exit.then])
  refine bodyPost_ret (results_blk Tryd.results8 _ _ RS rfl Tryd.underlying38 rfl (by kernel_rfl)) rfl ?_
  exact ⟨rfl, HQ.out _ _ HQ1.out (FS.mono (fun i q => by omega)), HF.out.trans FS (fun i q => .inr (by omega))⟩
set_option maxHeartbeats 1000000 in
theorem do_3 {E I V : Int} {id x : Int} (hG : ∀ i, G i → i < w.heap.size) (hQ : ∀ a c, Q a → Fr (fun i => w.heap.size ≤ i) a c → Q c) (hin : ∀ W, Fr NoF w W → Calls Tryd.prog 17 #[.pointer (some ⟨b, 0, none⟩), .int .u32 id] W fun e w' => e = .returned (.agg #[.int .i64 E, .int .u32 I, .int .u64 V]) ∧ Q w' ∧ Fr G W w') :
    Calls Tryd.prog 8 #[.pointer (some ⟨b, 0, none⟩), .agg #[.int .i64 3, .int .u32 id, .int .u64 x]] w fun e w' => e = .returned (.agg #[.int .i64 E, .int .u32 I, .int .u64 V]) ∧ Q w' ∧ Fr G w w' := by
  have fA : Fr NoF w ((w.alloc (.cells #[.int .i64 3, .int .u32 id, .int .u64 x] 41)).alloc (.cells #[.int .i64 0, .int .u32 0, .int .u64 0] 38)) := ((Fr.refl NoF w).alloc _).alloc _
  have HIN := Lib.hid (hin _ fA)
  have HFA := Lib.hid fA
  have HG := Lib.hid hG
  have HQ := Lib.hid hQ
  clear hin fA hG hQ
  go_enter Tryd.func8, Tryd.ntmps8
  go_wp2_with fail
  refine HIN.out.mono ?_
  rintro e w1 ⟨rfl, q1, q2⟩
  have RB := (blk_three' w (.int .i64 3) (.int .u32 id) (.int .u64 x) (.int .i64 0) (.int .u32 0) (.int .u64 0) (t := 38) (t' := 41)).fr q2 (fun q => absurd (HG.out _ q) (by omega))
  have HRB := Lib.hid RB
  have HQ1 := Lib.hid q1
  have HF : Hid (Fr G w w1) := (HFA.out.mono (fun _ q => q.elim)).trans q2 (fun i q => .inl q)
  have t0 : w1.cell? ⟨w.heap.size + 1, 0, none⟩ = some (.int .i64 0) := RB.cell (i := 0) (by omega)
  have t1 : w1.cell? ⟨w.heap.size + 1, 1, none⟩ = some (.int .u32 0) := RB.cell (i := 1) (by omega)
  have t2 : w1.cell? ⟨w.heap.size + 1, 2, none⟩ = some (.int .u64 0) := RB.cell (i := 2) (by omega)
  have g0 := RB.frozen 0
  have g1 := RB.frozen 1
  have g2 := RB.frozen 2
  have lr := RB.lt
  clear RB q1 q2 HIN
  go_wp2
  have RS := ((HRB.out.set 0 (.int .i64 E)).set 1 (.int .u32 I)).set 2 (.int .u64 V)
  have FS := (((Fr.refl (fun i => i = w.heap.size + 1) w1).setCell (p := ⟨w.heap.size + 1, 0, none⟩) (.inl rfl) (.int .i64 E)).setCell (p := ⟨w.heap.size + 1, 1, none⟩) (.inl rfl) (.int .u32 I)).setCell (p := ⟨w.heap.size + 1, 2, none⟩) (.inl rfl) (.int .u64 V)
  (try simp only [Exit.inBlock, Exit.then])
  refine bodyPost_ret (results_blk Tryd.results8 _ _ RS rfl Tryd.underlying38 rfl (by kernel_rfl)) rfl ?_
  exact ⟨rfl, HQ.out _ _ HQ1.out (FS.mono (fun i q => by omega)), HF.out.trans FS (fun i q => .inr (by omega))⟩
set_option maxHeartbeats 1000000 in
theorem do_4 {E : Int} {id x : Int} (hG : ∀ i, G i → i < w.heap.size) (hQ : ∀ a c, Q a → Fr (fun i => w.heap.size ≤ i) a c → Q c) (hin : ∀ W, Fr NoF w W → Calls Tryd.prog 18 #[.pointer (some ⟨b, 0, none⟩), .int .u32 id, .int .u64 x] W fun e w' => e = .returned (.int .i64 E) ∧ Q w' ∧ Fr G W w') :
    Calls Tryd.prog 8 #[.pointer (some ⟨b, 0, none⟩), .agg #[.int .i64 4, .int .u32 id, .int .u64 x]] w fun e w' => e = .returned (.agg #[.int .i64 E, .int .u32 0, .int .u64 0]) ∧ Q w' ∧ Fr G w w' := by
  have fA : Fr NoF w ((w.alloc (.cells #[.int .i64 4, .int .u32 id, .int .u64 x] 41)).alloc (.cells #[.int .i64 0, .int .u32 0, .int .u64 0] 38)) := ((Fr.refl NoF w).alloc _).alloc _
  have HIN := Lib.hid (hin _ fA)
  have HFA := Lib.hid fA
  have HG := Lib.hid hG
  have HQ := Lib.hid hQ
  clear hin fA hG hQ
  go_enter Tryd.func8, Tryd.ntmps8
  go_wp2_with fail
  refine HIN.out.mono ?_
  rintro e w1 ⟨rfl, q1, q2⟩
  have RB := (blk_three' w (.int .i64 4) (.int .u32 id) (.int .u64 x) (.int .i64 0) (.int .u32 0) (.int .u64 0) (t := 38) (t' := 41)).fr q2 (fun q => absurd (HG.out _ q) (by omega))
  have HRB := Lib.hid RB
  have HQ1 := Lib.hid q1
  have HF : Hid (Fr G w w1) := (HFA.out.mono (fun _ q => q.elim)).trans q2 (fun i q => .inl q)
  have t0 : w1.cell? ⟨w.heap.size + 1, 0, none⟩ = some (.int .i64 0) := RB.cell (i := 0) (by omega)
  have t1 : w1.cell? ⟨w.heap.size + 1, 1, none⟩ = some (.int .u32 0) := RB.cell (i := 1) (by omega)
  have t2 : w1.cell? ⟨w.heap.size + 1, 2, none⟩ = some (.int .u64 0) := RB.cell (i := 2) (by omega)
  have g0 := RB.frozen 0
  have g1 := RB.frozen 1
  have g2 := RB.frozen 2
  have lr := RB.lt
  clear RB q1 q2 HIN
  go_wp2
  have RS := ((HRB.out.set 0 (.int .i64 E)).set 1 (.int .u32 0)).set 2 (.int .u64 0)
  have FS := (((Fr.refl (fun i => i = w.heap.size + 1) w1).setCell (p := ⟨w.heap.size + 1, 0, none⟩) (.inl rfl) (.int .i64 E)).setCell (p := ⟨w.heap.size + 1, 1, none⟩) (.inl rfl) (.int .u32 0)).setCell (p := ⟨w.heap.size + 1, 2, none⟩) (.inl rfl) (.int .u64 0)
  (try simp only [Exit.inBlock, Exit.then])
  refine bodyPost_ret (results_blk Tryd.results8 _ _ RS rfl Tryd.underlying38 rfl (by kernel_rfl)) rfl ?_
  exact ⟨rfl, HQ.out _ _ HQ1.out (FS.mono (fun i q => by omega)), HF.out.trans FS (fun i q => .inr (by omega))⟩
set_option maxHeartbeats 1000000 in
theorem do_5 {E : Int} {id x : Int} (hG : ∀ i, G i → i < w.heap.size) (hQ : ∀ a c, Q a → Fr (fun i => w.heap.size ≤ i) a c → Q c) (hin : ∀ W, Fr NoF w W → Calls Tryd.prog 19 #[.pointer (some ⟨b, 0, none⟩), .int .u32 id] W fun e w' => e = .returned (.int .i64 E) ∧ Q w' ∧ Fr G W w') :
    Calls Tryd.prog 8 #[.pointer (some ⟨b, 0, none⟩), .agg #[.int .i64 5, .int .u32 id, .int .u64 x]] w fun e w' => e = .returned (.agg #[.int .i64 E, .int .u32 0, .int .u64 0]) ∧ Q w' ∧ Fr G w w' := by
  have fA : Fr NoF w ((w.alloc (.cells #[.int .i64 5, .int .u32 id, .int .u64 x] 41)).alloc (.cells #[.int .i64 0, .int .u32 0, .int .u64 0] 38)) := ((Fr.refl NoF w).alloc _).alloc _
  have HIN := Lib.hid (hin _ fA)
  have HFA := Lib.hid fA
  have HG := Lib.hid hG
  have HQ := Lib.hid hQ
  clear hin fA hG hQ
  go_enter Tryd.func8, Tryd.ntmps8
  go_wp2_with fail
  refine HIN.out.mono ?_
  rintro e w1 ⟨rfl, q1, q2⟩
  have RB := (blk_three' w (.int .i64 5) (.int .u32 id) (.int .u64 x) (.int .i64 0) (.int .u32 0) (.int .u64 0) (t := 38) (t' := 41)).fr q2 (fun q => absurd (HG.out _ q) (by omega))
  have HRB := Lib.hid RB
  have HQ1 := Lib.hid q1
  have HF : Hid (Fr G w w1) := (HFA.out.mono (fun _ q => q.elim)).trans q2 (fun i q => .inl q)
  have t0 : w1.cell? ⟨w.heap.size + 1, 0, none⟩ = some (.int .i64 0) := RB.cell (i := 0) (by omega)
  have t1 : w1.cell? ⟨w.heap.size + 1, 1, none⟩ = some (.int .u32 0) := RB.cell (i := 1) (by omega)
  have t2 : w1.cell? ⟨w.heap.size + 1, 2, none⟩ = some (.int .u64 0) := RB.cell (i := 2) (by omega)
  have g0 := RB.frozen 0
  have g1 := RB.frozen 1
  have g2 := RB.frozen 2
  have lr := RB.lt
  clear RB q1 q2 HIN
  go_wp2
  have RS := ((HRB.out.set 0 (.int .i64 E)).set 1 (.int .u32 0)).set 2 (.int .u64 0)
  have FS := (((Fr.refl (fun i => i = w.heap.size + 1) w1).setCell (p := ⟨w.heap.size + 1, 0, none⟩) (.inl rfl) (.int .i64 E)).setCell (p := ⟨w.heap.size + 1, 1, none⟩) (.inl rfl) (.int .u32 0)).setCell (p := ⟨w.heap.size + 1, 2, none⟩) (.inl rfl) (.int .u64 0)
  (try simp only [Exit.inBlock, Exit.then])
  refine bodyPost_ret (results_blk Tryd.results8 _ _ RS rfl Tryd.underlying38 rfl (by kernel_rfl)) rfl ?_
  exact ⟨rfl, HQ.out _ _ HQ1.out (FS.mono (fun i q => by omega)), HF.out.trans FS (fun i q => .inr (by omega))⟩
set_option maxHeartbeats 1000000 in
theorem do_7 {E : Int} {id x : Int} (hG : ∀ i, G i → i < w.heap.size) (hQ : ∀ a c, Q a → Fr (fun i => w.heap.size ≤ i) a c → Q c) (hin : ∀ W, Fr NoF w W → Calls Tryd.prog 20 #[.pointer (some ⟨b, 0, none⟩), .int .u32 id] W fun e w' => e = .returned (.int .i64 E) ∧ Q w' ∧ Fr G W w') :
    Calls Tryd.prog 8 #[.pointer (some ⟨b, 0, none⟩), .agg #[.int .i64 7, .int .u32 id, .int .u64 x]] w fun e w' => e = .returned (.agg #[.int .i64 E, .int .u32 0, .int .u64 0]) ∧ Q w' ∧ Fr G w w' := by
  have fA : Fr NoF w ((w.alloc (.cells #[.int .i64 7, .int .u32 id, .int .u64 x] 41)).alloc (.cells #[.int .i64 0, .int .u32 0, .int .u64 0] 38)) := ((Fr.refl NoF w).alloc _).alloc _
  have HIN := Lib.hid (hin _ fA)
  have HFA := Lib.hid fA
  have HG := Lib.hid hG
  have HQ := Lib.hid hQ
  clear hin fA hG hQ
  go_enter Tryd.func8, Tryd.ntmps8
  go_wp2_with fail
  refine HIN.out.mono ?_
  rintro e w1 ⟨rfl, q1, q2⟩
  have RB := (blk_three' w (.int .i64 7) (.int .u32 id) (.int .u64 x) (.int .i64 0) (.int .u32 0) (.int .u64 0) (t := 38) (t' := 41)).fr q2 (fun q => absurd (HG.out _ q) (by omega))
  have HRB := Lib.hid RB
  have HQ1 := Lib.hid q1
  have HF : Hid (Fr G w w1) := (HFA.out.mono (fun _ q => q.elim)).trans q2 (fun i q => .inl q)
  have t0 : w1.cell? ⟨w.heap.size + 1, 0, none⟩ = some (.int .i64 0) := RB.cell (i := 0) (by omega)
  have t1 : w1.cell? ⟨w.heap.size + 1, 1, none⟩ = some (.int .u32 0) := RB.cell (i := 1) (by omega)
  have t2 : w1.cell? ⟨w.heap.size + 1, 2, none⟩ = some (.int .u64 0) := RB.cell (i := 2) (by omega)
  have g0 := RB.frozen 0
  have g1 := RB.frozen 1
  have g2 := RB.frozen 2
  have lr := RB.lt
  clear RB q1 q2 HIN
  go_wp2
  have RS := ((HRB.out.set 0 (.int .i64 E)).set 1 (.int .u32 0)).set 2 (.int .u64 0)
  have FS := (((Fr.refl (fun i => i = w.heap.size + 1) w1).setCell (p := ⟨w.heap.size + 1, 0, none⟩) (.inl rfl) (.int .i64 E)).setCell (p := ⟨w.heap.size + 1, 1, none⟩) (.inl rfl) (.int .u32 0)).setCell (p := ⟨w.heap.size + 1, 2, none⟩) (.inl rfl) (.int .u64 0)
  (try simp only [Exit.inBlock, Exit.then])
  refine bodyPost_ret (results_blk Tryd.results8 _ _ RS rfl Tryd.underlying38 rfl (by kernel_rfl)) rfl ?_
  exact ⟨rfl, HQ.out _ _ HQ1.out (FS.mono (fun i q => by omega)), HF.out.trans FS (fun i q => .inr (by omega))⟩
end
end Go.Proofs.YtnjdoifgljdjcaaDoor

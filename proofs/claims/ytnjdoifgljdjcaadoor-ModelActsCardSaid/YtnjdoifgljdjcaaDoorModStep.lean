/-
  Both Models' next step: whatever the call, both answer the same, and have the same pages then.
-/
import Derived.Test.YtnjdoifgljdjcaaDoorModTwo
namespace Go.Proofs.YtnjdoifgljdjcaaDoor
open Go.RowKit
set_option linter.unusedVariables false

/-- What stays true of the pages: c calls so far. -/
structure PS (n room c : Nat) (l : List Pg) : Prop where
  rise : Rise l
  dom : ∀ p ∈ l, 1 ≤ p.id ∧ p.id ≤ room
  le : l.length ≤ room
  hp : pinL l ≤ n
  pb : ∀ p ∈ l, p.pins ≤ c
theorem PS.mono {n room c d : Nat} {l : List Pg} (h : PS n room c l) (hd : c ≤ d) : PS n room d l := ⟨h.rise, h.dom, h.le, h.hp, fun p hp => Nat.le_trans (h.pb p hp) hd⟩
theorem pinL_lt {l : List Pg} {j : Nat} (hj : j < l.length) (hp : l[j].pins = 0) : pinL l + 1 ≤ l.length := by
  have h1 := pinL_split hj
  have h2 := pinL_le (l.take j)
  have h3 := pinL_le (l.drop (j + 1))
  rw [List.length_take] at h2
  rw [List.length_drop] at h3
  rw [hp] at h1
  simp at h1
  omega
theorem pinL_pos {l : List Pg} {j : Nat} (hj : j < l.length) {q : Nat} (hp : l[j].pins = q + 1) : 1 ≤ pinL l := by
  have h1 := pinL_split hj
  rw [hp] at h1
  simp at h1
  omega
theorem PS.set {n room c : Nat} {l : List Pg} (h : PS n room c l) {j : Nat} (hj : j < l.length) (p : Pg) (hid : p.id = l[j].id) (hpb : p.pins ≤ c + 1) (hn : pinL (l.set j p) ≤ n) : PS n room (c + 1) (l.set j p) := by
  refine ⟨h.rise.set hj p hid, fun q hq => ?_, by rw [List.length_set]; exact h.le, hn, fun q hq => ?_⟩
  · rcases List.mem_or_eq_of_mem_set hq with q' | rfl
    · exact h.dom q q'
    · rw [hid]; exact h.dom _ (List.getElem_mem hj)
  · rcases List.mem_or_eq_of_mem_set hq with q' | rfl
    · exact Nat.le_succ_of_le (h.pb q q')
    · exact hpb
theorem PS.cut {n room c : Nat} {l : List Pg} (h : PS n room c l) {j : Nat} (hj : j < l.length) : PS n room (c + 1) (l.take j ++ l.drop (j + 1)) := by
  have h1 := pinL_cut hj
  have h2 := cut_len hj
  have h3 := h.le
  have h4 := h.hp
  exact ⟨h.rise.cut j, fun q hq => h.dom q ((mem_cut h.rise hj).1 hq).1, by omega, by omega, fun q hq => Nat.le_succ_of_le (h.pb q ((mem_cut h.rise hj).1 hq).1)⟩
theorem PS.ins {n room c : Nat} {l : List Pg} (h : PS n room c l) {k : Nat} (hg : GapG l k) (hk : l.length < room) (hn : pinL l < n) : PS n room (c + 1) (insG l k) := by
  have hl := hg.le
  refine ⟨h.rise.ins (fun p hp => (h.dom p hp).1) hg, fun q hq => ?_, by rw [insG_len l hl]; omega, by rw [pinL_ins]; omega, fun q hq => ?_⟩
  · rcases mem_ins.1 hq with rfl | hm
    · exact ⟨by show 1 ≤ k + 1; omega, by show k + 1 ≤ room; omega⟩
    · exact h.dom q hm
  · rcases mem_ins.1 hq with rfl | hm
    · show 1 ≤ c + 1; omega
    · exact Nat.le_succ_of_le (h.pb q hm)
/-- The code's Do, at these pages. -/
def StepC (n room : Nat) (l : List Pg) (k : Int) (id x : Nat) (E I V : Int) (l' : List Pg) : Prop :=
  ∀ W b mb v h L, TabT W → ¬ MF b mb v h L 0 → MM W b n room (pgL l) (pinL l) l.length mb v h L → Calls Tryd.prog 8 #[.pointer (some ⟨b, 0, none⟩), .agg #[.int .i64 k, .int .u32 id, .int .u64 x]] W fun e W' => e = .returned (.agg #[.int .i64 E, .int .u32 I, .int .u64 V]) ∧ MM W' b n room (pgL l') (pinL l') l'.length mb v h L ∧ Fr (MF b mb v h L) W W'
/-- The document's. -/
def StepR (n room : Nat) (l : List Pg) (k : Int) (id x : Nat) (E I V : Int) (l' : List Pg) : Prop :=
  ∀ W r lv, RG W r n room l lv → Calls Tryd.prog 10 #[.pointer (some ⟨r, 0, none⟩), .agg #[.int .i64 k, .int .u32 id, .int .u64 x]] W fun e W' => e = .returned (.agg #[.int .i64 E, .int .u32 I, .int .u64 V]) ∧ (∃ lv', RG W' r n room l' lv' ∧ ∀ i, GFr r lv' i → GFr r lv i ∨ W.heap.size ≤ i) ∧ Fr (GFr r lv) W W'
section
variable {n room c : Nat} {l : List Pg}
/-- Nothing changes. -/
theorem stepC_same {k : Int} {id x : Nat} {E I V : Int} (h : ∀ W b mb v h L, MM W b n room (pgL l) (pinL l) l.length mb v h L → Calls Tryd.prog 8 #[.pointer (some ⟨b, 0, none⟩), .agg #[.int .i64 k, .int .u32 id, .int .u64 x]] W fun e W' => e = .returned (.agg #[.int .i64 E, .int .u32 I, .int .u64 V]) ∧ MM W' b n room (pgL l) (pinL l) l.length mb v h L ∧ Fr (MF b mb v h L) W W') : StepC n room l k id x E I V l :=
  fun W b mb v hh L _ _ H => h W b mb v hh L H
theorem stepC_fr {k : Int} {id x : Nat} {E I V : Int} (h : ∀ W b, Calls Tryd.prog 8 #[.pointer (some ⟨b, 0, none⟩), .agg #[.int .i64 k, .int .u32 id, .int .u64 x]] W fun e W' => e = .returned (.agg #[.int .i64 E, .int .u32 I, .int .u64 V]) ∧ Fr NoF W W') : StepC n room l k id x E I V l :=
  fun W b mb v hh L _ _ H => (h W b).mono fun e W' q => ⟨q.1, H.fr0 q.2, q.2.mono (fun _ q => q.elim)⟩
theorem stepR_fr {k : Int} {id x : Nat} {E I V : Int} (h : ∀ W r lv, RG W r n room l lv → Calls Tryd.prog 10 #[.pointer (some ⟨r, 0, none⟩), .agg #[.int .i64 k, .int .u32 id, .int .u64 x]] W fun e W' => e = .returned (.agg #[.int .i64 E, .int .u32 I, .int .u64 V]) ∧ Fr NoF W W') : StepR n room l k id x E I V l :=
  fun W r lv H => (h W r lv H).mono fun e W' q => ⟨q.1, ⟨lv, H.fr0 q.2, fun i q => .inl q⟩, q.2.mono (fun _ q => q.elim)⟩
theorem stepR_set {k : Int} {id x : Nat} {E I V : Int} {l' : List Pg} (h : ∀ W r lv, RG W r n room l lv → Calls Tryd.prog 10 #[.pointer (some ⟨r, 0, none⟩), .agg #[.int .i64 k, .int .u32 id, .int .u64 x]] W fun e W' => e = .returned (.agg #[.int .i64 E, .int .u32 I, .int .u64 V]) ∧ RG W' r n room l' lv ∧ Fr (GFr r lv) W W') : StepR n room l k id x E I V l' :=
  fun W r lv H => (h W r lv H).mono fun e W' q => ⟨q.1, ⟨lv, q.2.1, fun i q => .inl q⟩, q.2.2⟩
theorem stepR_new {k : Int} {id x : Nat} {E I V : Int} {l' : List Pg} (h : ∀ W r lv, RG W r n room l lv → Calls Tryd.prog 10 #[.pointer (some ⟨r, 0, none⟩), .agg #[.int .i64 k, .int .u32 id, .int .u64 x]] W fun e W' => e = .returned (.agg #[.int .i64 E, .int .u32 I, .int .u64 V]) ∧ (∃ lv', RG W' r n room l' lv' ∧ ∀ i, GFr r lv' i → GFr r lv i ∨ W.heap.size ≤ i) ∧ Fr (fun i => i = r) W W') : StepR n room l k id x E I V l' :=
  fun W r lv H => (h W r lv H).mono fun e W' q => ⟨q.1, q.2.1, q.2.2.mono (fun i q => .inl q)⟩
/-- The document's New. -/
theorem rdo_0_same {E : Int} {id x : Int} (h : ∀ W r lv, RG W r n room l lv → Calls Tryd.prog 21 #[.pointer (some ⟨r, 0, none⟩)] W fun e W' => e = .returned (.agg #[.int .i64 E, .int .u32 0, .int .u64 0]) ∧ Fr NoF W W') {w : World} {r : Nat} {lv : Value} (H : RG w r n room l lv) :
    Calls Tryd.prog 10 #[.pointer (some ⟨r, 0, none⟩), .agg #[.int .i64 0, .int .u32 id, .int .u64 x]] w fun e w' => e = .returned (.agg #[.int .i64 E, .int .u32 0, .int .u64 0]) ∧ Fr NoF w w' := by
  have fA : Fr NoF w ((w.alloc (.cells #[.int .i64 0, .int .u32 id, .int .u64 x] 43)).alloc (.cells #[.int .i64 0, .int .u32 0, .int .u64 0] 35)) := ((Fr.refl NoF w).alloc _).alloc _
  have HIN := Lib.hid (h _ r lv (H.fr0 fA))
  have HFA := Lib.hid fA
  clear h H fA
  go_enter Tryd.func10, Tryd.ntmps10
  go_wp2_with fail
  refine HIN.out.mono ?_
  rintro e w1 ⟨rfl, q2⟩
  have RB := (blk_three' w (.int .i64 0) (.int .u32 id) (.int .u64 x) (.int .i64 0) (.int .u32 0) (.int .u64 0) (t := 35) (t' := 43)).fr q2 (fun q => q)
  have HRB := Lib.hid RB
  have HF : Hid (Fr NoF w w1) := HFA.out.trans q2 (fun i q => .inl q)
  have t0 : w1.cell? ⟨w.heap.size + 1, 0, none⟩ = some (.int .i64 0) := RB.cell (i := 0) (by omega)
  have t1 : w1.cell? ⟨w.heap.size + 1, 1, none⟩ = some (.int .u32 0) := RB.cell (i := 1) (by omega)
  have t2 : w1.cell? ⟨w.heap.size + 1, 2, none⟩ = some (.int .u64 0) := RB.cell (i := 2) (by omega)
  have g0 := RB.frozen 0
  have g1 := RB.frozen 1
  have g2 := RB.frozen 2
  have lr := RB.lt
  clear RB q2 HIN
  go_wp2
  have RS := ((HRB.out.set 0 (.int .i64 E)).set 1 (.int .u32 0)).set 2 (.int .u64 0)
  have FS := (((Fr.refl (fun i => i = w.heap.size + 1) w1).setCell (p := ⟨w.heap.size + 1, 0, none⟩) (.inl rfl) (.int .i64 E)).setCell (p := ⟨w.heap.size + 1, 1, none⟩) (.inl rfl) (.int .u32 0)).setCell (p := ⟨w.heap.size + 1, 2, none⟩) (.inl rfl) (.int .u64 0)
  (try simp only [Exit.inBlock, Exit.then])
  refine bodyPost_ret (results_blk Tryd.results10 _ _ RS rfl Tryd.underlying35 rfl (by kernel_rfl)) rfl ?_
  exact ⟨rfl, HF.out.trans FS (fun i q => .inr (by omega))⟩
theorem rdo_0_yes {id x : Int} {w : World} {r : Nat} {lv : Value} (H : RG w r n room l lv) (hf : ¬ n ≤ pinL l) (hr : l.length < room) {k : Nat} (hg : GapG l k) :
    Calls Tryd.prog 10 #[.pointer (some ⟨r, 0, none⟩), .agg #[.int .i64 0, .int .u32 id, .int .u64 x]] w fun e w' => e = .returned (.agg #[.int .i64 0, .int .u32 (k + 1 : Nat), .int .u64 0]) ∧ (∃ lv', RG w' r n room (insG l k) lv' ∧ ∀ i, GFr r lv' i → GFr r lv i ∨ w.heap.size ≤ i) ∧ Fr (fun i => i = r) w w' := by
  have fA : Fr NoF w ((w.alloc (.cells #[.int .i64 0, .int .u32 id, .int .u64 x] 43)).alloc (.cells #[.int .i64 0, .int .u32 0, .int .u64 0] 35)) := ((Fr.refl NoF w).alloc _).alloc _
  have HIN := Lib.hid (fresh_yes (H.fr0 fA) hf hr)
  have HFA := Lib.hid fA
  have HLT := Lib.hid H.lt
  have HG := Lib.hid hg
  have lbr := H.hd.lt
  clear H fA hf hr hg
  go_enter Tryd.func10, Tryd.ntmps10
  go_wp2_with fail
  refine HIN.out.mono ?_
  rintro e w1 ⟨k', hg', rfl, ⟨lv', q1, q3⟩, q2⟩
  obtain rfl := hg'.unique HG.out
  have RB := (blk_three' w (.int .i64 0) (.int .u32 id) (.int .u64 x) (.int .i64 0) (.int .u32 0) (.int .u64 0) (t := 35) (t' := 43)).fr q2 (fun q => by omega)
  have HRB := Lib.hid RB
  have HQ1 := Lib.hid q1
  have HQ3 : Hid (∀ i, GFr r lv' i → GFr r lv i ∨ w.heap.size + 2 ≤ i) := fun i q => (q3 i q).imp _root_.id (fun q => by simpa using q)
  have HF : Hid (Fr (fun i => i = r) w w1) := (HFA.out.mono (fun _ q => q.elim)).trans q2 (fun i q => .inl q)
  have t0 : w1.cell? ⟨w.heap.size + 1, 0, none⟩ = some (.int .i64 0) := RB.cell (i := 0) (by omega)
  have t1 : w1.cell? ⟨w.heap.size + 1, 1, none⟩ = some (.int .u32 0) := RB.cell (i := 1) (by omega)
  have t2 : w1.cell? ⟨w.heap.size + 1, 2, none⟩ = some (.int .u64 0) := RB.cell (i := 2) (by omega)
  have g0 := RB.frozen 0
  have g1 := RB.frozen 1
  have g2 := RB.frozen 2
  have lr := RB.lt
  clear RB q2 HIN q1 q3 hg'
  go_wp2
  have RS := ((HRB.out.set 0 (.int .i64 0)).set 1 (.int .u32 (k' + 1 : Nat))).set 2 (.int .u64 0)
  have FS := (((Fr.refl (fun i => i = w.heap.size + 1) w1).setCell (p := ⟨w.heap.size + 1, 0, none⟩) (.inl rfl) (.int .i64 0)).setCell (p := ⟨w.heap.size + 1, 1, none⟩) (.inl rfl) (.int .u32 (k' + 1 : Nat))).setCell (p := ⟨w.heap.size + 1, 2, none⟩) (.inl rfl) (.int .u64 0)
  (try simp only [Exit.inBlock, Exit.then])
  refine bodyPost_ret (results_blk Tryd.results10 _ _ RS rfl Tryd.underlying35 rfl (by kernel_rfl)) rfl ?_
  refine ⟨rfl, ⟨lv', HQ1.out.fr FS (fun i q e => ?_), fun i q => ?_⟩, HF.out.trans FS (fun i q => .inr (by omega))⟩
  · rcases HQ3.out i q with q | q
    · have := HLT.out i q; omega
    · omega
  · rcases HQ3.out i q with q | q
    · exact .inl q
    · right; omega
end
end Go.Proofs.YtnjdoifgljdjcaaDoor

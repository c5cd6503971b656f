/-
  model's Model: Do in one word; the law's To, From; told.
-/
import Derived.Test.YtnjdoifgljdjcaaDoorModF
namespace Go.Proofs.YtnjdoifgljdjcaaDoor
open Go.RowKit Go.Maps
set_option linter.unusedVariables false

section
variable {w w' : World} {b n room pin len mb L : Nat} {pg : Nat → Option (Nat × Nat)} {v : Value} {h : Nat → Nat}
/-- What a Model in memory is, whatever else there is: MF, its blocks, never change. -/
theorem MM.stable (H : MM w b n room pg pin len mb v h L) {pg' : Nat → Option (Nat × Nat)} {pin' len' : Nat} : ∀ a c, MM a b n room pg' pin' len' mb v h L → Fr (fun i => w.heap.size ≤ i) a c → MM c b n room pg' pin' len' mb v h L :=
  fun a c q f => q.fr f (fun k hk e => by have := H.lt k hk; omega)
/-- Do, where the call changes nothing. -/
theorem do_new_noframe (hT : TabT w) (H : MM w b n room pg pin len mb v h L) (hf : pin = n) (id x : Int) : Calls Tryd.prog 8 #[.pointer (some ⟨b, 0, none⟩), .agg #[.int .i64 0, .int .u32 id, .int .u64 x]] w fun e w' => e = .returned (.agg #[.int .i64 6, .int .u32 0, .int .u64 0]) ∧ MM w' b n room pg pin len mb v h L ∧ Fr (MF b mb v h L) w w' :=
  do_0 (E := 6) (I := 0) (V := 0) H.lt H.stable (fun W f => (come_noframe (hT.fr0 f) (H.fr0 f) hf).mono fun e w' q => ⟨q.1, (H.fr0 f).fr0 q.2, q.2.mono (fun _ q => q.elim)⟩)
theorem do_new_full (H : MM w b n room pg pin len mb v h L) (hf : ¬ pin = n) (h0 : cntB (freeB room pg) room = 0) (id x : Int) : Calls Tryd.prog 8 #[.pointer (some ⟨b, 0, none⟩), .agg #[.int .i64 0, .int .u32 id, .int .u64 x]] w fun e w' => e = .returned (.agg #[.int .i64 2, .int .u32 0, .int .u64 0]) ∧ MM w' b n room pg pin len mb v h L ∧ Fr (MF b mb v h L) w w' :=
  do_0 (E := 2) (I := 0) (V := 0) H.lt H.stable (fun W f => (come_full (H.fr0 f) hf h0).mono fun e w' q => ⟨q.1, (H.fr0 f).fr0 q.2, q.2.mono (fun _ q => q.elim)⟩)
theorem do_new_yes (hT : TabT w) (H : MM w b n room pg pin len mb v h L) (hg : ¬ MF b mb v h L 0) (hf : ¬ pin = n) {y : Nat} (hy : IsLeast (freeB room pg) y) (id x : Int) : Calls Tryd.prog 8 #[.pointer (some ⟨b, 0, none⟩), .agg #[.int .i64 0, .int .u32 id, .int .u64 x]] w fun e w' => e = .returned (.agg #[.int .i64 0, .int .u32 (y + 1 : Nat), .int .u64 0]) ∧ MM w' b n room (updP pg (y + 1) (some (0, 1))) (pin + 1) (len + 1) mb v h L ∧ Fr (MF b mb v h L) w w' :=
  do_0 (E := 0) (I := ((y + 1 : Nat) : Int)) (V := 0) H.lt H.stable (fun W f => come_yes (hT.fr0 f) (H.fr0 f) hg hf hy)
theorem do_write (H : MM w b n room pg pin len mb v h L) {id : Nat} (hid : okId id) {x : Nat} (hx : okV x) : Calls Tryd.prog 8 #[.pointer (some ⟨b, 0, none⟩), .agg #[.int .i64 4, .int .u32 id, .int .u64 x]] w fun e w' => e = .returned (.agg #[.int .i64 (heldE (pg id)), .int .u32 0, .int .u64 0]) ∧ MM w' b n room (if heldE (pg id) = 0 then updP pg id (some (x, heldY (pg id))) else pg) pin len mb v h L ∧ Fr (MF b mb v h L) w w' :=
  do_4 H.lt H.stable (fun W f => write_calls (H.fr0 f) hid hx)
end
theorem to_calls (k id x : Int) (w : World) : Calls Tryd.prog 9 #[.agg #[.int .i64 k, .int .u32 id, .int .u64 x]] w fun e w' => e = .returned (.agg #[.int .i64 k, .int .u32 id, .int .u64 x]) ∧ Fr NoF w w' := by
  go_enter Tryd.func9, Tryd.ntmps9
  go_wp2
  (try simp only [Exit.inBlock, Exit.then])
  refine bodyPost_ret (results_blk Tryd.results9 _ _ (blk_three' w _ _ _ _ _ _) rfl Tryd.underlying41 rfl (by kernel_rfl)) rfl ?_
  exact ⟨rfl, ((Fr.refl NoF w).alloc _).alloc _⟩
theorem from_calls (k id x : Int) (w : World) : Calls Tryd.prog 7 #[.agg #[.int .i64 k, .int .u32 id, .int .u64 x]] w fun e w' => e = .returned (.agg #[.int .i64 k, .int .u32 id, .int .u64 x]) ∧ Fr NoF w w' := by
  go_enter Tryd.func7, Tryd.ntmps7
  go_wp2
  (try simp only [Exit.inBlock, Exit.then])
  refine bodyPost_ret (results_blk Tryd.results7 _ _ (blk_three' w _ _ _ _ _ _) rfl Tryd.underlying35 rfl (by kernel_rfl)) rfl ?_
  exact ⟨rfl, ((Fr.refl NoF w).alloc _).alloc _⟩
set_option maxHeartbeats 2000000 in
theorem toldM_calls {w : World} (hT : TabT w) : Calls Tryd.prog 6 #[] w fun e w' => e = .returned (.bool true) ∧ Fr NoF w w' := by
  have HT := Lib.hid hT
  have HBG : Hid (Calls Tryd.prog 5 #[.int .i64 (1 : Nat), .int .i64 (9 : Nat)] w _) := begin_yes 1 9 w (by omega) (by omega) (by omega) (by omega)
  clear hT
  go_enter Tryd.func6, Tryd.ntmps6
  go_wp2_with fail
  refine HBG.out.mono ?_
  clear HBG
  rintro e w1 ⟨b, mb, v, h, L, rfl, q1, q2, q3⟩
  have HNEW := Lib.hid q2
  have HNG : Hid (¬ MF b mb v h L 0) := fun q => absurd (q2 _ q) (by have := HT.out.lt; omega)
  have HT1 := Lib.hid (HT.out.fr0 q3)
  have HF1 := Lib.hid q3
  have H1 := Lib.hid (do_new_yes (y := 0) HT1.out q1 HNG.out (by omega) ⟨by rw [freeB_noPg]; rfl, fun y hy => by omega⟩ 0 0)
  clear q1 q2 q3
  go_wp2_with fail
  refine H1.out.mono ?_
  clear H1
  rintro e w2 ⟨rfl, q1, q2⟩
  have HF2 : Hid (Fr NoF w w2) := HF1.out.trans q2 (fun i q => .inr (HNEW.out i q))
  have H2 := Lib.hid (do_new_noframe (HT1.out.fr q2 HNG.out) q1 rfl 0 0)
  clear q1 q2
  go_wp2_with fail
  refine H2.out.mono ?_
  clear H2
  rintro e w3 ⟨rfl, q1, q2⟩
  have HF3 : Hid (Fr NoF w w3) := HF2.out.trans q2 (fun i q => .inr (HNEW.out i q))
  have hlt3 := q1.lt
  have HLT3 := Lib.hid hlt3
  have fA : Fr NoF w3 ((w3.alloc (.cells #[.int .i64 0, .int .u32 1, .int .u64 0] 38)).alloc (.cells #[.int .i64 6, .int .u32 0, .int .u64 0] 38)) := ((Fr.refl NoF w3).alloc _).alloc _
  have HW := do_write (q1.fr0 fA) (id := 1) (by unfold okId; decide) (x := 7) (by unfold okV; decide)
  have e1 : heldE (updP noPg (0 + 1) (some (0, 1)) 1) = 0 := rfl
  have e2 : heldY (updP noPg (0 + 1) (some (0, 1)) 1) = 1 := rfl
  rw [e1, if_pos rfl, e2] at HW
  have HW := Lib.hid HW
  have HFA : Hid (Fr NoF w ((w3.alloc (.cells #[.int .i64 0, .int .u32 1, .int .u64 0] 38)).alloc (.cells #[.int .i64 6, .int .u32 0, .int .u64 0] 38))) := HF3.out.trans fA (fun _ q => .inl q)
  have HB1 := Lib.hid ((blk_three w3 (.int .i64 0) (.int .u32 1) (.int .u64 0) (t := 38)).alloc (.cells #[.int .i64 6, .int .u32 0, .int .u64 0] 38))
  have HB2 := Lib.hid (blk_three' w3 (.int .i64 0) (.int .u32 1) (.int .u64 0) (.int .i64 6) (.int .u32 0) (.int .u64 0) (t := 38) (t' := 38))
  clear q1 q2 hlt3 fA e1 e2
  go_wp2_with fail
  refine HW.out.mono ?_
  clear HW
  rintro e w4 ⟨rfl, q1, q2⟩
  have HF4 : Hid (Fr NoF w w4) := HFA.out.trans q2 (fun i q => .inr (HNEW.out i q))
  have HC1 := Lib.hid (HB1.out.fr q2 (fun q => absurd (HLT3.out _ q) (by omega)))
  have HC2 := Lib.hid (HB2.out.fr q2 (fun q => absurd (HLT3.out _ q) (by omega)))
  have f5 : Fr NoF w4 (w4.alloc (.cells #[.int .i64 0, .int .u32 0, .int .u64 0] 38)) := (Fr.refl NoF w4).alloc _
  have HV := Lib.hid (value_calls (q1.fr0 f5) (id := 1) (by unfold okId; decide))
  have HF5 := Lib.hid (HF4.out.trans f5 (fun _ q => .inl q))
  have HD1 := Lib.hid (HC1.out.alloc (.cells #[.int .i64 0, .int .u32 0, .int .u64 0] 38))
  have HD2 := Lib.hid (HC2.out.alloc (.cells #[.int .i64 0, .int .u32 0, .int .u64 0] 38))
  have HD3 := Lib.hid (blk_three w4 (.int .i64 0) (.int .u32 0) (.int .u64 0) (t := 38))
  clear q1 q2 f5
  go_wp2_with fail
  refine HV.out.mono ?_
  clear HV
  rintro e w5 ⟨rfl, q⟩
  have B1 := HD1.out.fr q (fun q => q)
  have B2 := HD2.out.fr q (fun q => q)
  have B3 := HD3.out.fr q (fun q => q)
  have a0 : w5.cell? ⟨w3.heap.size, 0, none⟩ = some (.int .i64 0) := B1.cell (i := 0) (by omega)
  have a1 : w5.cell? ⟨w3.heap.size, 1, none⟩ = some (.int .u32 1) := B1.cell (i := 1) (by omega)
  have b0 : w5.cell? ⟨w3.heap.size + 1, 0, none⟩ = some (.int .i64 6) := B2.cell (i := 0) (by omega)
  have c0 : w5.cell? ⟨w4.heap.size, 0, none⟩ = some (.int .i64 0) := B3.cell (i := 0) (by omega)
  have l1 := B1.lt
  have l2 := B2.lt
  have l3 := B3.lt
  have HF6 := Lib.hid (HF5.out.trans q (fun _ q => .inl q))
  clear q B1 B2 B3
  have ev : (((updP (updP noPg (0 + 1) (some (0, 1))) 1 (some (7, 1)) 1).map (·.1)).getD 0 : Nat) = 7 := rfl
  have es : (updP (updP noPg (0 + 1) (some (0, 1))) 1 (some (7, 1)) 1).isSome = true := rfl
  rw [ev, es]
  go_wp2
  go_returns
  exact ⟨rfl, HF6.out⟩
end Go.Proofs.YtnjdoifgljdjcaaDoor

/-
  Whatever is called, both Models answer the same, and have the same pages then.
-/
import Derived.Test.YtnjdoifgljdjcaaDoorModStep
namespace Go.Proofs.YtnjdoifgljdjcaaDoor
open Go.RowKit
set_option linter.unusedVariables false

section
variable {n room c : Nat} {l : List Pg}
theorem both_new (P : PS n room c l) (hn : n ≤ 65535) (hc : c < 1000) (id x : Nat) : ∃ E I V l', PS n room (c + 1) l' ∧ StepC n room l 0 id x E I V l' ∧ StepR n room l 0 id x E I V l' := by
  by_cases h1 : n ≤ pinL l
  · have he : pinL l = n := by have := P.hp; omega
    exact ⟨6, 0, 0, l, P.mono (by omega), fun W b mb v h L hT hg H => do_new_noframe hT H he _ _, stepR_fr (fun W r lv H => rdo_0_same (fun W r lv H => fresh_noframe H h1) H)⟩
  · by_cases h2 : room ≤ l.length
    · exact ⟨2, 0, 0, l, P.mono (by omega), fun W b mb v h L hT hg H => do_new_full H (by omega) (by have := H.num; omega) _ _, stepR_fr (fun W r lv H => rdo_0_same (fun W r lv H => fresh_full H h1 h2) H)⟩
    · obtain ⟨k, hk⟩ := gap_ex l
      have hd : ∀ p ∈ l, 1 ≤ p.id := fun p hp => (P.dom p hp).1
      have hl := hk.le
      refine ⟨0, ((k + 1 : Nat) : Int), 0, insG l k, P.ins hk (by omega) (by omega), fun W b mb v h L hT hg H => ?_, stepR_new (fun W r lv H => rdo_0_yes H h1 (by omega) hk)⟩
      have := do_new_yes hT H hg (by omega) (gap_least P.rise hd hk (by omega)) (id : Int) (x : Int)
      rw [pgL_ins P.rise hd hk, ← pinL_ins l k, ← insG_len l hl] at this
      exact this
/-- The code's calls that change nothing, by their kind. -/
theorem c_fetch_none {id : Nat} (hid : okId id) (hp : pgL l id = none) (x : Nat) : StepC n room l 1 id x 3 0 0 l :=
  stepC_same (fun W b mb v h L H => do_1 H.lt H.stable (fun W' f => (fetch_none (H.fr0 f) hid hp).mono fun e w' q => ⟨q.1, (H.fr0 f).fr0 q.2, q.2.mono (fun _ q => q.elim)⟩))
theorem c_fetch_full {id : Nat} (hid : okId id) {pv : Nat} (hp : pgL l id = some (pv, 0)) (hf : pinL l = n) (x : Nat) : StepC n room l 1 id x 6 0 0 l :=
  stepC_same (fun W b mb v h L H => do_1 H.lt H.stable (fun W' f => (fetch_full (H.fr0 f) hid hp hf).mono fun e w' q => ⟨q.1, (H.fr0 f).fr0 q.2, q.2.mono (fun _ q => q.elim)⟩))
theorem c_unpin_no {id : Nat} (hid : okId id) (h0 : ¬ heldE (pgL l id) = 0) (x : Nat) : StepC n room l 2 id x (heldE (pgL l id)) 0 0 l :=
  stepC_same (fun W b mb v h L H => do_2 H.lt H.stable (fun W' f => (unpin_no (H.fr0 f) hid h0).mono fun e w' q => ⟨q.1, (H.fr0 f).fr0 q.2, q.2.mono (fun _ q => q.elim)⟩))
theorem c_read {id : Nat} (hid : okId id) (x : Nat) : StepC n room l 3 id x (heldE (pgL l id)) 0 (heldX (pgL l id) : Nat) l :=
  stepC_same (fun W b mb v h L H => do_3 H.lt H.stable (fun W' f => (read_calls (H.fr0 f) hid).mono fun e w' q => ⟨q.1, (H.fr0 f).fr0 q.2, q.2.mono (fun _ q => q.elim)⟩))
theorem c_known {id : Nat} (hid : okId id) (x : Nat) : StepC n room l 5 id x (if (pgL l id).isSome then 0 else 3) 0 0 l :=
  stepC_same (fun W b mb v h L H => do_5 H.lt H.stable (fun W' f => (known_calls (H.fr0 f) hid).mono fun e w' q => ⟨q.1, (H.fr0 f).fr0 q.2, q.2.mono (fun _ q => q.elim)⟩))
theorem c_remove_none {id : Nat} (hid : okId id) (hp : pgL l id = none) (x : Nat) : StepC n room l 7 id x 3 0 0 l :=
  stepC_same (fun W b mb v h L H => do_7 H.lt H.stable (fun W' f => (remove_none (H.fr0 f) hid hp).mono fun e w' q => ⟨q.1, (H.fr0 f).fr0 q.2, q.2.mono (fun _ q => q.elim)⟩))
theorem c_remove_pinned {id : Nat} (hid : okId id) {pv q : Nat} (hp : pgL l id = some (pv, q + 1)) (x : Nat) : StepC n room l 7 id x 4 0 0 l :=
  stepC_same (fun W b mb v h L H => do_7 H.lt H.stable (fun W' f => (remove_pinned (H.fr0 f) hid hp).mono fun e w' q => ⟨q.1, (H.fr0 f).fr0 q.2, q.2.mono (fun _ q => q.elim)⟩))
/-- .. a page isn't there. -/
theorem both_unknown (P : PS n room c l) {k : Int} (hk : k = 1 ∨ k = 2 ∨ k = 3 ∨ k = 4 ∨ k = 5 ∨ k = 7) {id x : Nat} (hid : okId id) (hx : okV x) (hat : atG l id = none) : ∃ E I V l', PS n room (c + 1) l' ∧ StepC n room l k id x E I V l' ∧ StepR n room l k id x E I V l' := by
  have hp := pgL_atG_none hat
  have he : heldE (pgL l id) = 3 := by rw [hp]; rfl
  have hx0 : heldX (pgL l id) = 0 := by rw [hp]; rfl
  refine ⟨3, 0, 0, l, P.mono (by omega), ?_⟩
  rcases hk with rfl | rfl | rfl | rfl | rfl | rfl
  · exact ⟨c_fetch_none hid hp x, stepR_fr (fun W r lv H => rdo_1_unknown H hat)⟩
  · have := c_unpin_no (n := n) (room := room) hid (by rw [he]; decide) x
    rw [he] at this
    exact ⟨this, stepR_fr (fun W r lv H => rdo_2_unknown H hat)⟩
  · have := c_read (n := n) (room := room) (l := l) hid x
    rw [he, hx0] at this
    exact ⟨this, stepR_fr (fun W r lv H => rdo_3_unknown H hat)⟩
  · refine ⟨fun W b mb v h L _ _ H => ?_, stepR_fr (fun W r lv H => rdo_4_unknown H hat)⟩
    have := do_write H hid hx
    rw [he] at this
    exact this
  · have := c_known (n := n) (room := room) (l := l) hid x
    rw [hp] at this
    exact ⟨this, stepR_fr (fun W r lv H => rdo_5_unknown H hat)⟩
  · exact ⟨c_remove_none hid hp x, stepR_fr (fun W r lv H => rdo_7_unknown H hat)⟩
/-- .. it is there, not pinned. -/
theorem both_idle (P : PS n room c l) (hn : n ≤ 65535) (hc : c < 1000) {k : Int} (hk : k = 1 ∨ k = 2 ∨ k = 3 ∨ k = 4 ∨ k = 5 ∨ k = 7) {id x j : Nat} (hid : okId id) (hx : okV x) (hat : atG l id = some j) (hj : j < l.length) (hidj : l[j].id = id) (h0 : l[j].pins = 0) :
    ∃ E I V l', PS n room (c + 1) l' ∧ StepC n room l k id x E I V l' ∧ StepR n room l k id x E I V l' := by
  have hp : pgL l id = some (l[j].v, 0) := by rw [← hidj, pgL_at P.rise hj, h0]
  have he : heldE (pgL l id) = 5 := by rw [hp]; rfl
  have hx0 : heldX (pgL l id) = 0 := by rw [hp]; rfl
  have hlt := pinL_lt hj h0
  rcases hk with rfl | rfl | rfl | rfl | rfl | rfl
  · by_cases hf : n ≤ pinL l
    · exact ⟨6, 0, 0, l, P.mono (by omega), c_fetch_full hid hp (by have := P.hp; omega) x, stepR_fr (fun W r lv H => rdo_1_full H hat hj h0 hf)⟩
    · have hps := pinL_set hj { l[j] with pins := 1 }
      simp only [h0] at hps
      have hps' : pinL (l.set j { l[j] with pins := 1 }) = pinL l + 1 := by simpa using hps
      refine ⟨0, 0, 0, l.set j { l[j] with pins := 1 }, P.set hj _ rfl (by show 1 ≤ c + 1; omega) (by omega), fun W b mb v h L _ _ H => ?_, stepR_set (fun W r lv H => rdo_1_first H hat hj h0 hf)⟩
      rw [← pgL_set P.rise hj { l[j] with pins := 1 } rfl, hps', List.length_set, hidj]
      exact do_1 H.lt H.stable (fun W' f => fetch_first (H.fr0 f) hid hp (by omega) (by omega))
  · have := c_unpin_no (n := n) (room := room) hid (by rw [he]; decide) x
    rw [he] at this
    exact ⟨5, 0, 0, l, P.mono (by omega), this, stepR_fr (fun W r lv H => rdo_2_not H hat hj h0)⟩
  · have := c_read (n := n) (room := room) (l := l) hid x
    rw [he, hx0] at this
    exact ⟨5, 0, 0, l, P.mono (by omega), this, stepR_fr (fun W r lv H => rdo_3_not H hat hj h0)⟩
  · refine ⟨5, 0, 0, l, P.mono (by omega), fun W b mb v h L _ _ H => ?_, stepR_fr (fun W r lv H => rdo_4_not H hat hj h0)⟩
    have := do_write H hid hx
    rw [he] at this
    exact this
  · have := c_known (n := n) (room := room) (l := l) hid x
    rw [hp] at this
    exact ⟨0, 0, 0, l, P.mono (by omega), this, stepR_fr (fun W r lv H => rdo_5 H hat hj)⟩
  · refine ⟨0, 0, 0, l.take j ++ l.drop (j + 1), P.cut hj, fun W b mb v h L _ _ H => ?_, stepR_new (fun W r lv H => rdo_7_yes H hat hj h0)⟩
    have hpc := pinL_cut hj
    rw [h0] at hpc
    have hpc' : pinL (l.take j ++ l.drop (j + 1)) = pinL l := by simpa using hpc
    rw [← pgL_cut P.rise hj, hpc', cut_len hj, hidj]
    exact do_7 H.lt H.stable (fun W' f => remove_yes (H.fr0 f) hid hp (by omega))
/-- .. it is pinned. -/
theorem both_pinned (P : PS n room c l) (hn : n ≤ 65535) (hc : c < 1000) {k : Int} (hk : k = 1 ∨ k = 2 ∨ k = 3 ∨ k = 4 ∨ k = 5 ∨ k = 7) {id x j q : Nat} (hid : okId id) (hx : okV x) (hat : atG l id = some j) (hj : j < l.length) (hidj : l[j].id = id) (h0 : l[j].pins = q + 1) :
    ∃ E I V l', PS n room (c + 1) l' ∧ StepC n room l k id x E I V l' ∧ StepR n room l k id x E I V l' := by
  have hp : pgL l id = some (l[j].v, q + 1) := by rw [← hidj, pgL_at P.rise hj, h0]
  have he : heldE (pgL l id) = 0 := by rw [hp]; simp [heldE]
  have hx0 : heldX (pgL l id) = l[j].v := by rw [hp]; simp [heldX]
  have hy0 : heldY (pgL l id) = q + 1 := by rw [hp]; rfl
  have hpos := pinL_pos hj h0
  have hq : q + 1 ≤ c := by have := P.pb _ (List.getElem_mem hj); omega
  rcases hk with rfl | rfl | rfl | rfl | rfl | rfl
  · have hps := pinL_set hj { l[j] with pins := q + 2 }
    simp only [h0] at hps
    have hps' : pinL (l.set j { l[j] with pins := q + 2 }) = pinL l := by simpa using hps
    refine ⟨0, 0, 0, l.set j { l[j] with pins := q + 2 }, P.set hj _ rfl (by show q + 2 ≤ c + 1; omega) (by have := P.hp; omega), fun W b mb v h L _ _ H => ?_, stepR_set (fun W r lv H => rdo_1_more H hat hj h0 (by omega))⟩
    rw [← pgL_set P.rise hj { l[j] with pins := q + 2 } rfl, hps', List.length_set, hidj]
    exact do_1 H.lt H.stable (fun W' f => fetch_more (H.fr0 f) hid hp (by omega))
  · have hps := pinL_set hj { l[j] with pins := q }
    simp only [h0] at hps
    cases q with
    | zero =>
      have hps' : pinL (l.set j { l[j] with pins := 0 }) = pinL l - 1 := by
        have h := pinL_set hj { l[j] with pins := 0 }
        rw [h0] at h
        have h2 : pinL (l.set j { l[j] with pins := 0 }) + 1 = pinL l + 0 := h
        exact Nat.eq_sub_of_add_eq h2
      have hpn : pinL (l.set j { l[j] with pins := 0 }) ≤ n := by rw [hps']; have := P.hp; omega
      refine ⟨0, 0, 0, l.set j { l[j] with pins := 0 }, P.set hj { l[j] with pins := 0 } rfl (by show 0 ≤ c + 1; omega) hpn, fun W b mb v h L _ _ H => ?_, stepR_set (fun W r lv H => rdo_2 H hat hj h0)⟩
      rw [← pgL_set P.rise hj { l[j] with pins := 0 } rfl, hps', List.length_set, hidj]
      exact do_2 H.lt H.stable (fun W' f => unpin_last (H.fr0 f) hid hp hpos)
    | succ q =>
      have hps' : pinL (l.set j { l[j] with pins := q + 1 }) = pinL l := by simpa using hps
      refine ⟨0, 0, 0, l.set j { l[j] with pins := q + 1 }, P.set hj _ rfl (by show q + 1 ≤ c + 1; omega) (by have := P.hp; omega), fun W b mb v h L _ _ H => ?_, stepR_set (fun W r lv H => rdo_2 H hat hj h0)⟩
      rw [← pgL_set P.rise hj { l[j] with pins := q + 1 } rfl, hps', List.length_set, hidj]
      exact do_2 H.lt H.stable (fun W' f => unpin_more (H.fr0 f) hid hp)
  · have := c_read (n := n) (room := room) (l := l) hid x
    rw [he, hx0] at this
    exact ⟨0, 0, (l[j].v : Nat), l, P.mono (by omega), this, stepR_fr (fun W r lv H => rdo_3 H hat hj h0)⟩
  · have hps' : pinL (l.set j { l[j] with v := x }) = pinL l := Nat.add_right_cancel (m := if 0 < l[j].pins then 1 else 0) (pinL_set hj { l[j] with v := x })
    refine ⟨0, 0, 0, l.set j { l[j] with v := x }, P.set hj _ rfl (by show l[j].pins ≤ c + 1; omega) (by have := P.hp; omega), fun W b mb v h L _ _ H => ?_, stepR_set (fun W r lv H => rdo_4 H hat hj h0 hx)⟩
    have := do_write H hid hx
    rw [he, if_pos rfl, hy0] at this
    rw [← pgL_set P.rise hj { l[j] with v := x } rfl, hps', List.length_set, hidj]
    rw [show ({ l[j] with v := x } : Pg).pins = q + 1 from h0]
    exact this
  · have := c_known (n := n) (room := room) (l := l) hid x
    rw [hp] at this
    exact ⟨0, 0, 0, l, P.mono (by omega), this, stepR_fr (fun W r lv H => rdo_5 H hat hj)⟩
  · exact ⟨4, 0, 0, l, P.mono (by omega), c_remove_pinned hid hp x, stepR_fr (fun W r lv H => rdo_7_pinned H hat hj h0)⟩
/-- WHATEVER IS CALLED. -/
theorem both_step (P : PS n room c l) (hn : n ≤ 65535) (hc : c < 1000) (k : Int) {id x : Nat} (hid : okId id) (hx : okV x) : ∃ E I V l', PS n room (c + 1) l' ∧ StepC n room l k id x E I V l' ∧ StepR n room l k id x E I V l' := by
  by_cases h0 : k = 0
  · subst h0; exact both_new P hn hc id x
  by_cases h6 : k = 6
  · subst h6
    exact ⟨0, 0, 0, l, P.mono (by omega), stepC_fr (fun W b => do_6 W b _ _), stepR_fr (fun W r lv H => rdo_6 H)⟩
  by_cases ho : k < 0 ∨ 7 < k
  · exact ⟨1, 0, 0, l, P.mono (by omega), stepC_fr (fun W b => do_other W b _ _ _ ho), stepR_fr (fun W r lv H => rdo_other H ho)⟩
  have hk : k = 1 ∨ k = 2 ∨ k = 3 ∨ k = 4 ∨ k = 5 ∨ k = 7 := by omega
  cases hat : atG l id with
  | none => exact both_unknown P hk hid hx hat
  | some j =>
    obtain ⟨hj, hidj⟩ := atG_is hat
    cases h0 : l[j].pins with
    | zero => exact both_idle P hn hc hk hid hx hat hj hidj h0
    | succ q => exact both_pinned P hn hc hk hid hx hat hj hidj h0
end
end Go.Proofs.YtnjdoifgljdjcaaDoor

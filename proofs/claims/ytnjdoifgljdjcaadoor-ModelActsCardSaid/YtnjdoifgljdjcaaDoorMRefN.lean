/-
  The document's own Model in memory: fresh, where there are no pages yet; fresh.
-/
import Derived.Test.YtnjdoifgljdjcaaDoorMRefB
namespace Go.Proofs.YtnjdoifgljdjcaaDoor
open Go.RowKit
set_option linter.unusedVariables false
section
variable {w w0 w' : World} {r n room : Nat} {l : List Pg} {lv v : Value}
set_option maxHeartbeats 4000000 in
theorem fresh_nil (h : RG w r n room l (.slice none 0 0)) (hf : ¬ n ≤ pinL l) (hr : l.length < room) : Calls Tryd.prog 21 #[.pointer (some ⟨r, 0, none⟩)] w fun e w' => ∃ k, GapG l k ∧ e = .returned (.agg #[.int .i64 0, .int .u32 (k + 1 : Nat), .int .u64 0]) ∧ (∃ lv', RG w' r n room (insG l k) lv' ∧ ∀ i, GFr r lv' i → GFr r (.slice none 0 0) i ∨ w.heap.size ≤ i) ∧ Fr (fun k => k = r) w w' := by
  have fA : Fr NoF w (w.alloc (.cells #[.int .i64 0, .int .u32 0, .int .u64 0] 35)) := (Fr.refl NoF w).alloc _
  have HFU := Lib.hid (full_calls' (h.fr0 fA))
  rw [show decide (n ≤ pinL l) = false from by simpa using hf] at HFU
  have ha := h.fr0 fA
  have hbb := h.b1
  have hz : l.length = 0 := by
    obtain ⟨a', c', e, q1, q2⟩ := h.hl.shape
    simp only [Value.slice.injEq] at e
    exact e.2.1.symm
  have hlr : decide (room ≤ 0) = false := by simp; omega
  have hr0 : (room == 0) = false := by simp; omega
  have hr1 : 0 < room := by omega
  have HRB := Lib.hid (blk_three w (.int .i64 0) (.int .u32 0) (.int .u64 0) (t := 35))
  have HFA := Lib.hid fA
  have hsa : w.heap.size < (w.alloc (.cells #[.int .i64 0, .int .u32 0, .int .u64 0] 35)).heap.size := by simp
  have lbw := h.hd.lt
  have HG : Hid (GapG l 0) := ⟨Nat.zero_le _, fun j _ q => by omega, fun q => by omega⟩
  clear h hf fA
  go_enter Tryd.func21, Tryd.ntmps21
  go_wp2_with fail
  refine HFU.out.mono ?_
  clear HFU
  rintro e w1 ⟨rfl, rfl⟩
  generalize (w.alloc (.cells #[.int .i64 0, .int .u32 0, .int .u64 0] 35)) = wa at *
  generalize hrb : w.heap.size = rb at *
  have HRB0 := Lib.hid hrb
  clear hrb
  have c1 := ha.c1
  have c2 := ha.c2
  have lb := ha.hd.lt
  have f2 := ha.hd.frozen 2
  have KC : Hid (∀ W, Fr NoF wa W → W.cell? ⟨r, 2, none⟩ = some (.slice none 0 0) ∧ W.frozen? ⟨r, 2, none⟩ = false ∧ r < W.heap.size) := fun W f => ⟨(ha.fr0 f).c2, (ha.fr0 f).hd.frozen 2, (ha.fr0 f).hd.lt⟩
  have KK : Hid (∀ v7 w7, w7.ownsRow wa.heap.size 49 3 v7 (0 + 1 + 0) (([] ++ [.int .u32 1, .int .u64 0, .int .i64 1]) ++ []) → Fr NoF wa w7 → RG (w7.setCell ⟨r, 2, none⟩ v7) r n room (insG l 0) v7 ∧ Fr (fun i => i = r) wa (w7.setCell ⟨r, 2, none⟩ v7)) := by
    intro v7 w7 ho f
    refine ha.ins (k := 0) (Nat.zero_le _) (by omega) ?_ f
    have e0 : l = [] := List.eq_nil_of_length_eq_zero hz
    rw [hz, e0]
    exact ho
  clear hz hr hbb ha
  go_wp2
  go_region
  go_wp2
  go_loopw [3, 4] (fun kk i wr => i = .int .u32 1 ∧ kk = .int .i64 0 ∧ wr = wa.drew) (fun kk _ _ => 0)
  case atStart => exact ⟨rfl, rfl, rfl⟩
  case round =>
    obtain ⟨rfl, rfl, rfl⟩ := hrel
    have HOW : Hid (∀ W, Fr NoF wa W → ∀ g, g = W.heap.size → (W.alloc (.cells #[] 49)).ownsRow wa.heap.size 49 3 (.slice (some ⟨g, 0, none⟩) 0 0) 0 []) := fun W f g q => own_new f.size #[] 49 3 0 _ q rfl (by unfold maxLen; omega)
    have fd : Fr NoF wa wa.drew := (Fr.refl NoF wa).drew
    have HFD := Lib.hid fd
    clear fd
    go_wp2_with (at_builtin; go_must (refine appLB (base := wa.heap.size) EIG rfl _ _ rfl (by rfl) (by rfl) (by simp <;> omega) (HOW.out _ HFD.out wa.heap.size (by simp)) (SlC.nil _ 3) (by unfold maxLen; omega) (by omega) ?_); intro v5 w5 hown5 hf5 hob5; obtain ⟨a5, c5, rfl, _, _⟩ := (SlC.ofOwn hown5 (fun u hu => by simp at hu)).shape; have HO5 := Lib.hid hown5; have HF5 : Hid (Fr NoF wa w5) := Fr.trans (F := NoF) (a := wa) (((Fr.refl NoF wa).drew).alloc _) hf5 (fun i q => .inr (by cases q; exact Nat.le_refl _)); obtain ⟨x1, x2, x3⟩ := KC.out w5 HF5.out; have hs5 := HF5.out.size; clear hown5 hf5 hob5)
    have HNW : Hid (∀ W, Fr NoF (w5.alloc (.cells #[.int .u32 1, .int .u64 0, .int .i64 1] 49)) W → SlC W 3 (.slice (some ⟨w5.heap.size, 0, none⟩) 1 1) 1 [.int .u32 1, .int .u64 0, .int .i64 1]) := fun W f => (SlC.ofOwn (own_new (w0 := w5) (Nat.le_refl _) #[.int .u32 1, .int .u64 0, .int .i64 1] 49 3 1 _ rfl rfl (by unfold maxLen; omega)) (by simp [Value.oneCell'])).keep f
    have HO5K : Hid (∀ W, Fr NoF w5 W → W.ownsRow wa.heap.size 49 3 (.slice a5 0 c5) 0 []) := fun W f => own_keep (by simpa using HO5.out) f (fun _ _ q => q)
    go_region_law (first
      | (refine appSB (base := wa.heap.size) EIG rfl (.tmp 52) (.tmp 55) rfl (by rfl) (by rfl) (by simp; try omega) (HO5K.out _ (by repeat (first | exact Fr.refl NoF _ | apply Fr.drew | apply Fr.alloc))) (HNW.out _ (by repeat (first | exact Fr.refl NoF _ | apply Fr.drew | apply Fr.alloc))) (by unfold maxLen; omega) (by omega) ?_; intro v6 w6 hown6 hf6 hob6; obtain ⟨a6, c6, rfl, _, _⟩ := (SlC.ofOwn hown6 (fun u hu => by simp at hu; rcases hu with rfl | rfl | rfl <;> rfl)).shape; have HO6 := Lib.hid hown6; have HF6 : Hid (Fr NoF wa w6) := Fr.trans (F := NoF) (a := wa) (by repeat (first | exact HF5.out | apply Fr.drew | apply Fr.alloc)) hf6 (fun i q => .inr (ownBlock_own HO5.out i q)); obtain ⟨y1, y2, y3⟩ := KC.out w6 HF6.out; have hs6 := HF6.out.size; clear hown6 hf6 hob6)
      | (refine appSB (base := wa.heap.size) EIG rfl (.tmp 56) (.tmp 62) rfl (by rfl) (by rfl) hs6 HO6.out (SlC.nil _ 3) (by unfold maxLen; omega) (by omega) ?_; intro v7 w7 hown7 hf7 hob7; obtain ⟨a7, c7, rfl, _, _⟩ := (SlC.ofOwn hown7 (fun u hu => by simp at hu; rcases hu with rfl | rfl | rfl <;> rfl)).shape; have HO7 := Lib.hid hown7; have HF7 := Lib.hid (HF6.out.trans hf7 (fun i q => .inr (ownBlock_own HO6.out i q))); obtain ⟨z1, z2, z3⟩ := KC.out w7 HF7.out; clear hown7 hf7 hob7))
    all_goals
      have RB7 := HRB.out.fr HF7.out (fun q => q)
      have t0 : w7.cell? ⟨rb, 0, none⟩ = some (.int .i64 0) := RB7.cell (i := 0) (by omega)
      have t1 : w7.cell? ⟨rb, 1, none⟩ = some (.int .u32 0) := RB7.cell (i := 1) (by omega)
      have t2 : w7.cell? ⟨rb, 2, none⟩ = some (.int .u64 0) := RB7.cell (i := 2) (by omega)
      have g0 := RB7.frozen 0
      have g1 := RB7.frozen 1
      have g2 := RB7.frozen 2
      have lr := RB7.lt
      have HRB7 := Lib.hid RB7
      have hne : ¬ rb = r := by omega
      have hne2 : ¬ r = rb := by omega
      clear RB7
      go_wp2
      obtain ⟨r1, r2⟩ := KK.out _ _ HO7.out HF7.out
      have RB := HRB7.out.other (a := ⟨r, 2, none⟩) hne (.slice a7 (0 + 1 + 0) c7)
      have RS := ((RB.set 0 (.int .i64 0)).set 1 (.int .u32 1)).set 2 (.int .u64 0)
      have FS := (((Fr.refl (fun i => i = rb) (w7.setCell ⟨r, 2, none⟩ (.slice a7 (0 + 1 + 0) c7))).setCell (p := ⟨rb, 0, none⟩) (.inl rfl) (.int .i64 0)).setCell (p := ⟨rb, 1, none⟩) (.inl rfl) (.int .u32 1)).setCell (p := ⟨rb, 2, none⟩) (.inl rfl) (.int .u64 0)
      have hov := ownBlock_own HO7.out
      have hw0 := HRB0.out
      (try simp only [Exit.inBlock, Exit.then])
      refine bodyPost_ret (results_blk Tryd.results21 _ _ RS rfl Tryd.underlying35 rfl (by kernel_rfl)) rfl ?_
      refine ⟨0, HG.out, rfl, ⟨_, r1.fr FS (fun i q e => ?_), fun i q => ?_⟩, ((HFA.out.mono (fun _ q => q.elim)).trans r2 (fun i q => .inl q)).trans FS (fun i q => .inr (by omega))⟩
      · rcases q with q | q
        · omega
        · have := hov i q; omega
      · rcases q with q | q
        · exact .inl (.inl q)
        · right; have := hov i q; omega
theorem fresh_yes (h : RG w r n room l lv) (hf : ¬ n ≤ pinL l) (hr : l.length < room) : Calls Tryd.prog 21 #[.pointer (some ⟨r, 0, none⟩)] w fun e w' => ∃ k, GapG l k ∧ e = .returned (.agg #[.int .i64 0, .int .u32 (k + 1 : Nat), .int .u64 0]) ∧ (∃ lv', RG w' r n room (insG l k) lv' ∧ ∀ i, GFr r lv' i → GFr r lv i ∨ w.heap.size ≤ i) ∧ Fr (fun k => k = r) w w' := by
  obtain ⟨a, c, rfl, h1, h2, _, _, h5⟩ := h.slc
  rcases h5 with ⟨rfl, rfl⟩ | ⟨g, off, rfl, _, _⟩
  · have hz : l.length = 0 := by
      obtain ⟨a', c', e, q1, q2⟩ := h.hl.shape
      simp only [Value.slice.injEq] at e
      omega
    rw [hz] at h ⊢
    exact fresh_nil h hf (by omega)
  · exact fresh_some h hf hr
end
end Go.Proofs.YtnjdoifgljdjcaaDoor

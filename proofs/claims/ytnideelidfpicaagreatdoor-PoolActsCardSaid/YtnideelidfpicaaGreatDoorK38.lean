/-
  The document's own Disk in memory: Alloc, where there are no pages yet.
-/
import Derived.Test.YtnideelidfpicaaGreatDoorK37
namespace Go.Proofs.YtnideelidfpicaaGreatDoor
open Go.RowKit
set_option linter.unusedVariables false
section
variable {w w0 w' : World} {b : Nat} {s : RS} {lv nv sv v : Value} {l : List (Nat × Nat)}
set_option maxHeartbeats 4000000 in
theorem rf_alloc_nil (h : RC w b s (.slice none 0 0) nv sv) (hlt : s.L.length < s.room) (hr : s.room ≤ 65535) : Calls Tryz.prog 61 #[.pointer (some ⟨b, 0, none⟩)] w fun e w' => ∃ k, Gap s.L k ∧ e = .returned (.tuple #[.int .u32 (k + 1 : Nat), .int .i64 0]) ∧ (∃ lv', RC w' b (s.ins k) lv' nv sv ∧ ∀ i, FR b lv' nv sv i → FR b lv nv sv i ∨ w.heap.size ≤ i) ∧ Fr (fun k => k = b) w w' := by
  have c0 : w.cell? ⟨b, 0, none⟩ = some (.int .i64 s.room) := h.ce 0 (by omega)
  have c1 : w.cell? ⟨b, 1, none⟩ = some (.slice none 0 0) := h.ce 1 (by omega)
  have lb := h.hd.lt
  have f1 := h.hd.frozen 1
  have hz : s.L.length = 0 := by
    obtain ⟨a', c', e, q1, q2⟩ := h.hl.shape
    simp only [Value.slice.injEq] at e
    exact e.2.1.symm
  have hlr : decide (s.room ≤ 0) = false := by simp; omega
  have hr0 : (s.room == 0) = false := by simp; omega
  have hr1 : 0 < s.room := by omega
  have KC : Hid (∀ W, Fr NoF w W → W.cell? ⟨b, 1, none⟩ = some (.slice none 0 0) ∧ W.frozen? ⟨b, 1, none⟩ = false ∧ b < W.heap.size) := fun W f => ⟨(h.fr0 f).ce 1 (by omega), (h.fr0 f).hd.frozen 1, (h.fr0 f).hd.lt⟩
  have HG : Hid (Gap s.L 0) := ⟨Nat.zero_le _, fun j _ q => by omega, fun q => by omega⟩
  have KK : Hid (∀ v7 w7, w7.ownsRow w.heap.size 89 2 v7 (0 + 1 + 0) (([] ++ [.int .u32 1, .int .u64 0]) ++ []) → Fr NoF w w7 → RC (w7.setCell ⟨b, 1, none⟩ v7) b (s.ins 0) v7 nv sv ∧ Fr (fun i => i = b) w (w7.setCell ⟨b, 1, none⟩ v7)) := by
    intro v7 w7 ho f
    refine h.insL (k := 0) (Nat.zero_le _) (by omega) ?_ f
    have e0 : s.L = [] := List.eq_nil_of_length_eq_zero hz
    rw [hz, e0]
    exact ho
  clear h hz hlt hr
  go_enter Tryz.func61, Tryz.ntmps61
  go_wp2
  go_region
  go_wp2
  go_loopw [4, 5] (fun i kk wr => i = .int .u32 1 ∧ kk = .int .i64 0 ∧ wr = w.drew) (fun _ kk _ => 0)
  case atStart => exact ⟨rfl, rfl, rfl⟩
  case round =>
    obtain ⟨rfl, rfl, rfl⟩ := hrel
    have HOW : Hid (∀ W, Fr NoF w W → ∀ g, g = W.heap.size → (W.alloc (.cells #[] 89)).ownsRow w.heap.size 89 2 (.slice (some ⟨g, 0, none⟩) 0 0) 0 []) := fun W f g q => own_new f.size #[] 89 2 0 _ q rfl (by unfold maxLen; omega)
    have fd : Fr NoF w w.drew := (Fr.refl NoF w).drew
    have HFD := Lib.hid fd
    clear fd
    go_wp2_with (at_builtin; go_must (refine appLB (base := w.heap.size) EIP rfl _ _ rfl (by rfl) (by rfl) (by simp) (HOW.out _ HFD.out _ rfl) (SlC.nil _ 2) (by unfold maxLen; omega) (by omega) ?_); intro v5 w5 hown5 hf5 hob5; obtain ⟨a5, c5, rfl, _, _⟩ := (SlC.ofOwn hown5 (fun u hu => by simp at hu)).shape; have HO5 := Lib.hid hown5; have HF5 := Lib.hid (Fr.trans (F := NoF) (a := w) (HFD.out.alloc _) hf5 (fun i q => .inr (by cases q; exact Nat.le_refl _))); obtain ⟨x1, x2, x3⟩ := KC.out w5 HF5.out; have hs5 := HF5.out.size; clear hown5 hf5 hob5)
    have HNW : Hid (∀ W, Fr NoF (w5.alloc (.cells #[.int .u32 1, .int .u64 0] 89)) W → SlC W 2 (.slice (some ⟨w5.heap.size, 0, none⟩) 1 1) 1 [.int .u32 1, .int .u64 0]) := fun W f => (SlC.ofOwn (own_new (w0 := w5) (Nat.le_refl _) #[.int .u32 1, .int .u64 0] 89 2 1 _ rfl rfl (by unfold maxLen; omega)) (by simp [Value.oneCell'])).keep f
    have HO5K : Hid (∀ W, Fr NoF w5 W → W.ownsRow w.heap.size 89 2 (.slice a5 0 c5) 0 []) := fun W f => own_keep (by simpa using HO5.out) f (fun _ _ q => q)
    go_region_law (first
      | (refine appSB (base := w.heap.size) EIP rfl (.tmp 49) (.tmp 52) rfl (by rfl) (by rfl) (by simp; try omega) (HO5K.out _ (by repeat (first | exact Fr.refl NoF _ | apply Fr.drew | apply Fr.alloc))) (HNW.out _ (by repeat (first | exact Fr.refl NoF _ | apply Fr.drew | apply Fr.alloc))) (by unfold maxLen; omega) (by omega) ?_; intro v6 w6 hown6 hf6 hob6; obtain ⟨a6, c6, rfl, _, _⟩ := (SlC.ofOwn hown6 (fun u hu => by simp at hu; rcases hu with rfl | rfl <;> rfl)).shape; have HO6 := Lib.hid hown6; have HF6 := Lib.hid (Fr.trans (F := NoF) (a := w) (by repeat (first | exact HF5.out | apply Fr.drew | apply Fr.alloc)) hf6 (fun i q => .inr (ownBlock_own HO5.out i q))); obtain ⟨y1, y2, y3⟩ := KC.out w6 HF6.out; have hs6 := HF6.out.size; clear hown6 hf6 hob6)
      | (refine appSB (base := w.heap.size) EIP rfl (.tmp 53) (.tmp 59) rfl (by rfl) (by rfl) hs6 HO6.out (SlC.nil _ 2) (by unfold maxLen; omega) (by omega) ?_; intro v7 w7 hown7 hf7 hob7; obtain ⟨a7, c7, rfl, _, _⟩ := (SlC.ofOwn hown7 (fun u hu => by simp at hu; rcases hu with rfl | rfl <;> rfl)).shape; have HO7 := Lib.hid hown7; have HF7 := Lib.hid (HF6.out.trans hf7 (fun i q => .inr (ownBlock_own HO6.out i q))); obtain ⟨z1, z2, z3⟩ := KC.out w7 HF7.out; clear hown7 hf7 hob7))
    all_goals
      go_wp2
      go_returns
      obtain ⟨r1, r2⟩ := KK.out _ _ HO7.out HF7.out
      exact ⟨0, HG.out, rfl, ⟨_, r1, FR.l (fun i q => .inr (ownBlock_own HO7.out i q))⟩, r2⟩
theorem rf_alloc (h : RC w b s lv nv sv) (hlt : s.L.length < s.room) (hr : s.room ≤ 65535) : Calls Tryz.prog 61 #[.pointer (some ⟨b, 0, none⟩)] w fun e w' => ∃ k, Gap s.L k ∧ e = .returned (.tuple #[.int .u32 (k + 1 : Nat), .int .i64 0]) ∧ (∃ lv', RC w' b (s.ins k) lv' nv sv ∧ ∀ i, FR b lv' nv sv i → FR b lv nv sv i ∨ w.heap.size ≤ i) ∧ Fr (fun k => k = b) w w' := by
  obtain ⟨a, c, rfl, h1, h2, _, _, h5⟩ := h.hl
  rcases h5 with ⟨rfl, rfl⟩ | ⟨g, off, rfl, _, _⟩
  · have hz : s.L.length = 0 := by have := h.hl.shape; obtain ⟨a', c', e, q1, q2⟩ := this; simp only [Value.slice.injEq] at e; omega
    rw [hz] at h
    exact rf_alloc_nil h hlt hr
  · exact rf_alloc_some h hlt hr

end
end Go.Proofs.YtnideelidfpicaaGreatDoor

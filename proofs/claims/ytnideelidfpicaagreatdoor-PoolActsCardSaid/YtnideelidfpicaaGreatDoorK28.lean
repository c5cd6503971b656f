/-
  A Disk in memory: slices.Clone, Copy.
-/
import Derived.Test.YtnideelidfpicaaGreatDoorK27
namespace Go.Proofs.YtnideelidfpicaaGreatDoor
open Go.RowKit Go.Maps
set_option linter.unusedVariables false
set_option maxRecDepth 100000

theorem own_zero {w : World} {base e size n : Nat} {v : Value} {xs : List Value} (h : w.ownsRow base e size v n xs) : w.ownsRow 0 e size v n xs := by
  obtain ⟨h1, h2⟩ := h
  refine ⟨h1, h2.imp id ?_⟩
  rintro ⟨g, cap, cur, e1, hg, r⟩
  exact ⟨g, cap, cur, e1, Nat.zero_le _, r⟩
theorem own_base {w : World} {base e size n : Nat} {v : Value} {xs : List Value} (h : w.ownsRow base e size v n xs) : ∀ b, v.ownBlock = some b → base ≤ b := ownBlock_own h
section
variable {w w' : World} {n : Nat} {v : Value}
set_option maxRecDepth 100000 in
set_option maxHeartbeats 1000000 in
theorem clone_pages {pg : Nat → Bool × Nat} (h : SlF w 104 2 v n (pgF pg)) (hn : n ≤ 65535) : Calls Tryz.prog 70 #[v] w fun e w' => ∃ v', e = .returned v' ∧ SlF w' 104 2 v' n (pgF pg) ∧ (∀ b, v'.ownBlock = some b → w.heap.size ≤ b) ∧ Fr NoF w w' := by
  have HH := Lib.hid h
  obtain ⟨a, cap, rfl, h1, h2⟩ := h.shape
  have hone : Hid (∀ u ∈ (List.range (n * 2)).map (pgF pg), u.oneCell' = true) := by
    intro u hu
    obtain ⟨j, _, rfl⟩ := List.mem_map.1 hu
    unfold pgF
    split <;> rfl
  unfold maxLen at h2
  cases a with
  | none =>
    have hz : n = 0 ∧ cap = 0 := by
      rcases h.2 with ⟨e, _⟩ | ⟨g, c2, cur, e, _⟩
      · simp only [Value.slice.injEq] at e; exact ⟨e.2.1, e.2.2⟩
      · simp at e
    obtain ⟨rfl, rfl⟩ := hz
    have hbin : ∀ W : World, (binOp .eql 56 (.slice none 0 0) (.slice none 0 0)).run Tryz.prog W = .ok (.bool true) W := fun W => by first | rfl | kernel_rfl
    clear h
    go_enter Tryz.func70, Tryz.ntmps70
    go_wp2
    go_returns
    exact ⟨_, rfl, SlF.nil _ _ _ _, fun b q => (by cases q), Fr.refl _ _⟩
  | some p =>
    have hbin : ∀ W : World, (binOp .eql 56 (.slice (some p) n cap) (.slice none 0 0)).run Tryz.prog W = .ok (.bool false) W := fun W => by first | rfl | kernel_rfl
    clear h
    go_enter Tryz.func70, Tryz.ntmps70
    go_wp2_with (at_builtin; go_must (refine appLB (base := w.heap.size) EIp rfl _ _ rfl (by rfl) (by rfl) (by simp) (own_new (w0 := w) (Nat.le_refl _) #[] 104 2 0 _ rfl rfl (by unfold maxLen; omega)) (SlC.ofOwn (HH.out.fr0 ((Fr.refl NoF _).alloc _)) hone.out) (by unfold maxLen; omega) (by omega) ?_); intro v' w2 hown' hf' hob'; have HF' := Lib.hid hf'; have HO' := Lib.hid hown'; clear hf' hown' hob')
    go_returns
    refine ⟨_, rfl, ?_, own_base HO'.out, ((Fr.refl NoF w).alloc _).trans HF'.out (fun i q => .inr (by cases q; exact Nat.le_refl _))⟩
    have h3 := own_zero HO'.out
    rw [Nat.zero_add] at h3
    exact h3
set_option maxHeartbeats 1000000 in
theorem clone_ids {fh : Nat → Nat} (h : SlF w 43 1 v n (uN fh)) (hn : n ≤ 65535) : Calls Tryz.prog 71 #[v] w fun e w' => ∃ v', e = .returned v' ∧ SlF w' 43 1 v' n (uN fh) ∧ (∀ b, v'.ownBlock = some b → w.heap.size ≤ b) ∧ Fr NoF w w' := by
  have HH := Lib.hid h
  obtain ⟨a, cap, rfl, h1, h2⟩ := h.shape
  have hone : Hid (∀ u ∈ (List.range (n * 1)).map (uN fh), u.oneCell' = true) := by
    intro u hu
    obtain ⟨j, _, rfl⟩ := List.mem_map.1 hu
    rfl
  unfold maxLen at h2
  cases a with
  | none =>
    have hz : n = 0 ∧ cap = 0 := by
      rcases h.2 with ⟨e, _⟩ | ⟨g, c2, cur, e, _⟩
      · simp only [Value.slice.injEq] at e; exact ⟨e.2.1, e.2.2⟩
      · simp at e
    obtain ⟨rfl, rfl⟩ := hz
    have hbin : ∀ W : World, (binOp .eql 58 (.slice none 0 0) (.slice none 0 0)).run Tryz.prog W = .ok (.bool true) W := fun W => by first | rfl | kernel_rfl
    clear h
    go_enter Tryz.func71, Tryz.ntmps71
    go_wp2
    go_returns
    exact ⟨_, rfl, SlF.nil _ _ _ _, fun b q => (by cases q), Fr.refl _ _⟩
  | some p =>
    have hbin : ∀ W : World, (binOp .eql 58 (.slice (some p) n cap) (.slice none 0 0)).run Tryz.prog W = .ok (.bool false) W := fun W => by first | rfl | kernel_rfl
    clear h
    go_enter Tryz.func71, Tryz.ntmps71
    go_wp2_with (at_builtin; go_must (refine appLB (base := w.heap.size) EIh rfl _ _ rfl (by rfl) (by rfl) (by simp) (own_new (w0 := w) (Nat.le_refl _) #[] 43 1 0 _ rfl rfl (by unfold maxLen; omega)) (SlC.ofOwn (HH.out.fr0 ((Fr.refl NoF _).alloc _)) hone.out) (by unfold maxLen; omega) (by omega) ?_); intro v' w2 hown' hf' hob'; have HF' := Lib.hid hf'; have HO' := Lib.hid hown'; clear hf' hown' hob')
    go_returns
    refine ⟨_, rfl, ?_, own_base HO'.out, ((Fr.refl NoF w).alloc _).trans HF'.out (fun i q => .inr (by cases q; exact Nat.le_refl _))⟩
    have h3 := own_zero HO'.out
    rw [Nat.zero_add] at h3
    exact h3
end
def DS.copy (s : DS) : DS := ⟨s.room, s.np, s.pg, fun _ => 0, false, 0, 0, 0⟩
section
variable {w w' : World} {db c mb nf : Nat} {s : DS} {pv fv : Value} {fh : Nat → Nat} {F : Nat → Prop}
theorem DC.copied (h : DC w db s c pv fv mb fh nf) {wz : World} {pv' fv' : Value} {mb' : Nat} (hp : SlF wz 104 2 pv' s.np (pgF s.pg)) (hf : SlF wz 43 1 fv' nf (uN fh)) (hm : MpK Tryz.prog 111 3 .i64 okA klA wz mb' 0 (fun _ => none)) (n1 : ∀ b, pv'.ownBlock = some b → ¬ b = mb' ∧ ¬ fv'.ownBlock = some b ∧ w.heap.size ≤ b) (n2 : ∀ b, fv'.ownBlock = some b → ¬ b = mb' ∧ w.heap.size ≤ b) (n3 : w.heap.size ≤ mb') (f : Fr NoF w wz) {db' : Nat} (e : db' = wz.heap.size) :
    DC (wz.alloc (.cells #[.int .i64 s.room, pv', fv', .map (some mb'), .bool false, .int .i64 0, .int .i64 0, .int .i64 0] 60)) db' s.copy 0 pv' fv' mb' fh nf ∧ (∀ i, FD db' pv' fv' mb' i → w.heap.size ≤ i) ∧ Fr NoF w (wz.alloc (.cells #[.int .i64 s.room, pv', fv', .map (some mb'), .bool false, .int .i64 0, .int .i64 0, .int .i64 0] 60)) := by
  subst e
  have fa : Fr NoF wz (wz.alloc (.cells #[.int .i64 s.room, pv', fv', .map (some mb'), .bool false, .int .i64 0, .int .i64 0, .int .i64 0] 60)) := (Fr.refl NoF wz).alloc _
  have lm := hm.lt
  have sz := f.size
  have hm' : MpK Tryz.prog 111 3 .i64 okA klA wz mb' 0 (flM (fun _ => 0)) := by rw [flM_zero]; exact hm
  refine ⟨⟨⟨_, _, heap_alloc_new _ _ _ rfl, rfl, fun i hi => ?_⟩, hp.fr0 fa, hf.fr0 fa, hm'.fr fa (fun q => q), fun b q => ⟨by have := hp.lt b q; omega, (n1 b q).1, (n1 b q).2.1⟩, fun b q => ⟨by have := hf.lt b q; omega, (n2 b q).1⟩, by omega, h.r1, h.r2, h.hp, h.inj, h.nn, h.fm, by omega, ⟨by show isI63 0; unfold isI63; omega, by show (0 : Nat) < _; omega, by show (0 : Nat) < _; omega⟩, fun a => by show isI63 0; unfold isI63; omega⟩, fun i q => ?_, f.alloc _⟩
  · match i, hi with
    | 0, _ => rfl
    | 1, _ => rfl
    | 2, _ => rfl
    | 3, _ => rfl
    | 4, _ => rfl
    | 5, _ => rfl
    | 6, _ => rfl
    | 7, _ => rfl
  · rcases q with q | q | q | q
    · rw [q]; exact sz
    · rw [q]; exact n3
    · exact (n1 i q).2.2
    · exact (n2 i q).2
end
end Go.Proofs.YtnideelidfpicaaGreatDoor

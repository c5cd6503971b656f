/-
  The document's own Disk: fails.
-/
import Derived.Test.YtnideelidfpicaaGreatDoorK30
import Derived.Test.YtnideelidfpicaaGreatDoorK04
import Derived.WalkArith
namespace Go.Proofs.YtnideelidfpicaaGreatDoor
open Go.RowKit
set_option linter.unusedVariables false

def plF (l : List (Nat × Nat)) (i : Nat) : Value := ((plC l)[i]?).getD (.bool false)
theorem plF_list (l : List (Nat × Nat)) : (List.range (l.length * 2)).map (plF l) = plC l := by
  apply List.ext_getElem?
  intro j
  by_cases h : j < l.length * 2
  · have h2 : j < (plC l).length := by rw [plC_len]; exact h
    simp [plF, h, h2]
  · rw [List.getElem?_eq_none (by simp; omega), List.getElem?_eq_none (by rw [plC_len]; omega)]
theorem plF_at (l : List (Nat × Nat)) {k : Nat} (h : k < l.length) : plF l (k * 2) = .int .u32 (l[k].1 : Nat) ∧ plF l (k * 2 + 1) = .int .u64 (l[k].2 : Nat) := by
  obtain ⟨h1, h2⟩ := plC_at l h
  unfold plF
  rw [h1, h2]
  exact ⟨rfl, rfl⟩
theorem plF_set (l : List (Nat × Nat)) {k : Nat} (h : k < l.length) (x : Nat) : ∀ i, i < l.length * 2 → upd (plF l) (k * 2 + 1) (.int .u64 (x : Nat)) i = plF (l.set k (l[k].1, x)) i := by
  intro i hi
  have hl : (l.set k (l[k].1, x)).length = l.length := List.length_set
  have hm : i / 2 < l.length := by omega
  by_cases e : i = k * 2 + 1
  · subst e
    rw [upd_same, (plF_at (l.set k (l[k].1, x)) (k := k) (by omega)).2]
    simp
  · rw [upd_other _ _ e]
    rcases Nat.mod_two_eq_zero_or_one i with q | q
    · have ei : i = i / 2 * 2 := by omega
      rw [ei, (plF_at l hm).1, (plF_at (l.set k (l[k].1, x)) (k := i / 2) (by omega)).1]
      by_cases e2 : k = i / 2
      · subst e2; simp
      · simp [List.getElem_set_ne e2]
    · have ei : i = i / 2 * 2 + 1 := by omega
      have e2 : ¬ k = i / 2 := by omega
      rw [ei, (plF_at l hm).2, (plF_at (l.set k (l[k].1, x)) (k := i / 2) (by omega)).2]
      simp [List.getElem_set_ne e2]
theorem atP_is {l : List (Nat × Nat)} {id k : Nat} (h : atP l id = some k) : ∃ hk : k < l.length, l[k].1 = id := by
  unfold atP at h
  rw [List.findIdx?_eq_some_iff_getElem] at h
  obtain ⟨hk, h1, _⟩ := h
  exact ⟨hk, by simpa using h1⟩
def isU64 (x : Nat) : Prop := x < 18446744073709551616
/-- One failure fewer. -/
def failsP (l : List (Nat × Nat)) (id : Nat) : List (Nat × Nat) × Bool :=
  match atP l id with
  | none => (l, false)
  | some k => if (l.getD k (0, 0)).2 = 0 then (l, false) else (l.set k ((l.getD k (0, 0)).1, (l.getD k (0, 0)).2 - 1), true)
theorem EIP : EI Tryz.prog 39 89 2 16 := EI.mk' (z := .agg #[.int .u32 0, .int .u64 0]) Tryz.underlying39 (by kernel_rfl) rfl (by decide)
section
variable {w w' : World} {v : Value} {l : List (Nat × Nat)}
theorem SlF.page {e : TypeId} {n : Nat} (h : SlF w e 2 v l.length (plF l)) : SlP w v l := by
  have h1 : w.ownsRow 0 e 2 v l.length (plC l) := by have := h; unfold SlF at this; rw [plF_list] at this; exact this
  exact SlC.ofOwn h1 (plC_one l)
set_option maxHeartbeats 2000000 in
theorem fails_calls (h : SlP w v l) (hl : l.length < 1000000) (hU : ∀ p ∈ l, isU64 p.2) (id : Nat) : Calls Tryz.prog 92 #[v, .int .u32 id] w fun e w' => ∃ v', e = .returned (.tuple #[v', .bool (failsP l id).2]) ∧ SlP w' v' (failsP l id).1 ∧ (∀ b, v'.ownBlock = some b → v.ownBlock = some b ∨ w.heap.size ≤ b) ∧ Fr NoF w w' := by
  have HA := at_calls h id
  obtain ⟨a, c, rfl, q1, q2⟩ := h.shape
  have HS := Lib.hid h
  cases hat : atP l id with
  | none =>
    have HE : Hid (failsP l id = (l, false)) := by unfold Hid failsP; rw [hat]
    rw [HE.out]
    rw [hat] at HA
    have HA2 := Lib.hid HA
    clear h HA hat HE hU
    unfold atZ at HA2
    go_enter Tryz.func92, Tryz.ntmps92
    go_wp2_with fail
    refine HA2.out.mono ?_
    rintro e w1 ⟨rfl, rfl⟩
    go_wp2
    go_returns
    exact ⟨_, rfl, HS.out, fun b q => .inl q, Fr.refl _ _⟩
  | some k =>
    obtain ⟨hk, hid⟩ := atP_is hat
    obtain ⟨b, off, c', ev, _, _, hb, cy0, cy1⟩ := h.at hk
    simp only [Value.slice.injEq] at ev
    obtain ⟨rfl, _, rfl⟩ := ev
    rw [← Nat.add_assoc] at cy1
    have hu := hU l[k] (List.getElem_mem hk)
    have hg : l.getD k (0, 0) = l[k] := by simp [hk]
    rw [hat] at HA
    have HA2 := Lib.hid HA
    unfold atZ at HA2
    by_cases hz : l[k].2 = 0
    · have HE : Hid (failsP l id = (l, false)) := by unfold Hid failsP; rw [hat]; simp only [hg, hz, if_true]
      rw [HE.out]
      rw [hz] at cy1
      clear h HA hat HE hU hu hg hid hz
      unfold maxLen at q2
      go_enter Tryz.func92, Tryz.ntmps92
      go_wp2_with fail
      refine HA2.out.mono ?_
      rintro e w1 ⟨rfl, rfl⟩
      go_wp2
      go_returns
      exact ⟨_, rfl, HS.out, fun b q => .inl q, Fr.refl _ _⟩
    · have HE : Hid (failsP l id = (l.set k (l[k].1, l[k].2 - 1), true)) := by unfold Hid failsP; rw [hat]; simp only [hg, hz, if_false]
      rw [HE.out]
      have hone := Lib.hid (plC_one l)
      have K : Hid (∀ v' w2, w2.ownsRow w.heap.size 89 2 v' (0 + l.length) ([] ++ plC l) → Fr NoF w w2 → ∃ g cap, v' = .slice (some ⟨g, 0, none⟩) l.length cap ∧ l.length ≤ cap ∧ cap ≤ 9223372036854775807 ∧ g < w2.heap.size ∧ w2.frozen? ⟨g, k * 2 + 1, none⟩ = false ∧ w2.cell? ⟨g, k * 2 + 1, none⟩ = some (.int .u64 (l[k].2 : Nat)) ∧
          Hid (∀ z : Int, z = ((l[k].2 : Nat) : Int) - 1 → SlP (w2.setCell ⟨g, k * 2 + 1, none⟩ (.int .u64 z)) v' (l.set k (l[k].1, l[k].2 - 1)) ∧ (∀ b, v'.ownBlock = some b → w.heap.size ≤ b) ∧ Fr NoF w (w2.setCell ⟨g, k * 2 + 1, none⟩ (.int .u64 z)))) := by
        intro v' w2 ho f
        have hb := ownBlock_own ho
        have ho2 : SlF w2 89 2 v' l.length (plF l) := by
          obtain ⟨o1, o2⟩ := ho
          unfold SlF
          rw [plF_list]
          refine ⟨by rw [plC_len], ?_⟩
          rw [Nat.zero_add, List.nil_append] at o2
          refine o2.imp _root_.id ?_
          rintro ⟨g, cap, cur, e1, hg, r⟩
          exact ⟨g, cap, cur, e1, Nat.zero_le _, r⟩
        obtain ⟨g, cap, rfl, p2, p3, p4, p5, p6⟩ := ho2.at (by omega)
        refine ⟨g, cap, rfl, p2, by unfold maxLen at p3; omega, p4, p5 _, by rw [p6 _ (by omega), (plF_at l hk).2], ?_⟩
        rintro z rfl
        have hz2 : ((l[k].2 : Nat) : Int) - 1 = ((l[k].2 - 1 : Nat) : Int) := by omega
        rw [hz2]
        have hs := ho2.set (i := k * 2 + 1) (by omega) (.int .u64 ((l[k].2 - 1 : Nat) : Int))
        have hs2 := hs.congr (plF_set l hk (l[k].2 - 1))
        have hs3 : SlF (w2.setCell ⟨g, k * 2 + 1, none⟩ (.int .u64 ((l[k].2 - 1 : Nat) : Int))) 89 2 (.slice (some ⟨g, 0, none⟩) l.length cap) (l.set k (l[k].1, l[k].2 - 1)).length (plF (l.set k (l[k].1, l[k].2 - 1))) := by rw [List.length_set]; exact hs2
        exact ⟨SlF.page (n := 0) hs3, hb, f.setCell (p := ⟨g, k * 2 + 1, none⟩) (.inr (hb g rfl)) _⟩
      have hvw : IntKind.u64.wrap (((l[k].2 : Nat) : Int) - 1) = ((l[k].2 : Nat) : Int) - 1 := IntWalk.u64_in _ (by unfold isU64 at hu; omega)
      have hv1 : ¬ ((l[k].2 : Nat) : Int) = 0 := by omega
      have HST : Hid (∀ W, Fr NoF w W → SlP W (.slice (some ⟨b, off, none⟩) l.length c) l) := fun W f => h.fr0 f
      generalize l[k].2 = y at cy1 hvw hv1 K ⊢
      generalize l.set k (l[k].1, y - 1) = L2 at K ⊢
      have hyb : ((y : Int) == 0) = false := by simpa using hv1
      have hkl : k < l.length := hk
      clear h HA hat HE hU hu hg hid hz cy0
      unfold maxLen at q2
      go_enter Tryz.func92, Tryz.ntmps92
      go_wp2_with fail
      refine HA2.out.mono ?_
      rintro e w1 ⟨rfl, rfl⟩
      go_wp2_with (at_builtin; go_must (refine appLB (base := w.heap.size) EIP rfl _ _ rfl (by rfl) (by rfl) (by simp) (own_new (w0 := w) (Nat.le_refl _) #[] 89 2 0 _ rfl rfl (by unfold maxLen; omega)) (HST.out _ ((Fr.refl NoF _).alloc _)) (by unfold maxLen; omega) (by omega) ?_); intro v' w2 hown' hf' hob'; obtain ⟨g, cap, rfl, k1, k2, k3, k4, k5, KK⟩ := K.out v' w2 hown' (((Fr.refl NoF w).alloc _).trans hf' (fun i q => .inr (by cases q; exact Nat.le_refl _))); clear hown' hf' hob')
      go_returns
      obtain ⟨r1, r2, r3⟩ := KK.out _ (by first | rfl | omega)
      exact ⟨_, rfl, r1, fun b q => .inr (r2 b q), r3⟩
end
end Go.Proofs.YtnideelidfpicaaGreatDoor

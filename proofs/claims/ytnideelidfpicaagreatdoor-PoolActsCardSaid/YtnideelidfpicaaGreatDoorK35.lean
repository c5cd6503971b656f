/-
  The document's own Disk in memory: set, Fail.
-/
import Derived.Test.YtnideelidfpicaaGreatDoorK34
namespace Go.Proofs.YtnideelidfpicaaGreatDoor
open Go.RowKit
set_option linter.unusedVariables false

def setP (l : List (Nat × Nat)) (id x : Nat) : List (Nat × Nat) :=
  match atP l id with
  | none => l ++ [(id, x)]
  | some k => l.set k ((l.getD k (0, 0)).1, x)
theorem setP_len (l : List (Nat × Nat)) (id x : Nat) : (setP l id x).length ≤ l.length + 1 := by
  unfold setP
  split
  · simp
  · rw [List.length_set]; omega
theorem setP_u {l : List (Nat × Nat)} (h : ∀ p ∈ l, isU64 p.2) (id : Nat) {x : Nat} (hx : isU64 x) : ∀ p ∈ setP l id x, isU64 p.2 := by
  unfold setP
  split
  · intro p hp
    rcases List.mem_append.1 hp with q | q
    · exact h p q
    · simp at q; rw [q]; exact hx
  · intro p hp
    rcases List.mem_or_eq_of_mem_set hp with q | q
    · exact h p q
    · rw [q]; exact hx
section
variable {w w0 w' : World} {b : Nat} {s : RS} {lv nv sv v : Value} {l : List (Nat × Nat)}
set_option maxHeartbeats 2000000 in
theorem set_nat (h : SlP w v l) (hl : l.length < 1000000) (id : Nat) (x : Nat) (hx2 : isU64 x) : Calls Tryz.prog 69 #[v, .int .u32 id, .int .i64 x] w fun e w' => ∃ v', e = .returned v' ∧ SlP w' v' (setP l id x) ∧ (∀ b, v'.ownBlock = some b → w.heap.size ≤ b) ∧ Fr NoF w w' := by
  have HA := at_calls h id
  obtain ⟨a, c, rfl, q1, q2⟩ := h.shape
  have hwx : IntKind.u64.wrap (x : Int) = (x : Int) := IntWalk.u64_in _ (by unfold isU64 at hx2; omega)
  have HST : Hid (∀ W, Fr NoF w W → SlP W (.slice a l.length c) l) := fun W f => h.fr0 f
  cases hat : atP l id with
  | none =>
    have HE : Hid (setP l id x = l ++ [(id, x)]) := by unfold Hid setP; rw [hat]
    rw [HE.out]
    rw [hat] at HA
    unfold atZ at HA
    have HA2 := Lib.hid HA
    have K : Hid (∀ v' w2, w2.ownsRow w.heap.size 89 2 v' (0 + l.length + 1) (([] ++ plC l) ++ [.int .u32 id, .int .u64 x]) → SlP w2 v' (l ++ [(id, x)])) := by
      intro v' w2 ho
      have e : (([] ++ plC l) ++ [Value.int .u32 id, .int .u64 x]) = plC (l ++ [(id, x)]) := by rw [plC_app]; rfl
      rw [e, Nat.zero_add] at ho
      have := SlC.ofOwn ho (plC_one _)
      unfold SlP
      rw [List.length_append]
      exact this
    clear h HA hat HE hx2
    go_enter Tryz.func69, Tryz.ntmps69
    go_wp2_with fail
    refine HA2.out.mono ?_
    rintro e w1 ⟨rfl, rfl⟩
    go_wp2_with (first
      | (at_builtin; (refine appLB (base := w.heap.size) EIP rfl _ _ rfl (by rfl) (by rfl) (by simp) (own_new (w0 := w) (Nat.le_refl _) #[] 89 2 0 _ rfl rfl (by unfold maxLen; omega)) (HST.out _ ((Fr.refl NoF _).alloc _)) (by unfold maxLen; omega) (by omega) ?_); intro v5 w5 hown hf5 hob5; have HO5 := Lib.hid hown; have HB5 := Lib.hid (ownBlock_own hown); have HF5 := Lib.hid (((Fr.refl NoF w).alloc _).trans hf5 (fun i q => .inr (by cases q; exact Nat.le_refl _)) : Fr NoF w w5); have hs5 := HF5.out.size; obtain ⟨a5, c5, rfl, _, _⟩ := (SlF.page (n := 0) (own_page (n := 0) hown)).shape; clear hown hf5 hob5)
      | (at_builtin; go_must (refine appLB (base := w.heap.size) EIP rfl _ _ rfl (by rfl) (by rfl) (by simp; omega) (own_keep HO5.out ((Fr.refl NoF _).alloc _) (fun _ _ q => q)) (SlC.ofOwn (own_new (w0 := w) (by omega) #[.int .u32 id, .int .u64 x] 89 2 1 _ rfl rfl (by unfold maxLen; omega)) (by simp [Value.oneCell'])) (by unfold maxLen; omega) (by omega) ?_); intro v6 w6 hown hf6 hob6; have HO6 := Lib.hid hown; have HF6 := Lib.hid hf6; clear hown hf6 hob6))
    go_returns
    exact ⟨_, rfl, K.out _ _ HO6.out, ownBlock_own HO6.out, (HF5.out.alloc _).trans HF6.out (fun i q => .inr (HB5.out i q))⟩
  | some k =>
    obtain ⟨hk, hid⟩ := atP_is hat
    have hg : l.getD k (0, 0) = l[k] := by simp [hk]
    rw [hat] at HA
    unfold atZ at HA
    have HA2 := Lib.hid HA
    have HE : Hid (setP l id x = l.set k (l[k].1, x)) := by unfold Hid setP; rw [hat]; simp only [hg]
    rw [HE.out]
    have K : Hid (∀ v' w2, w2.ownsRow w.heap.size 89 2 v' (0 + l.length) ([] ++ plC l) → Fr NoF w w2 → ∃ g cap, v' = .slice (some ⟨g, 0, none⟩) l.length cap ∧ l.length ≤ cap ∧ cap ≤ 9223372036854775807 ∧ g < w2.heap.size ∧ w2.frozen? ⟨g, k * 2 + 1, none⟩ = false ∧ w2.cell? ⟨g, k * 2 + 1, none⟩ = some (.int .u64 (l[k].2 : Nat)) ∧
        Hid (SlP (w2.setCell ⟨g, k * 2 + 1, none⟩ (.int .u64 x)) v' (l.set k (l[k].1, x)) ∧ (∀ b, v'.ownBlock = some b → w.heap.size ≤ b) ∧ Fr NoF w (w2.setCell ⟨g, k * 2 + 1, none⟩ (.int .u64 x)))) := by
      intro v' w2 ho f
      have hb := ownBlock_own ho
      have ho2 := own_page (n := 0) ho
      obtain ⟨g, cap, rfl, p2, p3, p4, p5, p6⟩ := ho2.at (by omega)
      refine ⟨g, cap, rfl, p2, by unfold maxLen at p3; omega, p4, p5 _, by rw [p6 _ (by omega), (plF_at l hk).2], ?_⟩
      have hs2 := (ho2.set (i := k * 2 + 1) (by omega) (.int .u64 (x : Int))).congr (plF_set l hk x)
      have hs3 : SlF (w2.setCell ⟨g, k * 2 + 1, none⟩ (.int .u64 (x : Int))) 89 2 (.slice (some ⟨g, 0, none⟩) l.length cap) (l.set k (l[k].1, x)).length (plF (l.set k (l[k].1, x))) := by rw [List.length_set]; exact hs2
      exact ⟨SlF.page (n := 0) hs3, hb, f.setCell (p := ⟨g, k * 2 + 1, none⟩) (.inr (hb g rfl)) _⟩
    generalize l[k].2 = y at K
    generalize l.set k (l[k].1, x) = L2 at K ⊢
    have hkl : k < l.length := hk
    clear h HA hat HE hid hg hx2
    unfold maxLen at q2
    go_enter Tryz.func69, Tryz.ntmps69
    go_wp2_with fail
    refine HA2.out.mono ?_
    rintro e w1 ⟨rfl, rfl⟩
    go_wp2_with (at_builtin; go_must (refine appLB (base := w.heap.size) EIP rfl _ _ rfl (by rfl) (by rfl) (by simp) (own_new (w0 := w) (Nat.le_refl _) #[] 89 2 0 _ rfl rfl (by unfold maxLen; omega)) (HST.out _ ((Fr.refl NoF _).alloc _)) (by unfold maxLen; omega) (by omega) ?_); intro v' w2 hown' hf' hob'; obtain ⟨g, cap, rfl, k1, k2, k3, k4, k5, KK⟩ := K.out v' w2 hown' (((Fr.refl NoF w).alloc _).trans hf' (fun i q => .inr (by cases q; exact Nat.le_refl _))); clear hown' hf' hob')
    go_returns
    exact ⟨_, rfl, KK.out⟩
set_option maxHeartbeats 2000000 in
theorem set_neg (h : SlP w v l) (hl : l.length < 1000000) (id : Nat) (t : Int) (ht : t < 0) : Calls Tryz.prog 69 #[v, .int .u32 id, .int .i64 t] w fun e w' => ∃ v', e = .returned v' ∧ SlP w' v' (setP l id 0) ∧ (∀ b, v'.ownBlock = some b → w.heap.size ≤ b) ∧ Fr NoF w w' := by
  have HA := at_calls h id
  obtain ⟨a, c, rfl, q1, q2⟩ := h.shape
  have hm : max t 0 = 0 := by omega
  have HST : Hid (∀ W, Fr NoF w W → SlP W (.slice a l.length c) l) := fun W f => h.fr0 f
  cases hat : atP l id with
  | none =>
    have HE : Hid (setP l id 0 = l ++ [(id, 0)]) := by unfold Hid setP; rw [hat]
    rw [HE.out]
    rw [hat] at HA
    unfold atZ at HA
    have HA2 := Lib.hid HA
    have K : Hid (∀ v' w2, w2.ownsRow w.heap.size 89 2 v' (0 + l.length + 1) (([] ++ plC l) ++ [.int .u32 id, .int .u64 0]) → SlP w2 v' (l ++ [(id, 0)])) := by
      intro v' w2 ho
      have e : (([] ++ plC l) ++ [Value.int .u32 id, .int .u64 0]) = plC (l ++ [(id, 0)]) := by rw [plC_app]; rfl
      rw [e, Nat.zero_add] at ho
      have := SlC.ofOwn ho (plC_one _)
      unfold SlP
      rw [List.length_append]
      exact this
    clear h HA hat HE
    go_enter Tryz.func69, Tryz.ntmps69
    go_wp2_with fail
    refine HA2.out.mono ?_
    rintro e w1 ⟨rfl, rfl⟩
    go_wp2_with (first
      | (at_builtin; (refine appLB (base := w.heap.size) EIP rfl _ _ rfl (by rfl) (by rfl) (by simp) (own_new (w0 := w) (Nat.le_refl _) #[] 89 2 0 _ rfl rfl (by unfold maxLen; omega)) (HST.out _ ((Fr.refl NoF _).alloc _)) (by unfold maxLen; omega) (by omega) ?_); intro v5 w5 hown hf5 hob5; have HO5 := Lib.hid hown; have HB5 := Lib.hid (ownBlock_own hown); have HF5 := Lib.hid (((Fr.refl NoF w).alloc _).trans hf5 (fun i q => .inr (by cases q; exact Nat.le_refl _)) : Fr NoF w w5); have hs5 := HF5.out.size; obtain ⟨a5, c5, rfl, _, _⟩ := (SlF.page (n := 0) (own_page (n := 0) hown)).shape; clear hown hf5 hob5)
      | (at_builtin; go_must (refine appLB (base := w.heap.size) EIP rfl _ _ rfl (by rfl) (by rfl) (by simp; omega) (own_keep HO5.out ((Fr.refl NoF _).alloc _) (fun _ _ q => q)) (SlC.ofOwn (own_new (w0 := w) (by omega) #[.int .u32 id, .int .u64 0] 89 2 1 _ rfl rfl (by unfold maxLen; omega)) (by simp [Value.oneCell'])) (by unfold maxLen; omega) (by omega) ?_); intro v6 w6 hown hf6 hob6; have HO6 := Lib.hid hown; have HF6 := Lib.hid hf6; clear hown hf6 hob6))
    go_returns
    exact ⟨_, rfl, K.out _ _ HO6.out, ownBlock_own HO6.out, (HF5.out.alloc _).trans HF6.out (fun i q => .inr (HB5.out i q))⟩
  | some k =>
    obtain ⟨hk, hid⟩ := atP_is hat
    have hg : l.getD k (0, 0) = l[k] := by simp [hk]
    rw [hat] at HA
    unfold atZ at HA
    have HA2 := Lib.hid HA
    have HE : Hid (setP l id 0 = l.set k (l[k].1, 0)) := by unfold Hid setP; rw [hat]; simp only [hg]
    rw [HE.out]
    have K : Hid (∀ v' w2, w2.ownsRow w.heap.size 89 2 v' (0 + l.length) ([] ++ plC l) → Fr NoF w w2 → ∃ g cap, v' = .slice (some ⟨g, 0, none⟩) l.length cap ∧ l.length ≤ cap ∧ cap ≤ 9223372036854775807 ∧ g < w2.heap.size ∧ w2.frozen? ⟨g, k * 2 + 1, none⟩ = false ∧ w2.cell? ⟨g, k * 2 + 1, none⟩ = some (.int .u64 (l[k].2 : Nat)) ∧
        Hid (SlP (w2.setCell ⟨g, k * 2 + 1, none⟩ (.int .u64 0)) v' (l.set k (l[k].1, 0)) ∧ (∀ b, v'.ownBlock = some b → w.heap.size ≤ b) ∧ Fr NoF w (w2.setCell ⟨g, k * 2 + 1, none⟩ (.int .u64 0)))) := by
      intro v' w2 ho f
      have hb := ownBlock_own ho
      have ho2 := own_page (n := 0) ho
      obtain ⟨g, cap, rfl, p2, p3, p4, p5, p6⟩ := ho2.at (by omega)
      refine ⟨g, cap, rfl, p2, by unfold maxLen at p3; omega, p4, p5 _, by rw [p6 _ (by omega), (plF_at l hk).2], ?_⟩
      have hs2 := (ho2.set (i := k * 2 + 1) (by omega) (.int .u64 ((0 : Nat) : Int))).congr (plF_set l hk 0)
      have hs3 : SlF (w2.setCell ⟨g, k * 2 + 1, none⟩ (.int .u64 ((0 : Nat) : Int))) 89 2 (.slice (some ⟨g, 0, none⟩) l.length cap) (l.set k (l[k].1, 0)).length (plF (l.set k (l[k].1, 0))) := by rw [List.length_set]; exact hs2
      exact ⟨SlF.page (n := 0) hs3, hb, f.setCell (p := ⟨g, k * 2 + 1, none⟩) (.inr (hb g rfl)) _⟩
    generalize l[k].2 = y at K
    generalize l.set k (l[k].1, 0) = L2 at K ⊢
    have hkl : k < l.length := hk
    clear h HA hat HE hid hg
    unfold maxLen at q2
    go_enter Tryz.func69, Tryz.ntmps69
    go_wp2_with fail
    refine HA2.out.mono ?_
    rintro e w1 ⟨rfl, rfl⟩
    go_wp2_with (at_builtin; go_must (refine appLB (base := w.heap.size) EIP rfl _ _ rfl (by rfl) (by rfl) (by simp) (own_new (w0 := w) (Nat.le_refl _) #[] 89 2 0 _ rfl rfl (by unfold maxLen; omega)) (HST.out _ ((Fr.refl NoF _).alloc _)) (by unfold maxLen; omega) (by omega) ?_); intro v' w2 hown' hf' hob'; obtain ⟨g, cap, rfl, k1, k2, k3, k4, k5, KK⟩ := K.out v' w2 hown' (((Fr.refl NoF w).alloc _).trans hf' (fun i q => .inr (by cases q; exact Nat.le_refl _))); clear hown' hf' hob')
    go_returns
    exact ⟨_, rfl, KK.out⟩
theorem set_calls (h : SlP w v l) (hl : l.length < 1000000) (id : Nat) (t : Int) (ht : isU64 t.toNat) : Calls Tryz.prog 69 #[v, .int .u32 id, .int .i64 t] w fun e w' => ∃ v', e = .returned v' ∧ SlP w' v' (setP l id t.toNat) ∧ (∀ b, v'.ownBlock = some b → w.heap.size ≤ b) ∧ Fr NoF w w' := by
  by_cases h0 : t < 0
  · have e : t.toNat = 0 := by omega
    rw [e]
    exact set_neg h hl id t h0
  · obtain ⟨x, rfl⟩ := Int.eq_ofNat_of_zero_le (show 0 ≤ t by omega)
    exact set_nat h hl id x ht
/-- Fail, in the state's words. -/
def RS.fail (s : RS) (id : Nat) (wr : Bool) (x : Nat) : RS := if wr = true then { s with ns := setP s.ns id x } else { s with nr := setP s.nr id x }
set_option maxHeartbeats 1000000 in
theorem rf_fail (h : RC w b s lv nv sv) (id : Nat) (wr : Bool) (t : Int) (ht : isU64 t.toNat) (h2 : s.nr.length + 1 < 100000) (h3 : s.ns.length + 1 < 100000) : Calls Tryz.prog 40 #[.pointer (some ⟨b, 0, none⟩), .int .u32 id, .bool wr, .int .i64 t] w fun e w' => e = .returned (.tuple #[]) ∧ (∃ nv' sv', RC w' b (s.fail id wr t.toNat) lv nv' sv' ∧ ∀ i, FR b lv nv' sv' i → FR b lv nv sv i ∨ w.heap.size ≤ i) ∧ Fr (fun k => k = b) w w' := by
  have lb := h.hd.lt
  cases wr with
  | false =>
    have c2 : w.cell? ⟨b, 2, none⟩ = some nv := h.ce 2 (by omega)
    have HSE := Lib.hid (set_calls h.hn (by omega) id t ht)
    have hle := setP_len s.nr id t.toNat
    have K : Hid (∀ v' w2, SlP w2 v' (setP s.nr id t.toNat) → (∀ i, v'.ownBlock = some i → w.heap.size ≤ i) → Fr NoF w w2 → b < w2.heap.size ∧ w2.frozen? ⟨b, 2, none⟩ = false ∧ w2.cell? ⟨b, 2, none⟩ = some nv ∧ Hid ((∃ nv' sv', RC (w2.setCell ⟨b, 2, none⟩ v') b (s.fail id false t.toNat) lv nv' sv' ∧ ∀ i, FR b lv nv' sv' i → FR b lv nv sv i ∨ w.heap.size ≤ i) ∧ Fr (fun k => k = b) w (w2.setCell ⟨b, 2, none⟩ v'))) := by
      intro v' w2 hs ho f
      have h4 := h.fr0 f
      obtain ⟨g1, g2⟩ := h4.setN hs (fun i q => by have := ho i q; omega) (by omega) (setP_u h.u2 id ht)
      exact ⟨h4.hd.lt, h4.hd.frozen 2, h4.ce 2 (by omega), ⟨_, _, g1, FR.n (fun i q => .inr (ho i q))⟩, (f.mono (fun _ q => q.elim)).trans g2 (fun i q => .inl q)⟩
    obtain ⟨na, nc, rfl, _, _⟩ := h.hn.shape
    clear h ht
    go_enter Tryz.func40, Tryz.ntmps40
    go_wp2_with fail
    refine HSE.out.mono ?_
    rintro e w2 ⟨v2, rfl, k1, k2, k3⟩
    obtain ⟨ea, eb, ec, KK⟩ := K.out v2 w2 k1 k2 k3
    obtain ⟨a2, m2, rfl, _, _⟩ := k1.shape
    clear k1 k2 k3 K HSE
    go_wp2
    go_returns
    exact ⟨rfl, KK.out⟩
  | true =>
    have c3 : w.cell? ⟨b, 3, none⟩ = some sv := h.ce 3 (by omega)
    have HSE := Lib.hid (set_calls h.hs (by omega) id t ht)
    have hle := setP_len s.ns id t.toNat
    have K : Hid (∀ v' w2, SlP w2 v' (setP s.ns id t.toNat) → (∀ i, v'.ownBlock = some i → w.heap.size ≤ i) → Fr NoF w w2 → b < w2.heap.size ∧ w2.frozen? ⟨b, 3, none⟩ = false ∧ w2.cell? ⟨b, 3, none⟩ = some sv ∧ Hid ((∃ nv' sv', RC (w2.setCell ⟨b, 3, none⟩ v') b (s.fail id true t.toNat) lv nv' sv' ∧ ∀ i, FR b lv nv' sv' i → FR b lv nv sv i ∨ w.heap.size ≤ i) ∧ Fr (fun k => k = b) w (w2.setCell ⟨b, 3, none⟩ v'))) := by
      intro v' w2 hs ho f
      have h4 := h.fr0 f
      obtain ⟨g1, g2⟩ := h4.setS hs (fun i q => by have := ho i q; omega) (by omega) (setP_u h.u3 id ht)
      exact ⟨h4.hd.lt, h4.hd.frozen 3, h4.ce 3 (by omega), ⟨_, _, g1, FR.s (fun i q => .inr (ho i q))⟩, (f.mono (fun _ q => q.elim)).trans g2 (fun i q => .inl q)⟩
    obtain ⟨na, nc, rfl, _, _⟩ := h.hs.shape
    clear h ht
    go_enter Tryz.func40, Tryz.ntmps40
    go_wp2_with fail
    refine HSE.out.mono ?_
    rintro e w2 ⟨v2, rfl, k1, k2, k3⟩
    obtain ⟨ea, eb, ec, KK⟩ := K.out v2 w2 k1 k2 k3
    obtain ⟨a2, m2, rfl, _, _⟩ := k1.shape
    clear k1 k2 k3 K HSE
    go_wp2
    go_returns
    exact ⟨rfl, KK.out⟩
end
end Go.Proofs.YtnideelidfpicaaGreatDoor

/-
  The document's own Disk in memory: Free.
-/
import Derived.Test.YtnideelidfpicaaGreatDoorK35
import Derived.RegionTactic
import Derived.Deep.RegionLaw
import Derived.BigRegion
namespace Go.Proofs.YtnideelidfpicaaGreatDoor
open Go.RowKit
set_option linter.unusedVariables false

def RS.free (s : RS) (id : Nat) : Nat × RS :=
  match atP s.L id with
  | none => (3, s)
  | some k => (0, { s with L := s.L.take k ++ s.L.drop (k + 1) })
section
variable {w w0 w' : World} {b : Nat} {s : RS} {lv nv sv v : Value} {l : List (Nat × Nat)}
/-- The first pages of a slice; the last ones. -/
theorem SlP.first {g off c : Nat} (h : SlP w (.slice (some ⟨g, off, none⟩) l.length c) l) {k : Nat} (hk : k ≤ l.length) (hc : 0 < c) : SlC w 2 (.slice (some ⟨g, off, none⟩) k c) k (plC (l.take k)) := by
  obtain ⟨b', o', e, h1⟩ := SlC.cut (lo := 0) (hi := k) h (by omega) hk rfl hc
  simp only [Option.some.injEq, Addr.mk.injEq] at e
  obtain ⟨rfl, rfl, _⟩ := e
  simp only [Nat.zero_mul, Nat.add_zero, Nat.sub_zero, List.drop_zero] at h1
  rw [plC_take] at h1
  exact h1
theorem SlP.last {g off c : Nat} (h : SlP w (.slice (some ⟨g, off, none⟩) l.length c) l) {k : Nat} (hk : k ≤ l.length) (hc : k < c) : SlC w 2 (.slice (some ⟨g, off + k * 2, none⟩) (l.length - k) (c - k)) (l.length - k) (plC (l.drop k)) := by
  obtain ⟨b', o', e, h1⟩ := SlC.cut (lo := k) (hi := l.length) h hk (Nat.le_refl _) rfl hc
  simp only [Option.some.injEq, Addr.mk.injEq] at e
  obtain ⟨rfl, rfl, _⟩ := e
  rw [plC_drop, List.take_of_length_le (by rw [plC_len, List.length_drop]; omega)] at h1
  exact h1
theorem RC.cutL (h : RC w b s lv nv sv) {k : Nat} (hk : k < s.L.length) {v6 : Value} {w6 : World} (ho : w6.ownsRow w.heap.size 89 2 v6 (k + (s.L.length - (k + 1))) (plC (s.L.take k) ++ plC (s.L.drop (k + 1)))) (f : Fr NoF w w6) :
    RC (w6.setCell ⟨b, 1, none⟩ v6) b { s with L := s.L.take k ++ s.L.drop (k + 1) } v6 nv sv ∧ Fr (fun i => i = b) w (w6.setCell ⟨b, 1, none⟩ v6) := by
  have hlen : (s.L.take k ++ s.L.drop (k + 1)).length = k + (s.L.length - (k + 1)) := by rw [List.length_append, List.length_take, List.length_drop]; omega
  have e : (plC (s.L.take k) ++ plC (s.L.drop (k + 1))) = plC (s.L.take k ++ s.L.drop (k + 1)) := by rw [plC_app]
  have hob := ownBlock_own ho
  rw [e] at ho
  have hs : SlP w6 v6 (s.L.take k ++ s.L.drop (k + 1)) := by unfold SlP; rw [hlen]; exact SlC.ofOwn ho (plC_one _)
  have hl := h.hd.lt
  have hb1 := h.b1
  obtain ⟨g1, g2⟩ := (h.fr0 f).setL hs (fun i q => by have := hob i q; omega) (by rw [hlen]; omega) (fun p hp => by
    rcases List.mem_append.1 hp with q | q
    · exact h.u1 p (List.mem_of_mem_take q)
    · exact h.u1 p (List.mem_of_mem_drop q))
  exact ⟨g1, (f.mono (fun _ q => q.elim)).trans g2 (fun i q => .inl q)⟩
set_option maxHeartbeats 4000000 in
theorem rf_free (h : RC w b s lv nv sv) (id : Nat) : Calls Tryz.prog 63 #[.pointer (some ⟨b, 0, none⟩), .int .u32 id] w fun e w' => e = .returned (.int .i64 (s.free id).1) ∧
    (∃ lv', RC w' b (s.free id).2 lv' nv sv ∧ ∀ i, FR b lv' nv sv i → FR b lv nv sv i ∨ w.heap.size ≤ i) ∧ Fr (fun k => k = b) w w' := by
  have c1 : w.cell? ⟨b, 1, none⟩ = some lv := h.ce 1 (by omega)
  have lb := h.hd.lt
  have HAT := at_calls h.hl id
  cases hat : atP s.L id with
  | none =>
    have HE : Hid (s.free id = (3, s)) := by unfold Hid RS.free; rw [hat]
    rw [HE.out]
    rw [hat] at HAT
    unfold atZ at HAT
    have HA2 := Lib.hid HAT
    have HH := Lib.hid h
    obtain ⟨va, vc, rfl, _, _⟩ := h.hl.shape
    clear h HAT hat HE
    go_enter Tryz.func63, Tryz.ntmps63
    go_wp2_with fail
    refine HA2.out.mono ?_
    rintro e w1 ⟨rfl, rfl⟩
    go_wp2
    go_returns
    exact ⟨rfl, ⟨_, HH.out, fun i q => .inl q⟩, Fr.refl _ _⟩
  | some k =>
    obtain ⟨hk, hid⟩ := atP_is hat
    have HE : Hid (s.free id = (0, { s with L := s.L.take k ++ s.L.drop (k + 1) })) := by unfold Hid RS.free; rw [hat]
    rw [HE.out]
    rw [hat] at HAT
    unfold atZ at HAT
    have HA2 := Lib.hid HAT
    obtain ⟨g, off, cc, ev, p1, p2, p3, _, _⟩ := h.hl.at hk
    subst ev
    have hgb : ¬ g = b := h.n1 g rfl
    have HFI : Hid (∀ W, Fr NoF w W → SlC W 2 (.slice (some ⟨g, off, none⟩) k cc) k (plC (s.L.take k))) := fun W f => SlP.first (h.hl.fr0 f) (by omega) (by omega)
    have HLA : Hid (k + 1 < cc → ∀ W, Fr NoF w W → SlC W 2 (.slice (some ⟨g, off + (k + 1) * 2, none⟩) (s.L.length - (k + 1)) (cc - (k + 1))) (s.L.length - (k + 1)) (plC (s.L.drop (k + 1)))) := fun q W f => SlP.last (h.hl.fr0 f) (by omega) q
    have HH := Lib.hid h
    have hb1 := h.b1
    have f1 := h.hd.frozen 1
    obtain ⟨AD, hAD, hLA2⟩ : ∃ AD, (if cc = k + 1 then some ⟨g, off, none⟩ else some ⟨g, off + (k + 1) * 2, none⟩) = AD ∧ Hid (∀ W, Fr NoF w W → SlC W 2 (.slice AD (s.L.length - (k + 1)) (cc - (k + 1))) (s.L.length - (k + 1)) (plC (s.L.drop (k + 1)))) := by
      by_cases q : cc = k + 1
      · refine ⟨_, rfl, fun W f => ?_⟩
        rw [if_pos q]
        have e1 : s.L.length - (k + 1) = 0 := by omega
        have e2 : s.L.drop (k + 1) = [] := List.drop_of_length_le (by omega)
        have e3 : cc - (k + 1) = 0 := by omega
        rw [e1, e2, e3]
        exact ⟨_, _, rfl, rfl, fun u hu => (by cases hu), Nat.le_refl _, by unfold maxLen; omega, .inr ⟨g, off, rfl, Nat.lt_of_lt_of_le p3 f.size, fun j u hj => (by simp [plC] at hj)⟩⟩
      · exact ⟨_, rfl, fun W f => by rw [if_neg q]; exact HLA.out (by omega) W f⟩
    have HOW : Hid (∀ W, Fr NoF (w.alloc (.cells #[] 89)) W → W.ownsRow w.heap.size 89 2 (.slice (some ⟨w.heap.size, 0, none⟩) 0 0) 0 []) := fun W f => own_keep (own_new (w0 := w) (Nat.le_refl _) #[] 89 2 0 _ rfl rfl (by unfold maxLen; omega)) f (fun _ _ q => q)
    have KC : Hid (∀ W, Fr NoF w W → W.cell? ⟨b, 1, none⟩ = some (.slice (some ⟨g, off, none⟩) s.L.length cc) ∧ W.frozen? ⟨b, 1, none⟩ = false ∧ b < W.heap.size) := fun W f => ⟨(h.fr0 f).ce 1 (by omega), (h.fr0 f).hd.frozen 1, (h.fr0 f).hd.lt⟩
    clear h HAT hat HE hid HLA
    unfold maxLen at p2
    have hkc : k ≤ cc := by omega
    have hk1 : k + 1 ≤ s.L.length := hk
    have hk2 : k + 1 ≤ cc := by omega
    have hki1 : 0 ≤ (k : Int) + 1 := by omega
    have hki2 : (k : Int) + 1 ≤ (s.L.length : Int) := by omega
    have hkw : IntKind.i64.wrap ((k : Int) + 1) = ((k + 1 : Nat) : Int) := IntWalk.i64_in _ (by omega)
    go_enter Tryz.func63, Tryz.ntmps63
    go_wp2_with fail
    refine HA2.out.mono ?_
    rintro e w1 ⟨rfl, rfl⟩
    go_wp2
    go_region_law (first
      | (refine appSB (base := w.heap.size) EIP rfl (.tmp 15) (.tmp 21) rfl (by rfl) (by rfl) (by simp; try omega) (HOW.out _ (by repeat (first | exact Fr.refl NoF _ | apply Fr.drew | apply Fr.alloc))) (HFI.out _ (by repeat (first | exact Fr.refl NoF _ | apply Fr.drew | apply Fr.alloc))) (by unfold maxLen; omega) (by omega) ?_; intro v5 w5 hown5 hf5 hob5; rw [Nat.zero_add, List.nil_append] at hown5; obtain ⟨a5, c5, rfl, _, _⟩ := (SlC.ofOwn hown5 (plC_one _)).shape; have HO5 := Lib.hid hown5; have HF5 := Lib.hid (Fr.trans (F := NoF) (a := w) (by repeat (first | exact Fr.refl NoF _ | apply Fr.drew | apply Fr.alloc)) hf5 (fun i q => .inr (by cases q; exact Nat.le_refl _))); obtain ⟨x1, x2, x3⟩ := KC.out w5 HF5.out; have hs5 := HF5.out.size; clear hown5 hf5 hob5)
      | (refine appSB (base := w.heap.size) EIP rfl (.tmp 22) (.tmp 29) rfl (by rfl) (by rfl) hs5 HO5.out (hLA2.out _ HF5.out) (by unfold maxLen; omega) (by omega) ?_; intro v6 w6 hown6 hf6 hob6; obtain ⟨a6, c6, rfl, _, _⟩ := (SlC.ofOwn hown6 (fun u hu => by rcases List.mem_append.1 hu with q | q <;> exact plC_one _ u q)).shape; have HO6 := Lib.hid hown6; have HF6 := Lib.hid (HF5.out.trans hf6 (fun i q => .inr (ownBlock_own HO5.out i q))); obtain ⟨y1, y2, y3⟩ := KC.out w6 HF6.out; clear hown6 hf6 hob6))
    all_goals
      go_wp2
      go_returns
      obtain ⟨r1, r2⟩ := HH.out.cutL hk HO6.out HF6.out
      exact ⟨rfl, ⟨_, r1, FR.l (fun i q => .inr (ownBlock_own HO6.out i q))⟩, r2⟩
end
end Go.Proofs.YtnideelidfpicaaGreatDoor

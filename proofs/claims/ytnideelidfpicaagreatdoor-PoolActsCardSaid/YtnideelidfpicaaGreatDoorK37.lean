/-
  The document's own Disk in memory: Alloc.
-/
import Derived.Test.YtnideelidfpicaaGreatDoorK36
namespace Go.Proofs.YtnideelidfpicaaGreatDoor
open Go.RowKit
set_option linter.unusedVariables false

/-- A page comes at place k, by the id k + 1. -/
def RS.ins (s : RS) (k : Nat) : RS := { s with L := s.L.take k ++ [(k + 1, 0)] ++ s.L.drop k }
/-- Place k is the first one whose page has another id than the place says. -/
structure Gap (L : List (Nat × Nat)) (k : Nat) : Prop where
  le : k ≤ L.length
  all : ∀ j (hj : j < L.length), j < k → L[j].1 = j + 1
  not : ∀ hk : k < L.length, ¬ L[k].1 = k + 1
section
variable {w w0 w' : World} {b : Nat} {s : RS} {lv nv sv v : Value} {l : List (Nat × Nat)}
theorem RC.insL (h : RC w b s lv nv sv) {k : Nat} (hk : k ≤ s.L.length) (hb2 : s.L.length + 1 < 100000) {v6 : Value} {w6 : World} (ho : w6.ownsRow w.heap.size 89 2 v6 (k + 1 + (s.L.length - k)) ((plC (s.L.take k) ++ [.int .u32 ((k : Int) + 1), .int .u64 0]) ++ plC (s.L.drop k))) (f : Fr NoF w w6) :
    RC (w6.setCell ⟨b, 1, none⟩ v6) b (s.ins k) v6 nv sv ∧ Fr (fun i => i = b) w (w6.setCell ⟨b, 1, none⟩ v6) := by
  have hlen : (s.L.take k ++ [(k + 1, 0)] ++ s.L.drop k).length = k + 1 + (s.L.length - k) := by simp; omega
  have e : ((plC (s.L.take k) ++ [.int .u32 ((k : Int) + 1), .int .u64 0]) ++ plC (s.L.drop k)) = plC (s.L.take k ++ [(k + 1, 0)] ++ s.L.drop k) := by rw [plC_app, plC_app]; rfl
  have hob := ownBlock_own ho
  rw [e] at ho
  have hs : SlP w6 v6 (s.L.take k ++ [(k + 1, 0)] ++ s.L.drop k) := by unfold SlP; rw [hlen]; exact SlC.ofOwn ho (plC_one _)
  have hl := h.hd.lt
  have hb1 := h.b1
  obtain ⟨g1, g2⟩ := (h.fr0 f).setL hs (fun i q => by have := hob i q; omega) (by rw [hlen]; omega) (fun p hp => by
    rcases List.mem_append.1 hp with q | q
    · rcases List.mem_append.1 q with q | q
      · exact h.u1 p (List.mem_of_mem_take q)
      · simp at q; rw [q]; show isU64 0; unfold isU64; omega
    · exact h.u1 p (List.mem_of_mem_drop q))
  exact ⟨g1, (f.mono (fun _ q => q.elim)).trans g2 (fun i q => .inl q)⟩
theorem rf_alloc_full (h : RC w b s lv nv sv) (hf : s.room ≤ s.L.length) : Calls Tryz.prog 61 #[.pointer (some ⟨b, 0, none⟩)] w fun e w' => e = .returned (.tuple #[.int .u32 0, .int .i64 2]) ∧ Fr NoF w w' := by
  have c0 : w.cell? ⟨b, 0, none⟩ = some (.int .i64 s.room) := h.ce 0 (by omega)
  have c1 : w.cell? ⟨b, 1, none⟩ = some lv := h.ce 1 (by omega)
  have lb := h.hd.lt
  obtain ⟨va, vc, rfl, _, _⟩ := h.hl.shape
  have hd : decide (s.room ≤ s.L.length) = true := by simpa using hf
  clear h
  go_enter Tryz.func61, Tryz.ntmps61
  go_wp2
  go_region
  go_wp2
  go_returns
  exact ⟨rfl, (Fr.refl NoF _).drew⟩
set_option maxHeartbeats 4000000 in
theorem rf_alloc_some {g off cc : Nat} (h : RC w b s (.slice (some ⟨g, off, none⟩) s.L.length cc) nv sv)  (hlt : s.L.length < s.room) (hr : s.room ≤ 65535) : Calls Tryz.prog 61 #[.pointer (some ⟨b, 0, none⟩)] w fun e w' => ∃ k, Gap s.L k ∧ e = .returned (.tuple #[.int .u32 (k + 1 : Nat), .int .i64 0]) ∧ (∃ lv', RC w' b (s.ins k) lv' nv sv ∧ ∀ i, FR b lv' nv sv i → FR b lv nv sv i ∨ w.heap.size ≤ i) ∧ Fr (fun k => k = b) w w' := by
  have c0 : w.cell? ⟨b, 0, none⟩ = some (.int .i64 s.room) := h.ce 0 (by omega)
  have c1 : w.cell? ⟨b, 1, none⟩ = some ((.slice (some ⟨g, off, none⟩) s.L.length cc)) := h.ce 1 (by omega)
  have lb := h.hd.lt
  have f1 := h.hd.frozen 1
  have HH := Lib.hid h
  have HS := Lib.hid h.hl
  have hlr : decide (s.room ≤ s.L.length) = false := by simp; omega
  have hll : s.L.length ≤ 65535 := by omega
  have KC : Hid (∀ W, Fr NoF w W → W.cell? ⟨b, 1, none⟩ = some ((.slice (some ⟨g, off, none⟩) s.L.length cc)) ∧ W.frozen? ⟨b, 1, none⟩ = false ∧ b < W.heap.size) := fun W f => ⟨(h.fr0 f).ce 1 (by omega), (h.fr0 f).hd.frozen 1, (h.fr0 f).hd.lt⟩
  have hcc : s.L.length ≤ cc ∧ cc ≤ 9223372036854775807 := by
    obtain ⟨a', c', e, q1, q2⟩ := h.hl.shape
    simp only [Value.slice.injEq] at e
    obtain ⟨_, _, rfl⟩ := e
    unfold maxLen at q2
    exact ⟨q1, q2⟩
  have hc1 := hcc.1
  have hc2 := hcc.2
  have lg := h.hl.lt g rfl
  have HFI : Hid (∀ k, k ≤ s.L.length → ∀ W, Fr NoF w W → SlC W 2 (.slice (some ⟨g, off, none⟩) k cc) k (plC (s.L.take k))) := by
    intro k hk W f
    by_cases q : cc = 0
    · subst q
      obtain rfl : k = 0 := by omega
      exact ⟨_, _, rfl, rfl, fun u hu => (by simp [plC] at hu), Nat.le_refl _, by unfold maxLen; omega, .inr ⟨g, off, rfl, Nat.lt_of_lt_of_le lg f.size, fun j u hj => (by simp [plC] at hj)⟩⟩
    · exact SlP.first (h.hl.fr0 f) hk (by omega)
  have HLA : Hid (∀ k, k ≤ s.L.length → k < cc → ∀ W, Fr NoF w W → SlC W 2 (.slice (some ⟨g, off + k * 2, none⟩) (s.L.length - k) (cc - k)) (s.L.length - k) (plC (s.L.drop k))) := fun k hk q W f => SlP.last (h.hl.fr0 f) hk q
  have HLG := Lib.hid lg
  clear hcc lg
  clear h
  go_enter Tryz.func61, Tryz.ntmps61
  go_wp2
  go_region
  go_wp2
  go_loopw [4, 5] (fun i kk wr => ∃ k : Nat, k ≤ s.L.length ∧ i = .int .u32 ((k + 1 : Nat) : Int) ∧ kk = .int .i64 k ∧ wr = w.drew ∧ Hid (∀ j (hj : j < s.L.length), j < k → s.L[j].1 = j + 1)) (fun _ kk _ => s.L.length - (intOf kk).toNat)
  case atStart => exact ⟨0, Nat.zero_le _, rfl, rfl, rfl, fun j _ hj => (by omega)⟩
  case round =>
    obtain ⟨k, hk, rfl, rfl, rfl, HN⟩ := hrel
    by_cases hlt2 : k < s.L.length
    · obtain ⟨b', off', c', ev, _, _, hb, cy, _⟩ := HS.out.at hlt2
      simp only [Value.slice.injEq, Option.some.injEq, Addr.mk.injEq] at ev
      obtain ⟨⟨rfl, rfl, _⟩, _, rfl⟩ := ev
      by_cases he : s.L[k].1 = k + 1
      · have HE := Lib.hid he
        rw [he] at cy
        have hcw : IntKind.u32.wrap ((k : Int) + 1 + 1) = (k : Int) + 1 + 1 := IntWalk.u32_in _ (by omega)
        clear he
        go_wp2
        go_roundw
        case rel =>
          refine ⟨k + 1, by omega, by go_num, by go_num, by first | rfl | trivial, fun j hj hjk => ?_⟩
          by_cases e : j = k
          · subst e; exact HE.out
          · exact HN.out j hj (by omega)
        case measure => simp [intOf]; omega
      · have HE := Lib.hid he
        have hne : ¬ ((s.L[k].1 : Nat) : Int) = (k : Int) + 1 := fun q => he (by omega)
        clear he
        generalize hy : s.L[k].1 = y at cy hne
        have HY := Lib.hid hy
        have hbq : ((y : Int) == (k : Int) + 1) = false := by simpa using hne
        clear hy hne
        have HG : Hid (Gap s.L k) := ⟨hk, HN.out, fun q => HE.out⟩
        have HFK := Lib.hid (HFI.out k hk)
        obtain ⟨AD, hAD, hLA2⟩ : ∃ AD, (if cc = k then some ⟨g, off, none⟩ else some ⟨g, off + k * 2, none⟩) = AD ∧ Hid (∀ W, Fr NoF w W → SlC W 2 (.slice AD (s.L.length - k) (cc - k)) (s.L.length - k) (plC (s.L.drop k))) := by
          by_cases q : cc = k
          · refine ⟨_, rfl, fun W f => ?_⟩
            rw [if_pos q]
            have e1 : s.L.length - k = 0 := by omega
            have e2 : s.L.drop k = [] := List.drop_of_length_le (by omega)
            have e3 : cc - k = 0 := by omega
            rw [e1, e2, e3]
            exact ⟨_, _, rfl, rfl, fun u hu => (by cases hu), Nat.le_refl _, by unfold maxLen; omega, .inr ⟨g, off, rfl, Nat.lt_of_lt_of_le HLG.out f.size, fun j u hj => (by simp [plC] at hj)⟩⟩
          · exact ⟨_, rfl, fun W f => by rw [if_neg q]; exact HLA.out k hk (by omega) W f⟩
        have HOW : Hid (∀ W, Fr NoF w W → ∀ g, g = W.heap.size → (W.alloc (.cells #[] 89)).ownsRow w.heap.size 89 2 (.slice (some ⟨g, 0, none⟩) 0 0) 0 []) := fun W f g q => own_new f.size #[] 89 2 0 _ q rfl (by unfold maxLen; omega)
        have fd : Fr NoF w w.drew := (Fr.refl NoF w).drew
        have HFD := Lib.hid fd
        have hkI : 0 ≤ (k : Int) := by omega
        have hkl : (k : Int) ≤ (s.L.length : Int) := by omega
        have hkc : k ≤ cc := by omega
        have hsb : k + 1 + (s.L.length - k) ≤ 65536 := by omega
        clear fd hb
        go_wp2_with (at_builtin; go_must (refine appLB (base := w.heap.size) EIP rfl _ _ rfl (by rfl) (by rfl) (by simp) (HOW.out _ HFD.out _ rfl) (HFK.out _ (HFD.out.alloc _)) (by unfold maxLen; omega) (by omega) ?_); intro v5 w5 hown5 hf5 hob5; rw [Nat.zero_add, List.nil_append] at hown5; obtain ⟨a5, c5, rfl, _, _⟩ := (SlC.ofOwn hown5 (plC_one _)).shape; have HO5 := Lib.hid hown5; have HF5 := Lib.hid (Fr.trans (F := NoF) (a := w) (HFD.out.alloc _) hf5 (fun i q => .inr (by cases q; exact Nat.le_refl _))); obtain ⟨x1, x2, x3⟩ := KC.out w5 HF5.out; have hs5 := HF5.out.size; clear hown5 hf5 hob5)
        have HNW : Hid (∀ W, Fr NoF (w5.alloc (.cells #[.int .u32 ((k : Int) + 1), .int .u64 0] 89)) W → SlC W 2 (.slice (some ⟨w5.heap.size, 0, none⟩) 1 1) 1 [.int .u32 ((k : Int) + 1), .int .u64 0]) := fun W f => (SlC.ofOwn (own_new (w0 := w5) (Nat.le_refl _) #[.int .u32 ((k : Int) + 1), .int .u64 0] 89 2 1 _ rfl rfl (by unfold maxLen; omega)) (by simp [Value.oneCell'])).keep f
        have HO5K : Hid (∀ W, Fr NoF w5 W → W.ownsRow w.heap.size 89 2 (.slice a5 k c5) k (plC (s.L.take k))) := fun W f => own_keep HO5.out f (fun _ _ q => q)
        go_region_law (first
          | (refine appSB (base := w.heap.size) EIP rfl (.tmp 49) (.tmp 52) rfl (by rfl) (by rfl) (by simp; try omega) (HO5K.out _ (by repeat (first | exact Fr.refl NoF _ | apply Fr.drew | apply Fr.alloc))) (HNW.out _ (by repeat (first | exact Fr.refl NoF _ | apply Fr.drew | apply Fr.alloc))) (by unfold maxLen; omega) (by omega) ?_; intro v6 w6 hown6 hf6 hob6; obtain ⟨a6, c6, rfl, _, _⟩ := (SlC.ofOwn hown6 (fun u hu => by rcases List.mem_append.1 hu with q | q; exact plC_one _ u q; simp at q; rcases q with rfl | rfl <;> rfl)).shape; have HO6 := Lib.hid hown6; have HF6 := Lib.hid (Fr.trans (F := NoF) (a := w) (by repeat (first | exact HF5.out | apply Fr.drew | apply Fr.alloc)) hf6 (fun i q => .inr (ownBlock_own HO5.out i q))); obtain ⟨y1, y2, y3⟩ := KC.out w6 HF6.out; have hs6 := HF6.out.size; clear hown6 hf6 hob6)
          | (refine appSB (base := w.heap.size) EIP rfl (.tmp 53) (.tmp 59) rfl (by rfl) (by rfl) hs6 HO6.out (hLA2.out _ HF6.out) (by unfold maxLen; omega) (by omega) ?_; intro v7 w7 hown7 hf7 hob7; obtain ⟨a7, c7, rfl, _, _⟩ := (SlC.ofOwn hown7 (fun u hu => by rcases List.mem_append.1 hu with q | q; rcases List.mem_append.1 q with q | q; exact plC_one _ u q; simp at q; rcases q with rfl | rfl <;> rfl; exact plC_one _ u q)).shape; have HO7 := Lib.hid hown7; have HF7 := Lib.hid (HF6.out.trans hf7 (fun i q => .inr (ownBlock_own HO6.out i q))); obtain ⟨z1, z2, z3⟩ := KC.out w7 HF7.out; clear hown7 hf7 hob7))
        all_goals
          go_wp2
          go_returns
          obtain ⟨r1, r2⟩ := HH.out.insL HG.out.le (by omega) HO7.out HF7.out
          exact ⟨k, HG.out, rfl, ⟨_, r1, FR.l (fun i q => .inr (ownBlock_own HO7.out i q))⟩, r2⟩
    · have hge : decide (k < s.L.length) = false := by simpa using hlt2
      have HG : Hid (Gap s.L k) := ⟨hk, HN.out, fun q => absurd q hlt2⟩
      have HFK := Lib.hid (HFI.out k hk)
      obtain ⟨AD, hAD, hLA2⟩ : ∃ AD, (if cc = k then some ⟨g, off, none⟩ else some ⟨g, off + k * 2, none⟩) = AD ∧ Hid (∀ W, Fr NoF w W → SlC W 2 (.slice AD (s.L.length - k) (cc - k)) (s.L.length - k) (plC (s.L.drop k))) := by
        by_cases q : cc = k
        · refine ⟨_, rfl, fun W f => ?_⟩
          rw [if_pos q]
          have e1 : s.L.length - k = 0 := by omega
          have e2 : s.L.drop k = [] := List.drop_of_length_le (by omega)
          have e3 : cc - k = 0 := by omega
          rw [e1, e2, e3]
          exact ⟨_, _, rfl, rfl, fun u hu => (by cases hu), Nat.le_refl _, by unfold maxLen; omega, .inr ⟨g, off, rfl, Nat.lt_of_lt_of_le HLG.out f.size, fun j u hj => (by simp [plC] at hj)⟩⟩
        · exact ⟨_, rfl, fun W f => by rw [if_neg q]; exact HLA.out k hk (by omega) W f⟩
      have HOW : Hid (∀ W, Fr NoF w W → ∀ g, g = W.heap.size → (W.alloc (.cells #[] 89)).ownsRow w.heap.size 89 2 (.slice (some ⟨g, 0, none⟩) 0 0) 0 []) := fun W f g q => own_new f.size #[] 89 2 0 _ q rfl (by unfold maxLen; omega)
      have fd : Fr NoF w w.drew := (Fr.refl NoF w).drew
      have HFD := Lib.hid fd
      have hkI : 0 ≤ (k : Int) := by omega
      have hkl : (k : Int) ≤ (s.L.length : Int) := by omega
      have hkc : k ≤ cc := by omega
      have hsb : k + 1 + (s.L.length - k) ≤ 65536 := by omega
      clear fd hlt2
      go_wp2_with (at_builtin; go_must (refine appLB (base := w.heap.size) EIP rfl _ _ rfl (by rfl) (by rfl) (by simp) (HOW.out _ HFD.out _ rfl) (HFK.out _ (HFD.out.alloc _)) (by unfold maxLen; omega) (by omega) ?_); intro v5 w5 hown5 hf5 hob5; rw [Nat.zero_add, List.nil_append] at hown5; obtain ⟨a5, c5, rfl, _, _⟩ := (SlC.ofOwn hown5 (plC_one _)).shape; have HO5 := Lib.hid hown5; have HF5 := Lib.hid (Fr.trans (F := NoF) (a := w) (HFD.out.alloc _) hf5 (fun i q => .inr (by cases q; exact Nat.le_refl _))); obtain ⟨x1, x2, x3⟩ := KC.out w5 HF5.out; have hs5 := HF5.out.size; clear hown5 hf5 hob5)
      have HNW : Hid (∀ W, Fr NoF (w5.alloc (.cells #[.int .u32 ((k : Int) + 1), .int .u64 0] 89)) W → SlC W 2 (.slice (some ⟨w5.heap.size, 0, none⟩) 1 1) 1 [.int .u32 ((k : Int) + 1), .int .u64 0]) := fun W f => (SlC.ofOwn (own_new (w0 := w5) (Nat.le_refl _) #[.int .u32 ((k : Int) + 1), .int .u64 0] 89 2 1 _ rfl rfl (by unfold maxLen; omega)) (by simp [Value.oneCell'])).keep f
      have HO5K : Hid (∀ W, Fr NoF w5 W → W.ownsRow w.heap.size 89 2 (.slice a5 k c5) k (plC (s.L.take k))) := fun W f => own_keep HO5.out f (fun _ _ q => q)
      go_region_law (first
        | (refine appSB (base := w.heap.size) EIP rfl (.tmp 49) (.tmp 52) rfl (by rfl) (by rfl) (by simp; try omega) (HO5K.out _ (by repeat (first | exact Fr.refl NoF _ | apply Fr.drew | apply Fr.alloc))) (HNW.out _ (by repeat (first | exact Fr.refl NoF _ | apply Fr.drew | apply Fr.alloc))) (by unfold maxLen; omega) (by omega) ?_; intro v6 w6 hown6 hf6 hob6; obtain ⟨a6, c6, rfl, _, _⟩ := (SlC.ofOwn hown6 (fun u hu => by rcases List.mem_append.1 hu with q | q; exact plC_one _ u q; simp at q; rcases q with rfl | rfl <;> rfl)).shape; have HO6 := Lib.hid hown6; have HF6 := Lib.hid (Fr.trans (F := NoF) (a := w) (by repeat (first | exact HF5.out | apply Fr.drew | apply Fr.alloc)) hf6 (fun i q => .inr (ownBlock_own HO5.out i q))); obtain ⟨y1, y2, y3⟩ := KC.out w6 HF6.out; have hs6 := HF6.out.size; clear hown6 hf6 hob6)
        | (refine appSB (base := w.heap.size) EIP rfl (.tmp 53) (.tmp 59) rfl (by rfl) (by rfl) hs6 HO6.out (hLA2.out _ HF6.out) (by unfold maxLen; omega) (by omega) ?_; intro v7 w7 hown7 hf7 hob7; obtain ⟨a7, c7, rfl, _, _⟩ := (SlC.ofOwn hown7 (fun u hu => by rcases List.mem_append.1 hu with q | q; rcases List.mem_append.1 q with q | q; exact plC_one _ u q; simp at q; rcases q with rfl | rfl <;> rfl; exact plC_one _ u q)).shape; have HO7 := Lib.hid hown7; have HF7 := Lib.hid (HF6.out.trans hf7 (fun i q => .inr (ownBlock_own HO6.out i q))); obtain ⟨z1, z2, z3⟩ := KC.out w7 HF7.out; clear hown7 hf7 hob7))
      all_goals
        go_wp2
        go_returns
        obtain ⟨r1, r2⟩ := HH.out.insL HG.out.le (by omega) HO7.out HF7.out
        exact ⟨k, HG.out, rfl, ⟨_, r1, FR.l (fun i q => .inr (ownBlock_own HO7.out i q))⟩, r2⟩
end
end Go.Proofs.YtnideelidfpicaaGreatDoor

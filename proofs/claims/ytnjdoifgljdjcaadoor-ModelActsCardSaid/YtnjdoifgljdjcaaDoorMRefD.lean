/-
  The document's own Model in memory: Do of a Delete that deletes.
-/
import Derived.Test.YtnjdoifgljdjcaaDoorMRefC
namespace Go.Proofs.YtnjdoifgljdjcaaDoor
open Go.RowKit
set_option linter.unusedVariables false

section
variable {w w0 w' : World} {r n room : Nat} {l : List Pg} {lv v : Value}
theorem RG.cut (h : RG w r n room l lv) {k : Nat} (hk : k < l.length) {v6 : Value} {w6 : World} (ho : w6.ownsRow w.heap.size 49 3 v6 (k + (l.length - (k + 1))) (gC (l.take k) ++ gC (l.drop (k + 1)))) (f : Fr NoF w w6) :
    RG (w6.setCell ⟨r, 2, none⟩ v6) r n room (l.take k ++ l.drop (k + 1)) v6 ∧ Fr (fun i => i = r) w (w6.setCell ⟨r, 2, none⟩ v6) := by
  have hlen : (l.take k ++ l.drop (k + 1)).length = k + (l.length - (k + 1)) := by rw [List.length_append, List.length_take, List.length_drop]; omega
  rw [← gC_app] at ho
  have hb := h.b1.1
  exact h.setL hlen.symm ho f (by rw [hlen]; omega) (fun p hp => by
    rcases List.mem_append.1 hp with q | q
    · exact h.ok p (List.mem_of_mem_take q)
    · exact h.ok p (List.mem_of_mem_drop q))
set_option maxHeartbeats 4000000 in
theorem rdo_7_yes (h : RG w r n room l lv) {id k : Nat} {x : Int} (hat : atG l id = some k) (hk : k < l.length) (hp : l[k].pins = 0) : Calls Tryd.prog 10 #[.pointer (some ⟨r, 0, none⟩), .agg #[.int .i64 7, .int .u32 id, .int .u64 x]] w fun e w' => e = .returned (.agg #[.int .i64 0, .int .u32 0, .int .u64 0]) ∧ (∃ lv', RG w' r n room (l.take k ++ l.drop (k + 1)) lv' ∧ ∀ i, GFr r lv' i → GFr r lv i ∨ w.heap.size ≤ i) ∧ Fr (fun k => k = r) w w' := by
  have fA : Fr NoF w ((w.alloc (.cells #[.int .i64 7, .int .u32 id, .int .u64 x] 43)).alloc (.cells #[.int .i64 0, .int .u32 0, .int .u64 0] 35)) := ((Fr.refl NoF w).alloc _).alloc _
  have HAT := atG_calls (h.fr0 fA) id
  rw [hat] at HAT
  unfold atGZ at HAT
  have HA2 := Lib.hid HAT
  have hll := h.b1.1
  have hbo : Blk ((w.alloc (.cells #[.int .i64 7, .int .u32 id, .int .u64 x] 43)).alloc (.cells #[.int .i64 0, .int .u32 0, .int .u64 0] 35)) w.heap.size 3 (fun i => if i = 0 then .int .i64 7 else if i = 1 then .int .u32 id else .int .u64 x) := (blk_three w _ _ _).alloc _
  have hba := blk_three' w (.int .i64 7) (.int .u32 id) (.int .u64 x) (.int .i64 0) (.int .u32 0) (.int .u64 0) (t := 35) (t' := 43)
  have hsa : w.heap.size + 1 < ((w.alloc (.cells #[.int .i64 7, .int .u32 id, .int .u64 x] 43)).alloc (.cells #[.int .i64 0, .int .u32 0, .int .u64 0] 35)).heap.size := by simp
  have HFA := Lib.hid fA
  have lbw := h.hd.lt
  have ha := h.fr0 fA
  clear h HAT hat fA
  go_enter Tryd.func10, Tryd.ntmps10
  go_wp2_with fail
  refine HA2.out.mono ?_
  rintro e w1 ⟨rfl, rfl⟩
  have hsb : w.heap.size < w.heap.size + 1 := by omega
  generalize ((w.alloc (.cells #[.int .i64 7, .int .u32 id, .int .u64 x] 43)).alloc (.cells #[.int .i64 0, .int .u32 0, .int .u64 0] 35)) = wa at *
  generalize hrb1 : w.heap.size + 1 = rb at *
  generalize hob : w.heap.size = ob at *
  have HOB := Lib.hid (And.intro hob hrb1)
  clear hob hrb1 HA2
  have o0 : wa.cell? ⟨ob, 0, none⟩ = some (.int .i64 7) := hbo.cell (i := 0) (by omega)
  have lo := hbo.lt
  have HRB := Lib.hid hba
  have c2 := ha.c2
  have lb := ha.hd.lt
  have f2 := ha.hd.frozen 2
  obtain ⟨g, cc, rfl, p1, p2, lg, y0, y1, y2, yf⟩ := ha.at hk
  rw [hp] at y2
  have hgr : ¬ g = r := ha.nb g rfl
  have HFI : Hid (∀ W, Fr NoF wa W → SlC W 3 (.slice (some ⟨g, 0, none⟩) k cc) k (gC (l.take k))) := fun W f => slc_first (ha.slc.keep f) (by omega) (by omega)
  have HLA : Hid (k + 1 < cc → ∀ W, Fr NoF wa W → SlC W 3 (.slice (some ⟨g, 0 + (k + 1) * 3, none⟩) (l.length - (k + 1)) (cc - (k + 1))) (l.length - (k + 1)) (gC (l.drop (k + 1)))) := fun q W f => slc_last (ha.slc.keep f) (by omega) q
  have HH := Lib.hid ha
  obtain ⟨AD, hAD, hLA2⟩ : ∃ AD, (if cc = k + 1 then some ⟨g, 0, none⟩ else some ⟨g, (k + 1) * 3, none⟩) = AD ∧ Hid (∀ W, Fr NoF wa W → SlC W 3 (.slice AD (l.length - (k + 1)) (cc - (k + 1))) (l.length - (k + 1)) (gC (l.drop (k + 1)))) := by
    by_cases q : cc = k + 1
    · refine ⟨_, rfl, fun W f => ?_⟩
      rw [if_pos q]
      have e1 : l.length - (k + 1) = 0 := by omega
      have e2 : l.drop (k + 1) = [] := List.drop_of_length_le (by omega)
      have e3 : cc - (k + 1) = 0 := by omega
      rw [e1, e2, e3]
      exact ⟨_, _, rfl, rfl, fun u hu => (by cases hu), Nat.le_refl _, by unfold maxLen; omega, .inr ⟨g, 0, rfl, Nat.lt_of_lt_of_le lg f.size, fun j u hj => (by simp [gC] at hj)⟩⟩
    · refine ⟨_, rfl, fun W f => ?_⟩
      rw [if_neg q]
      have := HLA.out (by omega) W f
      rw [Nat.zero_add] at this
      exact this
  have HOW : Hid (∀ W, Fr NoF (wa.alloc (.cells #[] 49)) W → W.ownsRow wa.heap.size 49 3 (.slice (some ⟨wa.heap.size, 0, none⟩) 0 0) 0 []) := fun W f => own_keep (own_new (w0 := wa) (Nat.le_refl _) #[] 49 3 0 _ rfl rfl (by unfold maxLen; omega)) f (fun _ _ q => q)
  have KC : Hid (∀ W, Fr NoF wa W → W.cell? ⟨r, 2, none⟩ = some (.slice (some ⟨g, 0, none⟩) l.length cc) ∧ W.frozen? ⟨r, 2, none⟩ = false ∧ r < W.heap.size) := fun W f => ⟨(ha.fr0 f).c2, (ha.fr0 f).hd.frozen 2, (ha.fr0 f).hd.lt⟩
  have hkc : k ≤ cc := by omega
  have hk1 : k + 1 ≤ l.length := hk
  have hk2 : k + 1 ≤ cc := by omega
  have hki1 : 0 ≤ (k : Int) + 1 := by omega
  have hki2 : (k : Int) + 1 ≤ (l.length : Int) := by omega
  have hkw : IntKind.i64.wrap ((k : Int) + 1) = ((k + 1 : Nat) : Int) := IntWalk.i64_in _ (by omega)
  clear ha hbo hba HLA hp yf
  go_wp2
  go_region_law (first
    | (refine appSB (base := wa.heap.size) EIG rfl (.tmp 112) (.tmp 118) rfl (by rfl) (by rfl) (by simp; try omega) (HOW.out _ (by repeat (first | exact Fr.refl NoF _ | apply Fr.drew | apply Fr.alloc))) (HFI.out _ (by repeat (first | exact Fr.refl NoF _ | apply Fr.drew | apply Fr.alloc))) (by unfold maxLen; omega) (by omega) ?_; intro v5 w5 hown5 hf5 hob5; rw [Nat.zero_add, List.nil_append] at hown5; obtain ⟨a5, c5, rfl, _, _⟩ := (SlC.ofOwn hown5 (gC_one _)).shape; have HO5 := Lib.hid hown5; have HF5 : Hid (Fr NoF wa w5) := Fr.trans (F := NoF) (a := wa) (by repeat (first | exact Fr.refl NoF _ | apply Fr.drew | apply Fr.alloc)) hf5 (fun i q => .inr (by cases q; exact Nat.le_refl _)); obtain ⟨x1, x2, x3⟩ := KC.out w5 HF5.out; have hs5 := HF5.out.size; clear hown5 hf5 hob5)
    | (refine appSB (base := wa.heap.size) EIG rfl (.tmp 119) (.tmp 126) rfl (by rfl) (by rfl) hs5 HO5.out (hLA2.out _ HF5.out) (by unfold maxLen; omega) (by omega) ?_; intro v7 w7 hown6 hf6 hob6; obtain ⟨a7, c7, rfl, _, _⟩ := (SlC.ofOwn hown6 (fun u hu => by rcases List.mem_append.1 hu with q | q <;> exact gC_one _ u q)).shape; have HO7 := Lib.hid hown6; have HF7 := Lib.hid (HF5.out.trans hf6 (fun i q => .inr (ownBlock_own HO5.out i q))); obtain ⟨z1, z2, z3⟩ := KC.out w7 HF7.out; clear hown6 hf6 hob6))
  all_goals
    have RB7 := HRB.out.fr HF7.out (fun q => q)
    have t0 : w7.cell? ⟨rb, 0, none⟩ = some (.int .i64 0) := RB7.cell (i := 0) (by omega)
    have t1 : w7.cell? ⟨rb, 1, none⟩ = some (.int .u32 0) := RB7.cell (i := 1) (by omega)
    have t2 : w7.cell? ⟨rb, 2, none⟩ = some (.int .u64 0) := RB7.cell (i := 2) (by omega)
    have g0 := RB7.frozen 0
    have g1 := RB7.frozen 1
    have g2 := RB7.frozen 2
    have lr := RB7.lt
    have HRB7 := Lib.hid RB7
    have hne : ¬ rb = r := by omega
    have hne2 : ¬ r = rb := by omega
    clear RB7
    go_wp2
    obtain ⟨r1, r2⟩ := HH.out.cut hk HO7.out HF7.out
    have RB := HRB7.out.other (a := ⟨r, 2, none⟩) hne (.slice a7 (k + (l.length - (k + 1))) c7)
    have RS := ((RB.set 0 (.int .i64 0)).set 1 (.int .u32 0)).set 2 (.int .u64 0)
    have FS := (((Fr.refl (fun i => i = rb) (w7.setCell ⟨r, 2, none⟩ (.slice a7 (k + (l.length - (k + 1))) c7))).setCell (p := ⟨rb, 0, none⟩) (.inl rfl) (.int .i64 0)).setCell (p := ⟨rb, 1, none⟩) (.inl rfl) (.int .u32 0)).setCell (p := ⟨rb, 2, none⟩) (.inl rfl) (.int .u64 0)
    have hov := ownBlock_own HO7.out
    have hw0 := HOB.out
    (try simp only [Exit.inBlock, Exit.then])
    refine bodyPost_ret (results_blk Tryd.results10 _ _ RS rfl Tryd.underlying35 rfl (by kernel_rfl)) rfl ?_
    refine ⟨rfl, ⟨_, r1.fr FS (fun i q e => ?_), fun i q => ?_⟩, ((HFA.out.mono (fun _ q => q.elim)).trans r2 (fun i q => .inl q)).trans FS (fun i q => .inr (by omega))⟩
    · rcases q with q | q
      · omega
      · have := hov i q; omega
    · rcases q with q | q
      · exact .inl (.inl q)
      · right; have := hov i q; omega
end
end Go.Proofs.YtnjdoifgljdjcaaDoor

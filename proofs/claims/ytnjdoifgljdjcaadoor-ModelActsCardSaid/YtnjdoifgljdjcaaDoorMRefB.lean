/-
  The document's own Model in memory: fresh.
-/
import Derived.Test.YtnjdoifgljdjcaaDoorMRefA
import Derived.Test.YtnjdoifgljdjcaaDoorModE
import Derived.RegionTactic
import Derived.Deep.RegionLaw
import Derived.BigRegion
namespace Go.Proofs.YtnjdoifgljdjcaaDoor
open Go.RowKit
set_option linter.unusedVariables false

/-- A page comes at place k, by the id k + 1. -/
def insG (l : List Pg) (k : Nat) : List Pg := l.take k ++ [⟨k + 1, 0, 1⟩] ++ l.drop k
/-- Place k is the first one whose page has another id than the place says. -/
structure GapG (l : List Pg) (k : Nat) : Prop where
  le : k ≤ l.length
  all : ∀ j (hj : j < l.length), j < k → l[j].id = j + 1
  not : ∀ hk : k < l.length, ¬ l[k].id = k + 1
section
variable {w w0 w' : World} {r n room : Nat} {l : List Pg} {lv v : Value}
theorem own_pages {v : Value} {w : World} {l : List Pg} {base n : Nat} (hn : n = l.length) (h : w.ownsRow base 49 3 v n (gC l)) : SlF w 49 3 v l.length (gF l) := by
  subst hn
  unfold SlF
  rw [gF_list]
  obtain ⟨o1, o2⟩ := h
  refine ⟨o1, o2.imp _root_.id ?_⟩
  rintro ⟨g, cap, cur, e1, hg, r⟩
  exact ⟨g, cap, cur, e1, Nat.zero_le _, r⟩
theorem RG.slc (h : RG w r n room l lv) : SlC w 3 lv l.length (gC l) := by
  have h1 : w.ownsRow 0 49 3 lv l.length (gC l) := by have := h.hl; unfold SlF at this; rw [gF_list] at this; exact this
  exact SlC.ofOwn h1 (gC_one l)
theorem slc_first {g off c : Nat} {l : List Pg} (h : SlC w 3 (.slice (some ⟨g, off, none⟩) l.length c) l.length (gC l)) {k : Nat} (hk : k ≤ l.length) (hc : 0 < c) : SlC w 3 (.slice (some ⟨g, off, none⟩) k c) k (gC (l.take k)) := by
  obtain ⟨b', o', e, h1⟩ := SlC.cut (lo := 0) (hi := k) h (by omega) hk rfl hc
  simp only [Option.some.injEq, Addr.mk.injEq] at e
  obtain ⟨rfl, rfl, _⟩ := e
  simp only [Nat.zero_mul, Nat.add_zero, Nat.sub_zero, List.drop_zero] at h1
  rw [gC_take] at h1
  exact h1
theorem slc_last {g off c : Nat} {l : List Pg} (h : SlC w 3 (.slice (some ⟨g, off, none⟩) l.length c) l.length (gC l)) {k : Nat} (hk : k ≤ l.length) (hc : k < c) : SlC w 3 (.slice (some ⟨g, off + k * 3, none⟩) (l.length - k) (c - k)) (l.length - k) (gC (l.drop k)) := by
  obtain ⟨b', o', e, h1⟩ := SlC.cut (lo := k) (hi := l.length) h hk (Nat.le_refl _) rfl hc
  simp only [Option.some.injEq, Addr.mk.injEq] at e
  obtain ⟨rfl, rfl, _⟩ := e
  rw [gC_drop, List.take_of_length_le (by rw [gC_len, List.length_drop]; omega)] at h1
  exact h1
/-- The pages are others: in a slice of the call's own. -/
theorem RG.setL (h : RG w r n room l lv) {l' : List Pg} {v6 : Value} {w6 : World} {m : Nat} (hm : m = l'.length) (ho : w6.ownsRow w.heap.size 49 3 v6 m (gC l')) (f : Fr NoF w w6) (hl : l'.length ≤ 65535) (hok : ∀ p ∈ l', okId p.id ∧ okV p.v ∧ p.pins < 1000000) :
    RG (w6.setCell ⟨r, 2, none⟩ v6) r n room l' v6 ∧ Fr (fun i => i = r) w (w6.setCell ⟨r, 2, none⟩ v6) := by
  have hob := ownBlock_own ho
  have hlt := h.hd.lt
  have hs := own_pages hm ho
  have h6 := h.fr0 f
  have f6 : Fr (fun i => i = r) w6 (w6.setCell ⟨r, 2, none⟩ v6) := (Fr.refl (fun i => i = r) w6).setCell (p := ⟨r, 2, none⟩) (.inl rfl) _
  refine ⟨⟨(h6.hd.set 2 v6).congr (fun i hi => ?_), hs.fr f6 (fun b q e => by have := hob b q; omega), fun i q => by have := hob i q; omega, ⟨hl, h.b1.2⟩, hok⟩, (f.mono (fun _ q => q.elim)).trans f6 (fun i q => .inl q)⟩
  match i, hi with
  | 0, _ => rfl
  | 1, _ => rfl
  | 2, _ => rfl
theorem insG_len (l : List Pg) {k : Nat} (hk : k ≤ l.length) : (insG l k).length = l.length + 1 := by unfold insG; simp; omega
theorem insG_ok {l : List Pg} {k : Nat} (h : ∀ p ∈ l, okId p.id ∧ okV p.v ∧ p.pins < 1000000) (hk : k ≤ 65535) : ∀ p ∈ insG l k, okId p.id ∧ okV p.v ∧ p.pins < 1000000 := by
  intro p hp
  unfold insG at hp
  rcases List.mem_append.1 hp with q | q
  · rcases List.mem_append.1 q with q | q
    · exact h p (List.mem_of_mem_take q)
    · simp at q; subst q; exact ⟨by unfold okId; show k + 1 < _; omega, by unfold okV; show 0 < _; omega, by show 1 < 1000000; omega⟩
  · exact h p (List.mem_of_mem_drop q)
theorem RG.ins (h : RG w r n room l lv) {k : Nat} (hk : k ≤ l.length) (hb2 : l.length + 1 ≤ 65535) {v6 : Value} {w6 : World} (ho : w6.ownsRow w.heap.size 49 3 v6 (k + 1 + (l.length - k)) ((gC (l.take k) ++ [.int .u32 ((k : Int) + 1), .int .u64 0, .int .i64 1]) ++ gC (l.drop k))) (f : Fr NoF w w6) :
    RG (w6.setCell ⟨r, 2, none⟩ v6) r n room (insG l k) v6 ∧ Fr (fun i => i = r) w (w6.setCell ⟨r, 2, none⟩ v6) := by
  have e : ((gC (l.take k) ++ [.int .u32 ((k : Int) + 1), .int .u64 0, .int .i64 1]) ++ gC (l.drop k)) = gC (insG l k) := by unfold insG; rw [gC_app, gC_app]; rfl
  rw [e] at ho
  exact h.setL (by rw [insG_len l hk]; omega) ho f (by rw [insG_len l hk]; omega) (insG_ok h.ok (by omega))
abbrev ansN : Obj := .cells #[.int .i64 0, .int .u32 0, .int .u64 0] 35
set_option maxHeartbeats 1000000 in
theorem fresh_noframe (h : RG w r n room l lv) (hf : n ≤ pinL l) : Calls Tryd.prog 21 #[.pointer (some ⟨r, 0, none⟩)] w fun e w' => e = .returned (.agg #[.int .i64 6, .int .u32 0, .int .u64 0]) ∧ Fr NoF w w' := by
  have HFU := Lib.hid (full_calls' (h.fr0 ((Fr.refl NoF w).alloc (.cells #[.int .i64 0, .int .u32 0, .int .u64 0] 35))))
  rw [show decide (n ≤ pinL l) = true from by simpa using hf] at HFU
  clear h hf
  go_enter Tryd.func21, Tryd.ntmps21
  go_wp2_with fail
  refine HFU.out.mono ?_
  rintro e w1 ⟨rfl, rfl⟩
  go_wp2
  (try simp only [Exit.inBlock, Exit.then])
  refine bodyPost_ret (results_blk Tryd.results21 _ _ (blk_three w _ _ _) rfl Tryd.underlying35 rfl (by kernel_rfl)) rfl ?_
  exact ⟨rfl, (Fr.refl NoF w).alloc _⟩
set_option maxHeartbeats 1000000 in
theorem fresh_full (h : RG w r n room l lv) (hf : ¬ n ≤ pinL l) (hr : room ≤ l.length) : Calls Tryd.prog 21 #[.pointer (some ⟨r, 0, none⟩)] w fun e w' => e = .returned (.agg #[.int .i64 2, .int .u32 0, .int .u64 0]) ∧ Fr NoF w w' := by
  have HFU := Lib.hid (full_calls' (h.fr0 ((Fr.refl NoF w).alloc (.cells #[.int .i64 0, .int .u32 0, .int .u64 0] 35))))
  rw [show decide (n ≤ pinL l) = false from by simpa using hf] at HFU
  have c1 := h.c1
  have c2 := h.c2
  have lr := h.hd.lt
  obtain ⟨va, vc, rfl, _, _⟩ := h.hl.shape
  have hd : decide (room ≤ l.length) = true := by simpa using hr
  clear h hf
  go_enter Tryd.func21, Tryd.ntmps21
  go_wp2_with fail
  refine HFU.out.mono ?_
  rintro e w1 ⟨rfl, rfl⟩
  go_wp2
  go_region
  go_wp2
  (try simp only [Exit.inBlock, Exit.then])
  refine bodyPost_ret (results_blk Tryd.results21 _ _ (blk_three w _ _ _).drew rfl Tryd.underlying35 rfl (by kernel_rfl)) rfl ?_
  exact ⟨rfl, ((Fr.refl NoF w).alloc _).drew⟩
theorem slc_at {w : World} {v : Value} {l : List Pg} (h : SlC w 3 v l.length (gC l)) {k : Nat} (hk : k < l.length) : ∃ b off c, v = .slice (some ⟨b, off, none⟩) l.length c ∧ l.length ≤ c ∧ c ≤ maxLen ∧ b < w.heap.size ∧ w.cell? ⟨b, off + k * 3, none⟩ = some (.int .u32 (l[k].id : Nat)) := by
  obtain ⟨b, off, c, e, h1, h2, h3, h4⟩ := SlC.at h hk (by omega)
  exact ⟨b, off, c, e, h1, h2, h3, h4 _ _ (gC_at l hk).1⟩
set_option maxHeartbeats 4000000 in
theorem fresh_some {g off cc : Nat} (h : RG w r n room l (.slice (some ⟨g, off, none⟩) l.length cc)) (hf : ¬ n ≤ pinL l) (hr : l.length < room) : Calls Tryd.prog 21 #[.pointer (some ⟨r, 0, none⟩)] w fun e w' => ∃ k, GapG l k ∧ e = .returned (.agg #[.int .i64 0, .int .u32 (k + 1 : Nat), .int .u64 0]) ∧ (∃ lv', RG w' r n room (insG l k) lv' ∧ ∀ i, GFr r lv' i → GFr r (.slice (some ⟨g, off, none⟩) l.length cc) i ∨ w.heap.size ≤ i) ∧ Fr (fun k => k = r) w w' := by
  have fA : Fr NoF w (w.alloc (.cells #[.int .i64 0, .int .u32 0, .int .u64 0] 35)) := (Fr.refl NoF w).alloc _
  have HFU := Lib.hid (full_calls' (h.fr0 fA))
  rw [show decide (n ≤ pinL l) = false from by simpa using hf] at HFU
  have ha := h.fr0 fA
  have hbb := h.b1
  have hlr : decide (room ≤ l.length) = false := by simp; omega
  have hll : l.length ≤ 65535 := by omega
  have hrm : room ≤ 65535 := hbb.2.2
  have HRB := Lib.hid (blk_three w (.int .i64 0) (.int .u32 0) (.int .u64 0) (t := 35))
  have HFA := Lib.hid fA
  have hsa : w.heap.size < (w.alloc (.cells #[.int .i64 0, .int .u32 0, .int .u64 0] 35)).heap.size := by simp
  have HRN := Lib.hid (h.lt r (.inl rfl))
  have lbw := h.hd.lt
  have KG : Hid (∀ i, GFr r (.slice (some ⟨g, off, none⟩) l.length cc) i → i < w.heap.size) := h.lt
  clear h hf fA
  go_enter Tryd.func21, Tryd.ntmps21
  go_wp2_with fail
  refine HFU.out.mono ?_
  clear HFU
  rintro e w1 ⟨rfl, rfl⟩
  generalize (w.alloc (.cells #[.int .i64 0, .int .u32 0, .int .u64 0] 35)) = wa at *
  generalize hrb : w.heap.size = rb at *
  have HRB0 := Lib.hid hrb
  clear hrb
  have c1 := ha.c1
  have c2 := ha.c2
  have lb := ha.hd.lt
  have f2 := ha.hd.frozen 2
  have HH := Lib.hid ha
  have HS := Lib.hid ha.slc
  have KC : Hid (∀ W, Fr NoF wa W → W.cell? ⟨r, 2, none⟩ = some (.slice (some ⟨g, off, none⟩) l.length cc) ∧ W.frozen? ⟨r, 2, none⟩ = false ∧ r < W.heap.size) := fun W f => ⟨(ha.fr0 f).c2, (ha.fr0 f).hd.frozen 2, (ha.fr0 f).hd.lt⟩
  have hcc : l.length ≤ cc ∧ cc ≤ 9223372036854775807 := by
    obtain ⟨a', c', e, q1, q2⟩ := ha.hl.shape
    simp only [Value.slice.injEq] at e
    obtain ⟨_, _, rfl⟩ := e
    unfold maxLen at q2
    exact ⟨q1, q2⟩
  have hc1 := hcc.1
  have hc2 := hcc.2
  have lg := ha.hl.lt g rfl
  have HFI : Hid (∀ k, k ≤ l.length → ∀ W, Fr NoF wa W → SlC W 3 (.slice (some ⟨g, off, none⟩) k cc) k (gC (l.take k))) := by
    intro k hk W f
    by_cases q : cc = 0
    · subst q
      obtain rfl : k = 0 := by omega
      exact ⟨_, _, rfl, rfl, fun u hu => (by simp [gC] at hu), Nat.le_refl _, by unfold maxLen; omega, .inr ⟨g, off, rfl, Nat.lt_of_lt_of_le lg f.size, fun j u hj => (by simp [gC] at hj)⟩⟩
    · exact slc_first (HS.out.keep f) hk (by omega)
  have HLA : Hid (∀ k, k ≤ l.length → k < cc → ∀ W, Fr NoF wa W → SlC W 3 (.slice (some ⟨g, off + k * 3, none⟩) (l.length - k) (cc - k)) (l.length - k) (gC (l.drop k))) := fun k hk q W f => slc_last (HS.out.keep f) hk q
  have HLG := Lib.hid lg
  clear hcc lg hbb ha
  go_wp2
  go_region
  go_wp2
  go_loopw [3, 4] (fun kk i wr => ∃ k : Nat, k ≤ l.length ∧ i = .int .u32 ((k + 1 : Nat) : Int) ∧ kk = .int .i64 k ∧ wr = wa.drew ∧ Hid (∀ j (hj : j < l.length), j < k → l[j].id = j + 1)) (fun kk _ _ => l.length - (intOf kk).toNat)
  case atStart => exact ⟨0, Nat.zero_le _, rfl, rfl, rfl, fun j _ hj => (by omega)⟩
  case round =>
    obtain ⟨k, hk, rfl, rfl, rfl, HN⟩ := hrel
    by_cases hlt2 : k < l.length
    · obtain ⟨b', off', c', ev, _, _, hb, cy⟩ := slc_at HS.out hlt2
      simp only [Value.slice.injEq, Option.some.injEq, Addr.mk.injEq] at ev
      obtain ⟨⟨rfl, rfl, _⟩, _, rfl⟩ := ev
      by_cases he : l[k].id = k + 1
      · have HE := Lib.hid he
        rw [he] at cy
        have hcw : IntKind.u32.wrap ((k : Int) + 1 + 1) = (k : Int) + 1 + 1 := IntWalk.u32_in _ (by omega)
        clear he
        go_wp2
        go_roundw
        case rel =>
          refine ⟨k + 1, by omega, by go_num, by go_num, by first | rfl | trivial, fun j hj hjk => ?_⟩
          by_cases e : j = k
          · subst e; exact HE.out
          · exact HN.out j hj (by omega)
        case measure => simp [intOf] <;> omega
      · have HE := Lib.hid he
        have hne : ¬ ((l[k].id : Nat) : Int) = (k : Int) + 1 := fun q => he (by omega)
        clear he
        generalize hy : l[k].id = y at cy hne
        have HY := Lib.hid hy
        have hbq : ((y : Int) == (k : Int) + 1) = false := by simpa using hne
        clear hy hne
        have HG : Hid (GapG l k) := ⟨hk, HN.out, fun q => HE.out⟩
        have HFK := Lib.hid (HFI.out k hk)
        obtain ⟨AD, hAD, hLA2⟩ : ∃ AD, (if cc = k then some ⟨g, off, none⟩ else some ⟨g, off + k * 3, none⟩) = AD ∧ Hid (∀ W, Fr NoF wa W → SlC W 3 (.slice AD (l.length - k) (cc - k)) (l.length - k) (gC (l.drop k))) := by
          by_cases q : cc = k
          · refine ⟨_, rfl, fun W f => ?_⟩
            rw [if_pos q]
            have e1 : l.length - k = 0 := by omega
            have e2 : l.drop k = [] := List.drop_of_length_le (by omega)
            have e3 : cc - k = 0 := by omega
            rw [e1, e2, e3]
            exact ⟨_, _, rfl, rfl, fun u hu => (by cases hu), Nat.le_refl _, by unfold maxLen; omega, .inr ⟨g, off, rfl, Nat.lt_of_lt_of_le HLG.out f.size, fun j u hj => (by simp [gC] at hj)⟩⟩
          · exact ⟨_, rfl, fun W f => by rw [if_neg q]; exact HLA.out k hk (by omega) W f⟩
        have HOW : Hid (∀ W, Fr NoF wa W → ∀ g, g = W.heap.size → (W.alloc (.cells #[] 49)).ownsRow wa.heap.size 49 3 (.slice (some ⟨g, 0, none⟩) 0 0) 0 []) := fun W f g q => own_new f.size #[] 49 3 0 _ q rfl (by unfold maxLen; omega)
        have fd : Fr NoF wa wa.drew := (Fr.refl NoF wa).drew
        have HFD := Lib.hid fd
        have hkI : 0 ≤ (k : Int) := by omega
        have hkl : (k : Int) ≤ (l.length : Int) := by omega
        have hkc : k ≤ cc := by omega
        have hsb : k + 1 + (l.length - k) ≤ 65536 := by omega
        clear fd hb
        go_wp2_with (at_builtin; go_must (refine appLB (base := wa.heap.size) EIG rfl _ _ rfl (by rfl) (by rfl) (by simp <;> omega) (HOW.out _ HFD.out wa.heap.size (by simp)) (HFK.out _ (HFD.out.alloc _)) (by unfold maxLen; omega) (by omega) ?_); intro v5 w5 hown5 hf5 hob5; rw [Nat.zero_add, List.nil_append] at hown5; obtain ⟨a5, c5, rfl, _, _⟩ := (SlC.ofOwn hown5 (gC_one _)).shape; have HO5 := Lib.hid hown5; have HF5 : Hid (Fr NoF wa w5) := Fr.trans (F := NoF) (a := wa) (((Fr.refl NoF wa).drew).alloc _) hf5 (fun i q => .inr (by cases q; exact Nat.le_refl _)); obtain ⟨x1, x2, x3⟩ := KC.out w5 HF5.out; have hs5 := HF5.out.size; clear hown5 hf5 hob5)
        have HNW : Hid (∀ W, Fr NoF (w5.alloc (.cells #[.int .u32 ((k : Int) + 1), .int .u64 0, .int .i64 1] 49)) W → SlC W 3 (.slice (some ⟨w5.heap.size, 0, none⟩) 1 1) 1 [.int .u32 ((k : Int) + 1), .int .u64 0, .int .i64 1]) := fun W f => (SlC.ofOwn (own_new (w0 := w5) (Nat.le_refl _) #[.int .u32 ((k : Int) + 1), .int .u64 0, .int .i64 1] 49 3 1 _ rfl rfl (by unfold maxLen; omega)) (by simp [Value.oneCell'])).keep f
        have HO5K : Hid (∀ W, Fr NoF w5 W → W.ownsRow wa.heap.size 49 3 (.slice a5 k c5) k (gC (l.take k))) := fun W f => own_keep HO5.out f (fun _ _ q => q)
        go_region_law (first
          | (refine appSB (base := wa.heap.size) EIG rfl (.tmp 52) (.tmp 55) rfl (by rfl) (by rfl) (by simp; try omega) (HO5K.out _ (by repeat (first | exact Fr.refl NoF _ | apply Fr.drew | apply Fr.alloc))) (HNW.out _ (by repeat (first | exact Fr.refl NoF _ | apply Fr.drew | apply Fr.alloc))) (by unfold maxLen; omega) (by omega) ?_; intro v6 w6 hown6 hf6 hob6; obtain ⟨a6, c6, rfl, _, _⟩ := (SlC.ofOwn hown6 (fun u hu => by rcases List.mem_append.1 hu with q | q; exact gC_one _ u q; simp at q; rcases q with rfl | rfl | rfl <;> rfl)).shape; have HO6 := Lib.hid hown6; have HF6 : Hid (Fr NoF wa w6) := Fr.trans (F := NoF) (a := wa) (by repeat (first | exact HF5.out | apply Fr.drew | apply Fr.alloc)) hf6 (fun i q => .inr (ownBlock_own HO5.out i q)); obtain ⟨y1, y2, y3⟩ := KC.out w6 HF6.out; have hs6 := HF6.out.size; clear hown6 hf6 hob6)
          | (refine appSB (base := wa.heap.size) EIG rfl (.tmp 56) (.tmp 62) rfl (by rfl) (by rfl) hs6 HO6.out (hLA2.out _ HF6.out) (by unfold maxLen; omega) (by omega) ?_; intro v7 w7 hown7 hf7 hob7; obtain ⟨a7, c7, rfl, _, _⟩ := (SlC.ofOwn hown7 (fun u hu => by rcases List.mem_append.1 hu with q | q; rcases List.mem_append.1 q with q | q; exact gC_one _ u q; simp at q; rcases q with rfl | rfl | rfl <;> rfl; exact gC_one _ u q)).shape; have HO7 := Lib.hid hown7; have HF7 := Lib.hid (HF6.out.trans hf7 (fun i q => .inr (ownBlock_own HO6.out i q))); obtain ⟨z1, z2, z3⟩ := KC.out w7 HF7.out; clear hown7 hf7 hob7))
        all_goals
          have RB7 := HRB.out.fr HF7.out (fun q => q)
          have t0 : w7.cell? ⟨rb, 0, none⟩ = some (.int .i64 0) := RB7.cell (i := 0) (by omega)
          have t1 : w7.cell? ⟨rb, 1, none⟩ = some (.int .u32 0) := RB7.cell (i := 1) (by omega)
          have t2 : w7.cell? ⟨rb, 2, none⟩ = some (.int .u64 0) := RB7.cell (i := 2) (by omega)
          have g0 := RB7.frozen 0
          have g1 := RB7.frozen 1
          have g2 := RB7.frozen 2
          have lr := RB7.lt
          have HRB7 := Lib.hid RB7
          have hne : ¬ rb = r := by omega
          have hne2 : ¬ r = rb := by omega
          clear RB7
          go_wp2
          obtain ⟨r1, r2⟩ := HH.out.ins HG.out.le (by omega) HO7.out HF7.out
          have RB := HRB7.out.other (a := ⟨r, 2, none⟩) hne (.slice a7 (k + 1 + (l.length - k)) c7)
          have RS := ((RB.set 0 (.int .i64 0)).set 1 (.int .u32 ((k : Int) + 1))).set 2 (.int .u64 0)
          have FS := (((Fr.refl (fun i => i = rb) (w7.setCell ⟨r, 2, none⟩ (.slice a7 (k + 1 + (l.length - k)) c7))).setCell (p := ⟨rb, 0, none⟩) (.inl rfl) (.int .i64 0)).setCell (p := ⟨rb, 1, none⟩) (.inl rfl) (.int .u32 ((k : Int) + 1))).setCell (p := ⟨rb, 2, none⟩) (.inl rfl) (.int .u64 0)
          have hov := ownBlock_own HO7.out
          have hw0 := HRB0.out
          (try simp only [Exit.inBlock, Exit.then])
          refine bodyPost_ret (results_blk Tryd.results21 _ _ RS rfl Tryd.underlying35 rfl (by kernel_rfl)) rfl ?_
          refine ⟨k, HG.out, rfl, ⟨_, r1.fr FS (fun i q e => ?_), fun i q => ?_⟩, ((HFA.out.mono (fun _ q => q.elim)).trans r2 (fun i q => .inl q)).trans FS (fun i q => .inr (by omega))⟩
          · rcases q with q | q
            · omega
            · have := hov i q; omega
          · rcases q with q | q
            · exact .inl (.inl q)
            · right; have := hov i q; omega
    · have hge : decide (k < l.length) = false := by simpa using hlt2
      have HG : Hid (GapG l k) := ⟨hk, HN.out, fun q => absurd q hlt2⟩
      have HFK := Lib.hid (HFI.out k hk)
      obtain ⟨AD, hAD, hLA2⟩ : ∃ AD, (if cc = k then some ⟨g, off, none⟩ else some ⟨g, off + k * 3, none⟩) = AD ∧ Hid (∀ W, Fr NoF wa W → SlC W 3 (.slice AD (l.length - k) (cc - k)) (l.length - k) (gC (l.drop k))) := by
        by_cases q : cc = k
        · refine ⟨_, rfl, fun W f => ?_⟩
          rw [if_pos q]
          have e1 : l.length - k = 0 := by omega
          have e2 : l.drop k = [] := List.drop_of_length_le (by omega)
          have e3 : cc - k = 0 := by omega
          rw [e1, e2, e3]
          exact ⟨_, _, rfl, rfl, fun u hu => (by cases hu), Nat.le_refl _, by unfold maxLen; omega, .inr ⟨g, off, rfl, Nat.lt_of_lt_of_le HLG.out f.size, fun j u hj => (by simp [gC] at hj)⟩⟩
        · exact ⟨_, rfl, fun W f => by rw [if_neg q]; exact HLA.out k hk (by omega) W f⟩
      have HOW : Hid (∀ W, Fr NoF wa W → ∀ g, g = W.heap.size → (W.alloc (.cells #[] 49)).ownsRow wa.heap.size 49 3 (.slice (some ⟨g, 0, none⟩) 0 0) 0 []) := fun W f g q => own_new f.size #[] 49 3 0 _ q rfl (by unfold maxLen; omega)
      have fd : Fr NoF wa wa.drew := (Fr.refl NoF wa).drew
      have HFD := Lib.hid fd
      have hkI : 0 ≤ (k : Int) := by omega
      have hkl : (k : Int) ≤ (l.length : Int) := by omega
      have hkc : k ≤ cc := by omega
      have hsb : k + 1 + (l.length - k) ≤ 65536 := by omega
      clear fd hlt2
      go_wp2_with (at_builtin; go_must (refine appLB (base := wa.heap.size) EIG rfl _ _ rfl (by rfl) (by rfl) (by simp <;> omega) (HOW.out _ HFD.out wa.heap.size (by simp)) (HFK.out _ (HFD.out.alloc _)) (by unfold maxLen; omega) (by omega) ?_); intro v5 w5 hown5 hf5 hob5; rw [Nat.zero_add, List.nil_append] at hown5; obtain ⟨a5, c5, rfl, _, _⟩ := (SlC.ofOwn hown5 (gC_one _)).shape; have HO5 := Lib.hid hown5; have HF5 : Hid (Fr NoF wa w5) := Fr.trans (F := NoF) (a := wa) (((Fr.refl NoF wa).drew).alloc _) hf5 (fun i q => .inr (by cases q; exact Nat.le_refl _)); obtain ⟨x1, x2, x3⟩ := KC.out w5 HF5.out; have hs5 := HF5.out.size; clear hown5 hf5 hob5)
      have HNW : Hid (∀ W, Fr NoF (w5.alloc (.cells #[.int .u32 ((k : Int) + 1), .int .u64 0, .int .i64 1] 49)) W → SlC W 3 (.slice (some ⟨w5.heap.size, 0, none⟩) 1 1) 1 [.int .u32 ((k : Int) + 1), .int .u64 0, .int .i64 1]) := fun W f => (SlC.ofOwn (own_new (w0 := w5) (Nat.le_refl _) #[.int .u32 ((k : Int) + 1), .int .u64 0, .int .i64 1] 49 3 1 _ rfl rfl (by unfold maxLen; omega)) (by simp [Value.oneCell'])).keep f
      have HO5K : Hid (∀ W, Fr NoF w5 W → W.ownsRow wa.heap.size 49 3 (.slice a5 k c5) k (gC (l.take k))) := fun W f => own_keep HO5.out f (fun _ _ q => q)
      go_region_law (first
        | (refine appSB (base := wa.heap.size) EIG rfl (.tmp 52) (.tmp 55) rfl (by rfl) (by rfl) (by simp; try omega) (HO5K.out _ (by repeat (first | exact Fr.refl NoF _ | apply Fr.drew | apply Fr.alloc))) (HNW.out _ (by repeat (first | exact Fr.refl NoF _ | apply Fr.drew | apply Fr.alloc))) (by unfold maxLen; omega) (by omega) ?_; intro v6 w6 hown6 hf6 hob6; obtain ⟨a6, c6, rfl, _, _⟩ := (SlC.ofOwn hown6 (fun u hu => by rcases List.mem_append.1 hu with q | q; exact gC_one _ u q; simp at q; rcases q with rfl | rfl | rfl <;> rfl)).shape; have HO6 := Lib.hid hown6; have HF6 : Hid (Fr NoF wa w6) := Fr.trans (F := NoF) (a := wa) (by repeat (first | exact HF5.out | apply Fr.drew | apply Fr.alloc)) hf6 (fun i q => .inr (ownBlock_own HO5.out i q)); obtain ⟨y1, y2, y3⟩ := KC.out w6 HF6.out; have hs6 := HF6.out.size; clear hown6 hf6 hob6)
        | (refine appSB (base := wa.heap.size) EIG rfl (.tmp 56) (.tmp 62) rfl (by rfl) (by rfl) hs6 HO6.out (hLA2.out _ HF6.out) (by unfold maxLen; omega) (by omega) ?_; intro v7 w7 hown7 hf7 hob7; obtain ⟨a7, c7, rfl, _, _⟩ := (SlC.ofOwn hown7 (fun u hu => by rcases List.mem_append.1 hu with q | q; rcases List.mem_append.1 q with q | q; exact gC_one _ u q; simp at q; rcases q with rfl | rfl | rfl <;> rfl; exact gC_one _ u q)).shape; have HO7 := Lib.hid hown7; have HF7 := Lib.hid (HF6.out.trans hf7 (fun i q => .inr (ownBlock_own HO6.out i q))); obtain ⟨z1, z2, z3⟩ := KC.out w7 HF7.out; clear hown7 hf7 hob7))
      all_goals
        have RB7 := HRB.out.fr HF7.out (fun q => q)
        have t0 : w7.cell? ⟨rb, 0, none⟩ = some (.int .i64 0) := RB7.cell (i := 0) (by omega)
        have t1 : w7.cell? ⟨rb, 1, none⟩ = some (.int .u32 0) := RB7.cell (i := 1) (by omega)
        have t2 : w7.cell? ⟨rb, 2, none⟩ = some (.int .u64 0) := RB7.cell (i := 2) (by omega)
        have g0 := RB7.frozen 0
        have g1 := RB7.frozen 1
        have g2 := RB7.frozen 2
        have lr := RB7.lt
        have HRB7 := Lib.hid RB7
        have hne : ¬ rb = r := by omega
        have hne2 : ¬ r = rb := by omega
        clear RB7
        go_wp2
        obtain ⟨r1, r2⟩ := HH.out.ins HG.out.le (by omega) HO7.out HF7.out
        have RB := HRB7.out.other (a := ⟨r, 2, none⟩) hne (.slice a7 (k + 1 + (l.length - k)) c7)
        have RS := ((RB.set 0 (.int .i64 0)).set 1 (.int .u32 ((k : Int) + 1))).set 2 (.int .u64 0)
        have FS := (((Fr.refl (fun i => i = rb) (w7.setCell ⟨r, 2, none⟩ (.slice a7 (k + 1 + (l.length - k)) c7))).setCell (p := ⟨rb, 0, none⟩) (.inl rfl) (.int .i64 0)).setCell (p := ⟨rb, 1, none⟩) (.inl rfl) (.int .u32 ((k : Int) + 1))).setCell (p := ⟨rb, 2, none⟩) (.inl rfl) (.int .u64 0)
        have hov := ownBlock_own HO7.out
        have hw0 := HRB0.out
        (try simp only [Exit.inBlock, Exit.then])
        refine bodyPost_ret (results_blk Tryd.results21 _ _ RS rfl Tryd.underlying35 rfl (by kernel_rfl)) rfl ?_
        refine ⟨k, HG.out, rfl, ⟨_, r1.fr FS (fun i q e => ?_), fun i q => ?_⟩, ((HFA.out.mono (fun _ q => q.elim)).trans r2 (fun i q => .inl q)).trans FS (fun i q => .inr (by omega))⟩
        · rcases q with q | q
          · omega
          · have := hov i q; omega
        · rcases q with q | q
          · exact .inl (.inl q)
          · right; have := hov i q; omega
end
end Go.Proofs.YtnjdoifgljdjcaaDoor

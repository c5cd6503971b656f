/-
  The document's own Model in memory: Do, by the kind of the call.
-/
import Derived.Test.YtnjdoifgljdjcaaDoorMRefN
namespace Go.Proofs.YtnjdoifgljdjcaaDoor
open Go.RowKit
set_option linter.unusedVariables false

section
variable {w w0 w' : World} {r n room : Nat} {l : List Pg} {lv v : Value}
theorem blk_three2 {w : World} {m : Nat} (y1 y2 y3 u1 u2 u3 : Value) {t t' : TypeId} (hm : m = w.heap.size + 1) : Blk ((w.alloc (.cells #[y1, y2, y3] t')).alloc (.cells #[u1, u2, u3] t)) m 3 (fun i => if i = 0 then u1 else if i = 1 then u2 else u3) := by
  subst hm
  exact blk_three' w y1 y2 y3 u1 u2 u3
/-- A page is written in its place. -/
theorem RG.setP {g cap : Nat} (h : RG w r n room l (.slice (some ⟨g, 0, none⟩) l.length cap)) {k : Nat} (hk : k < l.length) (p : Pg) (hid : p.id = l[k].id) {c : Nat} (hc : c = 1 ∧ p.pins = l[k].pins ∨ c = 2 ∧ p.v = l[k].v) (hp : okV p.v ∧ p.pins < 1000000) {z : Value} (hz : z = if c = 1 then .int .u64 (p.v : Nat) else .int .i64 (p.pins : Nat)) :
    RG (w.setCell ⟨g, k * 3 + c, none⟩ z) r n room (l.set k p) (.slice (some ⟨g, 0, none⟩) l.length cap) ∧ Fr (fun i => i = g) w (w.setCell ⟨g, k * 3 + c, none⟩ z) := by
  subst hz
  have hgr : ¬ g = r := h.nb g rfl
  have f : Fr (fun i => i = g) w (w.setCell ⟨g, k * 3 + c, none⟩ (if c = 1 then .int .u64 (p.v : Nat) else .int .i64 (p.pins : Nat))) := (Fr.refl (fun i => i = g) w).setCell (p := ⟨g, k * 3 + c, none⟩) (.inl rfl) _
  refine ⟨⟨h.hd.fr f (fun e => hgr e.symm), ?_, h.nb, by rw [List.length_set]; exact h.b1, fun q hq => ?_⟩, f⟩
  · have hs := (h.hl.set (i := k * 3 + c) (by omega) (if c = 1 then .int .u64 (p.v : Nat) else .int .i64 (p.pins : Nat))).congr (gF_set l hk p hid hc)
    rw [List.length_set]
    exact hs
  · rcases List.mem_or_eq_of_mem_set hq with q | q
    · exact h.ok _ q
    · subst q; exact ⟨by rw [hid]; exact (h.ok _ (List.getElem_mem hk)).1, hp⟩
set_option maxHeartbeats 2000000 in
theorem rdo_other (h : RG w r n room l lv) {k id x : Int} (hk : k < 0 ∨ 7 < k) : Calls Tryd.prog 10 #[.pointer (some ⟨r, 0, none⟩), .agg #[.int .i64 k, .int .u32 id, .int .u64 x]] w fun e w' => e = .returned (.agg #[.int .i64 1, .int .u32 0, .int .u64 0]) ∧ Fr NoF w w' := by
  by_cases h0 : k < 0
  · have g0 : decide (k < 0) = true := by simpa using h0
    clear h hk h0
    go_enter Tryd.func10, Tryd.ntmps10
    go_wp2
    (try simp only [Exit.inBlock, Exit.then])
    refine bodyPost_ret (results_blk Tryd.results10 _ _ (blk_three2 (w := w) _ _ _ _ _ _ (by simp)) rfl Tryd.underlying35 rfl (by kernel_rfl)) rfl ?_
    exact ⟨rfl, ((Fr.refl NoF w).alloc _).alloc _⟩
  · have g0 : decide (k < 0) = false := by simpa using h0
    have g1 : decide (7 < k) = true := by simp; omega
    clear h hk h0
    go_enter Tryd.func10, Tryd.ntmps10
    go_wp2
    (try simp only [Exit.inBlock, Exit.then])
    refine bodyPost_ret (results_blk Tryd.results10 _ _ (blk_three2 (w := w) _ _ _ _ _ _ (by simp)) rfl Tryd.underlying35 rfl (by kernel_rfl)) rfl ?_
    exact ⟨rfl, ((Fr.refl NoF w).alloc _).alloc _⟩
set_option maxHeartbeats 2000000 in
theorem rdo_6 (h : RG w r n room l lv) {id x : Int} : Calls Tryd.prog 10 #[.pointer (some ⟨r, 0, none⟩), .agg #[.int .i64 6, .int .u32 id, .int .u64 x]] w fun e w' => e = .returned (.agg #[.int .i64 0, .int .u32 0, .int .u64 0]) ∧ Fr NoF w w' := by
  clear h
  go_enter Tryd.func10, Tryd.ntmps10
  go_wp2
  (try simp only [Exit.inBlock, Exit.then])
  refine bodyPost_ret (results_blk Tryd.results10 _ _ (blk_three2 (w := w) _ _ _ _ _ _ (by simp)) rfl Tryd.underlying35 rfl (by kernel_rfl)) rfl ?_
  exact ⟨rfl, ((Fr.refl NoF w).alloc _).alloc _⟩
set_option maxHeartbeats 2000000 in
theorem rdo_1_unknown (h : RG w r n room l lv) {id : Nat} {x : Int} (hat : atG l id = none) : Calls Tryd.prog 10 #[.pointer (some ⟨r, 0, none⟩), .agg #[.int .i64 1, .int .u32 id, .int .u64 x]] w fun e w' => e = .returned (.agg #[.int .i64 3, .int .u32 0, .int .u64 0]) ∧ Fr NoF w w' := by
  have HAT := atG_calls (h.fr0 (((Fr.refl NoF w).alloc (.cells #[.int .i64 1, .int .u32 id, .int .u64 x] 43)).alloc (.cells #[.int .i64 0, .int .u32 0, .int .u64 0] 35))) id
  rw [hat] at HAT
  unfold atGZ at HAT
  have HA2 := Lib.hid HAT
  clear h hat HAT
  go_enter Tryd.func10, Tryd.ntmps10
  go_wp2_with fail
  refine HA2.out.mono ?_
  rintro e w1 ⟨rfl, rfl⟩
  go_wp2
  (try simp only [Exit.inBlock, Exit.then])
  refine bodyPost_ret (results_blk Tryd.results10 _ _ (blk_three2 (w := w) _ _ _ _ _ _ (by simp)) rfl Tryd.underlying35 rfl (by kernel_rfl)) rfl ?_
  exact ⟨rfl, ((Fr.refl NoF w).alloc _).alloc _⟩
set_option maxHeartbeats 2000000 in
theorem rdo_2_unknown (h : RG w r n room l lv) {id : Nat} {x : Int} (hat : atG l id = none) : Calls Tryd.prog 10 #[.pointer (some ⟨r, 0, none⟩), .agg #[.int .i64 2, .int .u32 id, .int .u64 x]] w fun e w' => e = .returned (.agg #[.int .i64 3, .int .u32 0, .int .u64 0]) ∧ Fr NoF w w' := by
  have HAT := atG_calls (h.fr0 (((Fr.refl NoF w).alloc (.cells #[.int .i64 2, .int .u32 id, .int .u64 x] 43)).alloc (.cells #[.int .i64 0, .int .u32 0, .int .u64 0] 35))) id
  rw [hat] at HAT
  unfold atGZ at HAT
  have HA2 := Lib.hid HAT
  clear h hat HAT
  go_enter Tryd.func10, Tryd.ntmps10
  go_wp2_with fail
  refine HA2.out.mono ?_
  rintro e w1 ⟨rfl, rfl⟩
  go_wp2
  (try simp only [Exit.inBlock, Exit.then])
  refine bodyPost_ret (results_blk Tryd.results10 _ _ (blk_three2 (w := w) _ _ _ _ _ _ (by simp)) rfl Tryd.underlying35 rfl (by kernel_rfl)) rfl ?_
  exact ⟨rfl, ((Fr.refl NoF w).alloc _).alloc _⟩
set_option maxHeartbeats 2000000 in
theorem rdo_3_unknown (h : RG w r n room l lv) {id : Nat} {x : Int} (hat : atG l id = none) : Calls Tryd.prog 10 #[.pointer (some ⟨r, 0, none⟩), .agg #[.int .i64 3, .int .u32 id, .int .u64 x]] w fun e w' => e = .returned (.agg #[.int .i64 3, .int .u32 0, .int .u64 0]) ∧ Fr NoF w w' := by
  have HAT := atG_calls (h.fr0 (((Fr.refl NoF w).alloc (.cells #[.int .i64 3, .int .u32 id, .int .u64 x] 43)).alloc (.cells #[.int .i64 0, .int .u32 0, .int .u64 0] 35))) id
  rw [hat] at HAT
  unfold atGZ at HAT
  have HA2 := Lib.hid HAT
  clear h hat HAT
  go_enter Tryd.func10, Tryd.ntmps10
  go_wp2_with fail
  refine HA2.out.mono ?_
  rintro e w1 ⟨rfl, rfl⟩
  go_wp2
  (try simp only [Exit.inBlock, Exit.then])
  refine bodyPost_ret (results_blk Tryd.results10 _ _ (blk_three2 (w := w) _ _ _ _ _ _ (by simp)) rfl Tryd.underlying35 rfl (by kernel_rfl)) rfl ?_
  exact ⟨rfl, ((Fr.refl NoF w).alloc _).alloc _⟩
set_option maxHeartbeats 2000000 in
theorem rdo_4_unknown (h : RG w r n room l lv) {id : Nat} {x : Int} (hat : atG l id = none) : Calls Tryd.prog 10 #[.pointer (some ⟨r, 0, none⟩), .agg #[.int .i64 4, .int .u32 id, .int .u64 x]] w fun e w' => e = .returned (.agg #[.int .i64 3, .int .u32 0, .int .u64 0]) ∧ Fr NoF w w' := by
  have HAT := atG_calls (h.fr0 (((Fr.refl NoF w).alloc (.cells #[.int .i64 4, .int .u32 id, .int .u64 x] 43)).alloc (.cells #[.int .i64 0, .int .u32 0, .int .u64 0] 35))) id
  rw [hat] at HAT
  unfold atGZ at HAT
  have HA2 := Lib.hid HAT
  clear h hat HAT
  go_enter Tryd.func10, Tryd.ntmps10
  go_wp2_with fail
  refine HA2.out.mono ?_
  rintro e w1 ⟨rfl, rfl⟩
  go_wp2
  (try simp only [Exit.inBlock, Exit.then])
  refine bodyPost_ret (results_blk Tryd.results10 _ _ (blk_three2 (w := w) _ _ _ _ _ _ (by simp)) rfl Tryd.underlying35 rfl (by kernel_rfl)) rfl ?_
  exact ⟨rfl, ((Fr.refl NoF w).alloc _).alloc _⟩
set_option maxHeartbeats 2000000 in
theorem rdo_5_unknown (h : RG w r n room l lv) {id : Nat} {x : Int} (hat : atG l id = none) : Calls Tryd.prog 10 #[.pointer (some ⟨r, 0, none⟩), .agg #[.int .i64 5, .int .u32 id, .int .u64 x]] w fun e w' => e = .returned (.agg #[.int .i64 3, .int .u32 0, .int .u64 0]) ∧ Fr NoF w w' := by
  have HAT := atG_calls (h.fr0 (((Fr.refl NoF w).alloc (.cells #[.int .i64 5, .int .u32 id, .int .u64 x] 43)).alloc (.cells #[.int .i64 0, .int .u32 0, .int .u64 0] 35))) id
  rw [hat] at HAT
  unfold atGZ at HAT
  have HA2 := Lib.hid HAT
  clear h hat HAT
  go_enter Tryd.func10, Tryd.ntmps10
  go_wp2_with fail
  refine HA2.out.mono ?_
  rintro e w1 ⟨rfl, rfl⟩
  go_wp2
  (try simp only [Exit.inBlock, Exit.then])
  refine bodyPost_ret (results_blk Tryd.results10 _ _ (blk_three2 (w := w) _ _ _ _ _ _ (by simp)) rfl Tryd.underlying35 rfl (by kernel_rfl)) rfl ?_
  exact ⟨rfl, ((Fr.refl NoF w).alloc _).alloc _⟩
set_option maxHeartbeats 2000000 in
theorem rdo_7_unknown (h : RG w r n room l lv) {id : Nat} {x : Int} (hat : atG l id = none) : Calls Tryd.prog 10 #[.pointer (some ⟨r, 0, none⟩), .agg #[.int .i64 7, .int .u32 id, .int .u64 x]] w fun e w' => e = .returned (.agg #[.int .i64 3, .int .u32 0, .int .u64 0]) ∧ Fr NoF w w' := by
  have HAT := atG_calls (h.fr0 (((Fr.refl NoF w).alloc (.cells #[.int .i64 7, .int .u32 id, .int .u64 x] 43)).alloc (.cells #[.int .i64 0, .int .u32 0, .int .u64 0] 35))) id
  rw [hat] at HAT
  unfold atGZ at HAT
  have HA2 := Lib.hid HAT
  clear h hat HAT
  go_enter Tryd.func10, Tryd.ntmps10
  go_wp2_with fail
  refine HA2.out.mono ?_
  rintro e w1 ⟨rfl, rfl⟩
  go_wp2
  (try simp only [Exit.inBlock, Exit.then])
  refine bodyPost_ret (results_blk Tryd.results10 _ _ (blk_three2 (w := w) _ _ _ _ _ _ (by simp)) rfl Tryd.underlying35 rfl (by kernel_rfl)) rfl ?_
  exact ⟨rfl, ((Fr.refl NoF w).alloc _).alloc _⟩
set_option maxHeartbeats 2000000 in
theorem rdo_2_not (h : RG w r n room l lv) {id j : Nat} {x : Int} (hat : atG l id = some j) (hj : j < l.length) (hp : l[j].pins = 0) : Calls Tryd.prog 10 #[.pointer (some ⟨r, 0, none⟩), .agg #[.int .i64 2, .int .u32 id, .int .u64 x]] w fun e w' => e = .returned (.agg #[.int .i64 5, .int .u32 0, .int .u64 0]) ∧ Fr NoF w w' := by
  have HAT := atG_calls (h.fr0 (((Fr.refl NoF w).alloc (.cells #[.int .i64 2, .int .u32 id, .int .u64 x] 43)).alloc (.cells #[.int .i64 0, .int .u32 0, .int .u64 0] 35))) id
  rw [hat] at HAT
  unfold atGZ at HAT
  have HA2 := Lib.hid HAT
  have hll := h.b1.1
  have c2 := h.c2
  have lr := h.hd.lt
  obtain ⟨g, cap, rfl, q1, q2, lg, y0, y1, y2, yf⟩ := h.at hj
  have HYF := Lib.hid yf
  have fz1 := yf (j * 3 + 1)
  have fz2 := yf (j * 3 + 2)
  have hgr : ¬ g = r := h.nb g rfl
  have hpk : l[j].pins < 1000000 := (h.ok _ (List.getElem_mem hj)).2.2
  have HH := Lib.hid h
  rw [hp] at y2
  clear h hat HAT yf
  go_enter Tryd.func10, Tryd.ntmps10
  go_wp2_with fail
  refine HA2.out.mono ?_
  rintro e w1 ⟨rfl, rfl⟩
  go_wp2
  (try simp only [Exit.inBlock, Exit.then])
  refine bodyPost_ret (results_blk Tryd.results10 _ _ (blk_three2 (w := w) _ _ _ _ _ _ (by simp)) rfl Tryd.underlying35 rfl (by kernel_rfl)) rfl ?_
  exact ⟨rfl, ((Fr.refl NoF w).alloc _).alloc _⟩
set_option maxHeartbeats 2000000 in
theorem rdo_3_not (h : RG w r n room l lv) {id j : Nat} {x : Int} (hat : atG l id = some j) (hj : j < l.length) (hp : l[j].pins = 0) : Calls Tryd.prog 10 #[.pointer (some ⟨r, 0, none⟩), .agg #[.int .i64 3, .int .u32 id, .int .u64 x]] w fun e w' => e = .returned (.agg #[.int .i64 5, .int .u32 0, .int .u64 0]) ∧ Fr NoF w w' := by
  have HAT := atG_calls (h.fr0 (((Fr.refl NoF w).alloc (.cells #[.int .i64 3, .int .u32 id, .int .u64 x] 43)).alloc (.cells #[.int .i64 0, .int .u32 0, .int .u64 0] 35))) id
  rw [hat] at HAT
  unfold atGZ at HAT
  have HA2 := Lib.hid HAT
  have hll := h.b1.1
  have c2 := h.c2
  have lr := h.hd.lt
  obtain ⟨g, cap, rfl, q1, q2, lg, y0, y1, y2, yf⟩ := h.at hj
  have HYF := Lib.hid yf
  have fz1 := yf (j * 3 + 1)
  have fz2 := yf (j * 3 + 2)
  have hgr : ¬ g = r := h.nb g rfl
  have hpk : l[j].pins < 1000000 := (h.ok _ (List.getElem_mem hj)).2.2
  have HH := Lib.hid h
  rw [hp] at y2
  clear h hat HAT yf
  go_enter Tryd.func10, Tryd.ntmps10
  go_wp2_with fail
  refine HA2.out.mono ?_
  rintro e w1 ⟨rfl, rfl⟩
  go_wp2
  (try simp only [Exit.inBlock, Exit.then])
  refine bodyPost_ret (results_blk Tryd.results10 _ _ (blk_three2 (w := w) _ _ _ _ _ _ (by simp)) rfl Tryd.underlying35 rfl (by kernel_rfl)) rfl ?_
  exact ⟨rfl, ((Fr.refl NoF w).alloc _).alloc _⟩
set_option maxHeartbeats 2000000 in
theorem rdo_4_not (h : RG w r n room l lv) {id j : Nat} {x : Nat} (hat : atG l id = some j) (hj : j < l.length) (hp : l[j].pins = 0) : Calls Tryd.prog 10 #[.pointer (some ⟨r, 0, none⟩), .agg #[.int .i64 4, .int .u32 id, .int .u64 x]] w fun e w' => e = .returned (.agg #[.int .i64 5, .int .u32 0, .int .u64 0]) ∧ Fr NoF w w' := by
  have HAT := atG_calls (h.fr0 (((Fr.refl NoF w).alloc (.cells #[.int .i64 4, .int .u32 id, .int .u64 x] 43)).alloc (.cells #[.int .i64 0, .int .u32 0, .int .u64 0] 35))) id
  rw [hat] at HAT
  unfold atGZ at HAT
  have HA2 := Lib.hid HAT
  have hll := h.b1.1
  have c2 := h.c2
  have lr := h.hd.lt
  obtain ⟨g, cap, rfl, q1, q2, lg, y0, y1, y2, yf⟩ := h.at hj
  have HYF := Lib.hid yf
  have fz1 := yf (j * 3 + 1)
  have fz2 := yf (j * 3 + 2)
  have hgr : ¬ g = r := h.nb g rfl
  have hpk : l[j].pins < 1000000 := (h.ok _ (List.getElem_mem hj)).2.2
  have HH := Lib.hid h
  rw [hp] at y2
  clear h hat HAT yf
  go_enter Tryd.func10, Tryd.ntmps10
  go_wp2_with fail
  refine HA2.out.mono ?_
  rintro e w1 ⟨rfl, rfl⟩
  go_wp2
  (try simp only [Exit.inBlock, Exit.then])
  refine bodyPost_ret (results_blk Tryd.results10 _ _ (blk_three2 (w := w) _ _ _ _ _ _ (by simp)) rfl Tryd.underlying35 rfl (by kernel_rfl)) rfl ?_
  exact ⟨rfl, ((Fr.refl NoF w).alloc _).alloc _⟩
set_option maxHeartbeats 2000000 in
theorem rdo_1_full (h : RG w r n room l lv) {id j : Nat} {x : Int} (hat : atG l id = some j) (hj : j < l.length) (hp : l[j].pins = 0) (hf : n ≤ pinL l) : Calls Tryd.prog 10 #[.pointer (some ⟨r, 0, none⟩), .agg #[.int .i64 1, .int .u32 id, .int .u64 x]] w fun e w' => e = .returned (.agg #[.int .i64 6, .int .u32 0, .int .u64 0]) ∧ Fr NoF w w' := by
  have HAT := atG_calls (h.fr0 (((Fr.refl NoF w).alloc (.cells #[.int .i64 1, .int .u32 id, .int .u64 x] 43)).alloc (.cells #[.int .i64 0, .int .u32 0, .int .u64 0] 35))) id
  rw [hat] at HAT
  unfold atGZ at HAT
  have HA2 := Lib.hid HAT
  have hll := h.b1.1
  have c2 := h.c2
  have lr := h.hd.lt
  obtain ⟨g, cap, rfl, q1, q2, lg, y0, y1, y2, yf⟩ := h.at hj
  have HYF := Lib.hid yf
  have fz1 := yf (j * 3 + 1)
  have fz2 := yf (j * 3 + 2)
  have hgr : ¬ g = r := h.nb g rfl
  have hpk : l[j].pins < 1000000 := (h.ok _ (List.getElem_mem hj)).2.2
  have HH := Lib.hid h
  have HFU := Lib.hid (full_calls' (h.fr0 (((Fr.refl NoF w).alloc (.cells #[.int .i64 1, .int .u32 id, .int .u64 x] 43)).alloc (.cells #[.int .i64 0, .int .u32 0, .int .u64 0] 35))))
  rw [hp] at y2
  rw [show decide (n ≤ pinL l) = true from by simpa using hf] at HFU
  clear hf
  clear h hat HAT yf
  go_enter Tryd.func10, Tryd.ntmps10
  go_wp2_with fail
  refine HA2.out.mono ?_
  rintro e w1 ⟨rfl, rfl⟩
  go_wp2_with fail
  refine HFU.out.mono ?_
  rintro e w1 ⟨rfl, rfl⟩
  go_wp2
  (try simp only [Exit.inBlock, Exit.then])
  refine bodyPost_ret (results_blk Tryd.results10 _ _ (blk_three2 (w := w) _ _ _ _ _ _ (by simp)) rfl Tryd.underlying35 rfl (by kernel_rfl)) rfl ?_
  exact ⟨rfl, ((Fr.refl NoF w).alloc _).alloc _⟩
set_option maxHeartbeats 2000000 in
theorem rdo_1_first (h : RG w r n room l lv) {id j : Nat} {x : Int} (hat : atG l id = some j) (hj : j < l.length) (hp : l[j].pins = 0) (hf : ¬ n ≤ pinL l) : Calls Tryd.prog 10 #[.pointer (some ⟨r, 0, none⟩), .agg #[.int .i64 1, .int .u32 id, .int .u64 x]] w fun e w' => e = .returned (.agg #[.int .i64 0, .int .u32 0, .int .u64 0]) ∧ RG w' r n room (l.set j { l[j] with pins := 1 }) lv ∧ Fr (GFr r lv) w w' := by
  have HAT := atG_calls (h.fr0 (((Fr.refl NoF w).alloc (.cells #[.int .i64 1, .int .u32 id, .int .u64 x] 43)).alloc (.cells #[.int .i64 0, .int .u32 0, .int .u64 0] 35))) id
  rw [hat] at HAT
  unfold atGZ at HAT
  have HA2 := Lib.hid HAT
  have hll := h.b1.1
  have c2 := h.c2
  have lr := h.hd.lt
  obtain ⟨g, cap, rfl, q1, q2, lg, y0, y1, y2, yf⟩ := h.at hj
  have HYF := Lib.hid yf
  have fz1 := yf (j * 3 + 1)
  have fz2 := yf (j * 3 + 2)
  have hgr : ¬ g = r := h.nb g rfl
  have hpk : l[j].pins < 1000000 := (h.ok _ (List.getElem_mem hj)).2.2
  have HH := Lib.hid h
  have HFU := Lib.hid (full_calls' (h.fr0 (((Fr.refl NoF w).alloc (.cells #[.int .i64 1, .int .u32 id, .int .u64 x] 43)).alloc (.cells #[.int .i64 0, .int .u32 0, .int .u64 0] 35))))
  have hV := (h.ok _ (List.getElem_mem hj)).2.1
  have HV := Lib.hid hV
  clear hV
  rw [hp] at y2
  rw [show decide (n ≤ pinL l) = false from by simpa using hf] at HFU
  clear hf
  clear h hat HAT yf
  go_enter Tryd.func10, Tryd.ntmps10
  go_wp2_with fail
  refine HA2.out.mono ?_
  rintro e w1 ⟨rfl, rfl⟩
  go_wp2_with fail
  refine HFU.out.mono ?_
  rintro e w1 ⟨rfl, rfl⟩
  go_wp2
  have KS := HH.out.setP hj { l[j] with pins := 1 } rfl (c := 2) (.inr ⟨rfl, rfl⟩) (⟨HV.out, by show 1 < 1000000; omega⟩) (z := (.int .i64 1)) (by rfl)
  (try simp only [Exit.inBlock, Exit.then])
  refine bodyPost_ret (results_blk Tryd.results10 _ _ (blk_three2 (w := (w.setCell ⟨g, j * 3 + 2, none⟩ (.int .i64 1))) _ _ _ _ _ _ (by simp)) rfl Tryd.underlying35 rfl (by kernel_rfl)) rfl ?_
  have f2 : Fr NoF (w.setCell ⟨g, j * 3 + 2, none⟩ (.int .i64 1)) (((w.setCell ⟨g, j * 3 + 2, none⟩ (.int .i64 1)).alloc (.cells #[.int .i64 1, .int .u32 id, .int .u64 x] 43)).alloc (.cells #[.int .i64 0, .int .u32 0, .int .u64 0] 35)) := ((Fr.refl NoF _).alloc _).alloc _
  exact ⟨rfl, KS.1.fr0 f2, (KS.2.mono (fun i q => .inr (by rw [q]; rfl))).trans f2 (fun _ q => q.elim)⟩
set_option maxHeartbeats 2000000 in
theorem rdo_1_more (h : RG w r n room l lv) {id j : Nat} {x : Int} (hat : atG l id = some j) (hj : j < l.length) {q : Nat} (hp : l[j].pins = q + 1) (hq : q + 2 < 1000000) : Calls Tryd.prog 10 #[.pointer (some ⟨r, 0, none⟩), .agg #[.int .i64 1, .int .u32 id, .int .u64 x]] w fun e w' => e = .returned (.agg #[.int .i64 0, .int .u32 0, .int .u64 0]) ∧ RG w' r n room (l.set j { l[j] with pins := q + 2 }) lv ∧ Fr (GFr r lv) w w' := by
  have HAT := atG_calls (h.fr0 (((Fr.refl NoF w).alloc (.cells #[.int .i64 1, .int .u32 id, .int .u64 x] 43)).alloc (.cells #[.int .i64 0, .int .u32 0, .int .u64 0] 35))) id
  rw [hat] at HAT
  unfold atGZ at HAT
  have HA2 := Lib.hid HAT
  have hll := h.b1.1
  have c2 := h.c2
  have lr := h.hd.lt
  obtain ⟨g, cap, rfl, q1, q2, lg, y0, y1, y2, yf⟩ := h.at hj
  have HYF := Lib.hid yf
  have fz1 := yf (j * 3 + 1)
  have fz2 := yf (j * 3 + 2)
  have hgr : ¬ g = r := h.nb g rfl
  have hpk : l[j].pins < 1000000 := (h.ok _ (List.getElem_mem hj)).2.2
  have HH := Lib.hid h
  have hV := (h.ok _ (List.getElem_mem hj)).2.1
  have HV := Lib.hid hV
  clear hV
  rw [hp] at y2
  have gq : ((q : Int) + 1 == 0) = false := by simp; omega
  have hcw : IntKind.i64.wrap ((q : Int) + 1 + 1) = (q : Int) + 2 := by rw [IntWalk.i64_in _ (by omega)]; omega
  clear h hat HAT yf
  go_enter Tryd.func10, Tryd.ntmps10
  go_wp2_with fail
  refine HA2.out.mono ?_
  rintro e w1 ⟨rfl, rfl⟩
  go_wp2
  have KS := HH.out.setP hj { l[j] with pins := q + 2 } rfl (c := 2) (.inr ⟨rfl, rfl⟩) (⟨HV.out, hq⟩) (z := (.int .i64 ((q : Int) + 2))) (by rfl)
  (try simp only [Exit.inBlock, Exit.then])
  refine bodyPost_ret (results_blk Tryd.results10 _ _ (blk_three2 (w := (w.setCell ⟨g, j * 3 + 2, none⟩ (.int .i64 ((q : Int) + 2)))) _ _ _ _ _ _ (by simp)) rfl Tryd.underlying35 rfl (by kernel_rfl)) rfl ?_
  have f2 : Fr NoF (w.setCell ⟨g, j * 3 + 2, none⟩ (.int .i64 ((q : Int) + 2))) (((w.setCell ⟨g, j * 3 + 2, none⟩ (.int .i64 ((q : Int) + 2))).alloc (.cells #[.int .i64 1, .int .u32 id, .int .u64 x] 43)).alloc (.cells #[.int .i64 0, .int .u32 0, .int .u64 0] 35)) := ((Fr.refl NoF _).alloc _).alloc _
  exact ⟨rfl, KS.1.fr0 f2, (KS.2.mono (fun i q => .inr (by rw [q]; rfl))).trans f2 (fun _ q => q.elim)⟩
set_option maxHeartbeats 2000000 in
theorem rdo_2 (h : RG w r n room l lv) {id j : Nat} {x : Int} (hat : atG l id = some j) (hj : j < l.length) {q : Nat} (hp : l[j].pins = q + 1) : Calls Tryd.prog 10 #[.pointer (some ⟨r, 0, none⟩), .agg #[.int .i64 2, .int .u32 id, .int .u64 x]] w fun e w' => e = .returned (.agg #[.int .i64 0, .int .u32 0, .int .u64 0]) ∧ RG w' r n room (l.set j { l[j] with pins := q }) lv ∧ Fr (GFr r lv) w w' := by
  have HAT := atG_calls (h.fr0 (((Fr.refl NoF w).alloc (.cells #[.int .i64 2, .int .u32 id, .int .u64 x] 43)).alloc (.cells #[.int .i64 0, .int .u32 0, .int .u64 0] 35))) id
  rw [hat] at HAT
  unfold atGZ at HAT
  have HA2 := Lib.hid HAT
  have hll := h.b1.1
  have c2 := h.c2
  have lr := h.hd.lt
  obtain ⟨g, cap, rfl, q1, q2, lg, y0, y1, y2, yf⟩ := h.at hj
  have HYF := Lib.hid yf
  have fz1 := yf (j * 3 + 1)
  have fz2 := yf (j * 3 + 2)
  have hgr : ¬ g = r := h.nb g rfl
  have hpk : l[j].pins < 1000000 := (h.ok _ (List.getElem_mem hj)).2.2
  have HH := Lib.hid h
  have hV := (h.ok _ (List.getElem_mem hj)).2.1
  have HV := Lib.hid hV
  clear hV
  rw [hp] at y2 hpk
  have gq : ((q : Int) + 1 == 0) = false := by simp; omega
  have hcw : IntKind.i64.wrap ((q : Int) + 1 - 1) = (q : Int) := by rw [IntWalk.i64_in _ (by omega)]; omega
  clear h hat HAT yf
  go_enter Tryd.func10, Tryd.ntmps10
  go_wp2_with fail
  refine HA2.out.mono ?_
  rintro e w1 ⟨rfl, rfl⟩
  go_wp2
  have KS := HH.out.setP hj { l[j] with pins := q } rfl (c := 2) (.inr ⟨rfl, rfl⟩) (⟨HV.out, by show q < 1000000; omega⟩) (z := (.int .i64 q)) (by rfl)
  (try simp only [Exit.inBlock, Exit.then])
  refine bodyPost_ret (results_blk Tryd.results10 _ _ (blk_three2 (w := (w.setCell ⟨g, j * 3 + 2, none⟩ (.int .i64 q))) _ _ _ _ _ _ (by simp)) rfl Tryd.underlying35 rfl (by kernel_rfl)) rfl ?_
  have f2 : Fr NoF (w.setCell ⟨g, j * 3 + 2, none⟩ (.int .i64 q)) (((w.setCell ⟨g, j * 3 + 2, none⟩ (.int .i64 q)).alloc (.cells #[.int .i64 2, .int .u32 id, .int .u64 x] 43)).alloc (.cells #[.int .i64 0, .int .u32 0, .int .u64 0] 35)) := ((Fr.refl NoF _).alloc _).alloc _
  exact ⟨rfl, KS.1.fr0 f2, (KS.2.mono (fun i q => .inr (by rw [q]; rfl))).trans f2 (fun _ q => q.elim)⟩
set_option maxHeartbeats 2000000 in
theorem rdo_3 (h : RG w r n room l lv) {id j : Nat} {x : Int} (hat : atG l id = some j) (hj : j < l.length) {q : Nat} (hp : l[j].pins = q + 1) : Calls Tryd.prog 10 #[.pointer (some ⟨r, 0, none⟩), .agg #[.int .i64 3, .int .u32 id, .int .u64 x]] w fun e w' => e = .returned (.agg #[.int .i64 0, .int .u32 0, .int .u64 (l[j].v : Nat)]) ∧ Fr NoF w w' := by
  have HAT := atG_calls (h.fr0 (((Fr.refl NoF w).alloc (.cells #[.int .i64 3, .int .u32 id, .int .u64 x] 43)).alloc (.cells #[.int .i64 0, .int .u32 0, .int .u64 0] 35))) id
  rw [hat] at HAT
  unfold atGZ at HAT
  have HA2 := Lib.hid HAT
  have hll := h.b1.1
  have c2 := h.c2
  have lr := h.hd.lt
  obtain ⟨g, cap, rfl, q1, q2, lg, y0, y1, y2, yf⟩ := h.at hj
  have HYF := Lib.hid yf
  have fz1 := yf (j * 3 + 1)
  have fz2 := yf (j * 3 + 2)
  have hgr : ¬ g = r := h.nb g rfl
  have hpk : l[j].pins < 1000000 := (h.ok _ (List.getElem_mem hj)).2.2
  have HH := Lib.hid h
  rw [hp] at y2
  have gq : ((q : Int) + 1 == 0) = false := by simp; omega
  clear h hat HAT yf
  go_enter Tryd.func10, Tryd.ntmps10
  go_wp2_with fail
  refine HA2.out.mono ?_
  rintro e w1 ⟨rfl, rfl⟩
  go_wp2
  (try simp only [Exit.inBlock, Exit.then])
  refine bodyPost_ret (results_blk Tryd.results10 _ _ (blk_three2 (w := w) _ _ _ _ _ _ (by simp)) rfl Tryd.underlying35 rfl (by kernel_rfl)) rfl ?_
  exact ⟨rfl, ((Fr.refl NoF w).alloc _).alloc _⟩
set_option maxHeartbeats 2000000 in
theorem rdo_4 (h : RG w r n room l lv) {id j : Nat} {x : Nat} (hat : atG l id = some j) (hj : j < l.length) {q : Nat} (hp : l[j].pins = q + 1) (hx : okV x) : Calls Tryd.prog 10 #[.pointer (some ⟨r, 0, none⟩), .agg #[.int .i64 4, .int .u32 id, .int .u64 x]] w fun e w' => e = .returned (.agg #[.int .i64 0, .int .u32 0, .int .u64 0]) ∧ RG w' r n room (l.set j { l[j] with v := x }) lv ∧ Fr (GFr r lv) w w' := by
  have HAT := atG_calls (h.fr0 (((Fr.refl NoF w).alloc (.cells #[.int .i64 4, .int .u32 id, .int .u64 x] 43)).alloc (.cells #[.int .i64 0, .int .u32 0, .int .u64 0] 35))) id
  rw [hat] at HAT
  unfold atGZ at HAT
  have HA2 := Lib.hid HAT
  have hll := h.b1.1
  have c2 := h.c2
  have lr := h.hd.lt
  obtain ⟨g, cap, rfl, q1, q2, lg, y0, y1, y2, yf⟩ := h.at hj
  have HYF := Lib.hid yf
  have fz1 := yf (j * 3 + 1)
  have fz2 := yf (j * 3 + 2)
  have hgr : ¬ g = r := h.nb g rfl
  have hpk : l[j].pins < 1000000 := (h.ok _ (List.getElem_mem hj)).2.2
  have HH := Lib.hid h
  have HX := Lib.hid hx
  clear hx
  rw [hp] at y2
  have gq : ((q : Int) + 1 == 0) = false := by simp; omega
  clear h hat HAT yf
  go_enter Tryd.func10, Tryd.ntmps10
  go_wp2_with fail
  refine HA2.out.mono ?_
  rintro e w1 ⟨rfl, rfl⟩
  go_wp2
  go_region
  all_goals
    go_wp2
    have KS := HH.out.setP hj { l[j] with v := x } rfl (c := 1) (.inl ⟨rfl, rfl⟩) (⟨HX.out, hpk⟩) (z := (.int .u64 x)) (by rfl)
    (try simp only [Exit.inBlock, Exit.then])
    refine bodyPost_ret (results_blk Tryd.results10 _ _ (blk_three2 (w := (w.setCell ⟨g, j * 3 + 1, none⟩ (.int .u64 x))) _ _ _ _ _ _ (by simp)).drew rfl Tryd.underlying35 rfl (by kernel_rfl)) rfl ?_
    have f2 : Fr NoF (w.setCell ⟨g, j * 3 + 1, none⟩ (.int .u64 x)) (((w.setCell ⟨g, j * 3 + 1, none⟩ (.int .u64 x)).alloc (.cells #[.int .i64 4, .int .u32 id, .int .u64 x] 43)).alloc (.cells #[.int .i64 0, .int .u32 0, .int .u64 0] 35)).drew := (((Fr.refl NoF _).alloc _).alloc _).drew
    exact ⟨rfl, KS.1.fr0 f2, (KS.2.mono (fun i q => .inr (by rw [q]; rfl))).trans f2 (fun _ q => q.elim)⟩
set_option maxHeartbeats 2000000 in
theorem rdo_5 (h : RG w r n room l lv) {id j : Nat} {x : Int} (hat : atG l id = some j) (hj : j < l.length)  : Calls Tryd.prog 10 #[.pointer (some ⟨r, 0, none⟩), .agg #[.int .i64 5, .int .u32 id, .int .u64 x]] w fun e w' => e = .returned (.agg #[.int .i64 0, .int .u32 0, .int .u64 0]) ∧ Fr NoF w w' := by
  have HAT := atG_calls (h.fr0 (((Fr.refl NoF w).alloc (.cells #[.int .i64 5, .int .u32 id, .int .u64 x] 43)).alloc (.cells #[.int .i64 0, .int .u32 0, .int .u64 0] 35))) id
  rw [hat] at HAT
  unfold atGZ at HAT
  have HA2 := Lib.hid HAT
  have hll := h.b1.1
  have c2 := h.c2
  have lr := h.hd.lt
  obtain ⟨g, cap, rfl, q1, q2, lg, y0, y1, y2, yf⟩ := h.at hj
  have HYF := Lib.hid yf
  have fz1 := yf (j * 3 + 1)
  have fz2 := yf (j * 3 + 2)
  have hgr : ¬ g = r := h.nb g rfl
  have hpk : l[j].pins < 1000000 := (h.ok _ (List.getElem_mem hj)).2.2
  have HH := Lib.hid h
  clear h hat HAT yf
  go_enter Tryd.func10, Tryd.ntmps10
  go_wp2_with fail
  refine HA2.out.mono ?_
  rintro e w1 ⟨rfl, rfl⟩
  go_wp2
  (try simp only [Exit.inBlock, Exit.then])
  refine bodyPost_ret (results_blk Tryd.results10 _ _ (blk_three2 (w := w) _ _ _ _ _ _ (by simp)) rfl Tryd.underlying35 rfl (by kernel_rfl)) rfl ?_
  exact ⟨rfl, ((Fr.refl NoF w).alloc _).alloc _⟩
set_option maxHeartbeats 2000000 in
theorem rdo_7_pinned (h : RG w r n room l lv) {id j : Nat} {x : Int} (hat : atG l id = some j) (hj : j < l.length) {q : Nat} (hp : l[j].pins = q + 1) : Calls Tryd.prog 10 #[.pointer (some ⟨r, 0, none⟩), .agg #[.int .i64 7, .int .u32 id, .int .u64 x]] w fun e w' => e = .returned (.agg #[.int .i64 4, .int .u32 0, .int .u64 0]) ∧ Fr NoF w w' := by
  have HAT := atG_calls (h.fr0 (((Fr.refl NoF w).alloc (.cells #[.int .i64 7, .int .u32 id, .int .u64 x] 43)).alloc (.cells #[.int .i64 0, .int .u32 0, .int .u64 0] 35))) id
  rw [hat] at HAT
  unfold atGZ at HAT
  have HA2 := Lib.hid HAT
  have hll := h.b1.1
  have c2 := h.c2
  have lr := h.hd.lt
  obtain ⟨g, cap, rfl, q1, q2, lg, y0, y1, y2, yf⟩ := h.at hj
  have HYF := Lib.hid yf
  have fz1 := yf (j * 3 + 1)
  have fz2 := yf (j * 3 + 2)
  have hgr : ¬ g = r := h.nb g rfl
  have hpk : l[j].pins < 1000000 := (h.ok _ (List.getElem_mem hj)).2.2
  have HH := Lib.hid h
  rw [hp] at y2
  have gq : decide (0 < (q : Int) + 1) = true := by simp <;> omega
  clear h hat HAT yf
  go_enter Tryd.func10, Tryd.ntmps10
  go_wp2_with fail
  refine HA2.out.mono ?_
  rintro e w1 ⟨rfl, rfl⟩
  go_wp2
  (try simp only [Exit.inBlock, Exit.then])
  refine bodyPost_ret (results_blk Tryd.results10 _ _ (blk_three2 (w := w) _ _ _ _ _ _ (by simp)) rfl Tryd.underlying35 rfl (by kernel_rfl)) rfl ?_
  exact ⟨rfl, ((Fr.refl NoF w).alloc _).alloc _⟩
end
end Go.Proofs.YtnjdoifgljdjcaaDoor

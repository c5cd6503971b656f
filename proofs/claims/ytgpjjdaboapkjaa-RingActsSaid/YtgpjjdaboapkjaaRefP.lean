/-
  Package hatcheckref02: Put.
-/
import Derived.Test.YtgpjjdaboapkjaaRefB
import Derived.Test.YtgpjjdaboapkjaaTail
namespace Go.Proofs.Ytgpjjdaboapkjaa
open Go.RowKit
set_option linter.unusedVariables false

theorem own_one {w w0 : World} (hf : w0.heap.size ≤ w.heap.size) (x : Int) (g : Nat) (hg : g = w.heap.size) : (w.alloc (.cells #[.int .i64 x] 3)).ownsRow w0.heap.size 3 1 (.slice (some ⟨g, 0, none⟩) 1 1) 1 [.int .i64 x] :=
  own_new hf #[.int .i64 x] 3 1 1 g hg rfl (by unfold maxLen; omega)
theorem own_zero {w w0 : World} (hf : w0.heap.size ≤ w.heap.size) (g : Nat) (hg : g = w.heap.size) : (w.alloc (.cells #[] 3)).ownsRow w0.heap.size 3 1 (.slice (some ⟨g, 0, none⟩) 0 0) 0 [] :=
  own_new hf #[] 3 1 0 g hg rfl (by unfold maxLen; omega)

set_option maxHeartbeats 4000000 in
theorem put_front {w : World} {r N m : Nat} {L : List (List Nat)} {F : Nat → Prop} (h : RefR w r N m L F) {k x : Nat} (hk : k < m) (hx : x < N) :
    Calls Try.prog 9 #[.pointer (some ⟨r, 0, none⟩), .int .i64 k, .int .i64 x, .bool true] w fun e w' => e = .returned (.bool true) ∧ ∃ F', RefR w' r N m (putL L k x true) F' ∧ Fr F w w' ∧ ∀ i, F' i → F i ∨ w.heap.size ≤ i := by
  have HO := Lib.hid (out_ref h x)
  obtain ⟨lb0, vs0, h0⟩ := h
  have hRE0 := Lib.hid h0.ix
  have HT := thing_ref h0 h0.hN x
  have HR := row_ref h0 k
  rw [show decide (0 ≤ (x : Int) ∧ (x : Int) < N) = true from by simp; omega] at HT
  rw [show decide (0 ≤ (k : Int) ∧ (k : Int) < m) = true from by simp; omega] at HR
  rw [show outZ L (x : Int) = outL L x from by simp [outZ]] at HO
  have HT' := Lib.hid HT
  have HR' := Lib.hid HR
  clear h0 HT HR
  go_enter Try.func9, Try.ntmps9
  go_wp2_with (first
    | (go_at_call 28; refine HT'.out.mono ?_; rintro e w' ⟨rfl, rfl⟩)
    | (go_at_call 29; refine HR'.out.mono ?_; rintro e w' ⟨rfl, rfl⟩)
    | (go_at_call 14; refine HO.out.mono ?_; rintro e w1 ⟨rfl, F1, ⟨lb, vs, h1⟩, f1, hF1⟩))
  obtain ⟨l, hl, hl'⟩ := h1.get hk
  have HP : Hid (putL L k x true = (outL L x).set k (x :: l)) := by unfold Hid; simp [putL, hl']
  have HRE : Hid (RE N m ((outL L x).set k (x :: l))) := by unfold Hid; rw [← HP.out]; exact hRE0.out.put hk hx true
  have hlen := h1.ix.len k l hl
  have hN := h1.hN
  have c1 := h1.c1
  have ck := h1.row hk
  have hlbs := h1.rows.lt
  have hrs := h1.hd.lt
  have hm := h1.lt
  have hne : ¬ lb = r := fun e => h1.ne e.symm
  have hS := (h1.sl k l hl).1.toC
  rw [show (nums l).length = l.length from by simp [nums]] at hS
  obtain ⟨sa, sc, hv, _⟩ := id hS
  rw [hv] at hS ck
  have HS := Lib.hid hS
  have fz := h1.rows.frozen k
  have HH := Lib.hid h1
  have HF := Lib.hid (And.intro f1 hF1)
  clear hl hl' h1 hS hv f1 hF1 hRE0 HO
  refine region_tail (fun w' => w'.cell? ⟨r, 1, none⟩ = some (.slice (some ⟨lb, 0, none⟩) m m) ∧ w'.cell? ⟨lb, k, none⟩ = some (.slice sa l.length sc)) 16 (by kernel_rfl) rfl rfl (by kernel_rfl) ?_
  simp only [List.take_succ_cons, List.take_zero]
  have hS : (fun w' => w'.cell? ⟨r, 1, none⟩ = some (.slice (some ⟨lb, 0, none⟩) m m) ∧ w'.cell? ⟨lb, k, none⟩ = some (.slice sa l.length sc)) w1.drew := ⟨c1, ck⟩
  refine wpAnyH_take (i := 0) (v := ?_) rfl (by decide +kernel) (by decide +kernel) (by decide +kernel) (fun _ _ _ h => h) (Or.inl ⟨by rfl, ?_⟩) hS ?_
  rotate_left
  · intro wS hSw; (try dsimp only at hSw); go_simp
    try with_reducible rfl
  try simp only [Act.put, List.setIfInBounds_toArray, List.set_cons_zero, List.set_cons_succ]
  refine wpAnyH_take (i := 1) (v := ?_) rfl (by decide +kernel) (by decide +kernel) (by decide +kernel) (fun _ _ _ h => h) (Or.inl ⟨by rfl, ?_⟩) hS ?_
  rotate_left
  · intro wS hSw; (try dsimp only at hSw); go_simp
    try with_reducible rfl
  try simp only [Act.put, List.setIfInBounds_toArray, List.set_cons_zero, List.set_cons_succ]
  refine wpAnyH_take (i := 2) (v := ?_) rfl (by decide +kernel) (by decide +kernel) (by decide +kernel) (fun _ _ _ h => h) (Or.inl ⟨by rfl, ?_⟩) hS ?_
  rotate_left
  · intro wS hSw; (try dsimp only at hSw); go_simp
    try with_reducible rfl
  try simp only [Act.put, List.setIfInBounds_toArray, List.set_cons_zero, List.set_cons_succ]
  refine wpAnyH_take (i := 3) (v := ?_) rfl (by decide +kernel) (by decide +kernel) (by decide +kernel) (fun _ _ _ h => h) (Or.inl ⟨by rfl, ?_⟩) hS ?_
  rotate_left
  · intro wS hSw; (try dsimp only at hSw); go_simp
    try with_reducible rfl
  try simp only [Act.put, List.setIfInBounds_toArray, List.set_cons_zero, List.set_cons_succ]
  refine wpAnyH_take (i := 4) (v := ?_) rfl (by decide +kernel) (by decide +kernel) (by decide +kernel) (fun _ _ _ h => h) (Or.inl ⟨by rfl, ?_⟩) hS ?_
  rotate_left
  · intro wS hSw; (try dsimp only at hSw); go_simp
    try with_reducible rfl
  try simp only [Act.put, List.setIfInBounds_toArray, List.set_cons_zero, List.set_cons_succ]
  refine wpAnyH_take (i := 5) (v := ?_) rfl (by decide +kernel) (by decide +kernel) (by decide +kernel) (fun _ _ _ h => h) (Or.inl ⟨by rfl, ?_⟩) hS ?_
  rotate_left
  · intro wS hSw; (try dsimp only at hSw); go_simp
    try with_reducible rfl
  try simp only [Act.put, List.setIfInBounds_toArray, List.set_cons_zero, List.set_cons_succ]
  refine wpAnyH_take (i := 7) (v := ?_) rfl (by decide +kernel) (by decide +kernel) (by decide +kernel) (fun _ _ _ h => h) (Or.inl ⟨by rfl, ?_⟩) hS ?_
  rotate_left
  · intro wS hSw; (try dsimp only at hSw); go_simp
    try with_reducible rfl
  try simp only [Act.put, List.setIfInBounds_toArray, List.set_cons_zero, List.set_cons_succ]
  refine wpAnyH_take (i := 8) (v := ?_) rfl (by decide +kernel) (by decide +kernel) (by decide +kernel) (fun _ _ _ h => h) (Or.inl ⟨by rfl, ?_⟩) hS ?_
  rotate_left
  · intro wS hSw; (try dsimp only at hSw); go_simp
    try with_reducible rfl
  try simp only [Act.put, List.setIfInBounds_toArray, List.set_cons_zero, List.set_cons_succ]
  refine wpAnyH_take (i := 9) (v := ?_) rfl (by decide +kernel) (by decide +kernel) (by decide +kernel) (fun _ _ _ h => h) (Or.inl ⟨by rfl, ?_⟩) hS ?_
  rotate_left
  · intro wS hSw; (try dsimp only at hSw); go_simp
    try with_reducible rfl
  try simp only [Act.put, List.setIfInBounds_toArray, List.set_cons_zero, List.set_cons_succ]
  refine wpAnyH_take (i := 10) (v := ?_) rfl (by decide +kernel) (by decide +kernel) (by decide +kernel) (fun _ _ _ h => h) (Or.inl ⟨by rfl, ?_⟩) hS ?_
  rotate_left
  · intro wS hSw; (try dsimp only at hSw); go_simp
    try with_reducible rfl
  try simp only [Act.put, List.setIfInBounds_toArray, List.set_cons_zero, List.set_cons_succ]
  refine wpAnyH_take (i := 11) (v := ?_) rfl (by decide +kernel) (by decide +kernel) (by decide +kernel) (fun _ _ _ h => h) (Or.inl ⟨by rfl, ?_⟩) hS ?_
  rotate_left
  · intro wS hSw; (try dsimp only at hSw); go_simp
    try with_reducible rfl
  try simp only [Act.put, List.setIfInBounds_toArray, List.set_cons_zero, List.set_cons_succ]
  refine wpAnyH_take (i := 12) (v := ?_) rfl (by decide +kernel) (by decide +kernel) (by decide +kernel) (fun _ _ _ h => h) (Or.inl ⟨by rfl, ?_⟩) hS ?_
  rotate_left
  · intro wS hSw; (try dsimp only at hSw); go_simp
    try with_reducible rfl
  try simp only [Act.put, List.setIfInBounds_toArray, List.set_cons_zero, List.set_cons_succ]
  refine wpAnyH_take (i := 13) (v := ?_) rfl (by decide +kernel) (by decide +kernel) (by decide +kernel) (fun _ _ _ h => h) (Or.inl ⟨by rfl, ?_⟩) hS ?_
  rotate_left
  · intro wS hSw; (try dsimp only at hSw); go_simp
    try with_reducible rfl
  try simp only [Act.put, List.setIfInBounds_toArray, List.set_cons_zero, List.set_cons_succ]
  clear hS
  refine wpAnyH_ready (rs := [6]) (by kernel_rfl) (by simp) ?_
  refine AllReadyH.cons rfl (fun K hK => ?_) ?_
  · go_simp
    refine hK.out _ _ ⟨(Fr.cell (w := w1) (F := NoF) (by repeat (first | exact Fr.refl _ _ | exact hf3 | exact hf | apply Fr.drew | apply Fr.alloc)) (p := ⟨r, 1, none⟩) hrs id).trans c1, (Fr.cell (w := w1) (F := NoF) (by repeat (first | exact Fr.refl _ _ | exact hf3 | exact hf | apply Fr.drew | apply Fr.alloc)) (p := ⟨lb, k, none⟩) hlbs id).trans ck⟩ (fun hS => ?_)
    clear hK K
    refine wpAnyH_ready (rs := [14]) (by kernel_rfl) (by simp) ?_
    refine AllReadyH.cons rfl (fun K hK => ?_) ?_
    · refine appS (w0 := w1) EIint rfl (.tmp 29) (.tmp 36) rfl (by rfl) (by rfl) (by repeat (first | exact Fr.refl _ _ | exact hf3 | exact hf | apply Fr.drew | apply Fr.alloc)) (own_heap (by (try rw [heap_drew]); first | (refine heap_alloc_new _ _ _ ?_; simp; done) | (refine heap_step _ _ _ _ ?_; (refine heap_alloc_new _ _ _ ?_; simp; done))) (by simp) (by rfl) (by unfold maxLen; omega)) (HS.out.keep (by repeat (first | exact Fr.refl _ _ | exact hf3 | exact hf | apply Fr.drew | apply Fr.alloc))) (by unfold maxLen; omega) (by omega) ?_; intro v' w2 ho hf hrel; obtain ⟨a1, c1v, hv1, _⟩ := SlC.ofOwn ho (by intro u hu; simp at hu; first | (rcases hu with q | q <;> first | (subst q; rfl) | (obtain ⟨_, _, rfl⟩ := q; rfl)) | (obtain ⟨_, _, rfl⟩ := hu; rfl)); subst hv1; have HO1 := Lib.hid ho; have HREL1 := Lib.hid hrel; clear ho hrel; have q01 : w2.cell? ⟨r, 1, none⟩ = some (.slice (some ⟨lb, 0, none⟩) m m) := (hf.cell (p := ⟨r, 1, none⟩) hrs id).trans c1; have q11 := (hf.cell (p := ⟨lb, k, none⟩) hlbs id).trans ck; have q21 : w2.frozen? ⟨lb, k, none⟩ = false := (hf.frozen (p := ⟨lb, k, none⟩) hlbs id).trans fz
      refine hK.out _ _ ⟨(Fr.cell (w := w1) (F := NoF) (by repeat (first | exact Fr.refl _ _ | exact hf3 | exact hf | apply Fr.drew | apply Fr.alloc)) (p := ⟨r, 1, none⟩) hrs id).trans c1, (Fr.cell (w := w1) (F := NoF) (by repeat (first | exact Fr.refl _ _ | exact hf3 | exact hf | apply Fr.drew | apply Fr.alloc)) (p := ⟨lb, k, none⟩) hlbs id).trans ck⟩ (fun hS => ?_)
      clear hK K
      refine wpAnyH_take (i := 15) (v := ?_) rfl (by decide +kernel) (by decide +kernel) (by decide +kernel) (fun _ _ _ h => h) (Or.inl ⟨by rfl, ?_⟩) hS ?_
      rotate_left
      · intro wS hSw; (try dsimp only at hSw); go_simp
        try with_reducible rfl
      try simp only [Act.put, List.setIfInBounds_toArray, List.set_cons_zero, List.set_cons_succ]
      refine wpAnyH_done (by kernel_rfl) ?_ _
      show wpList _ _ _ _ _ _
      go_wp2
      go_ret
      have hown : ownI w1 w2 (.slice a1 (1 + l.length) c1v) (x :: l) := by
        have := HO1.out
        unfold ownI
        rw [show (x :: l).length = 1 + l.length from by simp <;> omega]
        simpa [nums] using this
      obtain ⟨vs', F', g1, g2, g3⟩ := HH.out.setRow hf hk hown HRE.out
      exact ⟨rfl, F', by rw [HP.out]; exact ⟨lb, vs', g1⟩, HF.out.1.trans g2 HF.out.2, fun i hi => (g3 i hi).elim (HF.out.2 i) (fun q => .inr (Nat.le_trans HF.out.1.size q))⟩
    exact AllReadyH.nil
  exact AllReadyH.nil
set_option maxHeartbeats 4000000 in
theorem put_back {w : World} {r N m : Nat} {L : List (List Nat)} {F : Nat → Prop} (h : RefR w r N m L F) {k x : Nat} (hk : k < m) (hx : x < N) :
    Calls Try.prog 9 #[.pointer (some ⟨r, 0, none⟩), .int .i64 k, .int .i64 x, .bool false] w fun e w' => e = .returned (.bool true) ∧ ∃ F', RefR w' r N m (putL L k x false) F' ∧ Fr F w w' ∧ ∀ i, F' i → F i ∨ w.heap.size ≤ i := by
  have HO := Lib.hid (out_ref h x)
  obtain ⟨lb0, vs0, h0⟩ := h
  have hRE0 := Lib.hid h0.ix
  have HT := thing_ref h0 h0.hN x
  have HR := row_ref h0 k
  rw [show decide (0 ≤ (x : Int) ∧ (x : Int) < N) = true from by simp; omega] at HT
  rw [show decide (0 ≤ (k : Int) ∧ (k : Int) < m) = true from by simp; omega] at HR
  rw [show outZ L (x : Int) = outL L x from by simp [outZ]] at HO
  have HT' := Lib.hid HT
  have HR' := Lib.hid HR
  clear h0 HT HR
  go_enter Try.func9, Try.ntmps9
  go_wp2_with (first
    | (go_at_call 28; refine HT'.out.mono ?_; rintro e w' ⟨rfl, rfl⟩)
    | (go_at_call 29; refine HR'.out.mono ?_; rintro e w' ⟨rfl, rfl⟩)
    | (go_at_call 14; refine HO.out.mono ?_; rintro e w1 ⟨rfl, F1, ⟨lb, vs, h1⟩, f1, hF1⟩))
  obtain ⟨l, hl, hl'⟩ := h1.get hk
  have HP : Hid (putL L k x false = (outL L x).set k (l ++ [x])) := by unfold Hid; simp [putL, hl']
  have HRE : Hid (RE N m ((outL L x).set k (l ++ [x]))) := by unfold Hid; rw [← HP.out]; exact hRE0.out.put hk hx false
  have hlen := h1.ix.len k l hl
  have hN := h1.hN
  have c1 := h1.c1
  have ck := h1.row hk
  have hlbs := h1.rows.lt
  have hrs := h1.hd.lt
  have hm := h1.lt
  have hne : ¬ lb = r := fun e => h1.ne e.symm
  have hS := (h1.sl k l hl).1.toC
  rw [show (nums l).length = l.length from by simp [nums]] at hS
  obtain ⟨sa, sc, hv, _⟩ := id hS
  rw [hv] at hS ck
  have HS := Lib.hid hS
  have fz := h1.rows.frozen k
  have HH := Lib.hid h1
  have HF := Lib.hid (And.intro f1 hF1)
  clear hl hl' h1 hS hv f1 hF1 hRE0 HO
  refine region_tail (fun w' => w'.cell? ⟨r, 1, none⟩ = some (.slice (some ⟨lb, 0, none⟩) m m) ∧ w'.cell? ⟨lb, k, none⟩ = some (.slice sa l.length sc)) 18 (by kernel_rfl) rfl rfl (by kernel_rfl) ?_
  simp only [List.take_succ_cons, List.take_zero]
  have hS : (fun w' => w'.cell? ⟨r, 1, none⟩ = some (.slice (some ⟨lb, 0, none⟩) m m) ∧ w'.cell? ⟨lb, k, none⟩ = some (.slice sa l.length sc)) w1.drew := ⟨c1, ck⟩
  refine wpAnyH_take (i := 0) (v := ?_) rfl (by decide +kernel) (by decide +kernel) (by decide +kernel) (fun _ _ _ h => h) (Or.inl ⟨by rfl, ?_⟩) hS ?_
  rotate_left
  · intro wS hSw; (try dsimp only at hSw); go_simp
    try with_reducible rfl
  try simp only [Act.put, List.setIfInBounds_toArray, List.set_cons_zero, List.set_cons_succ]
  refine wpAnyH_take (i := 1) (v := ?_) rfl (by decide +kernel) (by decide +kernel) (by decide +kernel) (fun _ _ _ h => h) (Or.inl ⟨by rfl, ?_⟩) hS ?_
  rotate_left
  · intro wS hSw; (try dsimp only at hSw); go_simp
    try with_reducible rfl
  try simp only [Act.put, List.setIfInBounds_toArray, List.set_cons_zero, List.set_cons_succ]
  refine wpAnyH_take (i := 2) (v := ?_) rfl (by decide +kernel) (by decide +kernel) (by decide +kernel) (fun _ _ _ h => h) (Or.inl ⟨by rfl, ?_⟩) hS ?_
  rotate_left
  · intro wS hSw; (try dsimp only at hSw); go_simp
    try with_reducible rfl
  try simp only [Act.put, List.setIfInBounds_toArray, List.set_cons_zero, List.set_cons_succ]
  refine wpAnyH_take (i := 3) (v := ?_) rfl (by decide +kernel) (by decide +kernel) (by decide +kernel) (fun _ _ _ h => h) (Or.inl ⟨by rfl, ?_⟩) hS ?_
  rotate_left
  · intro wS hSw; (try dsimp only at hSw); go_simp
    try with_reducible rfl
  try simp only [Act.put, List.setIfInBounds_toArray, List.set_cons_zero, List.set_cons_succ]
  refine wpAnyH_take (i := 4) (v := ?_) rfl (by decide +kernel) (by decide +kernel) (by decide +kernel) (fun _ _ _ h => h) (Or.inl ⟨by rfl, ?_⟩) hS ?_
  rotate_left
  · intro wS hSw; (try dsimp only at hSw); go_simp
    try with_reducible rfl
  try simp only [Act.put, List.setIfInBounds_toArray, List.set_cons_zero, List.set_cons_succ]
  refine wpAnyH_take (i := 6) (v := ?_) rfl (by decide +kernel) (by decide +kernel) (by decide +kernel) (fun _ _ _ h => h) (Or.inl ⟨by rfl, ?_⟩) hS ?_
  rotate_left
  · intro wS hSw; (try dsimp only at hSw); go_simp
    try with_reducible rfl
  try simp only [Act.put, List.setIfInBounds_toArray, List.set_cons_zero, List.set_cons_succ]
  refine wpAnyH_take (i := 7) (v := ?_) rfl (by decide +kernel) (by decide +kernel) (by decide +kernel) (fun _ _ _ h => h) (Or.inl ⟨by rfl, ?_⟩) hS ?_
  rotate_left
  · intro wS hSw; (try dsimp only at hSw); go_simp
    try with_reducible rfl
  try simp only [Act.put, List.setIfInBounds_toArray, List.set_cons_zero, List.set_cons_succ]
  refine wpAnyH_take (i := 8) (v := ?_) rfl (by decide +kernel) (by decide +kernel) (by decide +kernel) (fun _ _ _ h => h) (Or.inl ⟨by rfl, ?_⟩) hS ?_
  rotate_left
  · intro wS hSw; (try dsimp only at hSw); go_simp
    try with_reducible rfl
  try simp only [Act.put, List.setIfInBounds_toArray, List.set_cons_zero, List.set_cons_succ]
  refine wpAnyH_take (i := 9) (v := ?_) rfl (by decide +kernel) (by decide +kernel) (by decide +kernel) (fun _ _ _ h => h) (Or.inl ⟨by rfl, ?_⟩) hS ?_
  rotate_left
  · intro wS hSw; (try dsimp only at hSw); go_simp
    try with_reducible rfl
  try simp only [Act.put, List.setIfInBounds_toArray, List.set_cons_zero, List.set_cons_succ]
  refine wpAnyH_take (i := 10) (v := ?_) rfl (by decide +kernel) (by decide +kernel) (by decide +kernel) (fun _ _ _ h => h) (Or.inl ⟨by rfl, ?_⟩) hS ?_
  rotate_left
  · intro wS hSw; (try dsimp only at hSw); go_simp
    try with_reducible rfl
  try simp only [Act.put, List.setIfInBounds_toArray, List.set_cons_zero, List.set_cons_succ]
  refine wpAnyH_take (i := 11) (v := ?_) rfl (by decide +kernel) (by decide +kernel) (by decide +kernel) (fun _ _ _ h => h) (Or.inl ⟨by rfl, ?_⟩) hS ?_
  rotate_left
  · intro wS hSw; (try dsimp only at hSw); go_simp
    try with_reducible rfl
  try simp only [Act.put, List.setIfInBounds_toArray, List.set_cons_zero, List.set_cons_succ]
  refine wpAnyH_take (i := 12) (v := ?_) rfl (by decide +kernel) (by decide +kernel) (by decide +kernel) (fun _ _ _ h => h) (Or.inl ⟨by rfl, ?_⟩) hS ?_
  rotate_left
  · intro wS hSw; (try dsimp only at hSw); go_simp
    try with_reducible rfl
  try simp only [Act.put, List.setIfInBounds_toArray, List.set_cons_zero, List.set_cons_succ]
  refine wpAnyH_take (i := 14) (v := ?_) rfl (by decide +kernel) (by decide +kernel) (by decide +kernel) (fun _ _ _ h => h) (Or.inl ⟨by rfl, ?_⟩) hS ?_
  rotate_left
  · intro wS hSw; (try dsimp only at hSw); go_simp
    try with_reducible rfl
  try simp only [Act.put, List.setIfInBounds_toArray, List.set_cons_zero, List.set_cons_succ]
  clear hS
  refine wpAnyH_ready (rs := [5, 15]) (by kernel_rfl) (by simp) ?_
  refine AllReadyH.cons rfl (fun K hK => ?_) ?_
  · go_simp
    refine hK.out _ _ ⟨(Fr.cell (w := w1) (F := NoF) (by repeat (first | exact Fr.refl _ _ | exact hf3 | exact hf | apply Fr.drew | apply Fr.alloc)) (p := ⟨r, 1, none⟩) hrs id).trans c1, (Fr.cell (w := w1) (F := NoF) (by repeat (first | exact Fr.refl _ _ | exact hf3 | exact hf | apply Fr.drew | apply Fr.alloc)) (p := ⟨lb, k, none⟩) hlbs id).trans ck⟩ (fun hS => ?_)
    clear hK K
    refine wpAnyH_ready (rs := [13, 15]) (by kernel_rfl) (by simp) ?_
    refine AllReadyH.cons rfl (fun K hK => ?_) ?_
    · refine appS (w0 := w1) EIint rfl (.tmp 44) (.tmp 51) rfl (by rfl) (by rfl) (by repeat (first | exact Fr.refl _ _ | exact hf3 | exact hf | apply Fr.drew | apply Fr.alloc)) (own_heap (by (try rw [heap_drew]); first | (refine heap_alloc_new _ _ _ ?_; simp; done) | (refine heap_step _ _ _ _ ?_; (refine heap_alloc_new _ _ _ ?_; simp; done))) (by simp) (by rfl) (by unfold maxLen; omega)) (HS.out.keep (by repeat (first | exact Fr.refl _ _ | exact hf3 | exact hf | apply Fr.drew | apply Fr.alloc))) (by unfold maxLen; omega) (by omega) ?_; intro v' w2 ho hf hrel; rw [Nat.zero_add] at ho; obtain ⟨a1, c1v, hv1, _⟩ := SlC.ofOwn ho (by intro u hu; simp at hu; first | (rcases hu with q | q <;> first | (subst q; rfl) | (obtain ⟨_, _, rfl⟩ := q; rfl)) | (obtain ⟨_, _, rfl⟩ := hu; rfl)); subst hv1; have HO1 := Lib.hid ho; have HREL1 := Lib.hid hrel; clear ho hrel; have q01 : w2.cell? ⟨r, 1, none⟩ = some (.slice (some ⟨lb, 0, none⟩) m m) := (hf.cell (p := ⟨r, 1, none⟩) hrs id).trans c1; have q11 := (hf.cell (p := ⟨lb, k, none⟩) hlbs id).trans ck; have q21 : w2.frozen? ⟨lb, k, none⟩ = false := (hf.frozen (p := ⟨lb, k, none⟩) hlbs id).trans fz
      refine hK.out _ _ ⟨(Fr.cell (w := w1) (F := NoF) (by repeat (first | exact Fr.refl _ _ | exact hf3 | exact hf | apply Fr.drew | apply Fr.alloc)) (p := ⟨r, 1, none⟩) hrs id).trans c1, (Fr.cell (w := w1) (F := NoF) (by repeat (first | exact Fr.refl _ _ | exact hf3 | exact hf | apply Fr.drew | apply Fr.alloc)) (p := ⟨lb, k, none⟩) hlbs id).trans ck⟩ (fun hS => ?_)
      clear hK K
      refine wpAnyH_ready (rs := [15]) (by kernel_rfl) (by simp) ?_
      refine AllReadyH.cons rfl (fun K hK => ?_) ?_
      · go_simp
        refine hK.out _ _ ⟨(Fr.cell (w := w1) (F := NoF) (by repeat (first | exact Fr.refl _ _ | exact hf3 | exact hf | apply Fr.drew | apply Fr.alloc)) (p := ⟨r, 1, none⟩) hrs id).trans c1, (Fr.cell (w := w1) (F := NoF) (by repeat (first | exact Fr.refl _ _ | exact hf3 | exact hf | apply Fr.drew | apply Fr.alloc)) (p := ⟨lb, k, none⟩) hlbs id).trans ck⟩ (fun hS => ?_)
        clear hK K
        refine wpAnyH_ready (rs := [16]) (by kernel_rfl) (by simp) ?_
        refine AllReadyH.cons rfl (fun K hK => ?_) ?_
        · refine appS (w0 := w1) EIint rfl (.tmp 52) (.tmp 54) rfl (by rfl) (by rfl) (by repeat (first | exact Fr.refl _ _ | exact hf3 | exact hf | apply Fr.drew | apply Fr.alloc)) (by first | exact HO1.out | exact own_keep HO1.out ((Fr.refl NoF _).alloc _) (fun _ _ q => q)) (sl_heap (size := 1) (by first | (refine heap_alloc_new _ _ _ ?_; simp; done) | (refine HREL1.out.heap (by (try rw [heap_drew]); first | (refine heap_alloc_new _ _ _ ?_; simp; done) | (refine heap_step _ _ _ _ ?_; (refine heap_alloc_new _ _ _ ?_; simp; done))) (by simp [Value.ownBlock]; done))) (by rfl) (by unfold maxLen; omega) (by simp [Value.oneCell'])) (by unfold maxLen; omega) (by omega) ?_; intro v' w3 ho hf3 hrel; obtain ⟨a2, c2v, hv2, _⟩ := SlC.ofOwn ho (by intro u hu; simp at hu; first | (rcases hu with q | q <;> first | (subst q; rfl) | (obtain ⟨_, _, rfl⟩ := q; rfl)) | (obtain ⟨_, _, rfl⟩ := hu; rfl)); subst hv2; have HO2 := Lib.hid ho; have HREL2 := Lib.hid hrel; clear ho hrel; have q02 : w3.cell? ⟨r, 1, none⟩ = some (.slice (some ⟨lb, 0, none⟩) m m) := (hf3.cell (p := ⟨r, 1, none⟩) hrs id).trans c1; have q12 := (hf3.cell (p := ⟨lb, k, none⟩) hlbs id).trans ck; have q22 : w3.frozen? ⟨lb, k, none⟩ = false := (hf3.frozen (p := ⟨lb, k, none⟩) hlbs id).trans fz
          refine hK.out _ _ ⟨(Fr.cell (w := w1) (F := NoF) (by repeat (first | exact Fr.refl _ _ | exact hf3 | exact hf | apply Fr.drew | apply Fr.alloc)) (p := ⟨r, 1, none⟩) hrs id).trans c1, (Fr.cell (w := w1) (F := NoF) (by repeat (first | exact Fr.refl _ _ | exact hf3 | exact hf | apply Fr.drew | apply Fr.alloc)) (p := ⟨lb, k, none⟩) hlbs id).trans ck⟩ (fun hS => ?_)
          clear hK K
          refine wpAnyH_take (i := 17) (v := ?_) rfl (by decide +kernel) (by decide +kernel) (by decide +kernel) (fun _ _ _ h => h) (Or.inl ⟨by rfl, ?_⟩) hS ?_
          rotate_left
          · intro wS hSw; (try dsimp only at hSw); go_simp
            try with_reducible rfl
          try simp only [Act.put, List.setIfInBounds_toArray, List.set_cons_zero, List.set_cons_succ]
          refine wpAnyH_done (by kernel_rfl) ?_ _
          show wpList _ _ _ _ _ _
          go_wp2
          go_ret
          have hown : ownI w1 w3 (.slice a2 (l.length + 1) c2v) (l ++ [x]) := by
            have := HO2.out
            unfold ownI
            rw [show (l ++ [x]).length = l.length + 1 from by simp <;> omega]
            simpa [nums] using this
          obtain ⟨vs', F', g1, g2, g3⟩ := HH.out.setRow hf3 hk hown HRE.out
          exact ⟨rfl, F', by rw [HP.out]; exact ⟨lb, vs', g1⟩, HF.out.1.trans g2 HF.out.2, fun i hi => (g3 i hi).elim (HF.out.2 i) (fun q => .inr (Nat.le_trans HF.out.1.size q))⟩
        exact AllReadyH.nil
      exact AllReadyH.nil
    refine AllReadyH.cons rfl (fun K hK => ?_) ?_
    · go_simp
      refine hK.out _ _ ⟨(Fr.cell (w := w1) (F := NoF) (by repeat (first | exact Fr.refl _ _ | exact hf3 | exact hf | apply Fr.drew | apply Fr.alloc)) (p := ⟨r, 1, none⟩) hrs id).trans c1, (Fr.cell (w := w1) (F := NoF) (by repeat (first | exact Fr.refl _ _ | exact hf3 | exact hf | apply Fr.drew | apply Fr.alloc)) (p := ⟨lb, k, none⟩) hlbs id).trans ck⟩ (fun hS => ?_)
      clear hK K
      refine wpAnyH_ready (rs := [13]) (by kernel_rfl) (by simp) ?_
      refine AllReadyH.cons rfl (fun K hK => ?_) ?_
      · refine appS (w0 := w1) EIint rfl (.tmp 44) (.tmp 51) rfl (by rfl) (by rfl) (by repeat (first | exact Fr.refl _ _ | exact hf3 | exact hf | apply Fr.drew | apply Fr.alloc)) (own_heap (by (try rw [heap_drew]); first | (refine heap_alloc_new _ _ _ ?_; simp; done) | (refine heap_step _ _ _ _ ?_; (refine heap_alloc_new _ _ _ ?_; simp; done))) (by simp) (by rfl) (by unfold maxLen; omega)) (HS.out.keep (by repeat (first | exact Fr.refl _ _ | exact hf3 | exact hf | apply Fr.drew | apply Fr.alloc))) (by unfold maxLen; omega) (by omega) ?_; intro v' w2 ho hf hrel; rw [Nat.zero_add] at ho; obtain ⟨a1, c1v, hv1, _⟩ := SlC.ofOwn ho (by intro u hu; simp at hu; first | (rcases hu with q | q <;> first | (subst q; rfl) | (obtain ⟨_, _, rfl⟩ := q; rfl)) | (obtain ⟨_, _, rfl⟩ := hu; rfl)); subst hv1; have HO1 := Lib.hid ho; have HREL1 := Lib.hid hrel; clear ho hrel; have q01 : w2.cell? ⟨r, 1, none⟩ = some (.slice (some ⟨lb, 0, none⟩) m m) := (hf.cell (p := ⟨r, 1, none⟩) hrs id).trans c1; have q11 := (hf.cell (p := ⟨lb, k, none⟩) hlbs id).trans ck; have q21 : w2.frozen? ⟨lb, k, none⟩ = false := (hf.frozen (p := ⟨lb, k, none⟩) hlbs id).trans fz
        refine hK.out _ _ ⟨(Fr.cell (w := w1) (F := NoF) (by repeat (first | exact Fr.refl _ _ | exact hf3 | exact hf | apply Fr.drew | apply Fr.alloc)) (p := ⟨r, 1, none⟩) hrs id).trans c1, (Fr.cell (w := w1) (F := NoF) (by repeat (first | exact Fr.refl _ _ | exact hf3 | exact hf | apply Fr.drew | apply Fr.alloc)) (p := ⟨lb, k, none⟩) hlbs id).trans ck⟩ (fun hS => ?_)
        clear hK K
        refine wpAnyH_ready (rs := [16]) (by kernel_rfl) (by simp) ?_
        refine AllReadyH.cons rfl (fun K hK => ?_) ?_
        · refine appS (w0 := w1) EIint rfl (.tmp 52) (.tmp 54) rfl (by rfl) (by rfl) (by repeat (first | exact Fr.refl _ _ | exact hf3 | exact hf | apply Fr.drew | apply Fr.alloc)) (by first | exact HO1.out | exact own_keep HO1.out ((Fr.refl NoF _).alloc _) (fun _ _ q => q)) (sl_heap (size := 1) (by first | (refine heap_alloc_new _ _ _ ?_; simp; done) | (refine HREL1.out.heap (by (try rw [heap_drew]); first | (refine heap_alloc_new _ _ _ ?_; simp; done) | (refine heap_step _ _ _ _ ?_; (refine heap_alloc_new _ _ _ ?_; simp; done))) (by simp [Value.ownBlock]; done))) (by rfl) (by unfold maxLen; omega) (by simp [Value.oneCell'])) (by unfold maxLen; omega) (by omega) ?_; intro v' w3 ho hf3 hrel; obtain ⟨a2, c2v, hv2, _⟩ := SlC.ofOwn ho (by intro u hu; simp at hu; first | (rcases hu with q | q <;> first | (subst q; rfl) | (obtain ⟨_, _, rfl⟩ := q; rfl)) | (obtain ⟨_, _, rfl⟩ := hu; rfl)); subst hv2; have HO2 := Lib.hid ho; have HREL2 := Lib.hid hrel; clear ho hrel; have q02 : w3.cell? ⟨r, 1, none⟩ = some (.slice (some ⟨lb, 0, none⟩) m m) := (hf3.cell (p := ⟨r, 1, none⟩) hrs id).trans c1; have q12 := (hf3.cell (p := ⟨lb, k, none⟩) hlbs id).trans ck; have q22 : w3.frozen? ⟨lb, k, none⟩ = false := (hf3.frozen (p := ⟨lb, k, none⟩) hlbs id).trans fz
          refine hK.out _ _ ⟨(Fr.cell (w := w1) (F := NoF) (by repeat (first | exact Fr.refl _ _ | exact hf3 | exact hf | apply Fr.drew | apply Fr.alloc)) (p := ⟨r, 1, none⟩) hrs id).trans c1, (Fr.cell (w := w1) (F := NoF) (by repeat (first | exact Fr.refl _ _ | exact hf3 | exact hf | apply Fr.drew | apply Fr.alloc)) (p := ⟨lb, k, none⟩) hlbs id).trans ck⟩ (fun hS => ?_)
          clear hK K
          refine wpAnyH_take (i := 17) (v := ?_) rfl (by decide +kernel) (by decide +kernel) (by decide +kernel) (fun _ _ _ h => h) (Or.inl ⟨by rfl, ?_⟩) hS ?_
          rotate_left
          · intro wS hSw; (try dsimp only at hSw); go_simp
            try with_reducible rfl
          try simp only [Act.put, List.setIfInBounds_toArray, List.set_cons_zero, List.set_cons_succ]
          refine wpAnyH_done (by kernel_rfl) ?_ _
          show wpList _ _ _ _ _ _
          go_wp2
          go_ret
          have hown : ownI w1 w3 (.slice a2 (l.length + 1) c2v) (l ++ [x]) := by
            have := HO2.out
            unfold ownI
            rw [show (l ++ [x]).length = l.length + 1 from by simp <;> omega]
            simpa [nums] using this
          obtain ⟨vs', F', g1, g2, g3⟩ := HH.out.setRow hf3 hk hown HRE.out
          exact ⟨rfl, F', by rw [HP.out]; exact ⟨lb, vs', g1⟩, HF.out.1.trans g2 HF.out.2, fun i hi => (g3 i hi).elim (HF.out.2 i) (fun q => .inr (Nat.le_trans HF.out.1.size q))⟩
        exact AllReadyH.nil
      exact AllReadyH.nil
    exact AllReadyH.nil
  refine AllReadyH.cons rfl (fun K hK => ?_) ?_
  · go_simp
    refine hK.out _ _ ⟨(Fr.cell (w := w1) (F := NoF) (by repeat (first | exact Fr.refl _ _ | exact hf3 | exact hf | apply Fr.drew | apply Fr.alloc)) (p := ⟨r, 1, none⟩) hrs id).trans c1, (Fr.cell (w := w1) (F := NoF) (by repeat (first | exact Fr.refl _ _ | exact hf3 | exact hf | apply Fr.drew | apply Fr.alloc)) (p := ⟨lb, k, none⟩) hlbs id).trans ck⟩ (fun hS => ?_)
    clear hK K
    refine wpAnyH_ready (rs := [5]) (by kernel_rfl) (by simp) ?_
    refine AllReadyH.cons rfl (fun K hK => ?_) ?_
    · go_simp
      refine hK.out _ _ ⟨(Fr.cell (w := w1) (F := NoF) (by repeat (first | exact Fr.refl _ _ | exact hf3 | exact hf | apply Fr.drew | apply Fr.alloc)) (p := ⟨r, 1, none⟩) hrs id).trans c1, (Fr.cell (w := w1) (F := NoF) (by repeat (first | exact Fr.refl _ _ | exact hf3 | exact hf | apply Fr.drew | apply Fr.alloc)) (p := ⟨lb, k, none⟩) hlbs id).trans ck⟩ (fun hS => ?_)
      clear hK K
      refine wpAnyH_ready (rs := [13]) (by kernel_rfl) (by simp) ?_
      refine AllReadyH.cons rfl (fun K hK => ?_) ?_
      · refine appS (w0 := w1) EIint rfl (.tmp 44) (.tmp 51) rfl (by rfl) (by rfl) (by repeat (first | exact Fr.refl _ _ | exact hf3 | exact hf | apply Fr.drew | apply Fr.alloc)) (own_heap (by (try rw [heap_drew]); first | (refine heap_alloc_new _ _ _ ?_; simp; done) | (refine heap_step _ _ _ _ ?_; (refine heap_alloc_new _ _ _ ?_; simp; done))) (by simp) (by rfl) (by unfold maxLen; omega)) (HS.out.keep (by repeat (first | exact Fr.refl _ _ | exact hf3 | exact hf | apply Fr.drew | apply Fr.alloc))) (by unfold maxLen; omega) (by omega) ?_; intro v' w2 ho hf hrel; rw [Nat.zero_add] at ho; obtain ⟨a1, c1v, hv1, _⟩ := SlC.ofOwn ho (by intro u hu; simp at hu; first | (rcases hu with q | q <;> first | (subst q; rfl) | (obtain ⟨_, _, rfl⟩ := q; rfl)) | (obtain ⟨_, _, rfl⟩ := hu; rfl)); subst hv1; have HO1 := Lib.hid ho; have HREL1 := Lib.hid hrel; clear ho hrel; have q01 : w2.cell? ⟨r, 1, none⟩ = some (.slice (some ⟨lb, 0, none⟩) m m) := (hf.cell (p := ⟨r, 1, none⟩) hrs id).trans c1; have q11 := (hf.cell (p := ⟨lb, k, none⟩) hlbs id).trans ck; have q21 : w2.frozen? ⟨lb, k, none⟩ = false := (hf.frozen (p := ⟨lb, k, none⟩) hlbs id).trans fz
        refine hK.out _ _ ⟨(Fr.cell (w := w1) (F := NoF) (by repeat (first | exact Fr.refl _ _ | exact hf3 | exact hf | apply Fr.drew | apply Fr.alloc)) (p := ⟨r, 1, none⟩) hrs id).trans c1, (Fr.cell (w := w1) (F := NoF) (by repeat (first | exact Fr.refl _ _ | exact hf3 | exact hf | apply Fr.drew | apply Fr.alloc)) (p := ⟨lb, k, none⟩) hlbs id).trans ck⟩ (fun hS => ?_)
        clear hK K
        refine wpAnyH_ready (rs := [16]) (by kernel_rfl) (by simp) ?_
        refine AllReadyH.cons rfl (fun K hK => ?_) ?_
        · refine appS (w0 := w1) EIint rfl (.tmp 52) (.tmp 54) rfl (by rfl) (by rfl) (by repeat (first | exact Fr.refl _ _ | exact hf3 | exact hf | apply Fr.drew | apply Fr.alloc)) (by first | exact HO1.out | exact own_keep HO1.out ((Fr.refl NoF _).alloc _) (fun _ _ q => q)) (sl_heap (size := 1) (by first | (refine heap_alloc_new _ _ _ ?_; simp; done) | (refine HREL1.out.heap (by (try rw [heap_drew]); first | (refine heap_alloc_new _ _ _ ?_; simp; done) | (refine heap_step _ _ _ _ ?_; (refine heap_alloc_new _ _ _ ?_; simp; done))) (by simp [Value.ownBlock]; done))) (by rfl) (by unfold maxLen; omega) (by simp [Value.oneCell'])) (by unfold maxLen; omega) (by omega) ?_; intro v' w3 ho hf3 hrel; obtain ⟨a2, c2v, hv2, _⟩ := SlC.ofOwn ho (by intro u hu; simp at hu; first | (rcases hu with q | q <;> first | (subst q; rfl) | (obtain ⟨_, _, rfl⟩ := q; rfl)) | (obtain ⟨_, _, rfl⟩ := hu; rfl)); subst hv2; have HO2 := Lib.hid ho; have HREL2 := Lib.hid hrel; clear ho hrel; have q02 : w3.cell? ⟨r, 1, none⟩ = some (.slice (some ⟨lb, 0, none⟩) m m) := (hf3.cell (p := ⟨r, 1, none⟩) hrs id).trans c1; have q12 := (hf3.cell (p := ⟨lb, k, none⟩) hlbs id).trans ck; have q22 : w3.frozen? ⟨lb, k, none⟩ = false := (hf3.frozen (p := ⟨lb, k, none⟩) hlbs id).trans fz
          refine hK.out _ _ ⟨(Fr.cell (w := w1) (F := NoF) (by repeat (first | exact Fr.refl _ _ | exact hf3 | exact hf | apply Fr.drew | apply Fr.alloc)) (p := ⟨r, 1, none⟩) hrs id).trans c1, (Fr.cell (w := w1) (F := NoF) (by repeat (first | exact Fr.refl _ _ | exact hf3 | exact hf | apply Fr.drew | apply Fr.alloc)) (p := ⟨lb, k, none⟩) hlbs id).trans ck⟩ (fun hS => ?_)
          clear hK K
          refine wpAnyH_take (i := 17) (v := ?_) rfl (by decide +kernel) (by decide +kernel) (by decide +kernel) (fun _ _ _ h => h) (Or.inl ⟨by rfl, ?_⟩) hS ?_
          rotate_left
          · intro wS hSw; (try dsimp only at hSw); go_simp
            try with_reducible rfl
          try simp only [Act.put, List.setIfInBounds_toArray, List.set_cons_zero, List.set_cons_succ]
          refine wpAnyH_done (by kernel_rfl) ?_ _
          show wpList _ _ _ _ _ _
          go_wp2
          go_ret
          have hown : ownI w1 w3 (.slice a2 (l.length + 1) c2v) (l ++ [x]) := by
            have := HO2.out
            unfold ownI
            rw [show (l ++ [x]).length = l.length + 1 from by simp <;> omega]
            simpa [nums] using this
          obtain ⟨vs', F', g1, g2, g3⟩ := HH.out.setRow hf3 hk hown HRE.out
          exact ⟨rfl, F', by rw [HP.out]; exact ⟨lb, vs', g1⟩, HF.out.1.trans g2 HF.out.2, fun i hi => (g3 i hi).elim (HF.out.2 i) (fun q => .inr (Nat.le_trans HF.out.1.size q))⟩
        exact AllReadyH.nil
      exact AllReadyH.nil
    exact AllReadyH.nil
  exact AllReadyH.nil
end Go.Proofs.Ytgpjjdaboapkjaa

/-
  Package hatcheckref02: Before.
-/
import Derived.Test.YtgpjjdaboapkjaaRefP
namespace Go.Proofs.Ytgpjjdaboapkjaa
open Go.RowKit
set_option linter.unusedVariables false

set_option maxHeartbeats 4000000 in
theorem bef_ref {w : World} {r N m : Nat} {L : List (List Nat)} {F : Nat → Prop} (h : RefR w r N m L F) {x o k : Nat} (hx : x < N) (e : rowIx L o = some k) (hxo : ¬ x = o) :
    Calls Try.prog 12 #[.pointer (some ⟨r, 0, none⟩), .int .i64 x, .int .i64 o] w fun e w' => e = .returned (.bool true) ∧ ∃ F', RefR w' r N m (befL L x o) F' ∧ Fr F w w' ∧ ∀ i, F' i → F i ∨ w.heap.size ≤ i := by
  have HO := Lib.hid (out_ref h x)
  obtain ⟨lb0, vs0, h0⟩ := h
  have hRE0 := Lib.hid h0.ix
  have HT := thing_ref h0 h0.hN x
  have HA := At_calls h0 o
  rw [show decide (0 ≤ (x : Int) ∧ (x : Int) < N) = true from by simp; omega] at HT
  rw [show ixZ L (o : Int) = some k from by rw [ixZ_nat]; exact e] at HA
  rw [show ixI (some k) = (k : Int) from rfl] at HA
  rw [show outZ L (x : Int) = outL L x from by simp [outZ]] at HO
  have HT' := Lib.hid HT
  have HA' := Lib.hid HA
  have HB : Hid (∃ l1 l2, (outL L x)[k]? = some (l1 ++ o :: l2) ∧ (¬ o ∈ l1) ∧ befL L x o = (outL L x).set k (l1 ++ x :: o :: l2)) := by
    obtain ⟨rw, nx, pv, ls, hi⟩ := h0.ix
    exact befL_row hi e hxo
  have HRE : Hid (RE N m (befL L x o)) := h0.ix.bef hx e hxo
  have hne : ((x : Int) == (o : Int)) = false := by simp; omega
  have HE := Lib.hid e
  clear h0 HT HA e hxo
  go_enter Try.func12, Try.ntmps12
  go_wp2_with fail
  refine HA'.out.mono ?_
  rintro e w' ⟨rfl, rfl⟩
  go_wp2_with fail
  refine HT'.out.mono ?_
  rintro e w' ⟨rfl, rfl⟩
  go_wp2_with fail
  refine HO.out.mono ?_
  rintro e w1 ⟨rfl, F1, ⟨lb, vs, h1⟩, f1, hF1⟩
  obtain ⟨l1, l2, hl, hol, hB⟩ := HB.out
  have hk : k < m := by
    have := (List.getElem?_eq_some_iff.1 hl).1
    have := h1.ix.lenL; omega
  have HA2 := At_calls h1 o
  obtain ⟨e1, e2⟩ := posZ_at h1 hl (j := l1.length) (y := o) (x := (o : Int)) (by simp) rfl
  rw [e1, e2] at HA2
  rw [show ixI (some k) = (k : Int) from rfl] at HA2
  have HA2' := Lib.hid HA2
  have HBE := Lib.hid hB
  have hlen := h1.ix.len k _ hl
  simp only [List.length_append, List.length_cons] at hlen
  have hN := h1.hN
  have c1 := h1.c1
  have ck := h1.row hk
  have hlbs := h1.rows.lt
  have hrs := h1.hd.lt
  have hm := h1.lt
  have hS := (h1.sl k _ hl).1.toC
  rw [show (nums (l1 ++ o :: l2)).length = l1.length + (l2.length + 1) from by simp [nums]] at hS
  obtain ⟨sa, sc, hv, _, _, hsc, _, _⟩ := id hS
  rw [hv] at hS ck
  obtain ⟨sb, so, rfl, hpre⟩ := hS.cut (lo := 0) (hi := l1.length) (Nat.zero_le _) (by omega) rfl (by omega)
  obtain ⟨sb', so', hsb, hsuf⟩ := hS.cut (lo := l1.length) (hi := l1.length + (l2.length + 1)) (by omega) (by omega) rfl (by omega)
  simp only [Option.some.injEq, Addr.mk.injEq] at hsb
  obtain ⟨rfl, rfl, _⟩ := hsb
  have epre : (((nums (l1 ++ o :: l2)).map (Value.int .i64)).drop (0 * 1)).take ((l1.length - 0) * 1) = (nums l1).map (Value.int .i64) := by
    simp [nums]
  have esuf : (((nums (l1 ++ o :: l2)).map (Value.int .i64)).drop (l1.length * 1)).take ((l1.length + (l2.length + 1) - l1.length) * 1) = (nums (o :: l2)).map (Value.int .i64) := by
    rw [Nat.mul_one, Nat.mul_one, show l1.length + (l2.length + 1) - l1.length = l2.length + 1 from by omega]
    rw [show nums (l1 ++ o :: l2) = nums l1 ++ nums (o :: l2) from by simp [nums], List.map_append, List.drop_left' (by simp [nums]), List.take_of_length_le (by simp [nums])]
  rw [epre] at hpre
  rw [esuf] at hsuf
  have HPRE : Hid (SlC w1 1 (.slice (some ⟨sb, so, none⟩) l1.length sc) l1.length ((nums l1).map (Value.int .i64))) := by
    unfold Hid; simpa using hpre
  have HSUF : Hid (SlC w1 1 (.slice (some ⟨sb, so + l1.length, none⟩) (l2.length + 1) (sc - l1.length)) (l2.length + 1) ((nums (o :: l2)).map (Value.int .i64))) := by
    unfold Hid
    have e : l1.length + (l2.length + 1) - l1.length = l2.length + 1 := by omega
    simpa [e] using hsuf
  have fz := h1.rows.frozen k
  have HH := Lib.hid h1
  have HF := Lib.hid (And.intro f1 hF1)
  clear hl hol hB hS hv f1 hF1 hRE0 HO h1 HA2 e1 e2 hpre hsuf epre esuf
  have b1 : (0 : Int) ≤ (l1.length : Int) := by omega
  have b2 : (l1.length : Int) ≤ (sc : Int) := by omega
  have b3 : ¬ sc = l1.length := by omega
  have b4 : l1.length ≤ sc := by omega
  have b5 : (l1.length : Int) ≤ (l1.length : Int) + ((l2.length : Int) + 1) := by omega
  go_wp2_with fail
  refine HA2'.out.mono ?_
  rintro e w' ⟨rfl, rfl⟩
  go_wp2_with (at_builtin; go_must (refine appL (w0 := w1) EIint rfl _ _ rfl (by rfl) (by rfl) (by repeat (first | exact Fr.refl _ _ | apply Fr.alloc)) (own_heap (heap_alloc_new _ _ _ rfl) (Nat.le_refl _) (by rfl) (by unfold maxLen; omega)) (HPRE.out.keep (by repeat (first | exact Fr.refl _ _ | apply Fr.alloc))) (by unfold maxLen; omega) (by omega) ?_); intro v' w2 ho hfa hrel; rw [Nat.zero_add] at ho; obtain ⟨aa, cav, hva, _⟩ := SlC.ofOwn ho (by intro u hu; simp at hu; first | (rcases hu with q | q | q | q <;> first | (subst q; rfl) | (obtain ⟨_, _, rfl⟩ := q; rfl)) | (rcases hu with q | q | q <;> first | (subst q; rfl) | (obtain ⟨_, _, rfl⟩ := q; rfl)) | (rcases hu with q | q <;> first | (subst q; rfl) | (obtain ⟨_, _, rfl⟩ := q; rfl)) | (obtain ⟨_, _, rfl⟩ := hu; rfl)); subst hva; have HOa := Lib.hid ho; have HRELa := Lib.hid hrel; clear ho hrel; have q0a : w2.cell? ⟨r, 1, none⟩ = some (.slice (some ⟨lb, 0, none⟩) m m) := (hfa.cell (p := ⟨r, 1, none⟩) hrs id).trans c1; have q1a := (hfa.cell (p := ⟨lb, k, none⟩) hlbs id).trans ck; have q2a : w2.frozen? ⟨lb, k, none⟩ = false := (hfa.frozen (p := ⟨lb, k, none⟩) hlbs id).trans fz)
  refine region_tail (fun w' => w'.cell? ⟨r, 1, none⟩ = some (.slice (some ⟨lb, 0, none⟩) m m) ∧ w'.cell? ⟨lb, k, none⟩ = some (.slice (some ⟨sb, so, none⟩) (l1.length + (l2.length + 1)) sc)) 20 (by kernel_rfl) rfl rfl (by kernel_rfl) ?_
  simp only [List.take_succ_cons, List.take_zero]
  have hS : (fun w' => w'.cell? ⟨r, 1, none⟩ = some (.slice (some ⟨lb, 0, none⟩) m m) ∧ w'.cell? ⟨lb, k, none⟩ = some (.slice (some ⟨sb, so, none⟩) (l1.length + (l2.length + 1)) sc)) w2.drew := ⟨q0a, q1a⟩
  refine wpAnyH_take (i := 0) (v := ?_) rfl (by decide +kernel) (by decide +kernel) (by decide +kernel) (fun _ _ _ h => h) (Or.inl ⟨by rfl, ?_⟩) hS ?_
  rotate_left
  · intro wS hSw; (try dsimp only at hSw); go_simp
    try with_reducible rfl
  try simp only [Act.put, List.setIfInBounds_toArray, List.set_cons_zero, List.set_cons_succ]
  refine wpAnyH_take (i := 1) (v := ?_) rfl (by decide +kernel) (by decide +kernel) (by decide +kernel) (fun _ _ _ h => h) (Or.inl ⟨by rfl, ?_⟩) hS ?_
  rotate_left
  · intro wS hSw; (try dsimp only at hSw); go_simp
    try with_reducible rfl
  try simp only [Act.put, List.setIfInBounds_toArray, List.set_cons_zero, List.set_cons_succ]
  refine wpAnyH_take (i := 2) (v := ?_) rfl (by decide +kernel) (by decide +kernel) (by decide +kernel) (fun _ _ _ h => h) (Or.inl ⟨by rfl, ?_⟩) hS ?_
  rotate_left
  · intro wS hSw; (try dsimp only at hSw); go_simp
    try with_reducible rfl
  try simp only [Act.put, List.setIfInBounds_toArray, List.set_cons_zero, List.set_cons_succ]
  refine wpAnyH_take (i := 3) (v := ?_) rfl (by decide +kernel) (by decide +kernel) (by decide +kernel) (fun _ _ _ h => h) (Or.inl ⟨by rfl, ?_⟩) hS ?_
  rotate_left
  · intro wS hSw; (try dsimp only at hSw); go_simp
    try with_reducible rfl
  try simp only [Act.put, List.setIfInBounds_toArray, List.set_cons_zero, List.set_cons_succ]
  refine wpAnyH_take (i := 4) (v := ?_) rfl (by decide +kernel) (by decide +kernel) (by decide +kernel) (fun _ _ _ h => h) (Or.inl ⟨by rfl, ?_⟩) hS ?_
  rotate_left
  · intro wS hSw; (try dsimp only at hSw); go_simp
    try with_reducible rfl
  try simp only [Act.put, List.setIfInBounds_toArray, List.set_cons_zero, List.set_cons_succ]
  refine wpAnyH_take (i := 5) (v := ?_) rfl (by decide +kernel) (by decide +kernel) (by decide +kernel) (fun _ _ _ h => h) (Or.inl ⟨by rfl, ?_⟩) hS ?_
  rotate_left
  · intro wS hSw; (try dsimp only at hSw); go_simp
    try with_reducible rfl
  try simp only [Act.put, List.setIfInBounds_toArray, List.set_cons_zero, List.set_cons_succ]
  refine wpAnyH_take (i := 6) (v := ?_) rfl (by decide +kernel) (by decide +kernel) (by decide +kernel) (fun _ _ _ h => h) (Or.inl ⟨by rfl, ?_⟩) hS ?_
  rotate_left
  · intro wS hSw; (try dsimp only at hSw); go_simp
    try with_reducible rfl
  try simp only [Act.put, List.setIfInBounds_toArray, List.set_cons_zero, List.set_cons_succ]
  refine wpAnyH_take (i := 9) (v := ?_) rfl (by decide +kernel) (by decide +kernel) (by decide +kernel) (fun _ _ _ h => h) (Or.inl ⟨by rfl, ?_⟩) hS ?_
  rotate_left
  · intro wS hSw; (try dsimp only at hSw); go_simp
    try with_reducible rfl
  try simp only [Act.put, List.setIfInBounds_toArray, List.set_cons_zero, List.set_cons_succ]
  refine wpAnyH_take (i := 10) (v := ?_) rfl (by decide +kernel) (by decide +kernel) (by decide +kernel) (fun _ _ _ h => h) (Or.inl ⟨by rfl, ?_⟩) hS ?_
  rotate_left
  · intro wS hSw; (try dsimp only at hSw); go_simp
    try with_reducible rfl
  try simp only [Act.put, List.setIfInBounds_toArray, List.set_cons_zero, List.set_cons_succ]
  refine wpAnyH_take (i := 11) (v := ?_) rfl (by decide +kernel) (by decide +kernel) (by decide +kernel) (fun _ _ _ h => h) (Or.inl ⟨by rfl, ?_⟩) hS ?_
  rotate_left
  · intro wS hSw; (try dsimp only at hSw); go_simp
    try with_reducible rfl
  try simp only [Act.put, List.setIfInBounds_toArray, List.set_cons_zero, List.set_cons_succ]
  refine wpAnyH_take (i := 12) (v := ?_) rfl (by decide +kernel) (by decide +kernel) (by decide +kernel) (fun _ _ _ h => h) (Or.inl ⟨by rfl, ?_⟩) hS ?_
  rotate_left
  · intro wS hSw; (try dsimp only at hSw); go_simp
    try with_reducible rfl
  try simp only [Act.put, List.setIfInBounds_toArray, List.set_cons_zero, List.set_cons_succ]
  refine wpAnyH_take (i := 13) (v := ?_) rfl (by decide +kernel) (by decide +kernel) (by decide +kernel) (fun _ _ _ h => h) (Or.inl ⟨by rfl, ?_⟩) hS ?_
  rotate_left
  · intro wS hSw; (try dsimp only at hSw); go_simp
    try with_reducible rfl
  try simp only [Act.put, List.setIfInBounds_toArray, List.set_cons_zero, List.set_cons_succ]
  refine wpAnyH_take (i := 14) (v := ?_) rfl (by decide +kernel) (by decide +kernel) (by decide +kernel) (fun _ _ _ h => h) (Or.inl ⟨by rfl, ?_⟩) hS ?_
  rotate_left
  · intro wS hSw; (try dsimp only at hSw); go_simp
    try with_reducible rfl
  try simp only [Act.put, List.setIfInBounds_toArray, List.set_cons_zero, List.set_cons_succ]
  refine wpAnyH_take (i := 15) (v := ?_) rfl (by decide +kernel) (by decide +kernel) (by decide +kernel) (fun _ _ _ h => h) (Or.inl ⟨by rfl, ?_⟩) hS ?_
  rotate_left
  · intro wS hSw; (try dsimp only at hSw); go_simp
    try with_reducible rfl
  try simp only [Act.put, List.setIfInBounds_toArray, List.set_cons_zero, List.set_cons_succ]
  refine wpAnyH_take (i := 16) (v := ?_) rfl (by decide +kernel) (by decide +kernel) (by decide +kernel) (fun _ _ _ h => h) (Or.inl ⟨by rfl, ?_⟩) hS ?_
  rotate_left
  · intro wS hSw; (try dsimp only at hSw); go_simp
    try with_reducible rfl
  try simp only [Act.put, List.setIfInBounds_toArray, List.set_cons_zero, List.set_cons_succ]
  refine wpAnyH_take (i := 17) (v := ?_) rfl (by decide +kernel) (by decide +kernel) (by decide +kernel) (fun _ _ _ h => h) (Or.inl ⟨by rfl, ?_⟩) hS ?_
  rotate_left
  · intro wS hSw; (try dsimp only at hSw); go_simp
    try with_reducible rfl
  try simp only [Act.put, List.setIfInBounds_toArray, List.set_cons_zero, List.set_cons_succ]
  clear hS
  refine wpAnyH_ready (rs := [7]) (by kernel_rfl) (by simp) ?_
  refine AllReadyH.cons rfl (fun K hK => ?_) ?_
  · go_simp
    refine hK.out _ _ ⟨(Fr.cell (w := w1) (F := NoF) (by repeat (first | exact Fr.refl _ _ | exact hf18 | exact hf8 | exact hfa | apply Fr.drew | apply Fr.alloc)) (p := ⟨r, 1, none⟩) hrs id).trans c1, (Fr.cell (w := w1) (F := NoF) (by repeat (first | exact Fr.refl _ _ | exact hf18 | exact hf8 | exact hfa | apply Fr.drew | apply Fr.alloc)) (p := ⟨lb, k, none⟩) hlbs id).trans ck⟩ (fun hS => ?_)
    clear hK K
    refine wpAnyH_ready (rs := [8]) (by kernel_rfl) (by simp) ?_
    refine AllReadyH.cons rfl (fun K hK => ?_) ?_
    · refine appS (w0 := w1) EIint rfl (.tmp 56) (.tmp 58) rfl (by rfl) (by rfl) (by repeat (first | exact Fr.refl _ _ | exact hf18 | exact hf8 | exact hfa | apply Fr.drew | apply Fr.alloc)) (own_keep HOa.out (by repeat (first | exact Fr.refl _ _ | apply Fr.drew | apply Fr.alloc)) (fun _ _ q => q)) (sl_heap (size := 1) (by (try rw [heap_drew]); refine heap_alloc_new _ _ _ ?_; rfl) (by rfl) (by unfold maxLen; omega) (by simp [Value.oneCell'])) (by unfold maxLen; omega) (by omega) ?_; intro v' w3 ho hf8 hrel; obtain ⟨a8, c8v, hv8, _⟩ := SlC.ofOwn ho (by intro u hu; simp at hu; first | (rcases hu with q | q | q | q <;> first | (subst q; rfl) | (obtain ⟨_, _, rfl⟩ := q; rfl)) | (rcases hu with q | q | q <;> first | (subst q; rfl) | (obtain ⟨_, _, rfl⟩ := q; rfl)) | (rcases hu with q | q <;> first | (subst q; rfl) | (obtain ⟨_, _, rfl⟩ := q; rfl)) | (obtain ⟨_, _, rfl⟩ := hu; rfl)); subst hv8; have HO8 := Lib.hid ho; have HREL8 := Lib.hid hrel; clear ho hrel; have q08 : w3.cell? ⟨r, 1, none⟩ = some (.slice (some ⟨lb, 0, none⟩) m m) := (hf8.cell (p := ⟨r, 1, none⟩) hrs id).trans c1; have q18 := (hf8.cell (p := ⟨lb, k, none⟩) hlbs id).trans ck; have q28 : w3.frozen? ⟨lb, k, none⟩ = false := (hf8.frozen (p := ⟨lb, k, none⟩) hlbs id).trans fz
      refine hK.out _ _ ⟨(Fr.cell (w := w1) (F := NoF) (by repeat (first | exact Fr.refl _ _ | exact hf18 | exact hf8 | exact hfa | apply Fr.drew | apply Fr.alloc)) (p := ⟨r, 1, none⟩) hrs id).trans c1, (Fr.cell (w := w1) (F := NoF) (by repeat (first | exact Fr.refl _ _ | exact hf18 | exact hf8 | exact hfa | apply Fr.drew | apply Fr.alloc)) (p := ⟨lb, k, none⟩) hlbs id).trans ck⟩ (fun hS => ?_)
      clear hK K
      refine wpAnyH_ready (rs := [18]) (by kernel_rfl) (by simp) ?_
      refine AllReadyH.cons rfl (fun K hK => ?_) ?_
      · refine appS (w0 := w1) EIint rfl (.tmp 59) (.tmp 68) rfl (by rfl) (by rfl) (by repeat (first | exact Fr.refl _ _ | exact hf18 | exact hf8 | exact hfa | apply Fr.drew | apply Fr.alloc)) HO8.out (HSUF.out.keep (by repeat (first | exact Fr.refl _ _ | exact hf18 | exact hf8 | exact hfa | apply Fr.drew | apply Fr.alloc))) (by unfold maxLen; omega) (by omega) ?_; intro v' w4 ho hf18 hrel; obtain ⟨a18, c18v, hv18, _⟩ := SlC.ofOwn ho (by intro u hu; simp at hu; first | (rcases hu with q | q | q | q <;> first | (subst q; rfl) | (obtain ⟨_, _, rfl⟩ := q; rfl)) | (rcases hu with q | q | q <;> first | (subst q; rfl) | (obtain ⟨_, _, rfl⟩ := q; rfl)) | (rcases hu with q | q <;> first | (subst q; rfl) | (obtain ⟨_, _, rfl⟩ := q; rfl)) | (obtain ⟨_, _, rfl⟩ := hu; rfl)); subst hv18; have HO18 := Lib.hid ho; have HREL18 := Lib.hid hrel; clear ho hrel; have q018 : w4.cell? ⟨r, 1, none⟩ = some (.slice (some ⟨lb, 0, none⟩) m m) := (hf18.cell (p := ⟨r, 1, none⟩) hrs id).trans c1; have q118 := (hf18.cell (p := ⟨lb, k, none⟩) hlbs id).trans ck; have q218 : w4.frozen? ⟨lb, k, none⟩ = false := (hf18.frozen (p := ⟨lb, k, none⟩) hlbs id).trans fz
        refine hK.out _ _ ⟨(Fr.cell (w := w1) (F := NoF) (by repeat (first | exact Fr.refl _ _ | exact hf18 | exact hf8 | exact hfa | apply Fr.drew | apply Fr.alloc)) (p := ⟨r, 1, none⟩) hrs id).trans c1, (Fr.cell (w := w1) (F := NoF) (by repeat (first | exact Fr.refl _ _ | exact hf18 | exact hf8 | exact hfa | apply Fr.drew | apply Fr.alloc)) (p := ⟨lb, k, none⟩) hlbs id).trans ck⟩ (fun hS => ?_)
        clear hK K
        refine wpAnyH_take (i := 19) (v := ?_) rfl (by decide +kernel) (by decide +kernel) (by decide +kernel) (fun _ _ _ h => h) (Or.inl ⟨by rfl, ?_⟩) hS ?_
        rotate_left
        · intro wS hSw; (try dsimp only at hSw); go_simp
          try with_reducible rfl
        try simp only [Act.put, List.setIfInBounds_toArray, List.set_cons_zero, List.set_cons_succ]
        refine wpAnyH_done (by kernel_rfl) ?_ _
        show wpList _ _ _ _ _ _
        go_wp2
        go_ret
        have hown : ownI w1 w4 (.slice a18 (l1.length + 1 + (l2.length + 1)) c18v) (l1 ++ x :: o :: l2) := by
          have := HO18.out
          unfold ownI
          rw [show (l1 ++ x :: o :: l2).length = l1.length + 1 + (l2.length + 1) from by simp <;> omega]
          simpa [nums] using this
        obtain ⟨vs', F', g1, g2, g3⟩ := HH.out.setRow hf18 hk hown (by rw [← HBE.out]; exact HRE.out)
        exact ⟨rfl, F', by rw [HBE.out]; exact ⟨lb, vs', g1⟩, HF.out.1.trans g2 HF.out.2, fun i hi => (g3 i hi).elim (HF.out.2 i) (fun q => .inr (Nat.le_trans HF.out.1.size q))⟩
      exact AllReadyH.nil
    exact AllReadyH.nil
  exact AllReadyH.nil
end Go.Proofs.Ytgpjjdaboapkjaa

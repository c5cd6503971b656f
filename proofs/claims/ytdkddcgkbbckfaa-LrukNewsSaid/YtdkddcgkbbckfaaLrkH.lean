/-
  lruk's LRUK in memory: the remembered pages as a list; rank, remember.
-/
import Derived.Test.YtdkddcgkbbckfaaLrkG
namespace Go.Proofs.Ytdkddcgkbbckfaa
open Go.RowKit Go.Maps
set_option linter.unusedVariables false

/-- The remembered pages without one. -/
def woO (l : List (Nat × Nat)) (x : Nat) : List (Nat × Nat) := l.filter fun p => !decide (p.1 = x)
theorem oldK_cons (p : Nat × Nat) (l : List (Nat × Nat)) (z : Nat) : oldK (p :: l) z = if p.1 = z then some ((p.2 : Int), 0) else oldK l z := by
  unfold oldK
  rw [List.find?_cons]
  by_cases e : p.1 = z
  · simp [e]
  · simp [e]
theorem oldK_none {l : List (Nat × Nat)} {z : Nat} : oldK l z = none ↔ ∀ p, p ∈ l → ¬ p.1 = z := by
  induction l with
  | nil => simp [oldK]
  | cons p l ih =>
    rw [oldK_cons]
    by_cases e : p.1 = z
    · rw [if_pos e]
      exact ⟨fun q => (by cases q), fun q => absurd e (q p (by simp))⟩
    · rw [if_neg e, ih]
      exact ⟨fun q r hr => by
        rcases List.mem_cons.1 hr with rfl | hr
        · exact e
        · exact q r hr, fun q r hr => q r (by simp [hr])⟩
theorem woO_cons (p : Nat × Nat) (l : List (Nat × Nat)) (x : Nat) : woO (p :: l) x = if p.1 = x then woO l x else p :: woO l x := by
  unfold woO
  rw [List.filter_cons]
  by_cases e : p.1 = x
  · simp [e]
  · simp [e]
theorem oldK_wo (l : List (Nat × Nat)) (x : Nat) : oldK (woO l x) = updK (oldK l) x none := by
  funext z
  induction l with
  | nil => unfold updK woO oldK; simp
  | cons p l ih =>
    rw [woO_cons]
    by_cases e : p.1 = x
    · rw [if_pos e, ih]
      unfold updK
      by_cases e2 : z = x
      · rw [if_pos e2, if_pos e2]
      · rw [if_neg e2, if_neg e2, oldK_cons, if_neg (by omega)]
    · rw [if_neg e, oldK_cons, ih]
      unfold updK
      by_cases e2 : z = x
      · rw [if_pos e2, if_pos e2, if_neg (by omega)]
      · rw [if_neg e2, if_neg e2, oldK_cons]
def OrdO (l : List (Nat × Nat)) : Prop := l.Pairwise fun p q => p.2 < q.2 ∧ ¬ p.1 = q.1
theorem woO_len {l : List (Nat × Nat)} (h : OrdO l) (x : Nat) : (woO l x).length = lessN l.length (oldK l x).isSome := by
  induction l with
  | nil => rfl
  | cons p l ih =>
    obtain ⟨h1, h2⟩ := List.pairwise_cons.1 h
    rw [woO_cons, oldK_cons]
    by_cases e : p.1 = x
    · rw [if_pos e, if_pos e, ih h2]
      have : oldK l x = none := oldK_none.2 (fun q hq e2 => (h1 q hq).2 (by omega))
      rw [this]
      simp [lessN]
    · rw [if_neg e, if_neg e, List.length_cons, ih h2]
      cases e3 : oldK l x with
      | none => simp [lessN]
      | some y =>
        have : l ≠ [] := by rintro rfl; simp [oldK] at e3
        have := List.length_pos_iff.2 this
        simp [lessN]; omega
theorem woO_ord {l : List (Nat × Nat)} (h : OrdO l) (x : Nat) : OrdO (woO l x) := List.Pairwise.filter _ h
theorem woO_mem {l : List (Nat × Nat)} {x : Nat} {p : Nat × Nat} (h : p ∈ woO l x) : p ∈ l ∧ ¬ p.1 = x := by
  have := List.mem_filter.1 h
  exact ⟨this.1, by simpa using this.2⟩
theorem oldK_app {l : List (Nat × Nat)} {x : Nat} (h : oldK l x = none) (g : Nat) : oldK (l ++ [(x, g)]) = updK (oldK l) x (some ((g : Int), 0)) := by
  funext z
  induction l with
  | nil => 
    rw [List.nil_append, oldK_cons]
    unfold updK
    by_cases e : z = x
    · subst e; simp
    · rw [if_neg (fun q => e q.symm), if_neg e]
  | cons p l ih =>
    rw [oldK_cons] at h
    by_cases e : p.1 = x
    · rw [if_pos e] at h; cases h
    · rw [if_neg e] at h
      rw [List.cons_append, oldK_cons, ih h]
      unfold updK
      by_cases e2 : z = x
      · rw [if_pos e2, if_pos e2, if_neg (by omega)]
      · rw [if_neg e2, if_neg e2, oldK_cons]
theorem ord_app {l : List (Nat × Nat)} {x g : Nat} (h : OrdO l) (hn : oldK l x = none) (hg : ∀ p, p ∈ l → p.2 < g) : OrdO (l ++ [(x, g)]) := by
  refine List.pairwise_append.2 ⟨h, by simp, fun p hp q hq => ?_⟩
  obtain rfl : q = (x, g) := by simpa using hq
  exact ⟨hg p hp, oldK_none.1 hn p hp⟩
theorem oldK_mem {l : List (Nat × Nat)} {z : Nat} {a b : Int} (h : oldK l z = some (a, b)) : ∃ g : Nat, (z, g) ∈ l ∧ a = g ∧ b = 0 := by
  unfold oldK at h
  cases e : l.find? (fun p => decide (p.1 = z)) with
  | none => rw [e] at h; cases h
  | some p =>
    rw [e] at h
    have h1 := List.mem_of_find?_eq_some e
    have h2 := List.find?_some e
    simp at h2
    injection h with h
    injection h with h3 h4
    exact ⟨p.2, by rw [← h2]; exact h1, h3.symm, h4.symm⟩
theorem oldK_least {p : Nat × Nat} {l : List (Nat × Nat)} (h : OrdO (p :: l)) {x : Nat} (hx : LeastK (oldK (p :: l)) x) : x = p.1 := by
  obtain ⟨a, b, h1, h2⟩ := hx
  obtain ⟨g, hm, rfl, rfl⟩ := oldK_mem h1
  have h3 := h2 p.1 p.2 0 (by rw [oldK_cons, if_pos rfl])
  rcases List.mem_cons.1 hm with q | q
  · exact (congrArg Prod.fst q)
  · have := ((List.pairwise_cons.1 h).1 _ q).1
    simp only at this
    omega
theorem oldK_tail {p : Nat × Nat} {l : List (Nat × Nat)} (h : OrdO (p :: l)) : oldK l = updK (oldK (p :: l)) p.1 none := by
  have e : woO (p :: l) p.1 = l := by
    rw [woO_cons, if_pos rfl]
    unfold woO
    refine List.filter_eq_self.2 (fun q hq => ?_)
    have := ((List.pairwise_cons.1 h).1 q hq).2
    simp; omega
  rw [← oldK_wo, e]
/-- What is remembered behind a page's going: one more, no more than so many. -/
def remS (S : LK) (x : Nat) : LK :=
  if S.kept < (S.Old ++ [(x, S.gone + 1)]).length then { S with gone := S.gone + 1, Old := (S.Old ++ [(x, S.gone + 1)]).tail, P := updO S.P ((S.Old ++ [(x, S.gone + 1)]).headD (0, 0)).1 none }
  else { S with gone := S.gone + 1, Old := S.Old ++ [(x, S.gone + 1)] }
section
variable {w w' : World} {lb fb mb q1 q2 q3 q4 ne : Nat} {S : LK} {FC F4 : Nat → Prop}
theorem LM.pastok (h : LM w lb S fb mb q1 q2 q3 q4 ne FC F4) (x : Nat) : 0 ≤ (pastOf S x).1 ∧ (pastOf S x).1 ≤ S.T ∧ ∀ j, 0 ≤ (pastOf S x).2 j ∧ (pastOf S x).2 j ≤ (pastOf S x).1 ∧ (pastOf S x).2 j ≤ (pastOf S x).2 0 := by
  unfold pastOf
  cases e : S.P x with
  | none => exact ⟨by simp, by simp, fun j => by simp⟩
  | some p => exact h.ok.past x p e
theorem LM.look (h : LM w lb S fb mb q1 q2 q3 q4 ne FC F4) {x : Nat} (hx : okN x) : (Instr.lookup 45 (.map (some mb)) (.int .u32 (x : Nat)) false).run Try.prog w = .ok (pastV (pastOf S x).1 (pastOf S x).2) w := by
  have := h.mp.look_run MVp (okN_wf hx)
  rw [psM_at] at this
  rw [this]
  unfold pastOf
  cases S.P x <;> rfl
set_option maxRecDepth 100000 in
set_option maxHeartbeats 4000000 in
theorem rank_calls (h : LM w lb S fb mb q1 q2 q3 q4 ne FC F4) {x : Nat} (hx : okN x) : Calls Try.prog 32 #[.pointer (some ⟨lb, 0, none⟩), .int .u32 x] w fun e w' => e = .returned (.agg #[.int .i64 (rankOf S x).1, .int .i64 (rankOf S x).2]) ∧ Fr NoF w w' := by
  unfold rankOf
  have hk := h.ok.k1
  have fA : Fr NoF w (w.alloc (.cells #[.int .i64 0, .int .i64 0] 89)) := (Fr.refl NoF w).alloc _
  have hlk := (h.fr0 fA).look hx
  have c5 : (w.alloc (.cells #[.int .i64 0, .int .i64 0] 89)).cell? ⟨lb, 5, none⟩ = some (.map (some mb)) := (h.fr0 fA).ce 5 (by omega)
  have lt := h.blk.lt
  generalize (pastOf S x).1 = last at *
  generalize (pastOf S x).2 = t at *
  have fB : Fr NoF w ((w.alloc (.cells #[.int .i64 0, .int .i64 0] 89)).alloc (.cells #[.int .i64 last, .int .i64 (t 0), .int .i64 (t 1), .int .i64 (t 2), .int .i64 (t 3), .int .i64 (t 4), .int .i64 (t 5), .int .i64 (t 6), .int .i64 (t 7)] 85)) := fA.alloc _
  have b1 : Blk ((w.alloc (.cells #[.int .i64 0, .int .i64 0] 89)).alloc (.cells #[.int .i64 last, .int .i64 (t 0), .int .i64 (t 1), .int .i64 (t 2), .int .i64 (t 3), .int .i64 (t 4), .int .i64 (t 5), .int .i64 (t 6), .int .i64 (t 7)] 85)) w.heap.size 2 (fun _ => .int .i64 0) := (Blk.new w _ 89 2 _ _ rfl rfl (fun i hi => by
    match i, hi with
    | 0, _ | 1, _ => rfl)).alloc _
  have b2 : Blk ((w.alloc (.cells #[.int .i64 0, .int .i64 0] 89)).alloc (.cells #[.int .i64 last, .int .i64 (t 0), .int .i64 (t 1), .int .i64 (t 2), .int .i64 (t 3), .int .i64 (t 4), .int .i64 (t 5), .int .i64 (t 6), .int .i64 (t 7)] 85)) (w.heap.size + 1) 9 (pastC last t) := Blk.new _ _ 85 9 _ _ (by simp) rfl (fun i hi => by
    match i, hi with
    | 0, _ | 1, _ | 2, _ | 3, _ | 4, _ | 5, _ | 6, _ | 7, _ | 8, _ => rfl)
  have d0 : ((w.alloc (.cells #[.int .i64 0, .int .i64 0] 89)).alloc (.cells #[.int .i64 last, .int .i64 (t 0), .int .i64 (t 1), .int .i64 (t 2), .int .i64 (t 3), .int .i64 (t 4), .int .i64 (t 5), .int .i64 (t 6), .int .i64 (t 7)] 85)).cell? ⟨lb, 0, none⟩ = some (.int .i64 S.k) := (h.fr0 fB).ce 0 (by omega)
  have x0 := b2.cell (i := 0) (by omega)
  have x1 := b2.cell (i := 1 + (S.k - 1)) (by omega)
  rw [show pastC last t (1 + (S.k - 1)) = .int .i64 (t (S.k - 1)) from by unfold pastC; rw [if_neg (by omega), show 1 + (S.k - 1) - 1 = S.k - 1 from by omega], show 1 + (S.k - 1) = S.k from by omega] at x1
  rw [show pastC last t 0 = .int .i64 last from rfl] at x0
  have fz0 := b1.frozen 0
  have fz1 := b1.frozen 1
  have l1 := b1.lt
  have l2 := b2.lt
  have lw := (h.fr0 fB).blk.lt
  have HB1 := Lib.hid b1
  have HFB := Lib.hid fB
  have hw : IntKind.i64.wrap ((S.k : Int) - 1) = ((S.k - 1 : Nat) : Int) := by rw [show ((S.k : Int) - 1) = ((S.k - 1 : Nat) : Int) from by omega]; exact IntWalk.i64_in _ (by omega)
  have hk1 : 0 ≤ ((S.k - 1 : Nat) : Int) := by omega
  have hk2 : ((S.k - 1 : Nat) : Int) < 8 := by omega
  have hk3 : (((S.k - 1 : Nat) : Int)).toNat = S.k - 1 := by omega
  unfold pastV at hlk
  clear h b1 b2 fA fB hx
  generalize t (S.k - 1) = tk at *
  go_enter Try.func32, Try.ntmps32
  go_upto_region 2 with fail
  generalize (w.alloc (.cells #[.int .i64 0, .int .i64 0] 89)).alloc (.cells #[.int .i64 last, .int .i64 (t 0), .int .i64 (t 1), .int .i64 (t 2), .int .i64 (t 3), .int .i64 (t 4), .int .i64 (t 5), .int .i64 (t 6), .int .i64 (t 7)] 85) = wx at *
  clear hlk c5
  have hb2 := HB1.out.drew
  have hf2 := HFB.out.drew
  go_still_tail 11, (by kernel_rfl)
  change wpList _ _ _ _ _ wx.drew
  clear fz0 fz1 l1 l2 lw x0 x1 d0
  generalize wx.drew = w2 at *
  have fz0 := hb2.frozen 0
  have fz1 := hb2.frozen 1
  have l1 := hb2.lt
  have HB2 := Lib.hid hb2
  have HF2 := Lib.hid hf2
  have d0 := hb2.cell (i := 0) (by omega)
  have d1 := hb2.cell (i := 1) (by omega)
  clear hb2 hf2
  go_wp2
  (try simp only [Exit.inBlock, Exit.then])
  refine bodyPost_ret (results_blk Try.results32 _ _ ((HB2.out.set 0 (.int .i64 tk)).set 1 (.int .i64 last)) rfl Try.underlying89 rfl (by kernel_rfl)) (by rfl) ?_
  exact ⟨rfl, (HF2.out.setCell (p := ⟨w.heap.size, 0, none⟩) (.inr (Nat.le_refl _)) _).setCell (p := ⟨w.heap.size, 1, none⟩) (.inr (Nat.le_refl _)) _⟩
end
end Go.Proofs.Ytdkddcgkbbckfaa

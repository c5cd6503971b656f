/-
  The document's queue: a list of things in their order: less, Drop, Put.
-/
import Derived.Test.YtpebonpibhdfoaaQueL
namespace Go.Proofs.Ytpebonpibhdfoaa
open Go.RowKit Go.Maps
set_option linter.unusedVariables false

/-- v holds the things of l. -/
def IL (w : World) (v : Value) (l : List Th) : Prop := SlC w 3 v l.length (l.flatMap thC)
/-- .. in a block of its own. -/
def IO (base : Nat) (w : World) (v : Value) (l : List Th) : Prop := w.ownsRow base 32 3 v l.length (l.flatMap thC)
theorem thC_one (l : List Th) : ∀ u ∈ l.flatMap thC, u.oneCell' = true := by
  intro u hu
  obtain ⟨t, _, h⟩ := List.mem_flatMap.1 hu
  simp [thC] at h
  rcases h with rfl | rfl | rfl <;> rfl
theorem thC_length (l : List Th) : (l.flatMap thC).length = l.length * 3 := by
  induction l with
  | nil => rfl
  | cons t l ih => rw [List.flatMap_cons, List.length_append, ih, List.length_cons]; show 3 + _ = _; omega
theorem thC_get : ∀ (l : List Th) (k : Nat) (hk : k < l.length), (l.flatMap thC)[k * 3]? = some (.int .i64 l[k].x) ∧ (l.flatMap thC)[k * 3 + 1]? = some (.int .i64 l[k].a) ∧ (l.flatMap thC)[k * 3 + 2]? = some (.int .i64 l[k].b) := by
  intro l
  induction l with
  | nil => intro k hk; simp at hk
  | cons t l ih =>
    intro k hk
    have e : ((t :: l).flatMap thC) = Value.int .i64 t.x :: Value.int .i64 t.a :: Value.int .i64 t.b :: (l.flatMap thC) := rfl
    rw [e]
    cases k with
    | zero => exact ⟨rfl, rfl, rfl⟩
    | succ k =>
      have hk' : k < l.length := by simpa using hk
      obtain ⟨h1, h2, h3⟩ := ih k hk'
      rw [show (k + 1) * 3 = k * 3 + 1 + 1 + 1 from by omega]
      exact ⟨h1, h2, h3⟩
theorem EIi3 : EI Try.prog 26 32 3 24 := EI.mk' (z := .agg #[.int .i64 0, .int .i64 0, .int .i64 0]) Try.underlying26 (by kernel_rfl) rfl (by decide)
section
variable {w w' : World} {v : Value} {l : List Th} {base : Nat}
theorem IO.il (h : IO base w v l) : IL w v l := SlC.ofOwn h (thC_one l)
theorem IL.fr (h : IL w v l) {G : Nat → Prop} (f : Fr G w w') (hG : ∀ b, v.ownBlock = some b → ¬ G b) : IL w' v l := SlC.fr h f hG
theorem IL.fr0 (h : IL w v l) (f : Fr NoF w w') : IL w' v l := SlC.fr h f (fun _ _ q => q)
theorem IL.lt (h : IL w v l) : ∀ b, v.ownBlock = some b → b < w.heap.size := SlC.lt h
theorem IL.shape (h : IL w v l) : ∃ a c, v = .slice a l.length c ∧ l.length ≤ c ∧ c ≤ 9223372036854775807 := by
  obtain ⟨a, c, e, h1, h2⟩ := SlC.shape h
  exact ⟨a, c, e, h1, by unfold maxLen at h2; omega⟩
theorem IL.at (h : IL w v l) {k : Nat} (hk : k < l.length) : ∃ b off c, v = .slice (some ⟨b, off, none⟩) l.length c ∧ b < w.heap.size ∧ w.cell? ⟨b, off + k * 3, none⟩ = some (.int .i64 l[k].x) ∧ w.cell? ⟨b, off + k * 3 + 1, none⟩ = some (.int .i64 l[k].a) ∧ w.cell? ⟨b, off + k * 3 + 2, none⟩ = some (.int .i64 l[k].b) := by
  obtain ⟨b, off, c, e, h1, h2, h3, h4⟩ := SlC.at h hk (by omega)
  obtain ⟨g1, g2, g3⟩ := thC_get l k hk
  exact ⟨b, off, c, e, h3, h4 _ _ g1, by rw [Nat.add_assoc]; exact h4 _ _ g2, by rw [Nat.add_assoc]; exact h4 _ _ g3⟩
theorem IO.snoc {t : Th} (h : w.ownsRow base 32 3 v (l.length + 1) (l.flatMap thC ++ [.int .i64 t.x, .int .i64 t.a, .int .i64 t.b])) : IO base w v (l ++ [t]) := by
  unfold IO
  rw [List.length_append, List.flatMap_append]
  exact h
theorem IO.fr0 (h : IO base w v l) (f : Fr NoF w w') : IO base w' v l := own_keep h f (fun _ _ q => q)
theorem take_snoc {α : Type} (l : List α) {k : Nat} (hk : k < l.length) : l.take (k + 1) = l.take k ++ [l[k]] := by simp

theorem rless (t u : Th) (w : World) : Calls Try.prog 16 #[thV t, thV u] w fun e w' => e = .returned (.bool (ltT t u)) ∧ Fr NoF w w' := by
  obtain ⟨tx, ta, tb⟩ := t
  obtain ⟨ux, ua, ub⟩ := u
  have HF : Hid (Fr NoF w ((w.alloc (.cells #[.int .i64 tx, .int .i64 ta, .int .i64 tb] 32)).alloc (.cells #[.int .i64 ux, .int .i64 ua, .int .i64 ub] 32))) := ((Fr.refl NoF w).alloc _).alloc _
  have hlt : Hid (ltT ⟨tx, ta, tb⟩ ⟨ux, ua, ub⟩ = (if ta = ua then (if tb = ub then decide (tx < ux) else decide (tb < ub)) else decide (ta < ua))) := by
    have h1 := ltT_iff ⟨tx, ta, tb⟩ ⟨ux, ua, ub⟩
    have h2 := ltT_not ⟨tx, ta, tb⟩ ⟨ux, ua, ub⟩
    unfold Hid
    cases e : ltT ⟨tx, ta, tb⟩ ⟨ux, ua, ub⟩ with
    | true => have := h1.1 e; simp only at this; split <;> (try split) <;> (symm; simp; omega)
    | false => have := h2.1 e; simp only at this; split <;> (try split) <;> (symm; simp; omega)
  unfold thV
  by_cases e1 : ta = ua
  · subst e1
    by_cases e2 : tb = ub
    · subst e2
      have HV : Hid (ltT ⟨tx, ta, tb⟩ ⟨ux, ta, tb⟩ = decide (tx < ux)) := by have h := hlt.out; rw [if_pos rfl, if_pos rfl] at h; exact h
      clear hlt
      go_enter Try.func16, Try.ntmps16
      go_wp2
      go_returns
      exact ⟨by rw [HV.out]; rfl, HF.out⟩
    · have g : (tb == ub) = false := by simpa using e2
      have HV : Hid (ltT ⟨tx, ta, tb⟩ ⟨ux, ta, ub⟩ = decide (tb < ub)) := by have h := hlt.out; rw [if_pos rfl, if_neg e2] at h; exact h
      clear e2 hlt
      go_enter Try.func16, Try.ntmps16
      go_wp2
      go_returns
      exact ⟨by rw [HV.out]; rfl, HF.out⟩
  · have g : (ta == ua) = false := by simpa using e1
    have HV : Hid (ltT ⟨tx, ta, tb⟩ ⟨ux, ua, ub⟩ = decide (ta < ua)) := by have h := hlt.out; rw [if_neg e1] at h; exact h
    clear e1 hlt
    go_enter Try.func16, Try.ntmps16
    go_wp2
    go_returns
    exact ⟨by rw [HV.out]; rfl, HF.out⟩
def dropT (l : List Th) (x : Int) : List Th := l.filter (fun t => decide (¬ t.x = x))
theorem dropT_len (l : List Th) (x : Int) : (dropT l x).length ≤ l.length := List.length_filter_le _ _
theorem dropT_snoc (l : List Th) (x : Int) (t : Th) : dropT (l ++ [t]) x = if t.x = x then dropT l x else dropT l x ++ [t] := by
  unfold dropT
  rw [List.filter_append]
  by_cases h : t.x = x
  · rw [if_pos h]; simp [h]
  · rw [if_neg h]; simp [h]
set_option maxHeartbeats 2000000 in
theorem rdrop (h : IL w v l) (hl : l.length < 100000) (x : Int) : Calls Try.prog 9 #[v, .int .i64 x] w fun e w' => ∃ v', e = .returned (.tuple #[v', .bool (decide ((dropT l x).length < l.length))]) ∧ IO w.heap.size w' v' (dropT l x) ∧ Fr NoF w w' := by
  have HI := Lib.hid h
  obtain ⟨va, vc, rfl, v1, v2⟩ := h.shape
  clear h
  go_enter Try.func9, Try.ntmps9
  go_wp2
  go_loopw [6, 7] (fun o i wr => ∃ k : Nat, k ≤ l.length ∧ i = .int .i64 k ∧ IO w.heap.size wr o (dropT (l.take k) x) ∧ Fr NoF w wr) (fun _ i _ => l.length - (intOf i).toNat)
  case atStart => exact ⟨0, Nat.zero_le _, rfl, World.ownsRow_nil _ _ _ _, Fr.refl _ _⟩
  case round =>
    obtain ⟨k, hk, rfl, ho, hf⟩ := hrel
    have HO := Lib.hid ho
    have HF := Lib.hid hf
    have hsz := hf.size
    have hdl := dropT_len (l.take k) x
    rw [List.length_take, Nat.min_eq_left hk] at hdl
    by_cases hlt : k < l.length
    · obtain ⟨b, off, c, ev, q1, y0, y1, y2⟩ := (HI.out.fr0 hf).at hlt
      simp only [Value.slice.injEq] at ev
      obtain ⟨rfl, _, rfl⟩ := ev
      have hS := dropT_snoc (l.take k) x l[k]
      rw [← take_snoc l hlt] at hS
      have HS := Lib.hid hS
      clear hS ho hf
      generalize l[k] = t at *
      obtain ⟨tx, ta, tb⟩ := t
      simp only at y0 y1 y2
      have HS2 : Hid (dropT (l.take (k + 1)) x = if tx = x then dropT (l.take k) x else dropT (l.take k) x ++ [⟨tx, ta, tb⟩]) := HS.out
      clear HS
      have HDL := Lib.hid hdl
      generalize hP : dropT (l.take k) x = P at *
      have HP := Lib.hid hP
      clear hP
      by_cases e : tx = x
      · subst e
        clear hdl
        go_wp2
        go_roundw
        case rel => exact ⟨k + 1, by omega, by go_num, by rw [HS2.out, if_pos rfl]; exact HO.out, HF.out⟩
        case measure => simp [intOf]; omega
      · have g : (tx == x) = false := by simpa using e
        have HE := Lib.hid e
        have f2 : Fr NoF wr (wr.alloc (.cells #[.int .i64 tx, .int .i64 ta, .int .i64 tb] 32)) := (Fr.refl NoF wr).alloc _
        have FF2 := Lib.hid f2
        clear f2 e
        go_wp2_with (at_builtin; go_must (refine appLB (base := w.heap.size) EIi3 rfl _ _ rfl (by rfl) (by rfl) (by simp; omega) (own_keep HO.out FF2.out (fun _ _ q => q)) (SlC.ofOwn (own_new (w0 := wr) (by simp) #[.int .i64 tx, .int .i64 ta, .int .i64 tb] 32 3 1 _ (by simp) rfl (by unfold maxLen; omega)) (by simp [Value.oneCell'])) (by unfold maxLen; omega) (by omega) ?_); intro v' w2 hown' hf' hnb; have HF' := Lib.hid hf'; have HO' := Lib.hid hown'; clear y0 y1 y2 hf' hown' hnb)
        go_roundw
        case rel =>
          refine ⟨k + 1, by omega, by go_num, ?_, ?_⟩
          · rw [HS2.out, if_neg HE.out]; exact IO.snoc HO'.out
          · exact (HF.out.trans FF2.out (fun _ q => q.elim)).trans HF'.out (fun i hi => .inr (ownBlock_own HO.out i hi))
        case measure => simp [intOf]; omega
    · obtain rfl : k = l.length := by omega
      clear ho hf
      rw [List.take_length] at HO
      have hdl2 := dropT_len l x
      obtain ⟨oa, oc, rfl, _, _⟩ := HO.out.il.shape
      go_wp2
      go_returns
      exact ⟨_, by simp, HO.out, HF.out⟩
end
end Go.Proofs.Ytpebonpibhdfoaa

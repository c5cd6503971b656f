/-
  arc: what stays true of its pages; and that it is what Replay is told of.
-/
import Derived.Test.YtebhpihickmekaaArcF
import Derived.Test.YtebhpihickmekaaArcV
import Derived.Test.YtebhpihickmekaaReplay
namespace Go.Proofs.Ytebhpihickmekaa
open Go.RowKit Go.Maps
set_option linter.unusedVariables false

/-! ### What stays true of the pages -/
theorem rem7_mem {t : T7} {f x : Nat} (h : x ∈ (t.rem f).nw ∨ x ∈ (t.rem f).mn) : x ∈ t.nw ∨ x ∈ t.mn := by
  unfold T7.rem at h
  split at h
  · exact h.imp (fun q => (List.mem_filter.1 q).1) (fun q => (List.mem_filter.1 q).1)
  · exact h
theorem rem7_ne {t : T7} {f x : Nat} (hf : f ∈ t.nw ∨ f ∈ t.mn) (h : x ∈ (t.rem f).nw ∨ x ∈ (t.rem f).mn) : ¬ x = f := by
  rintro rfl
  unfold T7.rem at h
  rw [if_pos hf] at h
  simp [awayN] at h
theorem rem7_page (t : T7) (f : Nat) : (t.rem f).page = t.page ∧ (t.rem f).b1 = t.b1 ∧ (t.rem f).b2 = t.b2 ∧ (t.rem f).goal = t.goal := by unfold T7.rem; split <;> exact ⟨rfl, rfl, rfl, rfl⟩
/-- Fewer pages are remembered. -/
theorem TI7.sub {t : T7} (h : TI7 t) {b1 b2 : List Nat} (g : Nat) (hs : ∀ x ∈ b1 ++ b2, x ∈ t.b1 ++ t.b2) : TI7 ⟨t.nw, t.mn, t.page, t.ev, b1, b2, g⟩ :=
  ⟨fun f hf => ⟨(h.u f hf).1, fun q => (h.u f hf).2 (hs _ q)⟩, h.ij⟩
theorem drop1_mem {l : List Nat} {x : Nat} (h : x ∈ l.drop 1) : x ∈ l := List.mem_of_mem_drop h
theorem TI7.miss {t : T7} (h : TI7 t) (n id : Nat) : TI7 (t.miss n id) := by
  unfold T7.miss
  split
  · exact h.sub _ (fun x q => q)
  · split
    · exact h.sub _ (fun x q => q)
    · split
      · exact h.sub _ (fun x q => (List.mem_append.1 q).elim (fun q => List.mem_append.2 (.inl (drop1_mem q))) (fun q => List.mem_append.2 (.inr q)))
      · split
        · exact h.sub _ (fun x q => (List.mem_append.1 q).elim (fun q => List.mem_append.2 (.inl q)) (fun q => List.mem_append.2 (.inr (drop1_mem q))))
        · exact h
theorem TI7.rem {t : T7} (h : TI7 t) (f : Nat) : TI7 (t.rem f) := by
  obtain ⟨e1, e2, e3, _⟩ := rem7_page t f
  refine ⟨fun x hx => ?_, fun x y hx hy e => ?_⟩
  · rw [e1, e2, e3]; exact h.u x (rem7_mem hx)
  · rw [e1] at e; exact h.ij x y (rem7_mem hx) (rem7_mem hy) e
theorem TI7.setE {t : T7} (h : TI7 t) (f : Nat) (v : Bool) : TI7 (t.setE f v) := by
  unfold T7.setE; split <;> exact ⟨h.u, h.ij⟩
theorem bnd_mem {m : Nat} {b1 b2 : List Nat} {x : Nat} (h : x ∈ (bnd m b1 b2).1 ++ (bnd m b1 b2).2) : x ∈ b1 ++ b2 := by
  unfold bnd at h
  split at h
  · split at h
    · exact (List.mem_append.1 h).elim (fun q => List.mem_append.2 (.inl (drop1_mem q))) (fun q => List.mem_append.2 (.inr q))
    · exact (List.mem_append.1 h).elim (fun q => List.mem_append.2 (.inl q)) (fun q => List.mem_append.2 (.inr (drop1_mem q)))
  · exact h
theorem put_mem {t : T7} {f x : Nat} (h : x ∈ (t.put f).1 ++ (t.put f).2) : x ∈ t.b1 ++ t.b2 ∨ x = t.page f := by
  unfold T7.put at h
  simp only [List.mem_append] at h ⊢
  by_cases q : f ∈ t.nw
  · simp only [if_pos q, List.mem_append, List.mem_singleton] at h
    rcases h with (h | h) | h
    · exact .inl (.inl h)
    · exact .inr h
    · exact .inl (.inr h)
  · simp only [if_neg q, List.mem_append, List.mem_singleton] at h
    rcases h with h | h | h
    · exact .inl (.inl h)
    · exact .inl (.inr h)
    · exact .inr h
theorem TI7.gone {t : T7} (h : TI7 t) (n id : Nat) {f : Nat} (hf : f ∈ t.nw ∨ f ∈ t.mn) : TI7 (t.gone n id f) := by
  unfold T7.gone
  split
  · have hf' : f ∈ (t.keep n f).nw ∨ f ∈ (t.keep n f).mn := hf
    obtain ⟨e1, e2, e3, _⟩ := rem7_page (t.keep n f) f
    refine ⟨fun x hx => ?_, fun x y hx hy e => ?_⟩
    · have hx0 : x ∈ t.nw ∨ x ∈ t.mn := @rem7_mem (t.keep n f) f x hx
      rw [e1, e2, e3]
      refine ⟨(h.u x hx0).1, fun q => ?_⟩
      rcases put_mem (bnd_mem q) with q | q
      · exact (h.u x hx0).2 q
      · exact rem7_ne hf' hx (h.ij x f hx0 hf q)
    · rw [e1] at e
      exact h.ij x y (@rem7_mem (t.keep n f) f x hx) (@rem7_mem (t.keep n f) f y hy) e
  · exact h.rem f
theorem TI7.acc {t : T7} (h : TI7 t) {f id : Nat} (hu : isU32 id) (hp : (f ∈ t.nw ∨ f ∈ t.mn) ∨ ∀ g, g ∈ t.nw ∨ g ∈ t.mn → ¬ t.page g = id) : TI7 (t.acc f id) := by
  unfold T7.acc
  split
  · rename_i h2
    have hmem : ∀ x, x ∈ awayN t.nw f ∨ x ∈ awayN t.mn f ++ [f] → x ∈ t.nw ∨ x ∈ t.mn := by
      intro x hx
      rcases hx with q | q
      · exact .inl (List.mem_filter.1 q).1
      · rcases List.mem_append.1 q with q | q
        · exact .inr (List.mem_filter.1 q).1
        · rw [List.mem_singleton.1 q]; exact h2
    exact ⟨fun x hx => h.u x (hmem x hx), fun x y hx hy e => h.ij x y (hmem x hx) (hmem y hy) e⟩
  · rename_i h2
    have hp' := hp.resolve_left h2
    have key : ∀ (nw' mn' b1' b2' : List Nat), (∀ x, x ∈ nw' ∨ x ∈ mn' → (x ∈ t.nw ∨ x ∈ t.mn) ∨ x = f) → (∀ y ∈ b1' ++ b2', y ∈ t.b1 ++ t.b2 ∧ ¬ y = id) → TI7 ⟨nw', mn', upd t.page f id, t.ev, b1', b2', t.goal⟩ := by
      intro nw' mn' b1' b2' hmem hgh
      refine ⟨fun x hx => ?_, fun x y hx hy e => ?_⟩
      · show isU32 (upd t.page f id x) ∧ ¬ upd t.page f id x ∈ b1' ++ b2'
        by_cases e : x = f
        · subst e; rw [upd_same]; exact ⟨hu, fun q => (hgh _ q).2 rfl⟩
        · rw [upd_other _ _ e]
          have hx0 := (hmem x hx).resolve_right e
          exact ⟨(h.u x hx0).1, fun q => (h.u x hx0).2 (hgh _ q).1⟩
      · have e : upd t.page f id x = upd t.page f id y := e
        by_cases ex : x = f
        · by_cases ey : y = f
          · rw [ex, ey]
          · rw [ex, upd_same, upd_other _ _ ey] at e
            exact (hp' y ((hmem y hy).resolve_right ey) e.symm).elim
        · by_cases ey : y = f
          · rw [ey, upd_same, upd_other _ _ ex] at e
            exact (hp' x ((hmem x hx).resolve_right ex) e).elim
          · rw [upd_other _ _ ex, upd_other _ _ ey] at e
            exact h.ij x y ((hmem x hx).resolve_right ex) ((hmem y hy).resolve_right ey) e
    split
    · refine key _ _ _ _ (fun x hx => ?_) (fun y hy => ?_)
      · rcases hx with q | q
        · exact .inl (.inl q)
        · rcases List.mem_append.1 q with q | q
          · exact .inl (.inr q)
          · exact .inr (List.mem_singleton.1 q)
      · rcases List.mem_append.1 hy with q | q
        · have := List.mem_filter.1 q
          exact ⟨List.mem_append.2 (.inl this.1), by simpa using this.2⟩
        · have := List.mem_filter.1 q
          exact ⟨List.mem_append.2 (.inr this.1), by simpa using this.2⟩
    · rename_i hid
      refine key _ _ _ _ (fun x hx => ?_) (fun y hy => ⟨hy, fun e => hid (e ▸ hy)⟩)
      rcases hx with q | q
      · rcases List.mem_append.1 q with q | q
        · exact .inl (.inl q)
        · exact .inr (List.mem_singleton.1 q)
      · exact .inl (.inr q)

/-! ### Replay is told of it -/
def polA (n : Nat) : Pol T7 where
  miss t id := t.miss n id
  access t f id := t.acc f id
  set t f v := t.setE f v
  victim t id := t.goes id
  gone t id := match t.goes id with | none => t | some f => t.gone n id f
  remove t f := t.rem f
  size t := cntL (t.nw ++ t.mn) t.ev
  ghosts t := t.b1 ++ t.b2
def preA (n : Nat) (t : T7) (c : Cl) : Prop := ((c.kind = 1 ∨ c.kind = 2 ∨ c.kind = 4) → c.frame < n) ∧ (c.kind = 1 → isU32 c.page ∧ ((c.frame ∈ t.nw ∨ c.frame ∈ t.mn) ∨ ∀ g, g ∈ t.nw ∨ g ∈ t.mn → ¬ t.page g = c.page)) ∧ ((c.kind = 0 ∨ c.kind = 3) → isU32 c.page)
def CRA (b n : Nat) (w : World) (t : T7) (F : Nat → Prop) : Prop := ∃ A k1 k2 sp gp, AC w b n A t k1 k2 sp gp ∧ TI7 t ∧ ∀ i, F i ↔ FT A b i

theorem cod7 (b n : Nat) : CodSys (polA n) (CRA b n) b (preA n) where
  fr := by
    rintro w w' t F G ⟨A, k1, k2, sp, gp, h, hi, hF⟩ f hd
    exact ⟨A, k1, k2, sp, gp, h.fr f (fun i q => hd i ((hF i).2 q)), hi, hF⟩
  lt := by
    rintro w t F ⟨A, k1, k2, sp, gp, h, hi, hF⟩ i q
    exact h.lt i ((hF i).1 q)
  miss := by
    rintro w t F c ⟨A, k1, k2, sp, gp, h, hi, hF⟩ hp hk
    exact (ar_miss h (hp.2.2 (.inl hk))).mono fun e w' ⟨he, ⟨q1, q2, q3, q4, h'⟩, hf⟩ => ⟨he, F, ⟨A, q1, q2, q3, q4, h', hi.miss n _, hF⟩, hf.mono (fun i q => (hF i).2 q), fun i hi => .inl hi⟩
  access := by
    rintro w t F c ⟨A, k1, k2, sp, gp, h, hi, hF⟩ hp hk
    obtain ⟨hu, hq⟩ := hp.2.1 hk
    exact (ar_access h (hp.1 (.inl hk)) hu).mono fun e w' ⟨he, ⟨q1, q2, q3, q4, h'⟩, hf⟩ => ⟨he, F, ⟨A, q1, q2, q3, q4, h', hi.acc hu hq, hF⟩, hf.mono (fun i q => (hF i).2 q), fun i hi => .inl hi⟩
  set := by
    rintro w t F c ⟨A, k1, k2, sp, gp, h, hi, hF⟩ hp hk
    exact (ar_set h c.frame (hp.1 (.inr (.inl hk))) c.on).mono fun e w' ⟨he, h', hf⟩ => ⟨he, F, ⟨A, k1, k2, sp, gp, h', hi.setE _ _, hF⟩, hf.mono (fun i q => (hF i).2 (q.elim (fun q => .inr (.inr (.inl q))) (fun q => .inl q))), fun i hi => .inl hi⟩
  victimNo := by
    rintro w t F c ⟨A, k1, k2, sp, gp, h, hi, hF⟩ hp hk hv
    exact (ar_victim_no h _ hv).mono fun e w' ⟨he, hw⟩ => ⟨he, F, hw ▸ ⟨A, k1, k2, sp, gp, h, hi, hF⟩, hw ▸ Fr.refl _ _, fun i hi => .inl hi⟩
  victimYes := by
    rintro w t F c a ⟨A, k1, k2, sp, gp, h, hi, hF⟩ hp hk hv
    have hv : t.goes c.page = some a := hv
    have hg : (polA n).gone t c.page = t.gone n c.page a := by show (match t.goes c.page with | none => t | some f => t.gone n c.page f) = _; rw [hv]
    rw [hg]
    exact (ar_victim_yes h hi (hp.2.2 (.inr hk)) hv).mono fun e w' ⟨he, ⟨q1, q2, q3, q4, h'⟩, hf⟩ => ⟨he, F, ⟨A, q1, q2, q3, q4, h', hi.gone n _ (goesC_mem hv), hF⟩, hf.mono (fun i q => (hF i).2 q), fun i hi => .inl hi⟩
  remove := by
    rintro w t F c ⟨A, k1, k2, sp, gp, h, hi, hF⟩ hp hk
    exact (ar_remove h c.frame (hp.1 (.inr (.inr hk)))).mono fun e w' ⟨he, h', hf⟩ => ⟨he, F, ⟨A, k1, k2, sp, gp, h', hi.rem _, hF⟩, hf.mono (fun i q => (hF i).2 q), fun i hi => .inl hi⟩
  size := by
    rintro w t F ⟨A, k1, k2, sp, gp, h, hi, hF⟩
    exact (ar_size h).mono fun e w' ⟨he, hw⟩ => ⟨he, hw ▸ Fr.refl _ _⟩
  ghosts := by
    rintro w t F ⟨A, k1, k2, sp, gp, h, hi, hF⟩
    exact ar_ghosts h
end Go.Proofs.Ytebhpihickmekaa

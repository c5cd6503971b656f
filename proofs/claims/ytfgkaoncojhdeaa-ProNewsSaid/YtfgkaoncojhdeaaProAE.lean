/-
  Pro: its calls as a policy's; both sides go alike.
-/
import Derived.Test.YtfgkaoncojhdeaaProAD
import Derived.Test.YtfgkaoncojhdeaaSim
namespace Go.Proofs.Ytfgkaoncojhdeaa
open Go.RowKit Go.Maps
set_option linter.unusedVariables false
set_option linter.unusedSimpArgs false

def pre8 (n : Nat) (t : PrS) (c : Cl) : Prop :=
  (c.kind = 1 → c.frame < n ∧ 1 ≤ c.page ∧ c.page < 4294967296 ∧ (t.pg c.frame = c.page ∨ t.pg c.frame = 0 ∧ ∀ f, f < n → ¬ t.pg f = c.page)) ∧
  (c.kind = 2 → c.frame < n ∧ ¬ t.pg c.frame = 0) ∧ (c.kind = 4 → c.frame < n ∧ ¬ t.pg c.frame = 0)
section
variable {w w' : World} {b n m : Nat} {A : AP} {s : PrS} {i x f id : Nat} {y : En} {F : Nat → Prop}
theorem set_ok (h : PK n m s) (hm : PM n s) (hf : f < n) (hp : ¬ s.pg f = 0) (u : Bool) : PK n m { s with on := upd s.on f u } ∧ PM n { s with on := upd s.on f u } := by
  refine ⟨⟨h.hl, h.uq, h.el, h.ng, h.gl, h.n1⟩, ⟨hm.pf, fun g hg k => ?_⟩⟩
  have h0 := hm.p0 g hg k
  refine ⟨h0.1, ?_⟩
  show upd s.on f u g = false
  by_cases e : g = f
  · subst e; exact (hp h0.1).elim
  · rw [upd_other _ _ e]; exact h0.2
theorem empty_room (h : PK n n s) (hm : PM n s) {a : Nat} (ha : a < n) (hp : s.pg a = 0) : s.L.length < 2 * n := empty_lt h hm ha hp
theorem cr_access (h : CRP b n w s F) (hn : n ≤ 30000) (ha : f < n) (h1 : 1 ≤ id) (h2 : id < 4294967296) (hq : s.pg f = id ∨ s.pg f = 0 ∧ ∀ g, g < n → ¬ s.pg g = id) :
    Calls Try.prog 19 #[.pointer (some ⟨b, 0, none⟩), .int .i64 f, .int .u32 id] w fun e w' => e = .returned (.tuple #[]) ∧ CRP b n w' (s.access n f id) F ∧ Fr F w w' := by
  obtain ⟨A, hA, hk, hm, hF⟩ := h
  rcases hq with hq | ⟨hq, hni⟩
  · obtain ⟨k1, k2, k3, k4, i, x, e, hx, ef, ea⟩ := access_old hk hm ha hq h1
    refine (pa_touch hA hk hx ef hn id).mono fun e w' ⟨he, h', hf⟩ => ⟨he, ⟨A, ?_, k1, k2, hF⟩, hf.mono (fun i q => (hF i).2 q)⟩
    rw [ea]
    exact h'.pgs _
  · obtain ⟨k1, k2, k3, k4⟩ := access_new hk hm ha hq h1 h2 hni
    have hof := ofF_no hk hm hq
    have hno := ofF_none hof
    have hon := (hm.p0 f ha (no_K hk hm hq)).2
    have hl := empty_lt hk hm ha hq
    cases eg : s.ofG id with
    | none =>
      refine (pa_come0 hA hk ha hno (ofG_none eg) hon hl h2 hn).mono fun e w' ⟨he, h', hf⟩ => ⟨he, ⟨A, ?_, k1, k2, hF⟩, hf.mono (fun i q => (hF i).2 q)⟩
      have ea : s.access n f id = { s with pg := upd s.pg f id }.lay ⟨id, f, false, false, true⟩ := by unfold PrS.access; simp only [hof, eg]
      rw [ea]
      have eb : ({ s with pg := upd s.pg f id } : PrS).lay ⟨id, f, false, false, true⟩ = { s.lay ⟨id, f, false, false, true⟩ with pg := upd s.pg f id } := by
        unfold PrS.lay; split <;> rfl
      rw [eb]; exact h'.pgs _
    | some i =>
      obtain ⟨g, hg, g1, g2⟩ := ofG_some eg
      have ea : s.access n f id = (({ s with pg := upd s.pg f id, goal := min (s.goal + 1) (max (n - 1) 1) }.drop i).lay ⟨id, f, true, false, false⟩).cool n := by unfold PrS.access; simp only [hof, eg]
      have hA2 := hA.pgs (upd s.pg f id)
      have hk2 : PK n n { s with pg := upd s.pg f id } := ⟨hk.hl, hk.uq, hk.el, hk.ng, hk.gl, hk.n1⟩
      have hpk0 : PK n n { s with pg := upd s.pg f id, goal := min (s.goal + 1) (max (n - 1) 1) } := ⟨hk.hl, hk.uq, hk.el, hk.ng, by have := hk.gl; show 1 ≤ min (s.goal + 1) (max (n - 1) 1) ∧ min (s.goal + 1) (max (n - 1) 1) ≤ _; omega, hk.n1⟩
      have hd := hpk0.drop (i := i) (x := g) hg
      have hpk : PK n n (({ s with pg := upd s.pg f id, goal := min (s.goal + 1) (max (n - 1) 1) }.drop i).lay ⟨id, f, true, false, false⟩) := by
        refine hd.lay ⟨⟨by show (-1 : Int) ≤ (f : Int); omega, by show (f : Int) < n; omega⟩, ⟨h1, h2⟩, fun q => by have q : (f : Int) < 0 := q; omega, fun q => rfl⟩ (by show (0 : Int) ≤ f; omega) (fun y hy => ⟨fun q => ?_, fun q => hno y (List.mem_of_mem_eraseIdx hy) q⟩)
        have hyL : y ∈ s.L := List.mem_of_mem_eraseIdx hy
        obtain ⟨k, hkk⟩ := List.getElem?_of_mem hy
        have hkk : (s.L.eraseIdx i)[k]? = some y := hkk
        rw [eraseIdx_get] at hkk
        have q : y.pg = id := q
        split at hkk
        · have := hk.uq i k g y hg hkk (.inl (by omega)); omega
        · have := hk.uq i (k + 1) g y hg hkk (.inl (by omega)); omega
      refine (pa_come1 hA2 hk2 ha hno hon hl h2 hg g1 g2 h1 hn hpk).mono fun e w' ⟨he, h', hf⟩ => ⟨he, ⟨A, ?_, k1, k2, hF⟩, hf.mono (fun i q => (hF i).2 q)⟩
      rw [ea]; exact h'
theorem cr_set (h : CRP b n w s F) (hn : n ≤ 30000) (ha : f < n) (hp : ¬ s.pg f = 0) (u : Bool) : Calls Try.prog 20 #[.pointer (some ⟨b, 0, none⟩), .int .i64 f, .bool u] w fun e w' => e = .returned (.tuple #[]) ∧ CRP b n w' { s with on := upd s.on f u } F ∧ Fr F w w' := by
  obtain ⟨A, hA, hk, hm, hF⟩ := h
  obtain ⟨i, x, _, hx, ef⟩ := ofF_of hm ha hp
  obtain ⟨k1, k2⟩ := set_ok hk hm ha hp u
  exact (pa_set hA hk hx ef u hn).mono fun e w' ⟨he, h', hf⟩ => ⟨he, ⟨A, h', k1, k2, hF⟩, hf.mono (fun i q => (hF i).2 q)⟩
theorem cr_remove (h : CRP b n w s F) (hn : n ≤ 30000) (ha : f < n) (hp : ¬ s.pg f = 0) : Calls Try.prog 43 #[.pointer (some ⟨b, 0, none⟩), .int .i64 f] w fun e w' => e = .returned (.tuple #[]) ∧ CRP b n w' (s.rem f) F ∧ Fr F w w' := by
  obtain ⟨A, hA, hk, hm, hF⟩ := h
  obtain ⟨i, x, e, hx, ef⟩ := ofF_of hm ha hp
  obtain ⟨k1, k2, _, _⟩ := rem_ok hk hm ha hp
  have er : s.rem f = (s.empty f).drop i := by unfold PrS.rem; rw [e]
  refine (pa_remove hA hk hx ef hn).mono fun e w' ⟨he, h', hf⟩ => ⟨he, ⟨A, by rw [er]; exact h', k1, k2, hF⟩, hf.mono (fun i q => (hF i).2 q)⟩
/-- What Victim leaves. -/
theorem resS_ok (hk : PK n n s) (hm : PM n s) (hz : ¬ s.sizeN n = 0) : PK n n (resS (s.vic n)) ∧ PM n (resS (s.vic n)) ∧ resF (s.vic n) < n ∧ (¬ s.pg (resF (s.vic n)) = 0) ∧ s.on (resF (s.vic n)) = true ∧ (resS (s.vic n)).pg = upd s.pg (resF (s.vic n)) 0 ∧ (resS (s.vic n)).on = upd s.on (resF (s.vic n)) false := by
  have h := vicL_ok (n := n) (4 * s.L.length + 4) hk hm
  have e : s.vic n = vicL n (4 * s.L.length + 4) s := rfl
  rw [e]
  generalize vicL n (4 * s.L.length + 4) s = V at *
  obtain ⟨t, o⟩ := V
  obtain ⟨k1, k2, k3⟩ := h
  cases o with
  | some f =>
    obtain ⟨p1, p2, p3, p4, p5⟩ := k3
    exact ⟨k1, k2, p1, p2, p3, p4, p5⟩
  | none =>
    have k3 : Kept s t := k3
    have hz2 : ¬ t.sizeN n = 0 := by rw [kept_size k3]; exact hz
    obtain ⟨_, _, _, _, _, p1, p2, p3⟩ := first_ok k1 k2 hz2
    obtain ⟨r1, r2, r3, r4⟩ := rem_ok k1 k2 p1 p2
    exact ⟨r1, r2, p1, by rw [← k3.pg]; exact p2, by rw [← k3.on]; exact p3, by rw [← k3.pg]; exact r3, by rw [← k3.on]; exact r4⟩
theorem vicP (s : PrS) (id : Nat) : (polP n).victim s id = (if s.sizeN n = 0 then none else some (resF (s.vic n))) ∧ (polP n).gone s id = resS (s.vic n) := by
  constructor
  · show (if s.sizeN n = 0 then none else match s.vic n with | (_, some f) => some f | (t, none) => some t.first) = _
    split
    · rfl
    · unfold resF
      generalize s.vic n = V
      obtain ⟨t, o⟩ := V
      cases o <;> rfl
  · show (match s.vic n with | (t, some _) => t | (t, none) => t.rem t.first) = _
    unfold resS
    generalize s.vic n = V
    obtain ⟨t, o⟩ := V
    cases o <;> rfl
theorem cr_victim (h : CRP b n w s F) (hn : n ≤ 30000) (hz : ¬ s.sizeN n = 0) (p : Int) : Calls Try.prog 21 #[.pointer (some ⟨b, 0, none⟩), .int .u32 p] w fun e w' => e = .returned (.tuple #[.int .i64 (resF (s.vic n) : Nat), .bool true]) ∧ CRP b n w' (resS (s.vic n)) F ∧ Fr F w w' := by
  obtain ⟨A, hA, hk, hm, hF⟩ := h
  obtain ⟨k1, k2, _⟩ := resS_ok hk hm hz
  exact (pa_victim_yes hA hk hm hz hn p).mono fun e w' ⟨he, h', hf⟩ => ⟨he, ⟨A, h', k1, k2, hF⟩, hf.mono (fun i q => (hF i).2 q)⟩
theorem cr_size (h : CRP b n w s F) : Calls Try.prog 23 #[.pointer (some ⟨b, 0, none⟩)] w fun e w' => e = .returned (.int .i64 (s.sizeN n : Nat)) ∧ w = w' := by
  obtain ⟨A, ⟨r, h1, h2⟩, hk, hm, hF⟩ := h
  have := pr_size h1
  rw [h2.size, ← size_eq hk hm] at this
  exact this
theorem cr_target (h : CRP b n w s F) : Calls Try.prog 13 #[.pointer (some ⟨b, 0, none⟩)] w fun e w' => e = .returned (.int .i64 (s.goal : Nat)) ∧ w = w' := by
  obtain ⟨A, ⟨r, h1, h2⟩, hk, hm, hF⟩ := h
  have := pr_target h1
  rw [h2.goal] at this
  exact this
theorem cr_hot (h : CRP b n w s F) : Calls Try.prog 14 #[.pointer (some ⟨b, 0, none⟩)] w fun e w' => e = .returned (.int .i64 (s.hotN : Nat)) ∧ w = w' := by
  obtain ⟨A, ⟨r, h1, h2⟩, hk, hm, hF⟩ := h
  have := pr_hot h1
  rw [h2.hot] at this
  exact this
end
theorem cod8 (b n : Nat) (hn : n ≤ 30000) : CodSys (polC n) (CRP b n) b (pre8 n) where
  fr := fun h f hd => h.fr f hd
  lt := fun h => h.lt
  miss := by
    rintro w t F c h hp hk
    exact (pr_miss _ _).mono fun e w' ⟨he, hw⟩ => ⟨he, F, hw ▸ h, hw ▸ Fr.refl _ _, fun i hi => .inl hi⟩
  access := by
    rintro w t F c h hp hk
    obtain ⟨a1, a2, a3, a4⟩ := hp.1 hk
    exact (cr_access h hn a1 a2 a3 a4).mono fun e w' ⟨he, h', hf⟩ => ⟨he, F, h', hf, fun i hi => .inl hi⟩
  set := by
    rintro w t F c h hp hk
    obtain ⟨a1, a2⟩ := hp.2.1 hk
    exact (cr_set h hn a1 a2 c.on).mono fun e w' ⟨he, h', hf⟩ => ⟨he, F, h', hf, fun i hi => .inl hi⟩
  victimNo := by
    rintro w t F c h hp hk hv
    have hv : (polP n).victim t c.page = none := hv
    rw [(vicP t c.page).1] at hv
    have hz : t.sizeN n = 0 := by
      by_cases q : t.sizeN n = 0
      · exact q
      · rw [if_neg q] at hv; cases hv
    obtain ⟨A, hA, hk', hm, hF⟩ := h
    exact (pa_victim_no hA hk' hm hz c.page).mono fun e w' ⟨he, hw⟩ => ⟨he, F, hw ▸ ⟨A, hA, hk', hm, hF⟩, hw ▸ Fr.refl _ _, fun i hi => .inl hi⟩
  victimYes := by
    rintro w t F c a h hp hk hv
    have hv : (polP n).victim t c.page = some a := hv
    have hg : (polC n).gone t c.page = resS (t.vic n) := (vicP t c.page).2
    rw [(vicP t c.page).1] at hv
    by_cases q : t.sizeN n = 0
    · rw [if_pos q] at hv; cases hv
    · rw [if_neg q] at hv
      simp only [Option.some.injEq] at hv
      rw [hg, ← hv]
      exact (cr_victim h hn q c.page).mono fun e w' ⟨he, h', hf⟩ => ⟨he, F, h', hf, fun i hi => .inl hi⟩
  remove := by
    rintro w t F c h hp hk
    obtain ⟨a1, a2⟩ := hp.2.2 hk
    exact (cr_remove h hn a1 a2).mono fun e w' ⟨he, h', hf⟩ => ⟨he, F, h', hf, fun i hi => .inl hi⟩
  size := by
    rintro w t F h
    exact (cr_size h).mono fun e w' ⟨he, hw⟩ => ⟨he, hw ▸ Fr.refl _ _⟩
  ghosts := by
    rintro w t F ⟨A, hA, hk, hm, hF⟩
    exact pa_ghosts hA hk hn
/-- Both sides hold the same. -/
def Sim8 (n : Nat) (s t : PrS) (fr : List Nat) : Prop := t = s ∧ PK n n s ∧ PM n s ∧ fr.length = n ∧ ∀ a, a < n → fr[a]? = some (s.pg a)
theorem ghR_perm (s : PrS) : s.ghR.Perm s.gh := by
  unfold PrS.ghR PrS.gh
  refine List.Perm.map _ (List.Perm.filter _ ?_)
  have := List.perm_append_comm (l₁ := s.L.drop (s.hd 0)) (l₂ := s.L.take (s.hd 0))
  rwa [List.take_append_drop] at this
theorem gh_nodup {n m : Nat} {s : PrS} (h : PK n m s) : s.gh.Nodup := by
  have hp : s.L.Pairwise (fun x y => ¬ x.pg = y.pg) := by
    rw [List.pairwise_iff_getElem]
    intro i j hi hj hij e
    have := h.uq i j _ _ (List.getElem?_eq_getElem hi) (List.getElem?_eq_getElem hj) (.inl e)
    omega
  unfold PrS.gh
  exact List.pairwise_map.2 (hp.sublist List.filter_sublist)
theorem gh_len {s : PrS} : s.gh.length = s.gone := by
  unfold PrS.gh PrS.gone
  rw [List.length_map, List.countP_eq_length_filter]
theorem sim8 (n : Nat) (hn : n ≤ 30000) : SimSys (polP n) (polC n) (pre8 n) n (Sim8 n) where
  len := fun h => h.2.2.2.1
  size := by
    rintro s t fr ⟨rfl, h1, h2, h3, h4⟩
    refine ⟨rfl, ?_⟩
    show t.sizeN n < 1000000
    have : t.sizeN n ≤ n := by unfold PrS.sizeN; have := List.countP_le_length (p := fun f => decide (¬ t.pg f = 0) && t.on f) (l := List.range n); simpa using this
    omega
  ghosts := by
    rintro s t fr ⟨rfl, h1, h2, h3, h4⟩
    exact ⟨ghR_perm t, gh_nodup h1, by show t.gh.length < 1000000; rw [gh_len]; have := h1.ng; omega⟩
  miss := by
    rintro s t fr id ⟨rfl, h1, h2, h3, h4⟩ hni a1 a2
    exact ⟨⟨fun q => (by cases q), fun q => (by cases q), fun q => (by cases q)⟩, rfl, h1, h2, h3, h4⟩
  access := by
    rintro s t fr a id ⟨rfl, h1, h2, h3, h4⟩ ha hq a1 a2
    have hpa : (t.pg a = id ∨ t.pg a = 0 ∧ ∀ f, f < n → ¬ t.pg f = id) := by
      rw [h4 a ha] at hq
      rcases hq with q | ⟨q, q2⟩
      · exact .inl (by simpa using q)
      · exact .inr ⟨by simpa using q, fun f hf e => q2 (List.mem_of_getElem? (by rw [h4 f hf, e]))⟩
    have key : PK n n (t.access n a id) ∧ PM n (t.access n a id) ∧ (t.access n a id).pg = upd t.pg a id := by
      rcases hpa with q | ⟨q, q2⟩
      · obtain ⟨k1, k2, k3, _⟩ := access_old h1 h2 ha q a1
        exact ⟨k1, k2, k3⟩
      · obtain ⟨k1, k2, k3, _⟩ := access_new h1 h2 ha q a1 a2 q2
        exact ⟨k1, k2, k3⟩
    refine ⟨⟨fun _ => ⟨ha, a1, a2, hpa⟩, fun q => (by cases q), fun q => (by cases q)⟩, rfl, key.1, key.2.1, by rw [List.length_set]; exact h3, fun g hg => ?_⟩
    show (fr.set a id)[g]? = some ((t.access n a id).pg g)
    rw [key.2.2, List.getElem?_set]
    by_cases e : a = g
    · subst e; rw [if_pos rfl, if_pos (by omega), upd_same]
    · rw [if_neg e, upd_other _ _ (fun q => e q.symm)]; exact h4 g hg
  set := by
    rintro s t fr a x v ⟨rfl, h1, h2, h3, h4⟩ ha hq a1
    rw [h4 a ha] at hq
    have hp : ¬ t.pg a = 0 := by simp at hq; omega
    obtain ⟨k1, k2⟩ := set_ok h1 h2 ha hp v
    exact ⟨⟨fun q => (by cases q), fun _ => ⟨ha, hp⟩, fun q => (by cases q)⟩, rfl, k1, k2, h3, h4⟩
  victim := by
    rintro s t fr id ⟨rfl, h1, h2, h3, h4⟩ hni a1 a2
    rfl
  none := by
    rintro s t fr id ⟨rfl, h1, h2, h3, h4⟩ hni a1 a2
    refine ⟨?_, ⟨fun q => (by cases q), fun q => (by cases q), fun q => (by cases q)⟩⟩
    rw [(vicP t id).1]
    show _ ↔ t.sizeN n = 0
    by_cases q : t.sizeN n = 0
    · rw [if_pos q]; exact ⟨fun _ => q, fun _ => rfl⟩
    · rw [if_neg q]; exact ⟨fun e => (by cases e), fun e => (q e).elim⟩
  gone := by
    rintro s t fr a id ⟨rfl, h1, h2, h3, h4⟩ hni a1 a2 hv
    rw [(vicP t id).1] at hv
    by_cases q : t.sizeN n = 0
    · rw [if_pos q] at hv; cases hv
    · rw [if_neg q] at hv
      simp only [Option.some.injEq] at hv
      obtain ⟨k1, k2, k3, k4, k5, k6, k7⟩ := resS_ok h1 h2 q
      rw [hv] at k3 k6
      have hg : (polP n).gone t id = resS (t.vic n) := (vicP t id).2
      refine ⟨k3, ⟨fun q => (by cases q), fun q => (by cases q), fun q => (by cases q)⟩, ?_⟩
      show Sim8 n ((polP n).gone t id) ((polP n).gone t id) (fr.set a 0)
      rw [hg]
      refine ⟨rfl, k1, k2, by rw [List.length_set]; exact h3, fun g hg => ?_⟩
      rw [k6, List.getElem?_set]
      by_cases e : a = g
      · subst e; rw [if_pos rfl, if_pos (by omega), upd_same]
      · rw [if_neg e, upd_other _ _ (fun q => e q.symm)]; exact h4 g hg
  remove := by
    rintro s t fr a x ⟨rfl, h1, h2, h3, h4⟩ ha hq a1
    rw [h4 a ha] at hq
    have hp : ¬ t.pg a = 0 := by simp at hq; omega
    obtain ⟨k1, k2, k3, k4⟩ := rem_ok h1 h2 ha hp
    refine ⟨⟨fun q => (by cases q), fun q => (by cases q), fun _ => ⟨ha, hp⟩⟩, rfl, k1, k2, by rw [List.length_set]; exact h3, fun g hg => ?_⟩
    show (fr.set a 0)[g]? = some ((t.rem a).pg g)
    rw [k3, List.getElem?_set]
    by_cases e : a = g
    · subst e; rw [if_pos rfl, if_pos (by omega), upd_same]
    · rw [if_neg e, upd_other _ _ (fun q => e q.symm)]; exact h4 g hg
end Go.Proofs.Ytfgkaoncojhdeaa

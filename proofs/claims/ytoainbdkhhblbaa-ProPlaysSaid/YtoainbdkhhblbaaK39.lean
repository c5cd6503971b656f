/-
  Pro: its calls as a policy's; both sides go alike.
  The document's Pro: the victim.
  A document's policy in memory, whatever policy: a head of M cells, the frames' pages, the flags, and rows of numbers in cells of the head; what a call of it leaves. No program in sight.
  seen, of whatever document's policy: how many frames may go, and what it remembers.
-/
import Derived.Test.YtoainbdkhhblbaaK38
import Derived.Test.YtoainbdkhhblbaaK10
import Derived.Deep.CutBlock
import Derived.Test.YtoainbdkhhblbaaK07
namespace Go.Proofs.Ytoainbdkhhblbaa
open Go.RowKit Go.Maps
set_option linter.unusedVariables false
set_option linter.unusedSimpArgs false

def pre8 (n : Nat) (t : PrS) (c : Cl) : Prop :=
  (c.kind = 1 → c.frame < n ∧ 1 ≤ c.page ∧ c.page < 4294967296 ∧ (t.pg c.frame = c.page ∨ t.pg c.frame = 0 ∧ ∀ f, f < n → ¬ t.pg f = c.page)) ∧
  (c.kind = 2 → c.frame < n ∧ ¬ t.pg c.frame = 0) ∧ (c.kind = 4 → c.frame < n ∧ ¬ t.pg c.frame = 0)
section
variable {w w' : World} {b n m : Nat} {A : AP} {s : PrS} {i x f id : Nat} {y : En} {F : Nat → Prop}
theorem set_ok (h : PK n m s) (hm : PM n s) (hf : f < n) (hp : ¬ s.pg f = 0) (u : Bool) : PK n m { s with on := upd s.on f u } ∧ PM n { s with on := upd s.on f u } := by
  refine ⟨⟨h.hl, h.uq, h.el, h.ng, h.gl, h.n1⟩, ⟨hm.pf, fun g hg k => ?_⟩⟩
  have h0 := hm.p0 g hg k
  refine ⟨h0.1, ?_⟩
  show upd s.on f u g = false
  by_cases e : g = f
  · subst e; exact (hp h0.1).elim
  · rw [upd_other _ _ e]; exact h0.2
theorem empty_room (h : PK n n s) (hm : PM n s) {a : Nat} (ha : a < n) (hp : s.pg a = 0) : s.L.length < 2 * n := empty_lt h hm ha hp
theorem cr_access (h : CRP b n w s F) (hn : n ≤ 30000) (ha : f < n) (h1 : 1 ≤ id) (h2 : id < 4294967296) (hq : s.pg f = id ∨ s.pg f = 0 ∧ ∀ g, g < n → ¬ s.pg g = id) :
    Calls Try.prog 19 #[.pointer (some ⟨b, 0, none⟩), .int .i64 f, .int .u32 id] w fun e w' => e = .returned (.tuple #[]) ∧ CRP b n w' (s.access n f id) F ∧ Fr F w w' := by
  obtain ⟨A, hA, hk, hm, hF⟩ := h
  rcases hq with hq | ⟨hq, hni⟩
  · obtain ⟨k1, k2, k3, k4, i, x, e, hx, ef, ea⟩ := access_old hk hm ha hq h1
    refine (pa_touch hA hk hx ef hn id).mono fun e w' ⟨he, h', hf⟩ => ⟨he, ⟨A, ?_, k1, k2, hF⟩, hf.mono (fun i q => (hF i).2 q)⟩
    rw [ea]
    exact h'.pgs _
  · obtain ⟨k1, k2, k3, k4⟩ := access_new hk hm ha hq h1 h2 hni
    have hof := ofF_no hk hm hq
    have hno := ofF_none hof
    have hon := (hm.p0 f ha (no_K hk hm hq)).2
    have hl := empty_lt hk hm ha hq
    cases eg : s.ofG id with
    | none =>
      refine (pa_come0 hA hk ha hno (ofG_none eg) hon hl h2 hn).mono fun e w' ⟨he, h', hf⟩ => ⟨he, ⟨A, ?_, k1, k2, hF⟩, hf.mono (fun i q => (hF i).2 q)⟩
      have ea : s.access n f id = { s with pg := upd s.pg f id }.lay ⟨id, f, false, false, true⟩ := by unfold PrS.access; simp only [hof, eg]
      rw [ea]
      have eb : ({ s with pg := upd s.pg f id } : PrS).lay ⟨id, f, false, false, true⟩ = { s.lay ⟨id, f, false, false, true⟩ with pg := upd s.pg f id } := by
        unfold PrS.lay; split <;> rfl
      rw [eb]; exact h'.pgs _
    | some i =>
      obtain ⟨g, hg, g1, g2⟩ := ofG_some eg
      have ea : s.access n f id = (({ s with pg := upd s.pg f id, goal := min (s.goal + 1) (max (n - 1) 1) }.drop i).lay ⟨id, f, true, false, false⟩).cool n := by unfold PrS.access; simp only [hof, eg]
      have hA2 := hA.pgs (upd s.pg f id)
      have hk2 : PK n n { s with pg := upd s.pg f id } := ⟨hk.hl, hk.uq, hk.el, hk.ng, hk.gl, hk.n1⟩
      have hpk0 : PK n n { s with pg := upd s.pg f id, goal := min (s.goal + 1) (max (n - 1) 1) } := ⟨hk.hl, hk.uq, hk.el, hk.ng, by have := hk.gl; show 1 ≤ min (s.goal + 1) (max (n - 1) 1) ∧ min (s.goal + 1) (max (n - 1) 1) ≤ _; omega, hk.n1⟩
      have hd := hpk0.drop (i := i) (x := g) hg
      have hpk : PK n n (({ s with pg := upd s.pg f id, goal := min (s.goal + 1) (max (n - 1) 1) }.drop i).lay ⟨id, f, true, false, false⟩) := by
        refine hd.lay ⟨⟨by show (-1 : Int) ≤ (f : Int); omega, by show (f : Int) < n; omega⟩, ⟨h1, h2⟩, fun q => by have q : (f : Int) < 0 := q; omega, fun q => rfl⟩ (by show (0 : Int) ≤ f; omega) (fun y hy => ⟨fun q => ?_, fun q => hno y (List.mem_of_mem_eraseIdx hy) q⟩)
        have hyL : y ∈ s.L := List.mem_of_mem_eraseIdx hy
        obtain ⟨k, hkk⟩ := List.getElem?_of_mem hy
        have hkk : (s.L.eraseIdx i)[k]? = some y := hkk
        rw [eraseIdx_get] at hkk
        have q : y.pg = id := q
        split at hkk
        · have := hk.uq i k g y hg hkk (.inl (by omega)); omega
        · have := hk.uq i (k + 1) g y hg hkk (.inl (by omega)); omega
      refine (pa_come1 hA2 hk2 ha hno hon hl h2 hg g1 g2 h1 hn hpk).mono fun e w' ⟨he, h', hf⟩ => ⟨he, ⟨A, ?_, k1, k2, hF⟩, hf.mono (fun i q => (hF i).2 q)⟩
      rw [ea]; exact h'
theorem cr_set (h : CRP b n w s F) (hn : n ≤ 30000) (ha : f < n) (hp : ¬ s.pg f = 0) (u : Bool) : Calls Try.prog 20 #[.pointer (some ⟨b, 0, none⟩), .int .i64 f, .bool u] w fun e w' => e = .returned (.tuple #[]) ∧ CRP b n w' { s with on := upd s.on f u } F ∧ Fr F w w' := by
  obtain ⟨A, hA, hk, hm, hF⟩ := h
  obtain ⟨i, x, _, hx, ef⟩ := ofF_of hm ha hp
  obtain ⟨k1, k2⟩ := set_ok hk hm ha hp u
  exact (pa_set hA hk hx ef u hn).mono fun e w' ⟨he, h', hf⟩ => ⟨he, ⟨A, h', k1, k2, hF⟩, hf.mono (fun i q => (hF i).2 q)⟩
theorem cr_remove (h : CRP b n w s F) (hn : n ≤ 30000) (ha : f < n) (hp : ¬ s.pg f = 0) : Calls Try.prog 43 #[.pointer (some ⟨b, 0, none⟩), .int .i64 f] w fun e w' => e = .returned (.tuple #[]) ∧ CRP b n w' (s.rem f) F ∧ Fr F w w' := by
  obtain ⟨A, hA, hk, hm, hF⟩ := h
  obtain ⟨i, x, e, hx, ef⟩ := ofF_of hm ha hp
  obtain ⟨k1, k2, _, _⟩ := rem_ok hk hm ha hp
  have er : s.rem f = (s.empty f).drop i := by unfold PrS.rem; rw [e]
  refine (pa_remove hA hk hx ef hn).mono fun e w' ⟨he, h', hf⟩ => ⟨he, ⟨A, by rw [er]; exact h', k1, k2, hF⟩, hf.mono (fun i q => (hF i).2 q)⟩
/-- What Victim leaves. -/
theorem resS_ok (hk : PK n n s) (hm : PM n s) (hz : ¬ s.sizeN n = 0) : PK n n (resS (s.vic n)) ∧ PM n (resS (s.vic n)) ∧ resF (s.vic n) < n ∧ (¬ s.pg (resF (s.vic n)) = 0) ∧ s.on (resF (s.vic n)) = true ∧ (resS (s.vic n)).pg = upd s.pg (resF (s.vic n)) 0 ∧ (resS (s.vic n)).on = upd s.on (resF (s.vic n)) false := by
  have h := vicL_ok (n := n) (4 * s.L.length + 4) hk hm
  have e : s.vic n = vicL n (4 * s.L.length + 4) s := rfl
  rw [e]
  generalize vicL n (4 * s.L.length + 4) s = V at *
  obtain ⟨t, o⟩ := V
  obtain ⟨k1, k2, k3⟩ := h
  cases o with
  | some f =>
    obtain ⟨p1, p2, p3, p4, p5⟩ := k3
    exact ⟨k1, k2, p1, p2, p3, p4, p5⟩
  | none =>
    have k3 : Kept s t := k3
    have hz2 : ¬ t.sizeN n = 0 := by rw [kept_size k3]; exact hz
    obtain ⟨_, _, _, _, _, p1, p2, p3⟩ := first_ok k1 k2 hz2
    obtain ⟨r1, r2, r3, r4⟩ := rem_ok k1 k2 p1 p2
    exact ⟨r1, r2, p1, by rw [← k3.pg]; exact p2, by rw [← k3.on]; exact p3, by rw [← k3.pg]; exact r3, by rw [← k3.on]; exact r4⟩
theorem vicP (s : PrS) (id : Nat) : (polP n).victim s id = (if s.sizeN n = 0 then none else some (resF (s.vic n))) ∧ (polP n).gone s id = resS (s.vic n) := by
  constructor
  · show (if s.sizeN n = 0 then none else match s.vic n with | (_, some f) => some f | (t, none) => some t.first) = _
    split
    · rfl
    · unfold resF
      generalize s.vic n = V
      obtain ⟨t, o⟩ := V
      cases o <;> rfl
  · show (match s.vic n with | (t, some _) => t | (t, none) => t.rem t.first) = _
    unfold resS
    generalize s.vic n = V
    obtain ⟨t, o⟩ := V
    cases o <;> rfl
theorem cr_victim (h : CRP b n w s F) (hn : n ≤ 30000) (hz : ¬ s.sizeN n = 0) (p : Int) : Calls Try.prog 21 #[.pointer (some ⟨b, 0, none⟩), .int .u32 p] w fun e w' => e = .returned (.tuple #[.int .i64 (resF (s.vic n) : Nat), .bool true]) ∧ CRP b n w' (resS (s.vic n)) F ∧ Fr F w w' := by
  obtain ⟨A, hA, hk, hm, hF⟩ := h
  obtain ⟨k1, k2, _⟩ := resS_ok hk hm hz
  exact (pa_victim_yes hA hk hm hz hn p).mono fun e w' ⟨he, h', hf⟩ => ⟨he, ⟨A, h', k1, k2, hF⟩, hf.mono (fun i q => (hF i).2 q)⟩
theorem cr_size (h : CRP b n w s F) : Calls Try.prog 23 #[.pointer (some ⟨b, 0, none⟩)] w fun e w' => e = .returned (.int .i64 (s.sizeN n : Nat)) ∧ w = w' := by
  obtain ⟨A, ⟨r, h1, h2⟩, hk, hm, hF⟩ := h
  have := pr_size h1
  rw [h2.size, ← size_eq hk hm] at this
  exact this
theorem cr_target (h : CRP b n w s F) : Calls Try.prog 13 #[.pointer (some ⟨b, 0, none⟩)] w fun e w' => e = .returned (.int .i64 (s.goal : Nat)) ∧ w = w' := by
  obtain ⟨A, ⟨r, h1, h2⟩, hk, hm, hF⟩ := h
  have := pr_target h1
  rw [h2.goal] at this
  exact this
theorem cr_hot (h : CRP b n w s F) : Calls Try.prog 14 #[.pointer (some ⟨b, 0, none⟩)] w fun e w' => e = .returned (.int .i64 (s.hotN : Nat)) ∧ w = w' := by
  obtain ⟨A, ⟨r, h1, h2⟩, hk, hm, hF⟩ := h
  have := pr_hot h1
  rw [h2.hot] at this
  exact this
end
theorem cod8 (b n : Nat) (hn : n ≤ 30000) : CodSys (polC n) (CRP b n) b (pre8 n) where
  fr := fun h f hd => h.fr f hd
  lt := fun h => h.lt
  miss := by
    rintro w t F c h hp hk
    exact (pr_miss _ _).mono fun e w' ⟨he, hw⟩ => ⟨he, F, hw ▸ h, hw ▸ Fr.refl _ _, fun i hi => .inl hi⟩
  access := by
    rintro w t F c h hp hk
    obtain ⟨a1, a2, a3, a4⟩ := hp.1 hk
    exact (cr_access h hn a1 a2 a3 a4).mono fun e w' ⟨he, h', hf⟩ => ⟨he, F, h', hf, fun i hi => .inl hi⟩
  set := by
    rintro w t F c h hp hk
    obtain ⟨a1, a2⟩ := hp.2.1 hk
    exact (cr_set h hn a1 a2 c.on).mono fun e w' ⟨he, h', hf⟩ => ⟨he, F, h', hf, fun i hi => .inl hi⟩
  victimNo := by
    rintro w t F c h hp hk hv
    have hv : (polP n).victim t c.page = none := hv
    rw [(vicP t c.page).1] at hv
    have hz : t.sizeN n = 0 := by
      by_cases q : t.sizeN n = 0
      · exact q
      · rw [if_neg q] at hv; cases hv
    obtain ⟨A, hA, hk', hm, hF⟩ := h
    exact (pa_victim_no hA hk' hm hz c.page).mono fun e w' ⟨he, hw⟩ => ⟨he, F, hw ▸ ⟨A, hA, hk', hm, hF⟩, hw ▸ Fr.refl _ _, fun i hi => .inl hi⟩
  victimYes := by
    rintro w t F c a h hp hk hv
    have hv : (polP n).victim t c.page = some a := hv
    have hg : (polC n).gone t c.page = resS (t.vic n) := (vicP t c.page).2
    rw [(vicP t c.page).1] at hv
    by_cases q : t.sizeN n = 0
    · rw [if_pos q] at hv; cases hv
    · rw [if_neg q] at hv
      simp only [Option.some.injEq] at hv
      rw [hg, ← hv]
      exact (cr_victim h hn q c.page).mono fun e w' ⟨he, h', hf⟩ => ⟨he, F, h', hf, fun i hi => .inl hi⟩
  remove := by
    rintro w t F c h hp hk
    obtain ⟨a1, a2⟩ := hp.2.2 hk
    exact (cr_remove h hn a1 a2).mono fun e w' ⟨he, h', hf⟩ => ⟨he, F, h', hf, fun i hi => .inl hi⟩
  size := by
    rintro w t F h
    exact (cr_size h).mono fun e w' ⟨he, hw⟩ => ⟨he, hw ▸ Fr.refl _ _⟩
  ghosts := by
    rintro w t F ⟨A, hA, hk, hm, hF⟩
    exact pa_ghosts hA hk hn
/-- Both sides hold the same. -/
def Sim8 (n : Nat) (s t : PrS) (fr : List Nat) : Prop := t = s ∧ PK n n s ∧ PM n s ∧ fr.length = n ∧ ∀ a, a < n → fr[a]? = some (s.pg a)
theorem ghR_perm (s : PrS) : s.ghR.Perm s.gh := by
  unfold PrS.ghR PrS.gh
  refine List.Perm.map _ (List.Perm.filter _ ?_)
  have := List.perm_append_comm (l₁ := s.L.drop (s.hd 0)) (l₂ := s.L.take (s.hd 0))
  rwa [List.take_append_drop] at this
theorem gh_nodup {n m : Nat} {s : PrS} (h : PK n m s) : s.gh.Nodup := by
  have hp : s.L.Pairwise (fun x y => ¬ x.pg = y.pg) := by
    rw [List.pairwise_iff_getElem]
    intro i j hi hj hij e
    have := h.uq i j _ _ (List.getElem?_eq_getElem hi) (List.getElem?_eq_getElem hj) (.inl e)
    omega
  unfold PrS.gh
  exact List.pairwise_map.2 (hp.sublist List.filter_sublist)
theorem gh_len {s : PrS} : s.gh.length = s.gone := by
  unfold PrS.gh PrS.gone
  rw [List.length_map, List.countP_eq_length_filter]
theorem sim8 (n : Nat) (hn : n ≤ 30000) : SimSys (polP n) (polC n) (pre8 n) n (Sim8 n) where
  len := fun h => h.2.2.2.1
  size := by
    rintro s t fr ⟨rfl, h1, h2, h3, h4⟩
    refine ⟨rfl, ?_⟩
    show t.sizeN n < 1000000
    have : t.sizeN n ≤ n := by unfold PrS.sizeN; have := List.countP_le_length (p := fun f => decide (¬ t.pg f = 0) && t.on f) (l := List.range n); simpa using this
    omega
  ghosts := by
    rintro s t fr ⟨rfl, h1, h2, h3, h4⟩
    exact ⟨ghR_perm t, gh_nodup h1, by show t.gh.length < 1000000; rw [gh_len]; have := h1.ng; omega⟩
  miss := by
    rintro s t fr id ⟨rfl, h1, h2, h3, h4⟩ hni a1 a2
    exact ⟨⟨fun q => (by cases q), fun q => (by cases q), fun q => (by cases q)⟩, rfl, h1, h2, h3, h4⟩
  access := by
    rintro s t fr a id ⟨rfl, h1, h2, h3, h4⟩ ha hq a1 a2
    have hpa : (t.pg a = id ∨ t.pg a = 0 ∧ ∀ f, f < n → ¬ t.pg f = id) := by
      rw [h4 a ha] at hq
      rcases hq with q | ⟨q, q2⟩
      · exact .inl (by simpa using q)
      · exact .inr ⟨by simpa using q, fun f hf e => q2 (List.mem_of_getElem? (by rw [h4 f hf, e]))⟩
    have key : PK n n (t.access n a id) ∧ PM n (t.access n a id) ∧ (t.access n a id).pg = upd t.pg a id := by
      rcases hpa with q | ⟨q, q2⟩
      · obtain ⟨k1, k2, k3, _⟩ := access_old h1 h2 ha q a1
        exact ⟨k1, k2, k3⟩
      · obtain ⟨k1, k2, k3, _⟩ := access_new h1 h2 ha q a1 a2 q2
        exact ⟨k1, k2, k3⟩
    refine ⟨⟨fun _ => ⟨ha, a1, a2, hpa⟩, fun q => (by cases q), fun q => (by cases q)⟩, rfl, key.1, key.2.1, by rw [List.length_set]; exact h3, fun g hg => ?_⟩
    show (fr.set a id)[g]? = some ((t.access n a id).pg g)
    rw [key.2.2, List.getElem?_set]
    by_cases e : a = g
    · subst e; rw [if_pos rfl, if_pos (by omega), upd_same]
    · rw [if_neg e, upd_other _ _ (fun q => e q.symm)]; exact h4 g hg
  set := by
    rintro s t fr a x v ⟨rfl, h1, h2, h3, h4⟩ ha hq a1
    rw [h4 a ha] at hq
    have hp : ¬ t.pg a = 0 := by simp at hq; omega
    obtain ⟨k1, k2⟩ := set_ok h1 h2 ha hp v
    exact ⟨⟨fun q => (by cases q), fun _ => ⟨ha, hp⟩, fun q => (by cases q)⟩, rfl, k1, k2, h3, h4⟩
  victim := by
    rintro s t fr id ⟨rfl, h1, h2, h3, h4⟩ hni a1 a2
    rfl
  none := by
    rintro s t fr id ⟨rfl, h1, h2, h3, h4⟩ hni a1 a2
    refine ⟨?_, ⟨fun q => (by cases q), fun q => (by cases q), fun q => (by cases q)⟩⟩
    rw [(vicP t id).1]
    show _ ↔ t.sizeN n = 0
    by_cases q : t.sizeN n = 0
    · rw [if_pos q]; exact ⟨fun _ => q, fun _ => rfl⟩
    · rw [if_neg q]; exact ⟨fun e => (by cases e), fun e => (q e).elim⟩
  gone := by
    rintro s t fr a id ⟨rfl, h1, h2, h3, h4⟩ hni a1 a2 hv
    rw [(vicP t id).1] at hv
    by_cases q : t.sizeN n = 0
    · rw [if_pos q] at hv; cases hv
    · rw [if_neg q] at hv
      simp only [Option.some.injEq] at hv
      obtain ⟨k1, k2, k3, k4, k5, k6, k7⟩ := resS_ok h1 h2 q
      rw [hv] at k3 k6
      have hg : (polP n).gone t id = resS (t.vic n) := (vicP t id).2
      refine ⟨k3, ⟨fun q => (by cases q), fun q => (by cases q), fun q => (by cases q)⟩, ?_⟩
      show Sim8 n ((polP n).gone t id) ((polP n).gone t id) (fr.set a 0)
      rw [hg]
      refine ⟨rfl, k1, k2, by rw [List.length_set]; exact h3, fun g hg => ?_⟩
      rw [k6, List.getElem?_set]
      by_cases e : a = g
      · subst e; rw [if_pos rfl, if_pos (by omega), upd_same]
      · rw [if_neg e, upd_other _ _ (fun q => e q.symm)]; exact h4 g hg
  remove := by
    rintro s t fr a x ⟨rfl, h1, h2, h3, h4⟩ ha hq a1
    rw [h4 a ha] at hq
    have hp : ¬ t.pg a = 0 := by simp at hq; omega
    obtain ⟨k1, k2, k3, k4⟩ := rem_ok h1 h2 ha hp
    refine ⟨⟨fun q => (by cases q), fun q => (by cases q), fun _ => ⟨ha, hp⟩⟩, rfl, k1, k2, by rw [List.length_set]; exact h3, fun g hg => ?_⟩
    show (fr.set a 0)[g]? = some ((t.rem a).pg g)
    rw [k3, List.getElem?_set]
    by_cases e : a = g
    · subst e; rw [if_pos rfl, if_pos (by omega), upd_same]
    · rw [if_neg e, upd_other _ _ (fun q => e q.symm)]; exact h4 g hg
end Go.Proofs.Ytoainbdkhhblbaa
namespace Go.Proofs.Ytoainbdkhhblbaa
open Go.RowKit
set_option linter.unusedVariables false
set_option linter.unusedSimpArgs false

section
variable {w w' w0 : World} {pb gb ob n m f id : Nat} {F : Nat → Prop} {s : PrS} {lv : Value} {x y : En} {i : Nat}
theorem RQ.fr (h : RQ w pb gb ob n s lv) {G : Nat → Prop} (f : Fr G w w') (h1 : ¬ G pb) (h2 : ¬ G gb) (h3 : ¬ G ob) (h4 : ∀ b, lv.ownBlock = some b → ¬ G b) : RQ w' pb gb ob n s lv :=
  ⟨h.hd.fr f h1, h.pg.fr f h2, h.on.fr f h3, h.sl.fr f h4, h.dl, h.d1, h.d2, h.d3, h.hn, h.hm⟩
/-- Another block is written. -/
theorem RS.aside {F' : Nat → Prop} {W w4 w5 : World} {s' : PrS} {b : Nat} (h : RS w0 F pb gb ob n w s) (hF : ∀ i, F' i → F i ∨ w0.heap.size ≤ i) (f0 : Fr NoF w W) (h' : RS W F' pb gb ob n w4 s') (hb0 : w.heap.size ≤ b) (hbF : ¬ F' b) (hbW : b < W.heap.size) (f : Fr (fun i => i = b) w4 w5) : RS w0 F pb gb ob n w5 s' := by
  obtain ⟨⟨_, _, _⟩, h3, h4⟩ := h
  obtain ⟨⟨lv, a1, a2⟩, a3, a4⟩ := h'
  have f1 : Fr F w0 W := h3.trans f0 (fun _ q => q.elim)
  have f2 : Fr F w0 w4 := f1.trans a3 (fun i q => hF i q)
  refine ⟨⟨lv, a1.fr f (fun q => hbF (q ▸ a4.1)) (fun q => hbF (q ▸ a4.2.1)) (fun q => hbF (q ▸ a4.2.2)) (fun c hc q => ?_), fun c q => ?_⟩, f2.trans f (fun i q => .inr ?_), h4⟩
  · have q : c = b := q
    subst q
    rcases a2 c hc with r | r
    · exact hbF r
    · omega
  · rcases a2 c q with r | r
    · exact hF c r
    · exact .inr (Nat.le_trans f1.size r)
  · have q : i = b := q
    subst q
    exact Nat.le_trans h3.size hb0
/-- Frames that may go, of the first k. -/
def szTo (s : PrS) (k : Nat) : Nat := (List.range k).countP (fun f => decide (¬ s.pg f = 0) && s.on f)
theorem szTo_succ (s : PrS) (k : Nat) : szTo s (k + 1) = szTo s k + (if (decide (¬ s.pg k = 0) && s.on k) = true then 1 else 0) := by
  unfold szTo
  rw [List.range_succ, List.countP_append]
  simp [List.countP_cons]
/-- Is there any that may go? -/
def AnyRel (s : PrS) (w : World) (n : Nat) (v i : Value) (wr : World) : Prop := ∃ k : Nat, k ≤ n ∧ i = .int .i64 k ∧ v = .bool (!decide (szTo s k = 0)) ∧ ∃ d, w.drewN d = wr
set_option maxRecDepth 100000 in
set_option maxHeartbeats 8000000 in
theorem q_victim_no (h : RS w0 F pb gb ob n w s) (hz : s.sizeN n = 0) (p : Nat) : Calls Try.prog 26 #[.pointer (some ⟨pb, 0, none⟩), .int .u32 p] w fun e w' => e = .returned (.int .i64 (-1)) ∧ ∃ d, w.drewN d = w' := by
  have H := Lib.hid h
  have hz0 : szTo s n = 0 := hz
  have HZ := Lib.hid hz0
  clear h hz hz0
  go_enter Try.func26, Try.ntmps26
  go_wp2_with fail
  go_loopw [5, 6] (fun v i wr => AnyRel s w n v i wr) (fun _ i _ => n - (intOf i).toNat)
  case atStart => exact ⟨0, Nat.zero_le _, rfl, rfl, 0, rfl⟩
  case round =>
    obtain ⟨k, hkn, rfl, rfl, d, hd⟩ := hrel
    have HD := Lib.hid hd
    have HR := Lib.hid (show RS w0 F pb gb ob n wr s from by rw [← hd]; exact H.out.fr0 ((Fr.refl NoF w).drewN d))
    clear hd
    obtain ⟨_, _, _, c0, _, _, hn⟩ := HR.out.hd
    obtain ⟨c1, c2, cp, co, _, _, lg, lo, _, _, _⟩ := HR.out.rows
    have lp := HR.out.lt
    by_cases hlt : k < n
    · have cg := cp k hlt
      have cf := co k hlt
      have g0 : (0 : Int) ≤ (k : Int) := by omega
      have g1 : (k : Int) < (n : Int) := by omega
      have HSU := Lib.hid (szTo_succ s k)
      have HLT := Lib.hid hlt
      obtain ⟨bv, hbv⟩ : ∃ bv, (!decide (szTo s k = 0)) = bv := ⟨_, rfl⟩
      rw [hbv]
      have HBV := Lib.hid hbv
      clear hbv
      clear cp co HR
      generalize hpk : s.pg k = pk at cg
      generalize hok : s.on k = ok at cf
      have HPK := Lib.hid hpk
      have HOK := Lib.hid hok
      clear hpk hok
      cases bv with
      | true =>
        have HV : Hid ((!decide (szTo s (k + 1) = 0)) = true) := by have h1 := HBV.out; have h2 := HSU.out; simp at h1; unfold Hid; simp; omega
        clear HBV HSU HPK HOK
        go_wp2
        go_roundw
        case rel => exact ⟨k + 1, HLT.out, by go_num, by rw [HV.out], d, HD.out⟩
        case measure => have := HLT.out; simp [intOf]; omega
      | false =>
        by_cases e1 : pk = 0
        · have HV : Hid ((!decide (szTo s (k + 1) = 0)) = false) := by have h1 := HBV.out; have h2 := HSU.out; rw [HPK.out, e1] at h2; simp at h1 h2; unfold Hid; simp; omega
          rw [e1] at cg
          clear HBV HSU HPK HOK e1
          go_wp2
          go_roundw
          case rel => exact ⟨k + 1, HLT.out, by go_num, by rw [HV.out], d, HD.out⟩
          case measure => have := HLT.out; simp [intOf]; omega
        · cases ok with
          | true =>
            have HV : Hid ((!decide (szTo s (k + 1) = 0)) = true) := by have h2 := HSU.out; rw [HPK.out, HOK.out] at h2; simp [e1] at h2; unfold Hid; simp; omega
            clear HBV HSU HPK HOK
            go_wp2
            go_roundw
            case rel => exact ⟨k + 1, HLT.out, by go_num, by rw [HV.out, show ((pk : Int) != 0) = true from by simp; omega], d, HD.out⟩
            case measure => have := HLT.out; simp [intOf]; omega
          | false =>
            have HV : Hid ((!decide (szTo s (k + 1) = 0)) = false) := by have h1 := HBV.out; have h2 := HSU.out; rw [HPK.out, HOK.out] at h2; simp at h1 h2; unfold Hid; simp; omega
            clear HBV HSU HPK HOK
            go_wp2
            go_roundw
            case rel => exact ⟨k + 1, HLT.out, by go_num, by rw [HV.out], d, HD.out⟩
            case measure => have := HLT.out; simp [intOf]; omega
    · obtain rfl : k = n := by omega
      have hv : (!decide (szTo s k = 0)) = false := by simp [HZ.out]
      rw [hv]
      clear HR hkn hlt cp co hv
      go_wp2
      go_returns
      exact ⟨rfl, d, HD.out⟩
set_option maxRecDepth 100000 in
set_option maxHeartbeats 16000000 in
theorem q_victim_yes (h : RS w0 F pb gb ob n w s) (hk : PK n n s) (hm : PM n s) (hz : ¬ s.sizeN n = 0) (p : Nat) : Calls Try.prog 26 #[.pointer (some ⟨pb, 0, none⟩), .int .u32 p] w fun e w' => e = .returned (.int .i64 (resF (s.vic n) : Nat)) ∧ RS w0 F pb gb ob n w' (resS (s.vic n)) := by
  have H := Lib.hid h
  have hz0 : ¬ szTo s n = 0 := hz
  have HZ := Lib.hid hz0
  have HZ2 := Lib.hid hz
  have HK := Lib.hid hk
  have HM := Lib.hid hm
  have HV0 : Hid (vicL n (4 * s.L.length + 4) s = s.vic n) := rfl
  clear h hz hz0 hk hm
  generalize s.vic n = V at *
  go_enter Try.func26, Try.ntmps26
  go_upto_block 0 with fail
  go_cut [5] (fun v wx => v = .bool true ∧ ∃ d, w.drewN d = wx)
  case first =>
    clear HK HM HV0 HZ2
    go_wp2_with fail
    go_loopw [5, 6] (fun v i wr => AnyRel s w n v i wr) (fun _ i _ => n - (intOf i).toNat)
    case atStart => exact ⟨0, Nat.zero_le _, rfl, rfl, 0, rfl⟩
    case round =>
      obtain ⟨k, hkn, rfl, rfl, d, hd⟩ := hrel
      have HD := Lib.hid hd
      have HR := Lib.hid (show RS w0 F pb gb ob n wr s from by rw [← hd]; exact H.out.fr0 ((Fr.refl NoF w).drewN d))
      clear hd
      obtain ⟨_, _, _, c0, _, _, hn⟩ := HR.out.hd
      obtain ⟨c1, c2, cp, co, _, _, lg, lo, _, _, _⟩ := HR.out.rows
      have lp := HR.out.lt
      by_cases hlt : k < n
      · have cg := cp k hlt
        have cf := co k hlt
        have g0 : (0 : Int) ≤ (k : Int) := by omega
        have g1 : (k : Int) < (n : Int) := by omega
        have HSU := Lib.hid (szTo_succ s k)
        have HLT := Lib.hid hlt
        obtain ⟨bv, hbv⟩ : ∃ bv, (!decide (szTo s k = 0)) = bv := ⟨_, rfl⟩
        rw [hbv]
        have HBV := Lib.hid hbv
        clear hbv
        clear cp co HR
        generalize hpk : s.pg k = pk at cg
        generalize hok : s.on k = ok at cf
        have HPK := Lib.hid hpk
        have HOK := Lib.hid hok
        clear hpk hok
        cases bv with
        | true =>
          have HV : Hid ((!decide (szTo s (k + 1) = 0)) = true) := by have h1 := HBV.out; have h2 := HSU.out; simp at h1; unfold Hid; simp; omega
          clear HBV HSU HPK HOK
          go_wp2
          go_roundw
          case rel => exact ⟨k + 1, HLT.out, by go_num, by rw [HV.out], d, HD.out⟩
          case measure => have := HLT.out; simp [intOf]; omega
        | false =>
          by_cases e1 : pk = 0
          · have HV : Hid ((!decide (szTo s (k + 1) = 0)) = false) := by have h1 := HBV.out; have h2 := HSU.out; rw [HPK.out, e1] at h2; simp at h1 h2; unfold Hid; simp; omega
            rw [e1] at cg
            clear HBV HSU HPK HOK e1
            go_wp2
            go_roundw
            case rel => exact ⟨k + 1, HLT.out, by go_num, by rw [HV.out], d, HD.out⟩
            case measure => have := HLT.out; simp [intOf]; omega
          · cases ok with
            | true =>
              have HV : Hid ((!decide (szTo s (k + 1) = 0)) = true) := by have h2 := HSU.out; rw [HPK.out, HOK.out] at h2; simp [e1] at h2; unfold Hid; simp; omega
              clear HBV HSU HPK HOK
              go_wp2
              go_roundw
              case rel => exact ⟨k + 1, HLT.out, by go_num, by rw [HV.out, show ((pk : Int) != 0) = true from by simp; omega], d, HD.out⟩
              case measure => have := HLT.out; simp [intOf]; omega
            | false =>
              have HV : Hid ((!decide (szTo s (k + 1) = 0)) = false) := by have h1 := HBV.out; have h2 := HSU.out; rw [HPK.out, HOK.out] at h2; simp at h1 h2; unfold Hid; simp; omega
              clear HBV HSU HPK HOK
              go_wp2
              go_roundw
              case rel => exact ⟨k + 1, HLT.out, by go_num, by rw [HV.out], d, HD.out⟩
              case measure => have := HLT.out; simp [intOf]; omega
      · obtain rfl : k = n := by omega
        have hv : (!decide (szTo s k = 0)) = true := by simp [HZ.out]
        rw [hv]
        clear HR hkn hlt cp co hv
        go_wp2
        go_meet
        exact ⟨rfl, d, HD.out⟩
  case rest =>
    obtain ⟨rfl, d, hcut⟩ := hcut
    have h1 := H.out.fr0 ((Fr.refl NoF w).drewN d)
    rw [hcut] at h1
    have H1 := Lib.hid h1
    obtain ⟨⟨a3, k3, c3, q1, q2⟩, _, _, _, _, hml, hn⟩ := h1.hd
    have lp := h1.lt
    clear hcut h1 H HZ
    obtain ⟨T, hT⟩ : ∃ T, 4 * s.L.length + 4 = T := ⟨_, rfl⟩
    have HT : Hid (4 * (s.L.length : Int) + 4 = (T : Int)) := by unfold Hid; omega
    rw [hT] at HV0
    clear hT
    generalize s.L.length = sl at *
    go_upto_block 2 with fail
    clear c3 q1 q2 lp
    go_cut [] (fun wx => ∃ st, RS w0 F pb gb ob n wx st ∧ PK n n st ∧ PM n st ∧ (¬ st.sizeN n = 0) ∧ V = (st, none))
    case first =>
      go_wp2_with fail
      go_loopg [7] T (fun g v wr => ∃ st, v = .int .i64 (g : Nat) ∧ g ≤ T ∧ RS w0 F pb gb ob n wr st ∧ PK n n st ∧ PM n st ∧ (¬ st.sizeN n = 0) ∧ vicL n g st = V)
      case atStart => exact ⟨s, by rw [HT.out], Nat.le_refl _, H1.out, HK.out, HM.out, HZ2.out, HV0.out⟩
      case round =>
        have hTb : T < 20000 := by have := HT.out; omega
        obtain ⟨st, rfl, hgT, h1, hk, hm, hz, hv⟩ := hrel
        clear H1 HK HM HZ2 HV0 HT
        cases gk with
        | zero =>
          have KEY : Hid (∃ st, RS w0 F pb gb ob n wr st ∧ PK n n st ∧ PM n st ∧ (¬ st.sizeN n = 0) ∧ V = (st, none)) := ⟨st, h1, hk, hm, hz, by rw [← hv]; rfl⟩
          clear h1 hk hm hz hv hgT hTb
          go_wp2
          go_meet
          exact KEY.out
        | succ g =>
          have hlen : 0 < st.L.length := by
            obtain ⟨f, hf, hp, _⟩ := size_pos hz
            obtain ⟨x, hx, _, _⟩ := K_of hm hf hp
            exact List.length_pos_of_mem hx
          obtain ⟨y, hy⟩ := hk.at hlen (j := 1) (by omega)
          rw [vic_step hy] at hv
          obtain ⟨q1, q2, q3, q4⟩ := hk.el y (mem_get hy)
          obtain ⟨F', hR, hF, hlt⟩ := h1.here
          have f0 : Fr NoF wr (wr.alloc (.cells #[.int .u32 (y.pg : Nat), .int .i64 y.fr, .bool y.hot, .bool y.ref, .bool y.test] 74)) := (Fr.refl NoF wr).alloc _
          have R3 := Lib.hid (hR _ f0)
          have HIN : Hid (∀ w' s', RS (wr.alloc (.cells #[.int .u32 (y.pg : Nat), .int .i64 y.fr, .bool y.hot, .bool y.ref, .bool y.test] 74)) F' pb gb ob n w' s' → RS w0 F pb gb ob n w' s') := fun w' s' r => h1.into hF f0 r
          have HAS : Hid (∀ w4 w5 s', RS (wr.alloc (.cells #[.int .u32 (y.pg : Nat), .int .i64 y.fr, .bool y.hot, .bool y.ref, .bool y.test] 74)) F' pb gb ob n w4 s' → Fr (fun i => i = wr.heap.size) w4 w5 → RS w0 F pb gb ob n w5 s') := fun w4 w5 s' r f => h1.aside hF f0 r (Nat.le_refl _) (fun q => by have := hlt _ q; omega) (en_blk wr y).lt f
          have HB : Hid (∀ w', Fr F' (wr.alloc (.cells #[.int .u32 (y.pg : Nat), .int .i64 y.fr, .bool y.hot, .bool y.ref, .bool y.test] 74)) w' → Blk w' wr.heap.size 5 (enC y)) := fun w' f => (en_blk wr y).fr f (fun q => by have := hlt _ q; omega)
          obtain ⟨_, _, _, _, _, _, lgr, lor, _, _, _⟩ := h1.rows
          have HNX : Hid (¬ gb = wr.heap.size ∧ ¬ ob = wr.heap.size ∧ ¬ wr.heap.size = gb ∧ ¬ wr.heap.size = ob) := by unfold Hid; omega
          clear lgr lor
          obtain ⟨_, hhd, _, _, _, hml, _⟩ := h1.hd
          have c5 : wr.cell? ⟨pb, 5, none⟩ = some (.int .i64 (st.hd 1 : Nat)) := hhd 1 (by omega)
          have lp := h1.lt
          obtain ⟨gg, cap, c3, p1, p2, p3, p4, p5, _, _, _, ⟨x0, x1, x2, x3, x4⟩, _⟩ := h1.setEn hy
          have HY := Lib.hid hy
          have HK := Lib.hid hk
          have HM := Lib.hid hm
          have HZ := Lib.hid hz
          have HV := Lib.hid hv
          have HLT := Lib.hid (hk.allh hlen)
          have HLEN := Lib.hid hlen
          have HGT := Lib.hid hgT
          have hgb : g + 1 < 20000 := by omega
          clear h1 hk hm hz hv hy hR hF hlt f0 hhd p4 hlen hgT hTb
          go_upto_region 13 with fail
          clear c5 c3 x0 x1 x2 x3 x4 lp p1 p2 p3
          generalize wr.alloc (.cells #[.int .u32 (y.pg : Nat), .int .i64 y.fr, .bool y.hot, .bool y.ref, .bool y.test] 74) = w3 at *
          generalize wr.heap.size = xb at *
          have b3 := HB.out w3 (Fr.refl _ _)
          obtain ⟨_, c2, _, co, _, _, lg, lo, _, _, _⟩ := R3.out.rows
          have lp := R3.out.lt
          have d1 : w3.cell? ⟨xb, 1, none⟩ = some (.int .i64 y.fr) := b3.cell (i := 1) (by omega)
          have d2 : w3.cell? ⟨xb, 2, none⟩ = some (.bool y.hot) := b3.cell (i := 2) (by omega)
          have d3 : w3.cell? ⟨xb, 3, none⟩ = some (.bool y.ref) := b3.cell (i := 3) (by omega)
          have ld := b3.lt
          clear b3
          go_cut [87] (fun v wx => v = .bool (st.idle y) ∧ ∃ d, w3.drewN d = wx)
          case first =>
            clear HIN HAS HB HV HLT HLEN HK HM HZ
            cases hh : y.hot with
            | true =>
              have HI : Hid (st.idle y = true) := by unfold Hid PrS.idle; rw [hh]; rfl
              rw [hh] at d2
              clear co hh q3 q4
              generalize y.fr = fr at *
              generalize y.ref = rf at *
              go_quiet (fail)
              go_wp2
              go_meet
              exact ⟨by rw [HI.out], _, rfl⟩
            | false =>
              rw [hh] at d2
              by_cases hg : y.fr < 0
              · have HI : Hid (st.idle y = true) := by unfold Hid PrS.idle; rw [hh]; simp [hg]
                have hd : decide (y.fr < 0) = true := by simpa using hg
                clear co hh q3 q4
                generalize y.fr = fr at *
                generalize y.ref = rf at *
                go_quiet (fail)
                go_wp2
                go_meet
                exact ⟨by rw [HI.out], _, rfl⟩
              · obtain ⟨k, ek⟩ : ∃ k : Nat, y.fr = k := ⟨y.fr.toNat, by omega⟩
                have hkn : k < n := by omega
                have ck := co k hkn
                have g0 : (0 : Int) ≤ (k : Int) := by omega
                have g1 : (k : Int) < (n : Int) := by omega
                have hd : decide ((k : Int) < 0) = false := by simp
                rw [ek] at d1
                cases hrf : y.ref with
                | true =>
                  have HI : Hid (st.idle y = false) := by unfold Hid PrS.idle; rw [hh, hrf]; simp; omega
                  rw [hrf] at d3
                  clear co hh q3 q4 q1 hg ek hrf
                  go_quiet (fail)
                  go_wp2
                  go_meet
                  exact ⟨by rw [HI.out], _, rfl⟩
                | false =>
                  rw [hrf] at d3
                  cases hok : st.on k with
                  | true =>
                    have HI : Hid (st.idle y = false) := by unfold Hid PrS.idle; rw [hh, hrf, ek, show ((k : Int)).toNat = k from by omega, hok]; simp
                    rw [hok] at ck
                    clear co hh q3 q4 q1 hg ek hrf hok
                    go_quiet (fail)
                    go_wp2
                    go_meet
                    exact ⟨by rw [HI.out], _, rfl⟩
                  | false =>
                    have HI : Hid (st.idle y = true) := by unfold Hid PrS.idle; rw [hh, hrf, ek, show ((k : Int)).toNat = k from by omega, hok]; simp
                    rw [hok] at ck
                    clear co hh q3 q4 q1 hg ek hrf hok
                    go_quiet (fail)
                    go_wp2
                    go_meet
                    exact ⟨by rw [HI.out], _, rfl⟩
          case rest =>
            obtain ⟨rfl, d, hcut⟩ := hcut
            have f3 := (Fr.refl NoF w3).drewN d
            rw [hcut] at f3
            have F3 := Lib.hid f3
            clear f3
            clear hcut c2 co d1 d2 d3 ld lg lo lp
            have R4 := Lib.hid (R3.out.fr0 F3.out)
            have HM1 := Lib.hid (q_move R4.out HLEN.out (j := 1) (by omega) (HLT.out 1 (by omega)))
            cases hid : st.idle y with
            | true =>
              have hv := HV.out
              rw [if_pos hid] at hv
              have HV2 := Lib.hid hv
              clear HV hv hid q1 q3 q4
              go_wp2_with fail
              refine HM1.out.mono ?_
              clear HM1
              rintro e w4 ⟨rfl, h4⟩
              have R5 := Lib.hid (HIN.out _ _ h4)
              clear h4
              go_wp2
              go_roundg g
              case measure => omega
              case rel => exact ⟨st.mv 1, by go_num, by have := HGT.out; omega, R5.out, HK.out.mv HLEN.out 1, HM.out.of rfl rfl (fun _ _ => Iff.rfl), HZ.out, HV2.out⟩
            | false =>
              have hid' : ¬ st.idle y = true := by simp [hid]
              obtain ⟨hfr0, hh, hon⟩ := idle_not HK.out HY.out hid'
              obtain ⟨k, ek⟩ : ∃ k : Nat, y.fr = k := ⟨y.fr.toNat, by omega⟩
              have hkn : k < n := by omega
              have hv := HV.out
              rw [if_neg hid'] at hv
              have b4 := HB.out _ F3.out.none
              have d3 := b4.cell (i := 3) (by omega)
              have ld := b4.lt
              have HYM : Hid ((st.mv 1).L[st.hd 1]? = some y) := HY.out
              have HKM := Lib.hid (HK.out.mv HLEN.out 1)
              cases hrf : y.ref with
              | true =>
                rw [if_pos hrf] at hv
                have HV2 := Lib.hid hv
                obtain ⟨kp, -⟩ := turn_pre HK.out HY.out hfr0
                obtain ⟨kt, kk⟩ := turn_ok HK.out HY.out hfr0
                have HKP := Lib.hid kp
                have HKT := Lib.hid kt
                have HKK := Lib.hid kk
                rw [show enC y 3 = .bool y.ref from rfl, hrf] at d3
                clear HV hv hid hid' q1 q3 q4 hon hh b4 kp kt kk hrf hfr0 hkn ek
                go_wp2_with fail
                refine HM1.out.mono ?_
                clear HM1
                rintro e w4 ⟨rfl, h4⟩
                have b5 := HB.out w4 h4.f
                have e0 : w4.cell? ⟨xb, 0, none⟩ = some (.int .u32 (y.pg : Nat)) := b5.cell (i := 0) (by omega)
                have e1 : w4.cell? ⟨xb, 1, none⟩ = some (.int .i64 y.fr) := b5.cell (i := 1) (by omega)
                have e2 : w4.cell? ⟨xb, 2, none⟩ = some (.bool y.hot) := b5.cell (i := 2) (by omega)
                have e3 : w4.cell? ⟨xb, 3, none⟩ = some (.bool y.ref) := b5.cell (i := 3) (by omega)
                have e4 : w4.cell? ⟨xb, 4, none⟩ = some (.bool y.test) := b5.cell (i := 4) (by omega)
                have le := b5.lt
                have ff := b5.frozen
                have ff2 := ff 2
                have ff3 := ff 3
                have ff4 := ff 4
                have HA : Hid (∀ W, Fr (fun i => i = xb) w4 W → Calls Try.prog 47 #[.pointer (some ⟨pb, 0, none⟩), .int .i64 (st.hd 1 : Nat), .agg #[.int .u32 (y.pg : Nat), .int .i64 y.fr, .bool y.test, .bool false, .bool (!y.test)]] W fun e w' => e = .returned (.tuple #[]) ∧ RS w0 F pb gb ob n w' (((st.mv 1).drop (st.hd 1)).lay y.turn)) := fun W f => q_again (HAS.out w4 W _ h4 f) HKM.out HYM.out y.turn
                have HH : Hid (∀ W, RS w0 F pb gb ob n W (((st.mv 1).drop (st.hd 1)).lay y.turn) → Calls Try.prog 48 #[.pointer (some ⟨pb, 0, none⟩)] W fun e w' => e = .returned (.tuple #[]) ∧ RS w0 F pb gb ob n w' (st.turn n (st.hd 1) y)) := fun W r => q_hot r HKP.out
                clear b5 h4 HAS HB HIN ff d3 ld
                generalize y.pg = ypg at *
                generalize y.fr = yfr at *
                generalize y.hot = yhot at *
                generalize y.ref = yref at *
                generalize y.test = ytest at *
                go_wp2_with fail
                refine (HA.out _ ((((Fr.refl (fun i => i = xb) w4).setCell (p := ⟨xb, 3, none⟩) (.inl rfl) _).setCell (p := ⟨xb, 2, none⟩) (.inl rfl) _).setCell (p := ⟨xb, 4, none⟩) (.inl rfl) _)).mono ?_
                clear HA e0 e1 e2 e3 e4 le ff2 ff3 ff4
                rintro e w6 ⟨rfl, h6⟩
                have R6 := Lib.hid (HH.out _ h6)
                clear h6 HH
                go_wp2_with fail
                refine R6.out.mono ?_
                clear R6
                rintro e w7 ⟨rfl, h7⟩
                have R7 := Lib.hid h7
                clear h7
                go_wp2
                go_roundg g
                case measure => omega
                case rel => exact ⟨_, by go_num, by have := HGT.out; omega, R7.out, HKT.out, HM.out.kept HKK.out, by rw [kept_size HKK.out]; exact HZ.out, HV2.out⟩
              | false =>
                rw [if_neg (by simp [hrf])] at hv
                have hon := hon hrf
                have HVF : Hid (resF V = k) := by unfold Hid; rw [← hv]; show y.fr.toNat = k; omega
                have HVS : Hid (resS V = st.send n (st.hd 1) y) := by unfold Hid; rw [← hv]; rfl
                have HPRE := Lib.hid (fun ht => (send_pre HK.out HM.out HY.out hfr0 hrf ht).1)
                rw [show enC y 3 = .bool y.ref from rfl, hrf] at d3
                clear HV hv hid hid' q1 q3 q4 hon hh b4 hrf hfr0
                go_wp2_with fail
                refine HM1.out.mono ?_
                clear HM1
                rintro e w4 ⟨rfl, h4⟩
                have b5 := HB.out w4 h4.f
                have e1 : w4.cell? ⟨xb, 1, none⟩ = some (.int .i64 y.fr) := b5.cell (i := 1) (by omega)
                rw [ek] at e1
                have le := b5.lt
                obtain ⟨c1, c2, cp, co, fp, fo, lg, lo, dd1, dd2, dd3⟩ := h4.rows
                have lp := h4.lt
                have ck := cp k hkn
                have cok := co k hkn
                have fpk := fp k
                have fok := fo k
                have dd3' : ¬ ob = gb := fun e => dd3 e.symm
                have g0 : (0 : Int) ≤ (k : Int) := by omega
                have g1 : (k : Int) < (n : Int) := by omega
                obtain ⟨nx1, nx2, nx3, nx4⟩ := HNX.out
                have K5 := Lib.hid ((h4.setPage k 0).setOn k false)
                clear b5 h4 HAS d3 ld cp co fp fo
                go_upto_region 22 with fail
                go_cut [] (fun wx => RS w3 F' pb gb ob n wx ((st.mv 1).empty k))
                case first =>
                  clear HIN HB HLT HLEN HK HM HZ HPRE HVF HVS
                  go_region
                  all_goals
                    go_wp2_with fail
                    go_meet
                    exact K5.out.fr0 ((Fr.refl NoF _).drew)
                case rest =>
                  have R5 := Lib.hid hcut
                  have b6 := HB.out _ hcut.f
                  have e1' := b6.cell (i := 1) (by omega)
                  have e4 := b6.cell (i := 4) (by omega)
                  have le' := b6.lt
                  rw [show enC y 1 = .int .i64 y.fr from rfl, ek] at e1'
                  rw [show enC y 4 = .bool y.test from rfl] at e4
                  clear K5 e1 le c1 c2 ck cok fpk fok lg lo lp b6 hcut
                  have HYE : Hid (((st.mv 1).empty k).L[st.hd 1]? = some y) := HY.out
                  cases ht : y.test with
                  | false =>
                    rw [ht] at e4
                    have HS : Hid (st.send n (st.hd 1) y = ((st.mv 1).empty k).drop (st.hd 1)) := by
                      unfold Hid PrS.send; rw [if_neg (by simp [ht]), ek]; rfl
                    have HD := Lib.hid (q_drop R5.out (get_lt HYE.out) ((HKM.out.empty k).allh HLEN.out))
                    clear ht
                    go_wp2_with fail
                    refine HD.out.mono ?_
                    clear HD
                    rintro e w7 ⟨rfl, h7⟩
                    have b7 := HB.out w7 h7.f
                    have e7 := b7.cell (i := 1) (by omega)
                    rw [show enC y 1 = .int .i64 y.fr from rfl, ek] at e7
                    have le7 := b7.lt
                    have R7 := Lib.hid (HIN.out _ _ h7)
                    clear b7 h7 HB HIN e1' e4 le'
                    go_wp2
                    go_returns
                    exact ⟨by rw [HVF.out]; rfl, by rw [HVS.out, HS.out]; exact R7.out⟩
                  | true =>
                    rw [ht] at e4
                    have HS : Hid (st.send n (st.hd 1) y = (((st.mv 1).empty k).put (st.hd 1) { y with fr := -1 }).tests n) := by
                      unfold Hid PrS.send; rw [if_pos ht, ek]; rfl
                    have HPR := HPRE.out ht
                    rw [ek] at HPR
                    have HPR := Lib.hid (show PK n (n + 1) (((st.mv 1).empty k).put (st.hd 1) { y with fr := -1 }) from HPR)
                    obtain ⟨g5, cap5, c3, p1, p2, p3, p4, p5, _, _, _, _, HSE⟩ := R5.out.setEn HYE.out
                    have hml5 := R5.out.hd.2.2.2.2.2.1
                    have lp5 := R5.out.lt
                    have f5 := p4 (st.hd 1 * 5 + 1)
                    have HT := Lib.hid (q_test (HSE 1 (.int .i64 (-1)) { y with fr := -1 } (by omega) (fun j hj => by match j, hj with | 0, _ | 1, _ | 2, _ | 3, _ | 4, _ => rfl)) HPR.out)
                    clear ht HSE p4
                    go_wp2_with fail
                    refine HT.out.mono ?_
                    clear HT
                    rintro e w7 ⟨rfl, h7⟩
                    have b7 := HB.out w7 h7.f
                    have e7 := b7.cell (i := 1) (by omega)
                    rw [show enC y 1 = .int .i64 y.fr from rfl, ek] at e7
                    have le7 := b7.lt
                    have R7 := Lib.hid (HIN.out _ _ h7)
                    clear b7 h7 HB HIN e1' e4 le'
                    go_wp2
                    go_returns
                    exact ⟨by rw [HVF.out]; rfl, by rw [HVS.out, HS.out]; exact R7.out⟩
    case rest =>
      obtain ⟨st, h1, hk, hm, hz, hv⟩ := hcut
      clear H1 HK HM HZ2 HV0 HT
      obtain ⟨e0, he0, hfind, hfirst, hf0, hfn, _, _⟩ := first_ok hk hm hz
      have hlen : 0 < st.L.length := List.length_pos_of_mem he0
      have hd1 := hk.lt hlen (j := 1) (by omega)
      obtain ⟨hgo, xs1, ys1, hrot, has⟩ := List.find?_eq_some_iff_append.1 hfind
      have hrl : (st.rot 1).length = st.L.length := by unfold PrS.rot; rw [List.length_append, List.length_drop, List.length_take]; omega
      have hal : xs1.length < st.L.length := by rw [← hrl, hrot]; simp
      have HAT : Hid (∀ k, k ≤ xs1.length → ∃ x, st.L[(st.hd 1 + k) % st.L.length]? = some x ∧ st.mayGo x = decide (k = xs1.length) ∧ (k = xs1.length → x.fr = (st.first : Int))) := by
        intro k hka
        have hlt : (st.hd 1 + k) % st.L.length < st.L.length := Nat.mod_lt _ hlen
        have hg := rot_get hd1 (show k < st.L.length by omega)
        rw [List.getElem?_eq_getElem hlt, hrot] at hg
        refine ⟨st.L[(st.hd 1 + k) % st.L.length], List.getElem?_eq_getElem hlt, ?_, ?_⟩
        · by_cases c : k = xs1.length
          · subst c
            rw [List.getElem?_append_right (Nat.le_refl _), Nat.sub_self] at hg
            simp only [List.getElem?_cons_zero, Option.some.injEq] at hg
            rw [← hg, hgo]; simp
          · rw [List.getElem?_append_left (by omega)] at hg
            have := has _ (List.mem_of_getElem? hg)
            simp only [Bool.not_eq_true'] at this
            rw [this]; simp [c]
        · rintro rfl
          rw [List.getElem?_append_right (Nat.le_refl _), Nat.sub_self] at hg
          simp only [List.getElem?_cons_zero, Option.some.injEq] at hg
          rw [← hg, hfirst]; omega
      have HVF : Hid (resF V = st.first) := by unfold Hid; rw [hv]; rfl
      have HVS : Hid (resS V = st.rem st.first) := by unfold Hid; rw [hv]; rfl
      have HX0 : Hid ((st.hd 1 + 0) % st.L.length = st.hd 1) := by unfold Hid; rw [Nat.add_zero, Nat.mod_eq_of_lt hd1]
      have HN : Hid (∀ k, (((st.hd 1 + k) % st.L.length) + 1) % st.L.length = (st.hd 1 + (k + 1)) % st.L.length) := by
        intro k; rw [Nat.mod_add_mod, Nat.add_assoc]
      have HRM : Hid (∀ d, Calls Try.prog 29 #[.pointer (some ⟨pb, 0, none⟩), .int .i64 (st.first : Nat)] (wc.drewN d) fun e w' => e = .returned (.tuple #[]) ∧ RS w0 F pb gb ob n w' (st.rem st.first)) := fun d => q_remove (h1.fr0 ((Fr.refl NoF wc).drewN d)) hk hfn
      have HR := Lib.hid (fun d => h1.fr0 ((Fr.refl NoF wc).drewN d))
      have HEL := Lib.hid hk.el
      obtain ⟨_, hhd, _, _, _, hml, _⟩ := h1.hd
      have c5 : wc.cell? ⟨pb, 5, none⟩ = some (.int .i64 (st.hd 1 : Nat)) := hhd 1 (by omega)
      have lp := h1.lt
      clear h1 hk hm hz hv he0 hfind hfirst hf0 hgo hrot has hrl hal hhd
      generalize xs1.length = al at *
      generalize hfi : st.first = fi at *
      clear hfi
      go_wp2_with fail
      go_loopg [10] al (fun g v wr => ∃ k : Nat, k ≤ al ∧ g = al - k ∧ v = .int .i64 ((st.hd 1 + k) % st.L.length : Nat) ∧ ∃ d, wc.drewN d = wr)
      case atStart => exact ⟨0, Nat.zero_le _, by omega, by rw [HX0.out], 0, rfl⟩
      case round =>
        obtain ⟨k, hka, hg, rfl, d, hd⟩ := hrel
        have HD := Lib.hid hd
        have HG := Lib.hid hg
        obtain ⟨x, hx, hgo, hfx⟩ := HAT.out k hka
        have R := HR.out d
        rw [hd] at R
        clear hd
        obtain ⟨q1, _, _, _⟩ := HEL.out x (mem_get hx)
        obtain ⟨g5, cap5, c3, p1, p2, p3, _, p5, _, _, _, ⟨_, x1, _, _, _⟩, _⟩ := R.setEn hx
        obtain ⟨_, c2, _, co, _, _, _, lo, _, _, _⟩ := R.rows
        have lpr := R.lt
        have HNX := Lib.hid (HN.out k)
        have HKA := Lib.hid hka
        clear hx hg hka R c5 lp
        generalize hxx : (st.hd 1 + k) % st.L.length = xx at *
        have HXX := Lib.hid hxx
        clear hxx
        by_cases c : k = al
        · have hgo : st.mayGo x = true := by rw [hgo]; simpa using c
          have hfx := hfx c
          rw [hfx] at x1
          have hfi : fi < n := by omega
          have cok := co fi hfi
          have hok : st.on fi = true := by
            unfold PrS.mayGo at hgo
            rw [hfx] at hgo
            simpa using hgo
          rw [hok] at cok
          have hdn : decide ((fi : Int) < 0) = false := by simp
          have g0 : (0 : Int) ≤ (fi : Int) := by omega
          have g1 : (fi : Int) < (n : Int) := by omega
          have HRW : Hid (∀ d', Calls Try.prog 29 #[.pointer (some ⟨pb, 0, none⟩), .int .i64 (fi : Nat)] (wr.drewN d') fun e w' => e = .returned (.tuple #[]) ∧ RS w0 F pb gb ob n w' (st.rem fi)) := fun d' => by
            rw [← HD.out, World.drewN_drewN]; exact HRM.out (d + d')
          have HML := Lib.hid hml
          clear co hgo hfx hok q1 c HAT HRM HR HEL HN HX0
          generalize st.L.length = sl at *
          go_wp2_with fail
          go_quiet (fail)
          go_wp2_with fail
          refine (HRW.out _).mono ?_
          clear HRW
          rintro e w7 ⟨rfl, h7⟩
          have R7 := Lib.hid h7
          clear h7
          go_wp2
          go_returns
          exact ⟨by rw [HVF.out]; rfl, by rw [HVS.out]; exact R7.out⟩
        · have hgo : st.mayGo x = false := by rw [hgo]; simpa using c
          have hk1 : k < al := by have := HKA.out; omega
          have hz2 : ¬ st.L.length = 0 := by omega
          have hz1 : ¬ (st.L.length : Int) = 0 := by omega
          have hz0 : ((st.L.length : Int) == 0) = false := beq_false_of_ne hz1
          have hw1 : IntKind.i64.wrap ((xx : Int) + 1) = (xx : Int) + 1 := IntWalk.i64_in _ (by omega)
          have hmt : ((xx : Int) + 1).tmod (st.L.length : Int) = (((xx + 1) % st.L.length : Nat) : Int) := by rw [Int.tmod_eq_emod_of_nonneg (by omega)]; push_cast; rfl
          have hw2 : IntKind.i64.wrap (((xx + 1) % st.L.length : Nat) : Int) = (((xx + 1) % st.L.length : Nat) : Int) := IntWalk.i64_in _ (by have := Nat.mod_lt (xx + 1) (show 0 < st.L.length by omega); omega)
          have HNX2 : Hid ((xx + 1) % st.L.length = (st.hd 1 + (k + 1)) % st.L.length) := HNX.out
          clear HNX HXX
          by_cases hneg : x.fr < 0
          · have hdn : decide (x.fr < 0) = true := by simpa using hneg
            clear co hgo hfx q1 c HAT HRM HR HEL HN HX0 HVF HVS
            generalize st.L.length = zz at *
            go_wp2_with fail
            go_quiet (fail)
            go_wp2
            go_roundg (al - (k + 1))
            case measure => have := HG.out; omega
            case rel => exact ⟨k + 1, by omega, rfl, by rw [← HNX2.out]; push_cast; rfl, _, by rw [← World.drewN_drewN, HD.out]⟩
          · obtain ⟨kk, ek⟩ : ∃ kk : Nat, x.fr = kk := ⟨x.fr.toNat, by omega⟩
            have hkn : kk < n := by omega
            have cok := co kk hkn
            have hok : st.on kk = false := by
              unfold PrS.mayGo at hgo
              rw [ek] at hgo
              simpa using hgo
            rw [hok] at cok
            rw [ek] at x1
            have hdn : decide ((kk : Int) < 0) = false := by simp
            have g0 : (0 : Int) ≤ (kk : Int) := by omega
            have g1 : (kk : Int) < (n : Int) := by omega
            clear co hgo hfx q1 c HAT HRM HR HEL HN HX0 HVF HVS hok ek hneg
            generalize st.L.length = zz at *
            go_wp2_with fail
            go_quiet (fail)
            go_wp2
            go_roundg (al - (k + 1))
            case measure => have := HG.out; omega
            case rel => exact ⟨k + 1, by omega, rfl, by rw [← HNX2.out]; push_cast; rfl, _, by rw [← World.drewN_drewN, HD.out]⟩
end
end Go.Proofs.Ytoainbdkhhblbaa
namespace Go.Proofs.Ytoainbdkhhblbaa
open Go.RowKit
set_option linter.unusedVariables false

abbrev RowsF := Nat → Option (IntKind × List Nat)
/-- The blocks that may change. -/
def FP (pb gb ob : Nat) : Nat → Prop := fun i => i = pb ∨ i = gb ∨ i = ob
/-- All blocks. -/
def DP (pb gb ob : Nat) (hc : Nat → Value) (rows : RowsF) : Nat → Prop := fun i => FP pb gb ob i ∨ ∃ j k l, rows j = some (k, l) ∧ (hc j).ownBlock = some i

structure PG (w : World) (pb M gb ob n : Nat) (hc : Nat → Value) (rows : RowsF) (page : List Nat) (on : Nat → Bool) : Prop where
  hd : Blk w pb M hc
  pg : Blk w gb n (uF page)
  on : Blk w ob n (bF on)
  sl : ∀ i k l, rows i = some (k, l) → SlK k w (hc i) l ∧ ∀ b, (hc i).ownBlock = some b → ¬ b = pb ∧ ¬ b = gb ∧ ¬ b = ob
  d1 : ¬ pb = gb
  d2 : ¬ pb = ob
  d3 : ¬ gb = ob
  pn : page.length = n
  hn : n < 1000

section
variable {w w' w0 : World} {pb M gb ob n : Nat} {hc : Nat → Value} {rows : RowsF} {page : List Nat} {on : Nat → Bool} {D0 : Nat → Prop}
theorem PG.fr (h : PG w pb M gb ob n hc rows page on) {G : Nat → Prop} (f : Fr G w w') (hG : ∀ i, DP pb gb ob hc rows i → ¬ G i) : PG w' pb M gb ob n hc rows page on :=
  ⟨h.hd.fr f (hG _ (.inl (.inl rfl))), h.pg.fr f (hG _ (.inl (.inr (.inl rfl)))), h.on.fr f (hG _ (.inl (.inr (.inr rfl)))), fun i k l e => ⟨(h.sl i k l e).1.fr f (fun b hb => hG b (.inr ⟨i, k, l, e, hb⟩)), (h.sl i k l e).2⟩, h.d1, h.d2, h.d3, h.pn, h.hn⟩
theorem PG.fr0 (h : PG w pb M gb ob n hc rows page on) (f : Fr NoF w w') : PG w' pb M gb ob n hc rows page on := h.fr f (fun _ _ q => q)
theorem PG.lt (h : PG w pb M gb ob n hc rows page on) : ∀ i, DP pb gb ob hc rows i → i < w.heap.size := by
  rintro i ((rfl | rfl | rfl) | ⟨j, k, l, e, hb⟩)
  · exact h.hd.lt
  · exact h.pg.lt
  · exact h.on.lt
  · exact (h.sl j k l e).1.lt i hb
theorem PG.c (h : PG w pb M gb ob n hc rows page on) (i : Nat) (hi : i < M) {v : Value} (e : hc i = v) : w.cell? ⟨pb, i, none⟩ = some v := e ▸ h.hd.cell hi
theorem PG.cp (h : PG w pb M gb ob n hc rows page on) {a : Nat} (ha : a < n) : w.cell? ⟨gb, a, none⟩ = some (.int .u32 (page.getD a 0 : Nat)) := h.pg.cell ha
theorem PG.co (h : PG w pb M gb ob n hc rows page on) {a : Nat} (ha : a < n) : w.cell? ⟨ob, a, none⟩ = some (.bool (on a)) := h.on.cell ha
/-- The slice in a cell of the head. -/
theorem PG.row (h : PG w pb M gb ob n hc rows page on) {i : Nat} {k : IntKind} {l : List Nat} (e : rows i = some (k, l)) : ∃ a c, hc i = .slice a l.length c ∧ l.length ≤ c ∧ c ≤ maxLen ∧ SlK k w (.slice a l.length c) l ∧ ∀ b, (Value.slice a l.length c).ownBlock = some b → ¬ b = pb ∧ ¬ b = gb ∧ ¬ b = ob := by
  obtain ⟨h1, h2⟩ := h.sl i k l e
  obtain ⟨a, c, e1, h3, h4⟩ := h1.shape
  rw [e1] at h1 h2
  exact ⟨a, c, e1, h3, h4, h1, h2⟩
theorem PG.setOn (h : PG w pb M gb ob n hc rows page on) (a : Nat) (x : Bool) : PG (w.setCell ⟨ob, a, none⟩ (.bool x)) pb M gb ob n hc rows page (upd on a x) := by
  have f : Fr (fun i => i = ob) w (w.setCell ⟨ob, a, none⟩ (.bool x)) := (Fr.refl (fun i => i = ob) w).setCell (p := ⟨ob, a, none⟩) (.inl rfl) _
  exact ⟨h.hd.fr f h.d2, h.pg.fr f h.d3, by rw [← bF_set]; exact h.on.set _ _, fun i k l e => ⟨(h.sl i k l e).1.fr f (fun b hb => ((h.sl i k l e).2 b hb).2.2), (h.sl i k l e).2⟩, h.d1, h.d2, h.d3, h.pn, h.hn⟩
theorem PG.setPage (h : PG w pb M gb ob n hc rows page on) {a : Nat} (ha : a < n) (id : Nat) : PG (w.setCell ⟨gb, a, none⟩ (.int .u32 id)) pb M gb ob n hc rows (page.set a id) on := by
  have f : Fr (fun i => i = gb) w (w.setCell ⟨gb, a, none⟩ (.int .u32 id)) := (Fr.refl (fun i => i = gb) w).setCell (p := ⟨gb, a, none⟩) (.inl rfl) _
  exact ⟨h.hd.fr f h.d1, by rw [← uF_set (by rw [h.pn]; exact ha)]; exact h.pg.set _ _, h.on.fr f (fun e => h.d3 e.symm), fun i k l e => ⟨(h.sl i k l e).1.fr f (fun b hb => ((h.sl i k l e).2 b hb).2.1), (h.sl i k l e).2⟩, h.d1, h.d2, h.d3, by simp [h.pn], h.hn⟩
theorem PG.setRow (h : PG w pb M gb ob n hc rows page on) (i : Nat) {k : IntKind} {l : List Nat} {v : Value} (hs : SlK k w v l) (hv : ∀ b, v.ownBlock = some b → ¬ b = pb ∧ ¬ b = gb ∧ ¬ b = ob) : PG (w.setCell ⟨pb, i, none⟩ v) pb M gb ob n (upd hc i v) (upd rows i (some (k, l))) page on := by
  have f : Fr (fun i => i = pb) w (w.setCell ⟨pb, i, none⟩ v) := (Fr.refl (fun i => i = pb) w).setCell (p := ⟨pb, i, none⟩) (.inl rfl) _
  refine ⟨h.hd.set _ _, h.pg.fr f (fun e => h.d1 e.symm), h.on.fr f (fun e => h.d2 e.symm), fun j q m e => ?_, h.d1, h.d2, h.d3, h.pn, h.hn⟩
  by_cases ej : j = i
  · subst ej
    rw [upd_same] at e ⊢
    simp only [Option.some.injEq, Prod.mk.injEq] at e
    obtain ⟨rfl, rfl⟩ := e
    exact ⟨hs.fr f (fun b hb => (hv b hb).1), hv⟩
  · rw [upd_other _ _ ej] at e ⊢
    exact ⟨(h.sl j q m e).1.fr f (fun b hb => ((h.sl j q m e).2 b hb).1), (h.sl j q m e).2⟩
theorem PG.setNum (h : PG w pb M gb ob n hc rows page on) (i : Nat) (hi : rows i = none) (v : Value) : PG (w.setCell ⟨pb, i, none⟩ v) pb M gb ob n (upd hc i v) rows page on := by
  have f : Fr (fun i => i = pb) w (w.setCell ⟨pb, i, none⟩ v) := (Fr.refl (fun i => i = pb) w).setCell (p := ⟨pb, i, none⟩) (.inl rfl) _
  refine ⟨h.hd.set _ _, h.pg.fr f (fun e => h.d1 e.symm), h.on.fr f (fun e => h.d2 e.symm), fun j q m e => ?_, h.d1, h.d2, h.d3, h.pn, h.hn⟩
  have ej : ¬ j = i := by rintro rfl; rw [hi] at e; cases e
  rw [upd_other _ _ ej]
  exact ⟨(h.sl j q m e).1.fr f (fun b hb => ((h.sl j q m e).2 b hb).1), (h.sl j q m e).2⟩

/-- .. and what has been left since world w0, whose blocks were D0. -/
structure PS (w0 : World) (D0 : Nat → Prop) (pb M gb ob n : Nat) (w : World) (hc : Nat → Value) (rows : RowsF) (page : List Nat) (on : Nat → Bool) : Prop where
  g : PG w pb M gb ob n hc rows page on
  f : Fr (FP pb gb ob) w0 w
  d : ∀ j, DP pb gb ob hc rows j → D0 j ∨ w0.heap.size ≤ j
theorem PS.start (h : PG w pb M gb ob n hc rows page on) : PS w (DP pb gb ob hc rows) pb M gb ob n w hc rows page on := ⟨h, Fr.refl _ _, fun j q => .inl q⟩
theorem PS.fr0 (h : PS w0 D0 pb M gb ob n w hc rows page on) (f : Fr NoF w w') : PS w0 D0 pb M gb ob n w' hc rows page on := ⟨h.g.fr0 f, h.f.trans f (fun _ q => q.elim), h.d⟩
theorem PS.setOn (h : PS w0 D0 pb M gb ob n w hc rows page on) (a : Nat) (x : Bool) : PS w0 D0 pb M gb ob n (w.setCell ⟨ob, a, none⟩ (.bool x)) hc rows page (upd on a x) :=
  ⟨h.g.setOn a x, h.f.setCell (p := ⟨ob, a, none⟩) (.inl (.inr (.inr rfl))) _, h.d⟩
theorem PS.setPage (h : PS w0 D0 pb M gb ob n w hc rows page on) {a : Nat} (ha : a < n) (id : Nat) : PS w0 D0 pb M gb ob n (w.setCell ⟨gb, a, none⟩ (.int .u32 id)) hc rows (page.set a id) on :=
  ⟨h.g.setPage ha id, h.f.setCell (p := ⟨gb, a, none⟩) (.inl (.inr (.inl rfl))) _, h.d⟩
theorem PS.setNum (h : PS w0 D0 pb M gb ob n w hc rows page on) (i : Nat) (hi : rows i = none) (v : Value) : PS w0 D0 pb M gb ob n (w.setCell ⟨pb, i, none⟩ v) (upd hc i v) rows page on := by
  refine ⟨h.g.setNum i hi v, h.f.setCell (p := ⟨pb, i, none⟩) (.inl (.inl rfl)) _, fun j q => h.d j (q.imp id ?_)⟩
  rintro ⟨a, k, l, e, hb⟩
  have : ¬ a = i := by rintro rfl; rw [hi] at e; cases e
  rw [upd_other _ _ this] at hb
  exact ⟨a, k, l, e, hb⟩
theorem PS.setRow (h : PS w0 D0 pb M gb ob n w hc rows page on) (i : Nat) {k : IntKind} {l : List Nat} {v : Value} (hs : SlK k w v l) (hv : ∀ b, v.ownBlock = some b → w0.heap.size ≤ b ∧ ¬ b = pb ∧ ¬ b = gb ∧ ¬ b = ob ∨ ∃ j k l, rows j = some (k, l) ∧ (hc j).ownBlock = some b) : PS w0 D0 pb M gb ob n (w.setCell ⟨pb, i, none⟩ v) (upd hc i v) (upd rows i (some (k, l))) page on := by
  refine ⟨h.g.setRow i hs (fun b hb => ?_), h.f.setCell (p := ⟨pb, i, none⟩) (.inl (.inl rfl)) _, fun j q => ?_⟩
  · rcases hv b hb with q | ⟨j, k, l, e, q⟩
    · exact q.2
    · exact (h.g.sl j k l e).2 b q
  · rcases q with q | ⟨a, q, m, e, hb⟩
    · exact h.d j (.inl q)
    · by_cases ea : a = i
      · subst ea
        rw [upd_same] at hb
        rcases hv j hb with q | q
        · exact .inr q.1
        · exact h.d j (.inr q)
      · rw [upd_other _ _ ea] at e hb
        exact h.d j (.inr ⟨a, q, m, e, hb⟩)
/-- New memory is none of its blocks. -/
theorem PG.fresh (h : PG w pb M gb ob n hc rows page on) {b : Nat} (hb : w.heap.size ≤ b) : ¬ b = pb ∧ ¬ b = gb ∧ ¬ b = ob := by
  have h1 := h.hd.lt
  have h2 := h.pg.lt
  have h3 := h.on.lt
  exact ⟨by omega, by omega, by omega⟩

/-- A number behind a row of the call's own, laid into a cell of the head. -/
theorem PS.push {wA w5 w6 : World} {k : IntKind} {e : TypeId} {l : List Nat} {v5 v' : Value} {x : Nat} (h : PS w0 D0 pb M gb ob n wA hc rows page on) (f5 : Fr NoF wA w5) (ho5 : OwK k wA.heap.size e w5 v5 l) (o : Obj)
    (hown : w6.ownsRow wA.heap.size e 1 v' (l.length + 1) ((l.map fun (x : Nat) => Value.int k (x : Int)) ++ [Value.int k (x : Int)])) (hfr : Fr (fun b => v5.ownBlock = some b) (w5.alloc o) w6) (i : Nat) :
    (∃ a c, v' = .slice a (l.length + 1) c) ∧ PG w6 pb M gb ob n hc rows page on ∧ PS w0 D0 pb M gb ob n (w6.setCell ⟨pb, i, none⟩ v') (upd hc i v') (upd rows i (some (k, l ++ [x]))) page on := by
  have f : Fr NoF wA w6 := (f5.alloc o).trans hfr (fun i hi => .inr (ho5.base i hi))
  have h6 := h.fr0 f
  have ho : OwK k wA.heap.size e w6 v' (l ++ [x]) := OwK.snoc hown
  obtain ⟨a, c, e1, _, _⟩ := ho.sl.shape
  rw [List.length_append] at e1
  refine ⟨⟨a, c, e1⟩, h6.g, h6.setRow i ho.sl (fun b hb => .inl ⟨Nat.le_trans h.f.size (ho.base b hb), h.g.fresh (ho.base b hb)⟩)⟩

/-- A row laid anew: 'append([]T{}, l...)'. -/
theorem own_copy {wA w5 : World} {k : IntKind} {e : TypeId} {l : List Nat} {v' : Value} {g : Nat} {o : Obj} (hg : g = wA.heap.size) (hown : w5.ownsRow wA.heap.size e 1 v' (0 + l.length) ((#[] : Array Value).toList ++ (l.map fun (x : Nat) => Value.int k (x : Int))))
    (hfr : Fr (fun b => (Value.slice (some ⟨g, 0, none⟩) 0 0).ownBlock = some b) (wA.alloc o) w5) : (∃ a c, v' = .slice a l.length c) ∧ OwK k wA.heap.size e w5 v' l ∧ Fr NoF wA w5 := by
  rw [Nat.zero_add] at hown
  have ho : OwK k wA.heap.size e w5 v' l := hown
  obtain ⟨a, c, e1, _, _⟩ := ho.sl.shape
  refine ⟨⟨a, c, e1⟩, ho, ((Fr.refl NoF wA).alloc o).trans hfr (fun i hi => .inr ?_)⟩
  simp [Value.ownBlock] at hi
  omega

/-- A policy's state in memory; Hd: what stands in the cells of the head that are no rows. -/
def PRG {σ : Type} (pb M n : Nat) (Hd : σ → Nat → Nat → (Nat → Value) → Prop) (rowsOf : σ → RowsF) (pageOf : σ → List Nat) (onOf : σ → Nat → Bool) : PRel σ := fun w s F D =>
  ∃ gb ob hc, PG w pb M gb ob n hc (rowsOf s) (pageOf s) (onOf s) ∧ Hd s gb ob hc ∧ (∀ i, F i ↔ FP pb gb ob i) ∧ ∀ i, D i ↔ DP pb gb ob hc (rowsOf s) i
theorem PRG_fr {σ : Type} {Hd : σ → Nat → Nat → (Nat → Value) → Prop} {rowsOf : σ → RowsF} {pageOf : σ → List Nat} {onOf : σ → Nat → Bool} : PFr (PRG pb M n Hd rowsOf pageOf onOf) where
  fr := by
    rintro w w' s F D G ⟨gb, ob, hc, h, hH, hF, hD⟩ f hd
    exact ⟨gb, ob, hc, h.fr f (fun i q => hd i ((hD i).2 q)), hH, hF, hD⟩
  sub := by
    rintro w s F D ⟨gb, ob, hc, h, hH, hF, hD⟩ i hi
    exact (hD i).2 (.inl ((hF i).1 hi))
  lt := by
    rintro w s F D ⟨gb, ob, hc, h, hH, hF, hD⟩ i hi
    exact h.lt i ((hD i).1 hi)
theorem PS.left {σ : Type} {Hd : σ → Nat → Nat → (Nat → Value) → Prop} {rowsOf : σ → RowsF} {pageOf : σ → List Nat} {onOf : σ → Nat → Bool} {s' : σ} {F D : Nat → Prop} {hc' : Nat → Value} (h : PS w (DP pb gb ob hc rows) pb M gb ob n w' hc' (rowsOf s') (pageOf s') (onOf s')) (hH : Hd s' gb ob hc') (hF : ∀ i, F i ↔ FP pb gb ob i) (hD : ∀ i, D i ↔ DP pb gb ob hc rows i) :
    Left (PRG pb M n Hd rowsOf pageOf onOf) w s' F D w' :=
  ⟨F, DP pb gb ob hc' (rowsOf s'), ⟨gb, ob, hc', h.g, hH, hF, fun _ => Iff.rfl⟩, h.f.mono (fun i q => (hF i).2 q), fun i q => .inl q, fun i q => (h.d i q).imp (fun q => (hD i).2 q) id⟩
end
end Go.Proofs.Ytoainbdkhhblbaa
namespace Go.Proofs.Ytoainbdkhhblbaa
open Go.RowKit
set_option linter.unusedVariables false

def clF (c : Cl) (sz : Nat) (g : Value) : Nat → Value
  | 0 => .int .i64 c.kind
  | 1 => .int .i64 c.frame
  | 2 => .int .u32 c.page
  | 3 => .bool c.on
  | 4 => .int .i64 c.want
  | 5 => .int .i64 sz
  | 6 => g
  | _ => .int .i64 0
theorem clF_size (c : Cl) (a b : Nat) (g : Value) : upd (clF c a g) 5 (.int .i64 b) = clF c b g := by
  funext j
  match j with
  | 0 => rfl
  | 1 => rfl
  | 2 => rfl
  | 3 => rfl
  | 4 => rfl
  | 5 => rfl
  | 6 => rfl
  | j + 7 => simp [upd, clF]
theorem clF_ghosts (c : Cl) (a : Nat) (g g' : Value) : upd (clF c a g) 6 g' = clF c a g' := by
  funext j
  match j with
  | 0 => rfl
  | 1 => rfl
  | 2 => rfl
  | 3 => rfl
  | 4 => rfl
  | 5 => rfl
  | 6 => rfl
  | j + 7 => simp [upd, clF]
/-- Frames that may go, of the first k. -/
def okF (page : List Nat) (on : Nat → Bool) (k : Nat) : Bool := !decide (page.getD k 0 = 0) && on k
def cntF (page : List Nat) (on : Nat → Bool) (k : Nat) : Nat := ((List.range k).filter (okF page on)).length
theorem cntF_succ (page : List Nat) (on : Nat → Bool) (k : Nat) : cntF page on (k + 1) = cntF page on k + (if okF page on k = true then 1 else 0) := by
  unfold cntF
  rw [List.range_succ, List.filter_append, List.length_append]
  by_cases h : okF page on k = true <;> simp [h]
theorem cntF_le (page : List Nat) (on : Nat → Bool) (k : Nat) : cntF page on k ≤ k := by
  have := List.length_filter_le (okF page on) (List.range k)
  simpa [cntF] using this

section
variable {w w' : World} {pb gb ob n : Nat}

def SeenRel (w0 : World) (page : List Nat) (on : Nat → Bool) (n : Nat) (c : Cl) (i : Value) (wr : World) : Prop :=
  ∃ k : Nat, k ≤ n ∧ i = .int .i64 k ∧ Fr NoF w0 wr ∧ Blk wr w0.heap.size 7 (clF c (cntF page on k) (.slice none 0 0)) ∧ Blk wr (w0.heap.size + 1) 7 (clF ⟨0, 0, 0, false, 0, 0, []⟩ 0 (.slice none 0 0))

set_option maxHeartbeats 2000000 in
theorem seen_gen {hc : Nat → Value} {rows : RowsF} {page : List Nat} {on : Nat → Bool} {M : Nat} {gh : List Nat} (h : PG w pb M gb ob n hc rows page on) (hM : 8 ≤ M + 4) (i0 : hc 0 = .int .i64 n) (i1 : hc 1 = .slice (some ⟨gb, 0, none⟩) n n) (i2 : hc 2 = .slice (some ⟨ob, 0, none⟩) n n) (hIM : 1 < M ∧ 2 < M)
    (hG : ∀ wr, Fr NoF w wr → Calls Try.prog 45 #[.pointer (some ⟨pb, 0, none⟩)] wr fun e w' => ∃ gv, e = .returned gv ∧ SlK .u32 w' gv gh ∧ (∀ b, gv.ownBlock = some b → (DP pb gb ob hc rows b ∧ ¬ FP pb gb ob b) ∨ wr.heap.size ≤ b) ∧ Fr NoF wr w')
    (c : Cl) (h0 : c.size = 0) (hg : c.ghosts = []) : Calls Try.prog 25 #[.pointer (some ⟨pb, 0, none⟩), .agg (clCells c (.slice none 0 0)).toArray] w fun e w' =>
    ∃ gv, e = .returned (.agg (clCells { c with size := cntF page on n, ghosts := gh } gv).toArray) ∧ SlK .u32 w' gv gh ∧ (∀ b, gv.ownBlock = some b → (DP pb gb ob hc rows b ∧ ¬ FP pb gb ob b) ∨ w.heap.size ≤ b) ∧ Fr NoF w w' := by
  obtain ⟨kind, frame, page0, on0, want, size, ghosts⟩ := c
  simp only at h0 hg
  subst h0 hg
  have lg := h.pg.lt
  have lo := h.on.lt
  have lp := h.hd.lt
  have hn := h.hn
  have HH := Lib.hid h
  have HHC := Lib.hid (And.intro i0 (And.intro i1 i2))
  have HGH := Lib.hid hG
  have HDL := Lib.hid h.lt
  have key : Calls Try.prog 25 #[.pointer (some ⟨pb, 0, none⟩), .agg #[.int .i64 kind, .int .i64 frame, .int .u32 page0, .bool on0, .int .i64 want, .int .i64 0, .slice none 0 0]] w fun e w' =>
      ∃ gv, e = .returned (.agg #[.int .i64 kind, .int .i64 frame, .int .u32 page0, .bool on0, .int .i64 want, .int .i64 (cntF page on n : Nat), gv]) ∧ SlK .u32 w' gv gh ∧ (∀ b, gv.ownBlock = some b → (DP pb gb ob hc rows b ∧ ¬ FP pb gb ob b) ∨ w.heap.size ≤ b) ∧ Fr NoF w w' := by
    clear h hG i0 i1 i2
    go_enter Try.func25, Try.ntmps25
    go_wp2
    have hst : SeenRel w page on n ⟨kind, frame, page0, on0, want, 0, []⟩ (.int .i64 0) ((w.alloc (.cells #[.int .i64 kind, .int .i64 frame, .int .u32 page0, .bool on0, .int .i64 want, .int .i64 0, .slice none 0 0] 37)).alloc (.cells #[.int .i64 0, .int .i64 0, .int .u32 0, .bool false, .int .i64 0, .int .i64 0, .slice none 0 0] 37)) := by
      refine ⟨0, Nat.zero_le _, rfl, ((Fr.refl _ _).alloc _).alloc _, ?_, ?_⟩
      · refine (Blk.new _ _ _ 7 _ _ rfl rfl (fun i hi => ?_)).alloc _
        match i, hi with
        | 0, _ => rfl
        | 1, _ => rfl
        | 2, _ => rfl
        | 3, _ => rfl
        | 4, _ => rfl
        | 5, _ => rfl
        | 6, _ => rfl
      · refine Blk.new _ _ _ 7 _ _ (by simp) rfl (fun i hi => ?_)
        match i, hi with
        | 0, _ => rfl
        | 1, _ => rfl
        | 2, _ => rfl
        | 3, _ => rfl
        | 4, _ => rfl
        | 5, _ => rfl
        | 6, _ => rfl
    have HST := Lib.hid hst
    clear hst
    go_loopw [5] (SeenRel w page on n ⟨kind, frame, page0, on0, want, 0, []⟩) (fun i _ => n - (intOf i).toNat)
    case atStart => exact HST.out
    case round =>
      obtain ⟨k, hk, rfl, hf, hb, hr⟩ := hrel
      have hP := HH.out.fr0 hf
      have c0 : wr.cell? ⟨pb, 0, none⟩ = some (.int .i64 n) := hP.c 0 (by omega) HHC.out.1
      have hsz := hf.size
      have HF := Lib.hid hf
      have HB := Lib.hid hb
      have HR := Lib.hid hr
      have HPW := Lib.hid hP
      clear hf hP HST
      by_cases hlt : k < n
      · have c1 : wr.cell? ⟨pb, 1, none⟩ = some (.slice (some ⟨gb, 0, none⟩) n n) := HPW.out.c 1 hIM.1 HHC.out.2.1
        have c2 : wr.cell? ⟨pb, 2, none⟩ = some (.slice (some ⟨ob, 0, none⟩) n n) := HPW.out.c 2 hIM.2 HHC.out.2.2
        have cp := HPW.out.cp hlt
        have co := HPW.out.co hlt
        have b5 : wr.cell? ⟨w.heap.size, 5, none⟩ = some (.int .i64 (cntF page on k : Nat)) := HB.out.cell (i := 5) (by omega)
        have fb : wr.frozen? ⟨w.heap.size, 5, none⟩ = false := HB.out.frozen 5
        have hsu := cntF_succ page on k
        have hle := cntF_le page on k
        have HSTEP : Hid (∀ z, z = cntF page on (k + 1) → Blk (wr.setCell ⟨w.heap.size, 5, none⟩ (.int .i64 (z : Nat))) w.heap.size 7 (clF ⟨kind, frame, page0, on0, want, 0, []⟩ (cntF page on (k + 1)) (.slice none 0 0)) ∧ Blk (wr.setCell ⟨w.heap.size, 5, none⟩ (.int .i64 (z : Nat))) (w.heap.size + 1) 7 (clF ⟨0, 0, 0, false, 0, 0, []⟩ 0 (.slice none 0 0))) := by
          rintro z rfl
          exact ⟨by rw [← clF_size _ (cntF page on k)]; exact HB.out.set _ _, HR.out.other (by show ¬ w.heap.size + 1 = w.heap.size; omega) _⟩
        by_cases hz : page.getD k 0 = 0
        · rw [hz] at cp
          have ho : okF page on k = false := by unfold okF; rw [hz]; simp
          rw [ho] at hsu
          have HSU := Lib.hid hsu
          replace cp : wr.cell? ⟨gb, k, none⟩ = some (.int .u32 0) := cp
          clear hsu ho hz hb hr
          generalize on k = z1 at co
          go_wp2
          go_roundw
          case rel => exact ⟨k + 1, by omega, by go_num, HF.out, by rw [HSU.out]; exact HB.out, HR.out⟩
          case measure => first | (simp [intOf]; done) | (simp [intOf]; omega)
        · have b1 : (((page.getD k 0 : Nat) : Int) != 0) = true := by simp; simpa using hz
          cases hon : on k with
          | false =>
            rw [hon] at co
            have ho : okF page on k = false := by unfold okF; rw [hon]; simp
            rw [ho] at hsu
            have HSU := Lib.hid hsu
            generalize page.getD k 0 = z2 at cp b1
            clear hsu ho hz hb hr hon
            go_wp2
            go_roundw
            case rel => exact ⟨k + 1, by omega, by go_num, HF.out, by rw [HSU.out]; exact HB.out, HR.out⟩
            case measure => first | (simp [intOf]; done) | (simp [intOf]; omega)
          | true =>
            rw [hon] at co
            have ho : okF page on k = true := by unfold okF; rw [hon]; simp; simpa using hz
            rw [ho] at hsu
            simp only [if_true] at hsu
            have HSU := Lib.hid hsu
            generalize page.getD k 0 = z2 at cp b1
            clear hsu ho hz hb hr hon
            have lw : w.heap.size < wr.heap.size := HB.out.lt
            go_wp2
            go_roundw
            case rel =>
              have q := HSTEP.out (cntF page on k + 1) (by rw [HSU.out])
              exact ⟨k + 1, by omega, by go_num, HF.out.setCell (p := ⟨w.heap.size, 5, none⟩) (.inr (Nat.le_refl _)) _, q.1, q.2⟩
            case measure => first | (simp [intOf]; done) | (simp [intOf]; omega)
      · obtain rfl : k = n := by omega
        have lw : w.heap.size + 1 < wr.heap.size := HR.out.lt
        have HGW := Lib.hid (HGH.out wr HF.out)
        clear hb hr
        go_wp2_with fail
        refine HGW.out.mono ?_
        clear HGW
        rintro e w2 ⟨gv, rfl, hgs, hgb, hf2⟩
        have hB := HB.out.fr hf2 id
        have hR := HR.out.fr hf2 id
        have lw2 : w.heap.size + 1 < w2.heap.size := Nat.lt_of_lt_of_le lw hf2.size
        have e0 : w2.cell? ⟨w.heap.size, 0, none⟩ = some (.int .i64 kind) := hB.cell (i := 0) (by omega)
        have e1 : w2.cell? ⟨w.heap.size, 1, none⟩ = some (.int .i64 frame) := hB.cell (i := 1) (by omega)
        have e2 : w2.cell? ⟨w.heap.size, 2, none⟩ = some (.int .u32 page0) := hB.cell (i := 2) (by omega)
        have e3 : w2.cell? ⟨w.heap.size, 3, none⟩ = some (.bool on0) := hB.cell (i := 3) (by omega)
        have e4 : w2.cell? ⟨w.heap.size, 4, none⟩ = some (.int .i64 want) := hB.cell (i := 4) (by omega)
        have e5 : w2.cell? ⟨w.heap.size, 5, none⟩ = some (.int .i64 (cntF page on k : Nat)) := hB.cell (i := 5) (by omega)
        have e6 : w2.cell? ⟨w.heap.size, 6, none⟩ = some (.slice none 0 0) := hB.cell (i := 6) (by omega)
        have f0 : ∀ i, w2.frozen? ⟨w.heap.size, i, none⟩ = false := hB.frozen
        have f1 : ∀ i, w2.frozen? ⟨w.heap.size + 1, i, none⟩ = false := hR.frozen
        have r0 : w2.cell? ⟨w.heap.size + 1, 0, none⟩ = some (.int .i64 0) := hR.cell (i := 0) (by omega)
        have r1 : w2.cell? ⟨w.heap.size + 1, 1, none⟩ = some (.int .i64 0) := hR.cell (i := 1) (by omega)
        have r2 : w2.cell? ⟨w.heap.size + 1, 2, none⟩ = some (.int .u32 0) := hR.cell (i := 2) (by omega)
        have r3 : w2.cell? ⟨w.heap.size + 1, 3, none⟩ = some (.bool false) := hR.cell (i := 3) (by omega)
        have r4 : w2.cell? ⟨w.heap.size + 1, 4, none⟩ = some (.int .i64 0) := hR.cell (i := 4) (by omega)
        have r5 : w2.cell? ⟨w.heap.size + 1, 5, none⟩ = some (.int .i64 0) := hR.cell (i := 5) (by omega)
        have r6 : w2.cell? ⟨w.heap.size + 1, 6, none⟩ = some (.slice none 0 0) := hR.cell (i := 6) (by omega)
        have hgn : ∀ b, gv.ownBlock = some b → ¬ (b = w.heap.size ∨ b = w.heap.size + 1) := fun b q => by
          rcases hgb b q with ⟨q, _⟩ | q
          · have := HDL.out b q; omega
          · omega
        have HGS := Lib.hid (And.intro hgs (And.intro hgb hgn))
        have HF2 := Lib.hid (HF.out.trans hf2 (fun _ q => q.elim))
        obtain ⟨ga, gc, rfl, _, _⟩ := hgs.shape
        clear hB hR hgs hgb hgn hf2
        generalize hz : cntF page on k = z at *
        have HZ := Lib.hid hz
        clear hz
        go_wp2
        have hX : ∀ (G : World), Fr (fun i => i = w.heap.size ∨ i = w.heap.size + 1) w2 G → (SlK .u32 G (.slice ga gh.length gc) gh ∧ (∀ b, (Value.slice ga gh.length gc).ownBlock = some b → (DP pb gb ob hc rows b ∧ ¬ FP pb gb ob b) ∨ w.heap.size ≤ b) ∧ Fr NoF w G) := fun G f =>
          ⟨HGS.out.1.fr f HGS.out.2.2, fun b q => (HGS.out.2.1 b q).imp id (fun q => Nat.le_trans HF.out.size q), HF2.out.trans f (fun i q => .inr (by omega))⟩
        refine bodyPost_ret (v := .agg #[.int .i64 kind, .int .i64 frame, .int .u32 page0, .bool on0, .int .i64 want, .int .i64 (z : Nat), .slice ga gh.length gc]) (by simp [results, Try.results25, go_sem, r0, r1, r2, r3, r4, r5, r6]) rfl ⟨_, by rw [HZ.out], hX _ ?_⟩
        exact ((((((((Fr.refl _ w2).setCell (p := ⟨w.heap.size, 6, none⟩) (.inl (.inl rfl)) _).setCell (p := ⟨w.heap.size + 1, 0, none⟩) (.inl (.inr rfl)) _).setCell (p := ⟨w.heap.size + 1, 1, none⟩) (.inl (.inr rfl)) _).setCell (p := ⟨w.heap.size + 1, 2, none⟩) (.inl (.inr rfl)) _).setCell (p := ⟨w.heap.size + 1, 3, none⟩) (.inl (.inr rfl)) _).setCell (p := ⟨w.heap.size + 1, 4, none⟩) (.inl (.inr rfl)) _).setCell (p := ⟨w.heap.size + 1, 5, none⟩) (.inl (.inr rfl)) _).setCell (p := ⟨w.heap.size + 1, 6, none⟩) (.inl (.inr rfl)) _
  exact key.mono fun e w' ⟨gv, he, hs, hb, hf⟩ => ⟨gv, he, hs, hb, hf⟩
end

theorem lsCo_not {fr : List Nat} {id : Nat} (h : ¬ id ∈ fr) {a : Nat} (ha : a < fr.length) : ¬ fr.getD a 0 = id := by
  intro e
  apply h
  rw [← e]
  simp [ha]
theorem getD_setA {fr : List Nat} {a x f : Nat} (ha : a < fr.length) : (fr.set a x).getD f 0 = if f = a then x else fr.getD f 0 := by
  by_cases e : f = a
  · subst e; simp [ha]
  · rw [if_neg e]
    simp [show ¬ a = f from fun q => e q.symm]

end Go.Proofs.Ytoainbdkhhblbaa

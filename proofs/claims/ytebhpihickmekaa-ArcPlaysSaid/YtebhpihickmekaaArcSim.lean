/-
  The document's ARC and the code's go alike.
-/
import Derived.Test.YtebhpihickmekaaSim
import Derived.Test.YtebhpihickmekaaRef07A
import Derived.Test.YtebhpihickmekaaArcW
namespace Go.Proofs.Ytebhpihickmekaa
open Go.RowKit
set_option linter.unusedVariables false

/-- What both sides hold, and how it hangs together. -/
structure RS7 (n : Nat) (s : S7) (t : T7) (fr : List Nat) : Prop where
  pg : s.page = fr
  ln : fr.length = n
  nw : t.nw = s.t1
  mn : t.mn = s.t2
  b1 : t.b1 = s.b1
  b2 : t.b2 = s.b2
  go : t.goal = s.goal
  ev : t.ev = s.on
  nd : s.t1.Nodup
  md : s.t2.Nodup
  dj : ∀ x ∈ s.t1, ¬ x ∈ s.t2
  mem : ∀ f, (f ∈ s.t1 ∨ f ∈ s.t2) ↔ f < n ∧ ¬ fr.getD f 0 = 0
  tp : ∀ f, f ∈ s.t1 ∨ f ∈ s.t2 → t.page f = fr.getD f 0
  on : ∀ f, s.on f = true → f ∈ s.t1 ∨ f ∈ s.t2
  od : (s.b1 ++ s.b2).Nodup
  ol : s.b1.length + s.b2.length ≤ n
  gl : s.goal ≤ n
  no : ∀ f, f ∈ s.t1 ∨ f ∈ s.t2 → ¬ fr.getD f 0 ∈ s.b1 ++ s.b2
  ij : ∀ f g, (f ∈ s.t1 ∨ f ∈ s.t2) → (g ∈ s.t1 ∨ g ∈ s.t2) → fr.getD f 0 = fr.getD g 0 → f = g
  nN : n < 1000

theorem mem_of_at {fr : List Nat} {a x : Nat} (h : fr[a]? = some x) : fr.getD a 0 = x := by rw [List.getD_eq_getElem?_getD, h]; rfl
theorem getD_set' {fr : List Nat} {a x : Nat} (ha : a < fr.length) (f : Nat) : (fr.set a x).getD f 0 = if f = a then x else fr.getD f 0 := getD_setA ha
theorem away_not {l : List Nat} {x : Nat} (h : ¬ x ∈ l) : awayN l x = l := awayN_not h
theorem stp_stq (a b : Nat) : stp a b = stq a b := rfl
section
variable {n : Nat} {s : S7} {t : T7} {fr : List Nat}
theorem RS7.row (h : RS7 n s t fr) {a x : Nat} (ha : a < n) (e : fr[a]? = some x) (hx : 1 ≤ x) : a ∈ s.t1 ∨ a ∈ s.t2 := (h.mem a).2 ⟨ha, by rw [mem_of_at e]; omega⟩
theorem RS7.cnt (h : RS7 n s t fr) : cntL (t.nw ++ t.mn) t.ev = cntF s.page s.on s.page.length := by
  rw [h.nw, h.mn, h.ev]
  unfold cntL cntF
  apply List.Perm.length_eq
  have hnd : (s.t1 ++ s.t2).Nodup := by
    rw [List.nodup_append]
    exact ⟨h.nd, h.md, fun x hx y hy e => h.dj x hx (e ▸ hy)⟩
  refine (List.perm_ext_iff_of_nodup (hnd.filter _) (List.nodup_range.filter _)).2 (fun f => ?_)
  simp only [List.mem_filter, List.mem_append, List.mem_range, okF, Bool.and_eq_true, Bool.not_eq_true', decide_eq_false_iff_not, h.pg, h.ln]
  constructor
  · rintro ⟨h1, h2⟩
    exact ⟨((h.mem f).1 h1).1, ((h.mem f).1 h1).2, h2⟩
  · rintro ⟨h1, h2, h3⟩
    exact ⟨(h.mem f).2 ⟨h1, h2⟩, h3⟩
theorem RS7.side (h : RS7 n s t fr) (id : Nat) : (sideN t.b1 t.b2 id = 1 ↔ id ∈ s.b2) ∧ (0 ≤ sideN t.b1 t.b2 id ↔ id ∈ s.b1 ∨ id ∈ s.b2) := by
  rw [h.b1, h.b2]
  unfold sideN
  have hd := (List.nodup_append.1 h.od).2.2
  by_cases h1 : id ∈ s.b1
  · have h2 : ¬ id ∈ s.b2 := fun q => hd id h1 id q rfl
    simp [h1, h2]
  · by_cases h2 : id ∈ s.b2 <;> simp [h1, h2]
theorem RS7.vic (h : RS7 n s t fr) (id : Nat) : t.goes id = s.vic id := by
  have h1 := (h.side id).1
  have hf : t.fst (sideN t.b1 t.b2 id) ↔ s.fst id = true := by
    unfold T7.fst S7.fst
    rw [h.nw, h.go, h1]
    simp
  unfold T7.goes T7.goesC S7.vic
  rw [h.nw, h.mn, h.ev]
  cases e1 : s.t1.find? s.on with
  | none =>
    cases e2 : s.t2.find? s.on with
    | none => simp
    | some y => simp
  | some x =>
    cases e2 : s.t2.find? s.on with
    | none => simp
    | some y =>
      by_cases q : t.fst (sideN t.b1 t.b2 id)
      · rw [if_pos q, if_pos (.inl ⟨hf.1 q, rfl⟩)]; rfl
      · rw [if_neg q, if_neg (fun p => p.elim (fun p => q (hf.2 p.1)) (fun p => by cases p))]; rfl

/-- With fewer pages remembered, and another target. -/
theorem RS7.ghost (h : RS7 n s t fr) {b1 b2 : List Nat} {g : Nat} (hs : ∀ x ∈ b1 ++ b2, x ∈ s.b1 ++ s.b2) (hd : (b1 ++ b2).Nodup) (hl : b1.length + b2.length ≤ n) (hg : g ≤ n) : RS7 n ⟨s.page, s.on, s.t1, s.t2, b1, b2, g⟩ ⟨t.nw, t.mn, t.page, t.ev, b1, b2, g⟩ fr :=
  ⟨h.pg, h.ln, h.nw, h.mn, rfl, rfl, rfl, h.ev, h.nd, h.md, h.dj, h.mem, h.tp, h.on, hd, hl, hg, fun f q q2 => h.no f q (hs _ q2), h.ij, h.nN⟩
theorem drop1_sub {l m : List Nat} : (∀ x ∈ l.drop 1 ++ m, x ∈ l ++ m) ∧ (∀ x ∈ l ++ m.drop 1, x ∈ l ++ m) :=
  ⟨fun x q => (List.mem_append.1 q).elim (fun q => List.mem_append.2 (.inl (List.mem_of_mem_drop q))) (fun q => List.mem_append.2 (.inr q)), fun x q => (List.mem_append.1 q).elim (fun q => List.mem_append.2 (.inl q)) (fun q => List.mem_append.2 (.inr (List.mem_of_mem_drop q)))⟩
theorem drop1_nd {l m : List Nat} (h : (l ++ m).Nodup) : (l.drop 1 ++ m).Nodup ∧ (l ++ m.drop 1).Nodup :=
  ⟨h.sublist (List.Sublist.append (List.drop_sublist _ _) (List.Sublist.refl _)), h.sublist (List.Sublist.append (List.Sublist.refl _) (List.drop_sublist _ _))⟩
theorem RS7.miss (h : RS7 n s t fr) (id : Nat) : RS7 n (s.miss n id) (t.miss n id) fr := by
  unfold S7.miss T7.miss
  have hle := h.gl
  have hol := h.ol
  rw [h.b1, h.b2, h.go, h.nw, h.mn]
  by_cases h1 : id ∈ s.b1
  · rw [if_pos h1, if_pos h1]
    have := h.ghost (b1 := s.b1) (b2 := s.b2) (g := min (s.goal + stq s.b1.length s.b2.length) n) (fun _ q => q) h.od hol (Nat.min_le_right _ _)
    rw [h.nw, h.mn] at this
    exact this
  · rw [if_neg h1, if_neg h1]
    by_cases h2 : id ∈ s.b2
    · rw [if_pos h2, if_pos h2]
      have := h.ghost (b1 := s.b1) (b2 := s.b2) (g := s.goal - stq s.b2.length s.b1.length) (fun _ q => q) h.od hol (by omega)
      rw [h.nw, h.mn] at this
      exact this
    · rw [if_neg h2, if_neg h2]
      by_cases h3 : n ≤ s.t1.length + s.b1.length
      · rw [if_pos h3, if_pos h3]
        have := h.ghost (b1 := s.b1.drop 1) (b2 := s.b2) (g := s.goal) drop1_sub.1 (drop1_nd h.od).1 (by rw [List.length_drop]; omega) hle
        rw [h.nw, h.mn] at this
        exact this
      · rw [if_neg h3, if_neg h3]
        by_cases h4 : 2 * n ≤ s.t1.length + s.t2.length + s.b1.length + s.b2.length
        · rw [if_pos h4, if_pos (by omega)]
          have := h.ghost (b1 := s.b1) (b2 := s.b2.drop 1) (g := s.goal) drop1_sub.2 (drop1_nd h.od).2 (by rw [List.length_drop]; omega) hle
          rw [h.nw, h.mn] at this
          exact this
        · rw [if_neg h4, if_neg (by omega)]
          exact h

/-- Behind a touch of a page that is in a frame. -/
theorem RS7.again (h : RS7 n s t fr) {a id : Nat} (ha : a < n) (e : fr[a]? = some id) (h1 : 1 ≤ id) {t1' t2' : List Nat} (hm : ∀ x, (x ∈ t1' ∨ x ∈ t2') ↔ (x ∈ s.t1 ∨ x ∈ s.t2)) (hd1 : t1'.Nodup) (hd2 : t2'.Nodup) (hdj : ∀ x ∈ t1', ¬ x ∈ t2') : RS7 n ⟨s.page.set a id, s.on, t1', t2', s.b1, s.b2, s.goal⟩ ⟨t1', t2', t.page, t.ev, s.b1, s.b2, s.goal⟩ (fr.set a id) := by
  rw [h.pg, set_same' e]
  exact ⟨rfl, h.ln, rfl, rfl, rfl, rfl, rfl, h.ev, hd1, hd2, hdj, fun f => (hm f).trans (h.mem f), fun f q => h.tp f ((hm f).1 q), fun f q => (hm f).2 (h.on f q), h.od, h.ol, h.gl, fun f q => h.no f ((hm f).1 q), fun f g q1 q2 => h.ij f g ((hm f).1 q1) ((hm g).1 q2), h.nN⟩
/-- Behind a page that comes. -/
theorem RS7.came (h : RS7 n s t fr) {a id : Nat} (ha : a < n) (e : fr[a]? = some 0) (hni : ¬ id ∈ fr) (h1 : 1 ≤ id) {nw' mn' b1' b2' : List Nat} (hm : ∀ x, (x ∈ nw' ∨ x ∈ mn') ↔ (x ∈ s.t1 ∨ x ∈ s.t2) ∨ x = a) (hd1 : nw'.Nodup) (hd2 : mn'.Nodup) (hdj : ∀ x ∈ nw', ¬ x ∈ mn')
    (ho : ∀ y ∈ b1' ++ b2', y ∈ s.b1 ++ s.b2 ∧ ¬ y = id) (hod : (b1' ++ b2').Nodup) (hol : b1'.length + b2'.length ≤ s.b1.length + s.b2.length) : RS7 n ⟨s.page.set a id, s.on, nw', mn', b1', b2', s.goal⟩ ⟨nw', mn', upd t.page a id, t.ev, b1', b2', s.goal⟩ (fr.set a id) := by
  have hna : ¬ (a ∈ s.t1 ∨ a ∈ s.t2) := fun q => ((h.mem a).1 q).2 (mem_of_at e)
  have hla : a < fr.length := by rw [h.ln]; exact ha
  have hin : ∀ f, f ∈ s.t1 ∨ f ∈ s.t2 → fr.getD f 0 ∈ fr := fun f q => by
    have := ((h.mem f).1 q).1
    rw [List.getD_eq_getElem?_getD, List.getElem?_eq_getElem (by rw [h.ln]; exact this)]
    exact List.getElem_mem _
  refine ⟨by rw [h.pg], by simp [h.ln], rfl, rfl, rfl, rfl, rfl, h.ev, hd1, hd2, hdj, fun f => ?_, fun f q => ?_, fun f q => (hm f).2 (.inl (h.on f q)), hod, Nat.le_trans hol h.ol, h.gl, fun f q hq => ?_, fun f g q1 q2 eq => ?_, h.nN⟩
  · show (f ∈ nw' ∨ f ∈ mn') ↔ _
    rw [hm, h.mem, getD_set' hla]
    by_cases ef : f = a
    · subst ef; simp; omega
    · simp [ef]
  · show upd t.page a id f = _
    rw [getD_set' hla]
    by_cases ef : f = a
    · subst ef; rw [upd_same, if_pos rfl]
    · rw [upd_other _ _ ef, if_neg ef]
      exact h.tp f (((hm f).1 q).resolve_right ef)
  · have hq : (fr.set a id).getD f 0 ∈ b1' ++ b2' := hq
    rw [getD_set' hla] at hq
    by_cases ef : f = a
    · rw [if_pos ef] at hq; exact (ho _ hq).2 rfl
    · rw [if_neg ef] at hq; exact h.no f (((hm f).1 q).resolve_right ef) (ho _ hq).1
  · have eq : (fr.set a id).getD f 0 = (fr.set a id).getD g 0 := eq
    rw [getD_set' hla, getD_set' hla] at eq
    by_cases ef : f = a
    · by_cases eg : g = a
      · rw [ef, eg]
      · rw [if_pos ef, if_neg eg] at eq
        exact (hni (eq ▸ hin g (((hm g).1 q2).resolve_right eg))).elim
    · by_cases eg : g = a
      · rw [if_neg ef, if_pos eg] at eq
        exact (hni (eq ▸ hin f (((hm f).1 q1).resolve_right ef))).elim
      · rw [if_neg ef, if_neg eg] at eq
        exact h.ij f g (((hm f).1 q1).resolve_right ef) (((hm g).1 q2).resolve_right eg) eq
/-- Behind a page that goes. -/
theorem RS7.went (h : RS7 n s t fr) {a : Nat} (ha : a < n) (hr : a ∈ s.t1 ∨ a ∈ s.t2) {b1' b2' : List Nat} (ho : ∀ y ∈ b1' ++ b2', y ∈ s.b1 ++ s.b2 ∨ y = fr.getD a 0) (hod : (b1' ++ b2').Nodup) (hol : b1'.length + b2'.length ≤ n) :
    RS7 n ⟨s.page.set a 0, upd s.on a false, awayN s.t1 a, awayN s.t2 a, b1', b2', s.goal⟩ ⟨awayN s.t1 a, awayN s.t2 a, t.page, upd t.ev a false, b1', b2', s.goal⟩ (fr.set a 0) := by
  have hla : a < fr.length := by rw [h.ln]; exact ha
  have hmem : ∀ f, (f ∈ awayN s.t1 a ∨ f ∈ awayN s.t2 a) ↔ (f ∈ s.t1 ∨ f ∈ s.t2) ∧ ¬ f = a := fun f => by
    rw [mem_awayN, mem_awayN]
    by_cases e : f = a <;> simp [e]
  refine ⟨by rw [h.pg], by simp [h.ln], rfl, rfl, rfl, rfl, rfl, by rw [h.ev], h.nd.filter _, h.md.filter _, fun x hx q => h.dj x (mem_awayN.1 hx).1 (mem_awayN.1 q).1, fun f => ?_, fun f q => ?_, fun f q => ?_, hod, hol, h.gl, fun f q hq => ?_, fun f g q1 q2 eq => ?_, h.nN⟩
  · show (f ∈ awayN s.t1 a ∨ f ∈ awayN s.t2 a) ↔ _
    rw [hmem, h.mem, getD_set' hla]
    by_cases e : f = a
    · subst e; simp
    · simp [e]
  · obtain ⟨q1, q2⟩ := (hmem f).1 q
    rw [getD_set' hla, if_neg q2]; exact h.tp f q1
  · have q : upd s.on a false f = true := q
    by_cases e : f = a
    · subst e; rw [upd_same] at q; cases q
    · rw [upd_other _ _ e] at q; exact (hmem f).2 ⟨h.on f q, e⟩
  · obtain ⟨q1, q2⟩ := (hmem f).1 q
    have hq : (fr.set a 0).getD f 0 ∈ b1' ++ b2' := hq
    rw [getD_set' hla, if_neg q2] at hq
    rcases ho _ hq with q3 | q3
    · exact h.no f q1 q3
    · exact q2 (h.ij f a q1 hr q3)
  · obtain ⟨p1, p2⟩ := (hmem f).1 q1
    obtain ⟨p3, p4⟩ := (hmem g).1 q2
    rw [getD_set' hla, getD_set' hla, if_neg p2, if_neg p4] at eq
    exact h.ij f g p1 p3 eq
theorem bnd_nd {m : Nat} {b1 b2 : List Nat} (h : (b1 ++ b2).Nodup) : ((bnd m b1 b2).1 ++ (bnd m b1 b2).2).Nodup := by
  unfold bnd
  split
  · split
    · exact (drop1_nd h).1
    · exact (drop1_nd h).2
  · exact h
/-- What is remembered behind a page that goes. -/
theorem RS7.put (h : RS7 n s t fr) (id : Nat) {f : Nat} (hr : f ∈ s.t1 ∨ f ∈ s.t2) : (∀ y ∈ (s.put n id f).1 ++ (s.put n id f).2, y ∈ s.b1 ++ s.b2 ∨ y = fr.getD f 0) ∧ ((s.put n id f).1 ++ (s.put n id f).2).Nodup ∧ (s.put n id f).1.length + (s.put n id f).2.length ≤ n + 1 := by
  have hol := h.ol
  have hno := h.no f hr
  have hx1 : ¬ fr.getD f 0 ∈ s.b1 := fun q => hno (List.mem_append.2 (.inl q))
  have hx2 : ¬ fr.getD f 0 ∈ s.b2 := fun q => hno (List.mem_append.2 (.inr q))
  have hod := List.nodup_append.1 h.od
  unfold S7.put
  rw [h.pg]
  by_cases q : s.plain n id f = true
  · simp only [if_pos q]
    exact ⟨fun y hy => .inl hy, h.od, by omega⟩
  · simp only [if_neg q]
    by_cases p : f ∈ s.t1
    · simp only [if_pos p]
      refine ⟨fun y hy => ?_, ?_, by rw [List.length_append]; simp; omega⟩
      · rcases List.mem_append.1 hy with e | e
        · rcases List.mem_append.1 e with e | e
          · exact .inl (List.mem_append.2 (.inl e))
          · exact .inr (List.mem_singleton.1 e)
        · exact .inl (List.mem_append.2 (.inr e))
      · rw [List.nodup_append]
        refine ⟨?_, hod.2.1, fun x hx y hy e => ?_⟩
        · rw [List.nodup_append]
          refine ⟨hod.1, by simp, fun x hx y hy e => ?_⟩
          rw [List.mem_singleton.1 hy] at e; exact hx1 (e ▸ hx)
        · rcases List.mem_append.1 hx with c | c
          · exact hod.2.2 x c y hy e
          · rw [List.mem_singleton.1 c] at e; exact hx2 (e ▸ hy)
    · simp only [if_neg p]
      refine ⟨fun y hy => ?_, ?_, by rw [List.length_append]; simp; omega⟩
      · rcases List.mem_append.1 hy with e | e
        · exact .inl (List.mem_append.2 (.inl e))
        · rcases List.mem_append.1 e with e | e
          · exact .inl (List.mem_append.2 (.inr e))
          · exact .inr (List.mem_singleton.1 e)
      · rw [List.nodup_append]
        refine ⟨hod.1, ?_, fun x hx y hy e => ?_⟩
        · rw [List.nodup_append]
          refine ⟨hod.2.1, by simp, fun x hx y hy e => ?_⟩
          rw [List.mem_singleton.1 hy] at e; exact hx2 (e ▸ hx)
        · rcases List.mem_append.1 hy with c | c
          · exact hod.2.2 x hx y c e
          · rw [List.mem_singleton.1 c] at e; exact hx1 (e ▸ hx)
theorem full_mem {l : List Nat} {n f : Nat} (hn : l.Nodup) (hl : ∀ x ∈ l, x < n) (he : l.length = n) (hf : f < n) : f ∈ l := by
  apply Classical.byContradiction
  intro q
  have h1 : (f :: l).Nodup := List.nodup_cons.2 ⟨q, hn⟩
  have := List.Nodup.length_le_of_subset (l₁ := f :: l) (l₂ := List.range n) h1 (fun y hy => List.mem_range.2 ((List.mem_cons.1 hy).elim (fun e => e ▸ hf) (hl y)))
  simp at this; omega
theorem RS7.gone (h : RS7 n s t fr) (id : Nat) {f : Nat} (hr : f ∈ s.t1 ∨ f ∈ s.t2) : RS7 n (s.gone n id f) (t.gone n id f) (fr.set f 0) := by
  have ha : f < n := ((h.mem f).1 hr).1
  obtain ⟨p1, p2, p3⟩ := h.put id hr
  have hs := (h.side id).2
  have key := h.went ha hr (b1' := (bnd n (s.put n id f).1 (s.put n id f).2).1) (b2' := (bnd n (s.put n id f).1 (s.put n id f).2).2) (fun y hy => p1 y (bnd_mem hy)) (bnd_nd p2) (bnd_len p3)
  have hmem : f ∈ t.nw ∨ f ∈ t.mn := by rw [h.nw, h.mn]; exact hr
  have hE : t.gone n id f = ⟨awayN s.t1 f, awayN s.t2 f, t.page, upd t.ev f false, (bnd n (s.put n id f).1 (s.put n id f).2).1, (bnd n (s.put n id f).1 (s.put n id f).2).2, s.goal⟩ := by
    unfold T7.gone
    by_cases q : 0 ≤ sideN t.b1 t.b2 id ∨ t.nw.length < n
    · rw [if_pos q]
      have hpl : ¬ s.plain n id f = true := by
        unfold S7.plain
        rw [hs, h.nw] at q
        simp only [Bool.and_eq_true, decide_eq_true_eq, Bool.not_eq_true', decide_eq_false_iff_not]
        rintro ⟨_, r2, r3, r4⟩
        rcases q with (q | q) | q
        · exact r3 q
        · exact r4 q
        · omega
      have hp : t.put f = s.put n id f := by
        unfold T7.put S7.put
        rw [h.nw, h.b1, h.b2, h.tp f hr, h.pg]
        simp only [if_neg hpl]
      unfold T7.rem
      rw [if_pos (show f ∈ (t.keep n f).nw ∨ f ∈ (t.keep n f).mn from hmem)]
      unfold T7.keep
      rw [hp, h.nw, h.mn, h.go]
    · rw [if_neg q]
      have hl1 : ∀ x ∈ s.t1, x < n := fun x hx => ((h.mem x).1 (.inl hx)).1
      have hle : s.t1.length ≤ n := len_lt h.nd hl1
      have q' := q
      rw [hs, h.nw] at q'
      have hge : ¬ s.t1.length < n := fun e => q' (.inr e)
      have hfull : s.t1.length = n := by omega
      have hin : f ∈ s.t1 := full_mem h.nd hl1 hfull ha
      have hpl : s.plain n id f = true := by
        unfold S7.plain
        have r1 : ¬ id ∈ s.b1 := fun e => q' (.inl (.inl e))
        have r2 : ¬ id ∈ s.b2 := fun e => q' (.inl (.inr e))
        simp [hin, hfull, r1, r2]
      have hp : s.put n id f = (s.b1, s.b2) := by
        unfold S7.put
        simp only [if_pos hpl]
      rw [hp, bnd_stop (most := n) (b1 := s.b1) (b2 := s.b2) (by have := h.ol; omega)]
      unfold T7.rem
      rw [if_pos hmem, h.nw, h.mn, h.b1, h.b2, h.go]
  rw [hE]
  exact key
end

theorem sim7 (n : Nat) : SimSys (pol7 n) (polA n) (preA n) n (RS7 n) where
  len := fun h => h.ln
  size := by
    intro s t fr h
    refine ⟨h.cnt, ?_⟩
    show cntF s.page s.on s.page.length < _
    have := cntF_le s.page s.on s.page.length
    have := h.nN
    rw [h.pg, h.ln] at *; omega
  ghosts := by
    intro s t fr h
    have h1 := h.ol
    have h2 := h.nN
    refine ⟨?_, h.od, by show (s.b1 ++ s.b2).length < _; rw [List.length_append]; omega⟩
    show (t.b1 ++ t.b2).Perm (s.b1 ++ s.b2)
    rw [h.b1, h.b2]
  miss := by
    intro s t fr id h _ _ h2
    exact ⟨⟨fun q => by simp [Pol.see, clMiss] at q, fun q => by simp [Pol.see, clMiss] at q, fun _ => h2⟩, h.miss id⟩
  access := by
    intro s t fr a id h ha hfa h1 h2
    have hla : a < fr.length := by rw [h.ln]; exact ha
    refine ⟨⟨fun _ => ha, fun _ => ⟨h2, ?_⟩, fun q => by simp [Pol.see, clAcc] at q⟩, ?_⟩
    · rcases hfa with e | ⟨e, hni⟩
      · left; show a ∈ t.nw ∨ a ∈ t.mn; rw [h.nw, h.mn]; exact h.row ha e h1
      · right
        intro g hg e2
        rw [h.nw, h.mn] at hg
        have e2 : t.page g = id := e2
        rw [h.tp g hg] at e2
        have := ((h.mem g).1 hg).1
        refine hni ?_
        rw [← e2, List.getD_eq_getElem?_getD, List.getElem?_eq_getElem (by rw [h.ln]; exact this)]
        exact List.getElem_mem _
    · show RS7 n (s.access a id) (t.acc a id) (fr.set a id)
      unfold S7.access T7.acc
      rw [h.nw, h.mn, h.b1, h.b2, h.go]
      rcases hfa with e | ⟨e, hni⟩
      · have hrow := h.row ha e h1
        have hno : ¬ id ∈ s.b1 ++ s.b2 := fun q => h.no a hrow (by rw [mem_of_at e]; exact q)
        rw [if_pos hrow, if_pos (hrow.elim .inl (fun q => .inr (.inl q))), away_not (l := s.b1) (fun q => hno (List.mem_append.2 (.inl q))), away_not (l := s.b2) (fun q => hno (List.mem_append.2 (.inr q)))]
        refine h.again ha e h1 (t1' := awayN s.t1 a) (t2' := backN s.t2 a) (fun x => ?_) (h.nd.filter _) (nodup_back h.md a) (fun x hx q => ?_)
        · rw [mem_awayN, mem_backN]
          by_cases ex : x = a
          · subst ex; simp [hrow]
          · simp [ex]
        · rw [mem_backN] at q
          have hx := mem_awayN.1 hx
          exact q.elim (fun q => h.dj x hx.1 q) hx.2
      · have hna : ¬ (a ∈ s.t1 ∨ a ∈ s.t2) := fun q => ((h.mem a).1 q).2 (mem_of_at e)
        have hn1 : ¬ a ∈ s.t1 := fun q => hna (.inl q)
        have hn2 : ¬ a ∈ s.t2 := fun q => hna (.inr q)
        rw [if_neg hna]
        by_cases hid : id ∈ s.b1 ++ s.b2
        · rw [if_pos hid, if_pos ((List.mem_append.1 hid).elim (fun q => .inr (.inr (.inl q))) (fun q => .inr (.inr (.inr q)))), away_not hn1]
          have eb : backN s.t2 a = s.t2 ++ [a] := by unfold backN; rw [away_not hn2]
          rw [eb]
          refine h.came ha e hni h1 (fun x => ?_) h.nd (by rw [← eb]; exact nodup_back h.md a) (fun x hx q => ?_) (fun y hy => ?_) ?_ (away_le2 _ _ _)
          · rw [List.mem_append, List.mem_singleton]
            exact ⟨fun q => q.elim (fun q => .inl (.inl q)) (fun q => q.elim (fun q => .inl (.inr q)) .inr), fun q => q.elim (fun q => q.elim .inl (fun q => .inr (.inl q))) (fun q => .inr (.inr q))⟩
          · rcases List.mem_append.1 q with q | q
            · exact h.dj x hx q
            · rw [List.mem_singleton.1 q] at hx; exact hn1 hx
          · rcases List.mem_append.1 hy with q | q
            · have := mem_awayN.1 q; exact ⟨List.mem_append.2 (.inl this.1), this.2⟩
            · have := mem_awayN.1 q; exact ⟨List.mem_append.2 (.inr this.1), this.2⟩
          · have : awayN s.b1 id ++ awayN s.b2 id = awayN (s.b1 ++ s.b2) id := by unfold awayN; exact (List.filter_append ..).symm
            rw [this]; exact h.od.filter _
        · have hi1 : ¬ id ∈ s.b1 := fun q => hid (List.mem_append.2 (.inl q))
          have hi2 : ¬ id ∈ s.b2 := fun q => hid (List.mem_append.2 (.inr q))
          rw [if_neg hid, if_neg (fun q => q.elim hn1 (fun q => q.elim hn2 (fun q => q.elim hi1 hi2))), away_not hi1, away_not hi2]
          refine h.came ha e hni h1 (fun x => ?_) ?_ h.md (fun x hx q => ?_) (fun y hy => ⟨hy, fun q => hid (q ▸ hy)⟩) h.od (Nat.le_refl _)
          · rw [List.mem_append, List.mem_singleton]
            exact ⟨fun q => q.elim (fun q => q.elim (fun q => .inl (.inl q)) .inr) (fun q => .inl (.inr q)), fun q => q.elim (fun q => q.elim (fun q => .inl (.inl q)) .inr) (fun q => .inl (.inr q))⟩
          · rw [List.nodup_append]
            refine ⟨h.nd, by simp, fun x hx y hy q => ?_⟩
            rw [List.mem_singleton.1 hy] at q
            exact hn1 (q ▸ hx)
          · rcases List.mem_append.1 hx with p | p
            · exact h.dj x p q
            · rw [List.mem_singleton.1 p] at q; exact hn2 q
  set := by
    intro s t fr a x v h ha hfa h1
    have hrow := h.row ha hfa h1
    refine ⟨⟨fun _ => ha, fun q => by simp [Pol.see, clSet] at q, fun q => by simp [Pol.see, clSet] at q⟩, ?_⟩
    show RS7 n ⟨s.page, upd s.on a v, s.t1, s.t2, s.b1, s.b2, s.goal⟩ (t.setE a v) fr
    have et : t.setE a v = ⟨t.nw, t.mn, t.page, upd t.ev a v, t.b1, t.b2, t.goal⟩ := if_pos (by rw [h.nw, h.mn]; exact hrow)
    rw [et]
    refine ⟨h.pg, h.ln, h.nw, h.mn, h.b1, h.b2, h.go, by show upd t.ev a v = _; rw [h.ev], h.nd, h.md, h.dj, h.mem, h.tp, fun f q => ?_, h.od, h.ol, h.gl, h.no, h.ij, h.nN⟩
    have q : upd s.on a v f = true := q
    by_cases e : f = a
    · rw [e]; exact hrow
    · rw [upd_other _ _ e] at q; exact h.on f q
  victim := by
    intro s t fr id h _ _ _
    exact h.vic id
  none := by
    intro s t fr id h _ _ h2
    refine ⟨?_, ⟨fun q => by simp [Pol.see, clVic] at q, fun q => by simp [Pol.see, clVic] at q, fun _ => h2⟩⟩
    show s.vic id = none ↔ cntF s.page s.on s.page.length = 0
    rw [← h.vic id, ← h.cnt]
    exact goesC_none
  gone := by
    intro s t fr a id h _ _ h2 hv
    have hv' : s.vic id = some a := hv
    have hg : (pol7 n).gone s id = s.gone n id a := by show (match s.vic id with | none => s | some f => s.gone n id f) = _; rw [hv']
    have hgo : t.goes id = some a := by rw [h.vic id]; exact hv'
    have hg2 : (polA n).gone t id = t.gone n id a := by show (match t.goes id with | none => t | some f => t.gone n id f) = _; rw [hgo]
    have hrow : a ∈ s.t1 ∨ a ∈ s.t2 := by
      have := goesC_mem hgo
      rw [h.nw, h.mn] at this; exact this
    have ha : a < n := ((h.mem a).1 hrow).1
    rw [hg, hg2]
    exact ⟨ha, ⟨fun q => by simp [Pol.see, clVic] at q, fun q => by simp [Pol.see, clVic] at q, fun _ => h2⟩, h.gone id hrow⟩
  remove := by
    intro s t fr a x h ha hfa h1
    have hrow := h.row ha hfa h1
    refine ⟨⟨fun _ => ha, fun q => by simp [Pol.see, clRem] at q, fun q => by simp [Pol.see, clRem] at q⟩, ?_⟩
    show RS7 n (s.remove a) (t.rem a) (fr.set a 0)
    unfold T7.rem S7.remove
    rw [if_pos (by rw [h.nw, h.mn]; exact hrow), h.nw, h.mn, h.b1, h.b2, h.go]
    exact h.went ha hrow (fun y hy => .inl hy) h.od h.ol
end Go.Proofs.Ytebhpihickmekaa

/-
  The document's 2Q and the code's go alike.
-/
import Derived.Test.YtiemelhholbngaaSim
import Derived.Test.YtiemelhholbngaaRef06E
import Derived.Test.YtiemelhholbngaaTwoE
namespace Go.Proofs.Ytiemelhholbngaa
open Go.RowKit
set_option linter.unusedVariables false

/-- What both sides hold, and how it hangs together. -/
structure RS (n out : Nat) (s : S6) (t : T6) (fr : List Nat) : Prop where
  pg : s.page = fr
  ln : fr.length = n
  nw : t.nw = s.nw
  mn : t.mn = s.mn
  gh : t.gh = s.old
  ev : t.ev = s.on
  nd : s.nw.Nodup
  md : s.mn.Nodup
  dj : ∀ x ∈ s.nw, ¬ x ∈ s.mn
  mem : ∀ f, (f ∈ s.nw ∨ f ∈ s.mn) ↔ f < n ∧ ¬ fr.getD f 0 = 0
  tp : ∀ f, f ∈ s.nw ∨ f ∈ s.mn → t.page f = fr.getD f 0
  on : ∀ f, s.on f = true → f ∈ s.nw ∨ f ∈ s.mn
  od : s.old.Nodup
  ol : s.old.length ≤ out
  oo : out < 1000
  no : ∀ f, f ∈ s.nw ∨ f ∈ s.mn → ¬ fr.getD f 0 ∈ s.old
  ij : ∀ f g, (f ∈ s.nw ∨ f ∈ s.mn) → (g ∈ s.nw ∨ g ∈ s.mn) → fr.getD f 0 = fr.getD g 0 → f = g
  nN : n < 1000

theorem mem_of_at {fr : List Nat} {a x : Nat} (h : fr[a]? = some x) : fr.getD a 0 = x := by rw [List.getD_eq_getElem?_getD, h]; rfl
theorem goes_vic {s : S6} {t : T6} (inn : Nat) (h1 : t.nw = s.nw) (h2 : t.mn = s.mn) (h3 : t.ev = s.on) : t.goes inn = s.vic inn := by
  unfold T6.goes S6.vic
  rw [h1, h2, h3]
  cases e1 : s.nw.find? s.on with
  | none =>
    cases e2 : s.mn.find? s.on with
    | none => simp
    | some y => simp
  | some x =>
    cases e2 : s.mn.find? s.on with
    | none => simp
    | some y =>
      by_cases h : inn < s.nw.length <;> simp [h]
theorem gone_new {t : T6} {f : Nat} (out : Nat) (h : f ∈ t.nw) : t.gone out f = ⟨awayN t.nw f, awayN t.mn f, t.page, upd t.ev f false, cutOld out (t.gh ++ [t.page f])⟩ := by
  unfold T6.gone
  rw [if_pos h]
  unfold T6.rem
  rw [if_pos (.inl h)]
theorem gone_main {t : T6} {f : Nat} (out : Nat) (h : ¬ f ∈ t.nw) (h2 : f ∈ t.mn) : t.gone out f = ⟨awayN t.nw f, awayN t.mn f, t.page, upd t.ev f false, t.gh⟩ := by
  unfold T6.gone
  rw [if_neg h]
  unfold T6.rem
  rw [if_pos (.inr h2)]
section
variable {n out : Nat} {s : S6} {t : T6} {fr : List Nat}
theorem RS.row (h : RS n out s t fr) {a x : Nat} (ha : a < n) (e : fr[a]? = some x) (hx : 1 ≤ x) : a ∈ s.nw ∨ a ∈ s.mn := (h.mem a).2 ⟨ha, by rw [mem_of_at e]; omega⟩
theorem RS.cnt (h : RS n out s t fr) : cntL (t.nw ++ t.mn) t.ev = cntF s.page s.on s.page.length := by
  rw [h.nw, h.mn, h.ev]
  unfold cntL cntF
  apply List.Perm.length_eq
  have hnd : (s.nw ++ s.mn).Nodup := by
    rw [List.nodup_append]
    exact ⟨h.nd, h.md, fun x hx y hy e => h.dj x hx (e ▸ hy)⟩
  refine (List.perm_ext_iff_of_nodup (hnd.filter _) (List.nodup_range.filter _)).2 (fun f => ?_)
  simp only [List.mem_filter, List.mem_append, List.mem_range, okF, Bool.and_eq_true, Bool.not_eq_true', decide_eq_false_iff_not, h.pg, h.ln]
  constructor
  · rintro ⟨h1, h2⟩
    exact ⟨((h.mem f).1 h1).1, ((h.mem f).1 h1).2, h2⟩
  · rintro ⟨h1, h2, h3⟩
    exact ⟨(h.mem f).2 ⟨h1, h2⟩, h3⟩
theorem getD_set' {fr : List Nat} {a x : Nat} (ha : a < fr.length) (f : Nat) : (fr.set a x).getD f 0 = if f = a then x else fr.getD f 0 := getD_setA ha

/-- Behind a touch of a page that is in a frame, whatever becomes of the rows' order. -/
theorem RS.again (h : RS n out s t fr) {a id : Nat} (ha : a < n) (e : fr[a]? = some id) (h1 : 1 ≤ id) {mn' : List Nat} (hm : ∀ x, x ∈ mn' ↔ x ∈ s.mn) (hd : mn'.Nodup) : RS n out ⟨s.page.set a id, s.on, s.nw, mn', s.old⟩ ⟨s.nw, mn', t.page, t.ev, s.old⟩ (fr.set a id) := by
  rw [h.pg, set_same' e]
  exact ⟨rfl, h.ln, rfl, rfl, rfl, h.ev, h.nd, hd, fun x hx q => h.dj x hx ((hm x).1 q), fun f => by simp only [hm]; exact h.mem f, fun f q => h.tp f (by simpa only [hm] using q), fun f q => by simp only [hm]; exact h.on f q, h.od, h.ol, h.oo, fun f q => h.no f (by simpa only [hm] using q), fun f g q1 q2 => h.ij f g (by simpa only [hm] using q1) (by simpa only [hm] using q2), h.nN⟩
/-- Behind a page that comes. -/
theorem RS.came (h : RS n out s t fr) {a id : Nat} (ha : a < n) (e : fr[a]? = some 0) (hni : ¬ id ∈ fr) (h1 : 1 ≤ id) {nw' mn' old' : List Nat} (hm : ∀ x, (x ∈ nw' ∨ x ∈ mn') ↔ (x ∈ s.nw ∨ x ∈ s.mn) ∨ x = a) (hd1 : nw'.Nodup) (hd2 : mn'.Nodup) (hdj : ∀ x ∈ nw', ¬ x ∈ mn')
    (ho : ∀ y ∈ old', y ∈ s.old ∧ ¬ y = id) (hod : old'.Nodup) (hol : old'.length ≤ s.old.length) : RS n out ⟨s.page.set a id, s.on, nw', mn', old'⟩ ⟨nw', mn', upd t.page a id, t.ev, old'⟩ (fr.set a id) := by
  have hna : ¬ (a ∈ s.nw ∨ a ∈ s.mn) := fun q => ((h.mem a).1 q).2 (mem_of_at e)
  have hla : a < fr.length := by rw [h.ln]; exact ha
  have hin : ∀ f, f ∈ s.nw ∨ f ∈ s.mn → fr.getD f 0 ∈ fr := fun f q => by
    have := ((h.mem f).1 q).1
    rw [List.getD_eq_getElem?_getD, List.getElem?_eq_getElem (by rw [h.ln]; exact this)]
    exact List.getElem_mem _
  refine ⟨by rw [h.pg], by simp [h.ln], rfl, rfl, rfl, h.ev, hd1, hd2, hdj, fun f => ?_, fun f q => ?_, fun f q => (hm f).2 (.inl (h.on f q)), hod, Nat.le_trans hol h.ol, h.oo, fun f q hq => ?_, fun f g q1 q2 eq => ?_, h.nN⟩
  · show (f ∈ nw' ∨ f ∈ mn') ↔ _
    rw [hm, h.mem, getD_set' hla]
    by_cases ef : f = a
    · subst ef; simp; omega
    · simp [ef]
  · show upd t.page a id f = _
    rw [getD_set' hla]
    by_cases ef : f = a
    · subst ef; rw [upd_same, if_pos rfl]
    · rw [upd_other _ _ ef, if_neg ef]
      exact h.tp f (((hm f).1 q).resolve_right ef)
  · have hq : (fr.set a id).getD f 0 ∈ old' := hq
    rw [getD_set' hla] at hq
    by_cases ef : f = a
    · rw [if_pos ef] at hq; exact (ho _ hq).2 rfl
    · rw [if_neg ef] at hq; exact h.no f (((hm f).1 q).resolve_right ef) (ho _ hq).1
  · have eq : (fr.set a id).getD f 0 = (fr.set a id).getD g 0 := eq
    rw [getD_set' hla, getD_set' hla] at eq
    by_cases ef : f = a
    · by_cases eg : g = a
      · rw [ef, eg]
      · rw [if_pos ef, if_neg eg] at eq
        exact (hni (eq ▸ hin g (((hm g).1 q2).resolve_right eg))).elim
    · by_cases eg : g = a
      · rw [if_neg ef, if_pos eg] at eq
        exact (hni (eq ▸ hin f (((hm f).1 q1).resolve_right ef))).elim
      · rw [if_neg ef, if_neg eg] at eq
        exact h.ij f g (((hm f).1 q1).resolve_right ef) (((hm g).1 q2).resolve_right eg) eq
/-- Behind a page that goes. -/
theorem RS.went (h : RS n out s t fr) {a : Nat} (ha : a < n) (hr : a ∈ s.nw ∨ a ∈ s.mn) {old' : List Nat} (ho : ∀ y ∈ old', y ∈ s.old ∨ y = fr.getD a 0) (hod : old'.Nodup) (hol : old'.length ≤ out) :
    RS n out ⟨s.page.set a 0, upd s.on a false, awayN s.nw a, awayN s.mn a, old'⟩ ⟨awayN s.nw a, awayN s.mn a, t.page, upd t.ev a false, old'⟩ (fr.set a 0) := by
  have hla : a < fr.length := by rw [h.ln]; exact ha
  have hmem : ∀ f, (f ∈ awayN s.nw a ∨ f ∈ awayN s.mn a) ↔ (f ∈ s.nw ∨ f ∈ s.mn) ∧ ¬ f = a := fun f => by
    rw [mem_awayN, mem_awayN]
    by_cases e : f = a <;> simp [e]
  refine ⟨by rw [h.pg], by simp [h.ln], rfl, rfl, rfl, by rw [h.ev], h.nd.filter _, h.md.filter _, fun x hx q => h.dj x (mem_awayN.1 hx).1 (mem_awayN.1 q).1, fun f => ?_, fun f q => ?_, fun f q => ?_, hod, hol, h.oo, fun f q hq => ?_, fun f g q1 q2 eq => ?_, h.nN⟩
  · show (f ∈ awayN s.nw a ∨ f ∈ awayN s.mn a) ↔ _
    rw [hmem, h.mem, getD_set' hla]
    by_cases e : f = a
    · subst e; simp
    · simp [e]
  · obtain ⟨q1, q2⟩ := (hmem f).1 q
    rw [getD_set' hla, if_neg q2]; exact h.tp f q1
  · have q : upd s.on a false f = true := q
    by_cases e : f = a
    · subst e; rw [upd_same] at q; cases q
    · rw [upd_other _ _ e] at q; exact (hmem f).2 ⟨h.on f q, e⟩
  · obtain ⟨q1, q2⟩ := (hmem f).1 q
    have hq : (fr.set a 0).getD f 0 ∈ old' := hq
    rw [getD_set' hla, if_neg q2] at hq
    rcases ho _ hq with q3 | q3
    · exact h.no f q1 q3
    · exact q2 (h.ij f a q1 hr q3)
  · obtain ⟨p1, p2⟩ := (hmem f).1 q1
    obtain ⟨p3, p4⟩ := (hmem g).1 q2
    rw [getD_set' hla, getD_set' hla, if_neg p2, if_neg p4] at eq
    exact h.ij f g p1 p3 eq
end

theorem sim6 (n inn out : Nat) : SimSys (pol6 inn out) (polT inn out) (preT n) n (RS n out) where
  len := fun h => h.ln
  size := by
    intro s t fr h
    refine ⟨h.cnt, ?_⟩
    show cntF s.page s.on s.page.length < _
    have := cntF_le s.page s.on s.page.length
    have := h.nN
    rw [h.pg, h.ln] at *; omega
  ghosts := by
    intro s t fr h
    have h1 := h.ol
    have h2 := h.oo
    refine ⟨?_, h.od, by show s.old.length < _; omega⟩
    show t.gh.Perm s.old
    rw [h.gh]
  miss := by
    intro s t fr id h _ _ _
    exact ⟨⟨fun q => by simp [Pol.see, clMiss] at q, fun q => by simp [Pol.see, clMiss] at q⟩, h⟩
  access := by
    intro s t fr a id h ha hfa h1 h2
    have hla : a < fr.length := by rw [h.ln]; exact ha
    refine ⟨⟨fun _ => ha, fun _ => ⟨h2, ?_⟩⟩, ?_⟩
    · rcases hfa with e | ⟨e, hni⟩
      · left; show a ∈ t.nw ∨ a ∈ t.mn; rw [h.nw, h.mn]; exact h.row ha e h1
      · right
        intro g hg e2
        rw [h.nw, h.mn] at hg
        have e2 : t.page g = id := e2
        rw [h.tp g hg] at e2
        have := ((h.mem g).1 hg).1
        refine hni ?_
        rw [← e2, List.getD_eq_getElem?_getD, List.getElem?_eq_getElem (by rw [h.ln]; exact this)]
        exact List.getElem_mem _
    · show RS n out (s.access a id) (t.acc a id) (fr.set a id)
      unfold S6.access T6.acc
      rw [h.nw, h.mn]
      rcases hfa with e | ⟨e, hni⟩
      · have hrow := h.row ha e h1
        have hno : ¬ id ∈ s.old := fun q => h.no a hrow (by rw [mem_of_at e]; exact q)
        by_cases hw : a ∈ s.nw
        · rw [if_pos hw, if_pos hw]
          have := h.again ha e h1 (mn' := s.mn) (fun x => Iff.rfl) h.md
          have et : t = ⟨s.nw, s.mn, t.page, t.ev, s.old⟩ := by
            have e1 := h.nw; have e2 := h.mn; have e3 := h.gh
            cases t; simp only at e1 e2 e3; subst e1 e2 e3; rfl
          rw [et]; exact this
        · have hmm := hrow.resolve_left hw
          rw [if_neg hw, if_neg hw, if_pos (.inl hmm), if_pos hmm, h.gh]
          have ho : awayN s.old id = s.old := by
            unfold awayN
            rw [List.filter_eq_self]
            intro y hy
            have : ¬ y = id := fun q => hno (q ▸ hy)
            simp [this]
          rw [ho]
          exact h.again ha e h1 (mn' := backN s.mn a) (fun x => by
            rw [mem_backN]
            exact ⟨fun q => q.elim (fun q => q) (fun q => q ▸ hmm), fun q => .inl q⟩) (nodup_back h.md a)
      · have hna : ¬ (a ∈ s.nw ∨ a ∈ s.mn) := fun q => ((h.mem a).1 q).2 (mem_of_at e)
        have hn1 : ¬ a ∈ s.nw := fun q => hna (.inl q)
        have hn2 : ¬ a ∈ s.mn := fun q => hna (.inr q)
        have haway : awayN s.mn a = s.mn := by
          unfold awayN
          rw [List.filter_eq_self]
          intro y hy
          have : ¬ y = a := fun q => hn2 (q ▸ hy)
          simp [this]
        unfold T6.come
        rw [if_neg hn1, if_neg hn1, if_neg hn2, h.nw, h.mn, h.gh]
        by_cases hid : id ∈ s.old
        · rw [if_pos (.inr hid), if_pos hid]
          have eb : backN s.mn a = s.mn ++ [a] := by unfold backN; rw [haway]
          rw [eb]
          refine h.came ha e hni h1 (fun x => ?_) h.nd (by rw [← eb]; exact nodup_back h.md a) (fun x hx q => ?_) (fun y hy => mem_awayN.1 hy) (h.od.filter _) (awayN_le _ _)
          · rw [List.mem_append, List.mem_singleton]
            exact ⟨fun q => q.elim (fun q => .inl (.inl q)) (fun q => q.elim (fun q => .inl (.inr q)) .inr), fun q => q.elim (fun q => q.elim .inl (fun q => .inr (.inl q))) (fun q => .inr (.inr q))⟩
          · rcases List.mem_append.1 q with q | q
            · exact h.dj x hx q
            · rw [List.mem_singleton.1 q] at hx; exact hn1 hx
        · rw [if_neg (fun q => q.elim hn2 hid), if_neg hid]
          refine h.came ha e hni h1 (fun x => ?_) ?_ h.md (fun x hx q => ?_) (fun y hy => ⟨hy, fun q => hid (q ▸ hy)⟩) h.od (Nat.le_refl _)
          · rw [List.mem_append, List.mem_singleton]
            exact ⟨fun q => q.elim (fun q => q.elim (fun q => .inl (.inl q)) .inr) (fun q => .inl (.inr q)), fun q => q.elim (fun q => q.elim (fun q => .inl (.inl q)) .inr) (fun q => .inl (.inr q))⟩
          · rw [List.nodup_append]
            refine ⟨h.nd, by simp, fun x hx y hy q => ?_⟩
            rw [List.mem_singleton.1 hy] at q
            exact hn1 (q ▸ hx)
          · rcases List.mem_append.1 hx with p | p
            · exact h.dj x p q
            · rw [List.mem_singleton.1 p] at q; exact hn2 q
  set := by
    intro s t fr a x v h ha hfa h1
    have hrow := h.row ha hfa h1
    refine ⟨⟨fun _ => ha, fun q => by simp [Pol.see, clSet] at q⟩, ?_⟩
    show RS n out ⟨s.page, upd s.on a v, s.nw, s.mn, s.old⟩ (t.setE a v) fr
    have et : t.setE a v = ⟨t.nw, t.mn, t.page, upd t.ev a v, t.gh⟩ := if_pos (by rw [h.nw, h.mn]; exact hrow)
    rw [et]
    refine ⟨h.pg, h.ln, h.nw, h.mn, h.gh, by show upd t.ev a v = _; rw [h.ev], h.nd, h.md, h.dj, h.mem, h.tp, fun f q => ?_, h.od, h.ol, h.oo, h.no, h.ij, h.nN⟩
    have q : upd s.on a v f = true := q
    by_cases e : f = a
    · rw [e]; exact hrow
    · rw [upd_other _ _ e] at q; exact h.on f q
  victim := by
    intro s t fr id h _ _ _
    exact goes_vic inn h.nw h.mn h.ev
  none := by
    intro s t fr id h _ _ _
    refine ⟨?_, ⟨fun q => by simp [Pol.see, clVic] at q, fun q => by simp [Pol.see, clVic] at q⟩⟩
    show s.vic inn = none ↔ cntF s.page s.on s.page.length = 0
    rw [← goes_vic inn h.nw h.mn h.ev, ← h.cnt]
    exact goes_none
  gone := by
    intro s t fr a id h _ _ _ hv
    have hv' : s.vic inn = some a := hv
    have hg : (pol6 inn out).gone s id = s.gone out a := by show (match s.vic inn with | none => s | some f => s.gone out f) = _; rw [hv']
    have hgo : t.goes inn = some a := by rw [goes_vic inn h.nw h.mn h.ev]; exact hv'
    have hg2 : (polT inn out).gone t id = t.gone out a := by show (match t.goes inn with | none => t | some f => t.gone out f) = _; rw [hgo]
    have hrow := vic_some hv'
    have ha : a < n := ((h.mem a).1 hrow).1
    rw [hg, hg2]
    refine ⟨ha, ⟨fun q => by simp [Pol.see, clVic] at q, fun q => by simp [Pol.see, clVic] at q⟩, ?_⟩
    unfold S6.gone S6.remove
    by_cases hw : a ∈ s.nw
    · rw [if_pos hw, gone_new out (by rw [h.nw]; exact hw)]
      rw [h.nw, h.mn, h.gh, h.tp a hrow]
      have hpa : s.page.getD a 0 = fr.getD a 0 := by rw [h.pg]
      rw [hpa]
      have hnew : ¬ fr.getD a 0 ∈ s.old := h.no a hrow
      have hnd : (s.old ++ [fr.getD a 0]).Nodup := by
        rw [List.nodup_append]
        refine ⟨h.od, by simp, fun x hx y hy q => ?_⟩
        rw [List.mem_singleton.1 hy] at q
        exact hnew (q ▸ hx)
      refine (h.went ha hrow (old' := cutOld out (s.old ++ [fr.getD a 0])) (fun y hy => ?_) ?_ ?_)
      · rcases List.mem_append.1 (cutOld_mem hy) with q | q
        · exact .inl q
        · exact .inr (List.mem_singleton.1 q)
      · unfold cutOld; split
        · exact hnd.sublist (List.drop_sublist _ _)
        · exact hnd
      · have := h.ol
        unfold cutOld; split
        · rw [List.length_drop, List.length_append]; simp; omega
        · omega
    · rw [if_neg hw, gone_main out (by rw [h.nw]; exact hw) (by rw [h.mn]; exact hrow.resolve_left hw)]
      rw [h.nw, h.mn, h.gh]
      exact h.went ha hrow (fun y hy => .inl hy) h.od h.ol
  remove := by
    intro s t fr a x h ha hfa h1
    have hrow := h.row ha hfa h1
    refine ⟨⟨fun _ => ha, fun q => by simp [Pol.see, clRem] at q⟩, ?_⟩
    show RS n out (s.remove a) (t.rem a) (fr.set a 0)
    unfold T6.rem S6.remove
    rw [if_pos (by rw [h.nw, h.mn]; exact hrow), h.nw, h.mn, h.gh]
    exact h.went ha hrow (fun y hy => .inl hy) h.od h.ol
end Go.Proofs.Ytiemelhholbngaa

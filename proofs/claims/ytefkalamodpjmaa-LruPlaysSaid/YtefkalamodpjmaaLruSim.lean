/-
  LRU as functions; in memory it is what Replay is told of; and it goes as the document's.
-/
import Derived.Test.YtefkalamodpjmaaSim
import Derived.Test.YtefkalamodpjmaaSeen04
import Derived.Test.YtefkalamodpjmaaLruC
namespace Go.Proofs.Ytefkalamodpjmaa
open Go.RowKit
set_option linter.unusedVariables false

abbrev LT := List Nat × (Nat → Bool)
def lruRem (t : LT) (f : Nat) : LT := (awayL t.1 f, setL t.1 t.2 f false)
def lruPol : Pol LT where
  miss t _ := t
  access t f _ := (backL t.1 f, t.2)
  set t f v := (t.1, setL t.1 t.2 f v)
  victim t _ := firstL t.1 t.2
  gone t _ := match firstL t.1 t.2 with | none => t | some f => lruRem t f
  remove t f := lruRem t f
  size t := cntL t.1 t.2
  ghosts _ := []
def lruPre (n : Nat) (_ : LT) (c : Cl) : Prop := (c.kind = 1 ∨ c.kind = 2 ∨ c.kind = 4) → c.frame < n
def lruCR (b n : Nat) (w : World) (t : LT) (F : Nat → Prop) : Prop := LR w b n t.1 t.2 F

theorem lru_cod (b n : Nat) : CodSys lruPol (lruCR b n) b (lruPre n) where
  fr := by
    intro w w' s F G h f hd
    exact LR.fr h f hd
  lt := by
    intro w s F h
    exact LR.lt h
  miss := by
    intro w s F c h hp hk
    exact (lru_miss _ _).mono fun e w' ⟨he, hw⟩ => ⟨he, F, hw ▸ h, hw ▸ Fr.refl _ _, fun i hi => .inl hi⟩
  access := by
    intro w s F c h hp hk
    exact (lru_access h c.frame (hp (.inl hk)) _).mono fun e w' ⟨he, h', hf⟩ => ⟨he, F, h', hf, fun i hi => .inl hi⟩
  set := by
    intro w s F c h hp hk
    exact (lru_set h c.frame (hp (.inr (.inl hk))) c.on).mono fun e w' ⟨he, h', hf⟩ => ⟨he, F, h', hf, fun i hi => .inl hi⟩
  victimNo := by
    intro w s F c h hp hk hv
    have h0 : cntL s.1 s.2 = 0 := by
      rcases Nat.eq_zero_or_pos (cntL s.1 s.2) with q | q
      · exact q
      · obtain ⟨f, j, e, _⟩ := firstL_some q
        have hv : firstL s.1 s.2 = none := hv
        rw [e] at hv; cases hv
    exact (lru_victim_no h _ h0).mono fun e w' ⟨he, hw⟩ => ⟨he, F, hw ▸ h, hw ▸ Fr.refl _ _, fun i hi => .inl hi⟩
  victimYes := by
    intro w s F c a h hp hk hv
    have hv : firstL s.1 s.2 = some a := hv
    have hg : lruPol.gone s c.page = lruRem s a := by show (match firstL s.1 s.2 with | none => s | some f => lruRem s f) = _; rw [hv]
    rw [hg]
    exact (lru_victim_yes h _ a hv).mono fun e w' ⟨he, h', hf⟩ => ⟨he, F, h', hf, fun i hi => .inl hi⟩
  remove := by
    intro w s F c h hp hk
    exact (lru_remove h c.frame (hp (.inr (.inr hk)))).mono fun e w' ⟨he, h', hf⟩ => ⟨he, F, h', hf, fun i hi => .inl hi⟩
  size := by
    intro w s F h
    obtain ⟨rb, eb, FR, hc, hF⟩ := h
    exact (lru_size hc).mono fun e w' ⟨he, hw⟩ => ⟨he, hw ▸ Fr.refl _ _⟩
  ghosts := by
    intro w s F h
    exact (lru_ghosts _).mono fun e w' ⟨he, hw⟩ => ⟨_, he, SlK.nil _ _, hw ▸ Fr.refl _ _⟩

/-- As many of the row may go as frames that have a page may. -/
theorem cnt_frames {n : Nat} {s : LS} {fr : List Nat} (hc : lsCo n s fr) (hn : s.l.Nodup) : cntL s.l s.on = cntF s.page s.on s.page.length := by
  obtain ⟨e1, e2, e3, e4⟩ := hc
  unfold cntL cntF
  apply List.Perm.length_eq
  refine (List.perm_ext_iff_of_nodup (hn.filter _) (List.nodup_range.filter _)).2 (fun f => ?_)
  simp only [List.mem_filter, List.mem_range, okF, Bool.and_eq_true, Bool.not_eq_true', decide_eq_false_iff_not, e1, e2]
  constructor
  · rintro ⟨h1, h2⟩
    exact ⟨((e3 f).1 h1).1, ((e3 f).1 h1).2, h2⟩
  · rintro ⟨h1, h2, h3⟩
    exact ⟨(e3 f).2 ⟨h1, h2⟩, h3⟩
def lruR (n : Nat) (s : LS) (t : LT) (fr : List Nat) : Prop := lsCo n s fr ∧ s.l.Nodup ∧ t = (s.l, s.on) ∧ n < 1000
theorem find_none_iff {n : Nat} {s : LS} {fr : List Nat} (hc : lsCo n s fr) (hn : s.l.Nodup) : s.l.find? s.on = none ↔ cntF s.page s.on s.page.length = 0 := by
  rw [← cnt_frames hc hn]
  constructor
  · intro h
    rcases Nat.eq_zero_or_pos (cntL s.l s.on) with q | q
    · exact q
    · obtain ⟨f, j, e, _⟩ := firstL_some q
      have e : s.l.find? s.on = some f := e
      rw [h] at e; cases e
  · intro h; exact firstL_none h

theorem lru_sim (n : Nat) : SimSys lsPol lruPol (lruPre n) n (lruR n) where
  len := fun h => h.1.2.1
  size := by
    rintro s t fr ⟨hc, hn, rfl, hN⟩
    refine ⟨?_, ?_⟩
    · show cntL s.l s.on = _
      rw [cnt_frames hc hn]; rfl
    · show cntF s.page s.on s.page.length < _
      have := cntF_le s.page s.on s.page.length
      rw [hc.1, hc.2.1] at *; omega
  ghosts := fun _ => ⟨List.Perm.refl _, List.nodup_nil, by simp [lsPol]⟩
  miss := by
    intro s t fr id h _ _ _
    exact ⟨fun q => by simp [Pol.see, clMiss] at q, h⟩
  access := by
    rintro s t fr a id ⟨⟨e1, e2, e3, e4⟩, hn, rfl, hN⟩ ha hfa h1 h2
    refine ⟨fun _ => ha, ⟨by show s.page.set a id = _; rw [e1], by simp [e2], fun f => ?_, fun f hf => mem_backN.2 (.inl (e4 f hf))⟩, nodup_back hn a, rfl, hN⟩
    show f ∈ backN s.l a ↔ _
    rw [mem_backN, e3, getD_setA (by omega)]
    by_cases e : f = a
    · subst e; simp; omega
    · simp [e]
  set := by
    rintro s t fr a x v ⟨⟨e1, e2, e3, e4⟩, hn, rfl, hN⟩ ha hfa h1
    have hm : a ∈ s.l := (e3 a).2 ⟨ha, by rw [List.getD_eq_getElem?_getD, hfa]; show ¬ x = 0; omega⟩
    refine ⟨fun _ => ha, ⟨e1, e2, e3, fun f hf => ?_⟩, hn, ?_, hN⟩
    · by_cases e : f = a
      · rw [e]; exact hm
      · have hf : upd s.on a v f = true := hf
        rw [upd_other _ _ e] at hf; exact e4 f hf
    · show (s.l, setL s.l s.on a v) = (s.l, upd s.on a v)
      rw [show setL s.l s.on a v = upd s.on a v from if_pos hm]
  victim := by
    rintro s t fr id ⟨hc, hn, rfl, hN⟩ _ _ _
    rfl
  none := by
    rintro s t fr id ⟨hc, hn, rfl, hN⟩ _ _ _
    exact ⟨find_none_iff hc hn, fun q => by simp [Pol.see, clVic] at q⟩
  gone := by
    rintro s t fr a id ⟨⟨e1, e2, e3, e4⟩, hn, rfl, hN⟩ _ _ _ hv
    have hv' : s.l.find? s.on = some a := hv
    have hg : lsPol.gone s id = s.remove a := by show (match s.l.find? s.on with | none => s | some a => s.remove a) = _; rw [hv']
    have hg2 : lruPol.gone (s.l, s.on) id = lruRem (s.l, s.on) a := by show (match firstL s.l s.on with | none => (s.l, s.on) | some f => lruRem (s.l, s.on) f) = _; rw [show firstL s.l s.on = some a from hv']
    have hm : a ∈ s.l := List.mem_of_find?_eq_some hv'
    have ha : a < n := ((e3 a).1 hm).1
    rw [hg, hg2]
    refine ⟨ha, fun q => by simp [Pol.see, clVic] at q, ⟨by show s.page.set a 0 = _; rw [e1], by simp [e2], fun f => ?_, fun f hf => ?_⟩, hn.filter _, ?_, hN⟩
    · show f ∈ awayN s.l a ↔ _
      rw [mem_awayN, e3, getD_setA (by omega)]
      by_cases e : f = a
      · subst e; simp
      · simp [e]
    · have hf : upd s.on a false f = true := hf
      by_cases e : f = a
      · subst e; rw [upd_same] at hf; cases hf
      · rw [upd_other _ _ e] at hf; exact mem_awayN.2 ⟨e4 f hf, e⟩
    · show (awayL s.l a, setL s.l s.on a false) = (awayN s.l a, upd s.on a false)
      rw [show setL s.l s.on a false = upd s.on a false from if_pos hm]; rfl
  remove := by
    rintro s t fr a x ⟨⟨e1, e2, e3, e4⟩, hn, rfl, hN⟩ ha hfa h1
    have hm : a ∈ s.l := (e3 a).2 ⟨ha, by rw [List.getD_eq_getElem?_getD, hfa]; show ¬ x = 0; omega⟩
    refine ⟨fun _ => ha, ⟨by show s.page.set a 0 = _; rw [e1], by simp [e2], fun f => ?_, fun f hf => ?_⟩, hn.filter _, ?_, hN⟩
    · show f ∈ awayN s.l a ↔ _
      rw [mem_awayN, e3, getD_setA (by omega)]
      by_cases e : f = a
      · subst e; simp
      · simp [e]
    · have hf : upd s.on a false f = true := hf
      by_cases e : f = a
      · subst e; rw [upd_same] at hf; cases hf
      · rw [upd_other _ _ e] at hf; exact mem_awayN.2 ⟨e4 f hf, e⟩
    · show (awayL s.l a, setL s.l s.on a false) = (awayN s.l a, upd s.on a false)
      rw [show setL s.l s.on a false = upd s.on a false from if_pos hm]; rfl
end Go.Proofs.Ytefkalamodpjmaa

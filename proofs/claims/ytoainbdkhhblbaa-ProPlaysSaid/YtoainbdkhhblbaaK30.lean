/-
  Pro: what lies in memory stands for the ring of entries: the whole, and what each step leaves. Plain facts, with no program in sight.
-/
import Derived.Test.YtoainbdkhhblbaaK29
namespace Go.Proofs.Ytoainbdkhhblbaa
open Go.RowKit
set_option linter.unusedVariables false
set_option linter.unusedSimpArgs false

structure Rf (n : Nat) (r : Raw) (s : PrS) : Prop where
  rl : RL r.ids r.h r.e s.L s.hd
  goal : r.goal = s.goal
  hot : r.hot = s.hotN
  v : ∀ x ∈ r.ids, r.v x = s.mayGo (r.e x)
  size : r.size = s.L.countP s.mayGo
  fm1 : ∀ f, f < n → ∀ x : Nat, r.fm f = (x : Int) → x ∈ r.ids ∧ (r.e x).fr = f
  fm2 : ∀ f, f < n → ∀ x ∈ r.ids, (r.e x).fr = f → r.fm f = (x : Int)
  fm0 : ∀ f, f < n → r.fm f = -1 ∨ ∃ x : Nat, r.fm f = x
  mp : ∀ (p : Int) (x : Nat), r.mp p = some x ↔ x ∈ r.ids ∧ (r.e x).fr < 0 ∧ ((r.e x).pg : Int) = p
  mc : r.mc = s.gone
  tot : r.ids.length + r.sp.length = 2 * n
section
variable {n m : Nat} {r : Raw} {s : PrS} {i x f : Nat} {y : En}
theorem away_mem {l : List Nat} {x z : Nat} : z ∈ awayN l x ↔ z ∈ l ∧ ¬ z = x := by unfold awayN; simp
theorem countP_at {p q : En → Bool} : ∀ {l : List En} {i : Nat} {x : En}, l[i]? = some x → (∀ (j : Nat) (y : En), l[j]? = some y → ¬ j = i → p y = q y) → l.countP q + (if p x = true then 1 else 0) = l.countP p + (if q x = true then 1 else 0)
  | [], i, x, h, _ => by simp at h
  | a :: l, 0, x, h, hj => by
    simp at h; subst h
    have : l.countP q = l.countP p := by
      apply List.countP_congr
      intro y hy
      obtain ⟨k, hk⟩ := List.getElem?_of_mem hy
      rw [hj (k + 1) y (by simpa using hk) (by omega)]
    simp only [List.countP_cons, this]; omega
  | a :: l, i + 1, x, h, hj => by
    have := countP_at (p := p) (q := q) (l := l) (i := i) (x := x) (by simpa using h) (fun j y hy hne => hj (j + 1) y (by simpa using hy) (by omega))
    have h0 := hj 0 a rfl (by omega)
    simp only [List.countP_cons, h0]; omega
theorem Rf.get (h : Rf n r s) (hx : r.ids[i]? = some x) : s.L[i]? = some (r.e x) := h.rl.get hx
theorem Rf.pgs (h : Rf n r s) (g : Nat → Nat) : Rf n r { s with pg := g } := ⟨h.rl, h.goal, h.hot, h.v, h.size, h.fm1, h.fm2, h.fm0, h.mp, h.mc, h.tot⟩
theorem Rf.goals (h : Rf n r s) (g : Nat) : Rf n { r with goal := g } { s with goal := g } := ⟨h.rl, rfl, h.hot, h.v, h.size, h.fm1, h.fm2, h.fm0, h.mp, h.mc, h.tot⟩
theorem Rf.move (h : Rf n r s) (j : Nat) : Rf n (r.move j) (s.mv j) := ⟨h.rl.move j, h.goal, h.hot, h.v, h.size, h.fm1, h.fm2, h.fm0, h.mp, h.mc, h.tot⟩
/-- Flags. -/
theorem Rf.put (h : Rf n r s) (hx : r.ids[i]? = some x) (e1 : y.pg = (r.e x).pg) (e2 : y.fr = (r.e x).fr) {z : Nat} (hz : z + (if (r.e x).hot = true then 1 else 0) = r.hot + (if y.hot = true then 1 else 0)) : Rf n { r with e := upd r.e x y, hot := z } (s.put i y) := by
  have hL := h.get hx
  have hm : ∀ a b : Nat, (upd r.e x y a).fr = (r.e a).fr ∧ (upd r.e x y a).pg = (r.e a).pg := fun a _ => by
    by_cases q : a = x
    · subst q; rw [upd_same]; exact ⟨e2, e1⟩
    · rw [upd_other _ _ q]; exact ⟨rfl, rfl⟩
  have mg : ∀ e e' : En, e'.fr = e.fr → s.mayGo e' = s.mayGo e := fun e e' q => by unfold PrS.mayGo; rw [q]
  refine ⟨h.rl.put hx y, h.goal, ?_, fun a ha => ?_, ?_, fun f hf a ha => ?_, fun f hf a ha hfr => ?_, h.fm0, fun p a => ?_, ?_, h.tot⟩
  · have := put_hot (y := y) hL
    have h2 := h.hot
    show z = (s.put i y).hotN
    omega
  · show r.v a = s.mayGo (upd r.e x y a)
    rw [mg _ _ (hm a 0).1]; exact h.v a ha
  · show r.size = (s.L.set i y).countP s.mayGo
    have := countP_set (p := s.mayGo) (y := y) hL
    rw [mg _ _ e2] at this
    rw [h.size]; omega
  · have := h.fm1 f hf a ha
    exact ⟨this.1, by show (upd r.e x y a).fr = f; rw [(hm a 0).1]; exact this.2⟩
  · exact h.fm2 f hf a ha (by rw [← (hm a 0).1]; exact hfr)
  · show r.mp p = some a ↔ a ∈ r.ids ∧ (upd r.e x y a).fr < 0 ∧ ((upd r.e x y a).pg : Int) = p
    rw [(hm a 0).1, (hm a 0).2]; exact h.mp p a
  · show r.mc = (s.put i y).gone
    rw [put_gone hL e2]; exact h.mc
/-- Whether a page may go. -/
theorem Rf.setV (h : Rf n r s) (hk : PK n m s) (hx : r.ids[i]? = some x) (hf : (r.e x).fr = (f : Int)) (u : Bool) : Rf n (r.setV x u) { s with on := upd s.on f u } := by
  have hL := h.get hx
  have hxm := List.mem_of_getElem? hx
  have hv := h.v x hxm
  have hvx : r.v x = s.on f := by rw [hv]; unfold PrS.mayGo; rw [hf]; simp
  have mg : ∀ (j : Nat) (e : En), s.L[j]? = some e → ¬ j = i → s.mayGo e = PrS.mayGo { s with on := upd s.on f u } e := fun j e he hne => by
    unfold PrS.mayGo
    by_cases q : 0 ≤ e.fr
    · have : ¬ e.fr.toNat = f := fun c => hne (hk.uq j i e _ he hL (.inr ⟨by rw [hf]; omega, q⟩))
      show _ = (decide (0 ≤ e.fr) && upd s.on f u e.fr.toNat)
      rw [upd_other _ _ this]
    · simp [q]
  have mgx : PrS.mayGo { s with on := upd s.on f u } (r.e x) = u := by
    unfold PrS.mayGo
    show (decide (0 ≤ (r.e x).fr) && upd s.on f u (r.e x).fr.toNat) = u
    rw [hf, Int.toNat_natCast, upd_same]; simp
  have hc := countP_at (p := s.mayGo) (q := PrS.mayGo { s with on := upd s.on f u }) hL mg
  rw [mgx, ← hv] at hc
  have hs := h.size
  have hsame : ∀ a ∈ r.ids, ¬ a = x → r.v a = PrS.mayGo { s with on := upd s.on f u } (r.e a) := fun a ha hne => by
    obtain ⟨j, hj⟩ := List.getElem?_of_mem ha
    rw [h.v a ha]
    exact mg j _ (h.get hj) (fun c => hne (by rw [c, hx] at hj; simpa using hj.symm))
  unfold Raw.setV
  by_cases q : r.v x = u
  · rw [if_pos q]
    refine ⟨h.rl, h.goal, h.hot, fun a ha => ?_, ?_, h.fm1, h.fm2, h.fm0, h.mp, h.mc, h.tot⟩
    · by_cases e : a = x
      · subst e; rw [mgx]; exact q
      · exact hsame a ha e
    · show r.size = s.L.countP (PrS.mayGo { s with on := upd s.on f u })
      rw [q] at hc; omega
  · rw [if_neg q]
    refine ⟨h.rl, h.goal, h.hot, fun a ha => ?_, ?_, h.fm1, h.fm2, h.fm0, h.mp, h.mc, h.tot⟩
    · show upd r.v x u a = _
      by_cases e : a = x
      · subst e; rw [upd_same, mgx]
      · rw [upd_other _ _ e]; exact hsame a ha e
    · show (if u = true then r.size + 1 else r.size - 1) = s.L.countP (PrS.mayGo { s with on := upd s.on f u })
      cases u
      · have : r.v x = true := by simpa using q
        rw [this] at hc
        simp at hc
        simp; omega
      · have : r.v x = false := by simpa using q
        rw [this] at hc
        simp at hc
        simp; omega
theorem Rf.size_pos (h : Rf n r s) (hx : x ∈ r.ids) (hv : r.v x = true) : 1 ≤ r.size := by
  rw [h.size]
  obtain ⟨i, hi⟩ := List.getElem?_of_mem hx
  have := h.v x hx
  rw [hv] at this
  exact List.countP_pos_iff.2 ⟨r.e x, List.mem_of_getElem? (h.get hi), this.symm⟩
theorem Rf.hot_pos (h : Rf n r s) (hx : x ∈ r.ids) (hv : (r.e x).hot = true) : 1 ≤ r.hot := by
  rw [h.hot]
  obtain ⟨i, hi⟩ := List.getElem?_of_mem hx
  exact List.countP_pos_iff.2 ⟨r.e x, List.mem_of_getElem? (h.get hi), hv⟩
theorem Rf.len (h : Rf n r s) : s.L.length = r.ids.length := h.rl.len
theorem Rf.size_le (h : Rf n r s) : r.size ≤ 2 * n := by
  rw [h.size]
  have := List.countP_le_length (p := s.mayGo) (l := s.L)
  have := h.len
  have := h.tot
  omega
theorem Rf.hot_le (h : Rf n r s) : r.hot ≤ 2 * n := by
  rw [h.hot]
  have := List.countP_le_length (p := fun e : En => e.hot) (l := s.L)
  have := h.len
  have := h.tot
  unfold PrS.hotN
  omega
theorem leave_len (hn : r.ids.Nodup) (hx : r.ids[i]? = some x) : (awayN r.ids x).length + 1 = r.ids.length := awayN_len hn (List.mem_of_getElem? hx)
/-- A ghost goes. -/
theorem Rf.ghost (h : Rf n r s) (hx : r.ids[i]? = some x) (hf : (r.e x).fr < 0) : Rf n (r.pdrop x) (s.drop i) := by
  have hL := h.get hx
  have hxm := List.mem_of_getElem? hx
  have hmp : r.mp ((r.e x).pg : Nat) = some x := (h.mp _ x).2 ⟨hxm, hf, rfl⟩
  have ep : r.pdrop x = Raw.drop { r with hot := if (r.e x).hot = true then r.hot - 1 else r.hot, mp := updP r.mp (r.e x).pg none, mc := r.mc - 1 } x := by
    have hf : (r.cold x).forget x = { r.cold x with mp := updP r.mp (r.e x).pg none, mc := r.mc - 1 } := by
      unfold Raw.forget
      have h1 : ((r.cold x).mp (((r.cold x).e x).pg : Nat)) = some x := hmp
      have h2 : (mpF (r.cold x).mp (((r.cold x).e x).pg : Nat)).isSome = true := by unfold mpF; rw [h1]; rfl
      rw [h1, if_pos (by rfl), h2]; rfl
    unfold Raw.pdrop
    rw [hf]; rfl
  rw [ep]
  have hg := drop_gone hL
  rw [if_pos hf] at hg
  refine ⟨h.rl.leave hx, h.goal, ?_, fun a ha => ?_, ?_, fun f hf' a ha => ?_, fun f hf' a ha hfr => ?_, h.fm0, fun p a => ?_, ?_, ?_⟩
  · have h1 := drop_hot hL
    have h2 := h.hot
    show (if (r.e x).hot = true then r.hot - 1 else r.hot) = (s.drop i).hotN
    by_cases c : (r.e x).hot = true
    · rw [if_pos c] at h1 ⊢; omega
    · rw [if_neg c] at h1 ⊢; omega
  · exact h.v a (away_mem.1 ha).1
  · show r.size = (s.L.eraseIdx i).countP s.mayGo
    have := countP_erase (p := s.mayGo) hL
    have mg : s.mayGo (r.e x) = false := by unfold PrS.mayGo; simp; omega
    rw [mg] at this
    rw [h.size]; simpa using this.symm
  · obtain ⟨q1, q2⟩ := h.fm1 f hf' a ha
    exact ⟨away_mem.2 ⟨q1, fun c => by subst c; omega⟩, q2⟩
  · exact h.fm2 f hf' a (away_mem.1 ha).1 hfr
  · show updP r.mp (r.e x).pg none p = some a ↔ a ∈ awayN r.ids x ∧ (r.e a).fr < 0 ∧ ((r.e a).pg : Int) = p
    rw [away_mem]
    unfold updP
    by_cases e : p = ((r.e x).pg : Int)
    · rw [if_pos e]
      constructor
      · intro q; cases q
      · rintro ⟨⟨a1, a2⟩, a3, a4⟩
        have := (h.mp p a).2 ⟨a1, a3, a4⟩
        rw [e, hmp] at this
        simp only [Option.some.injEq] at this
        exact (a2 this.symm).elim
    · rw [if_neg e, h.mp p a]
      constructor
      · rintro ⟨a1, a3, a4⟩
        exact ⟨⟨a1, fun c => e (by rw [← a4, c])⟩, a3, a4⟩
      · rintro ⟨⟨a1, _⟩, a3, a4⟩
        exact ⟨a1, a3, a4⟩
  · show r.mc - 1 = (s.drop i).gone
    have := h.mc; omega
  · show (awayN r.ids x).length + (r.sp ++ [x]).length = 2 * n
    have := leave_len h.rl.nd hx
    have := h.tot
    simp; omega
/-- Of a page that is in a frame the map knows nothing. -/
theorem Rf.mp_none (h : Rf n r s) (hk : PK n m s) (hx : r.ids[i]? = some x) (hf : 0 ≤ (r.e x).fr) : r.mp ((r.e x).pg : Nat) = none := by
  cases e : r.mp ((r.e x).pg : Nat) with
  | none => rfl
  | some a =>
    obtain ⟨a1, a3, a4⟩ := (h.mp _ a).1 e
    obtain ⟨j, hj⟩ := List.getElem?_of_mem a1
    have := hk.uq j i _ _ (h.get hj) (h.get hx) (.inl (by omega))
    subst this
    rw [hx] at hj
    simp only [Option.some.injEq] at hj
    subst hj
    omega
theorem setV_ids (x : Nat) (u : Bool) : (r.setV x u).sp = r.sp ∧ (r.setV x u).goal = r.goal ∧ (r.setV x u).hot = r.hot ∧ (r.setV x u).mc = r.mc := by unfold Raw.setV; split <;> exact ⟨rfl, rfl, rfl, rfl⟩
theorem setV_v (x : Nat) (u : Bool) (a : Nat) : (r.setV x u).v a = if a = x then u else r.v a := by
  unfold Raw.setV
  by_cases q : r.v x = u
  · rw [if_pos q]
    by_cases e : a = x
    · subst e; rw [if_pos rfl]; exact q
    · rw [if_neg e]
  · rw [if_neg q]
    show upd r.v x u a = _
    unfold upd; rfl
/-- The map is told of a ghost. -/
def Raw.told (r : Raw) (x : Nat) : Raw := { r with mp := updP r.mp (r.e x).pg (some x), mc := r.mc + 1 }
theorem empty_told_e : (r.empty f x).told x = { r.setV x false with e := upd r.e x { r.e x with fr := -1 }, fm := upd r.fm f (-1), mp := updP r.mp (r.e x).pg (some x), mc := r.mc + 1 } := by
  unfold Raw.told Raw.empty
  obtain ⟨a1, a2, a3, a4, a5⟩ := setV_e (r := r) x false
  obtain ⟨_, _, _, b4⟩ := setV_ids (r := r) x false
  simp only [upd_same, a5, b4]
/-- A page's way out of its frame: its entry is a ghost's. -/
theorem Rf.leaves (h : Rf n r s) (hk : PK n m s) (hx : r.ids[i]? = some x) (hf : (r.e x).fr = (f : Int)) : Rf n ((r.empty f x).told x) ((s.empty f).put i { r.e x with fr := -1 }) := by
  have hL := h.get hx
  have hxm := List.mem_of_getElem? hx
  have h0 := h.setV hk hx hf false
  have hno := h.mp_none hk hx (by omega)
  obtain ⟨a1, a2, a3, a4, a5⟩ := setV_e (r := r) x false
  obtain ⟨b1, b2, b3, b4⟩ := setV_ids (r := r) x false
  rw [empty_told_e]
  have hrl := h.rl.put hx { r.e x with fr := -1 }
  have mgx : ∀ on : Nat → Bool, PrS.mayGo { s with on := on } { r.e x with fr := -1 } = false := fun on => by unfold PrS.mayGo; rfl
  have mg0 : PrS.mayGo { s with on := upd s.on f false } (r.e x) = false := by
    unfold PrS.mayGo
    show (decide (0 ≤ (r.e x).fr) && upd s.on f false (r.e x).fr.toNat) = false
    rw [hf, Int.toNat_natCast, upd_same]; simp
  refine ⟨?_, ?_, ?_, fun a ha => ?_, ?_, fun g hg a ha => ?_, fun g hg a ha hfr => ?_, fun g hg => ?_, fun p a => ?_, ?_, ?_⟩
  · show RL (r.setV x false).ids (r.setV x false).h _ _ _
    rw [a3, a4]; exact hrl
  · show (r.setV x false).goal = s.goal
    rw [b2]; exact h.goal
  · show (r.setV x false).hot = _
    rw [b3, h.hot]
    have := put_hot (s := s) (y := { r.e x with fr := -1 }) hL
    exact (Nat.add_right_cancel this).symm
  · show (r.setV x false).v a = PrS.mayGo { s with on := upd s.on f false } (upd r.e x { r.e x with fr := -1 } a)
    by_cases e : a = x
    · subst e; rw [upd_same, mgx, setV_v, if_pos rfl]
    · rw [upd_other _ _ e]
      have := h0.v a (by rw [a3]; have ha : a ∈ (r.setV x false).ids := ha; rw [a3] at ha; exact ha)
      rw [a1] at this; exact this
  · show (r.setV x false).size = (s.L.set i { r.e x with fr := -1 }).countP (PrS.mayGo { s with on := upd s.on f false })
    have h1 := h0.size
    have h2 := countP_set (p := PrS.mayGo { s with on := upd s.on f false }) (y := { r.e x with fr := -1 }) hL
    rw [mgx, mg0] at h2
    rw [h1]
    exact (Nat.add_right_cancel h2).symm
  · have ha : upd r.fm f (-1) g = (a : Int) := ha
    show a ∈ (r.setV x false).ids ∧ (upd r.e x { r.e x with fr := -1 } a).fr = g
    by_cases e : g = f
    · subst e; rw [upd_same] at ha; omega
    · rw [upd_other _ _ e] at ha
      obtain ⟨q1, q2⟩ := h.fm1 g hg a ha
      have : ¬ a = x := fun c => by subst c; omega
      rw [upd_other _ _ this, a3]; exact ⟨q1, q2⟩
  · have ha : a ∈ (r.setV x false).ids := ha
    rw [a3] at ha
    have hfr : (upd r.e x { r.e x with fr := -1 } a).fr = (g : Int) := hfr
    show upd r.fm f (-1) g = (a : Int)
    by_cases e : a = x
    · subst e; rw [upd_same] at hfr; have hfr : (-1 : Int) = g := hfr; omega
    · rw [upd_other _ _ e] at hfr
      have h1 := h.fm2 g hg a ha hfr
      have : ¬ g = f := fun c => by
        subst c
        have h2 := h.fm2 g hg x hxm hf
        rw [h1] at h2
        exact e (by omega)
      rw [upd_other _ _ this]; exact h1
  · show upd r.fm f (-1) g = -1 ∨ _
    by_cases e : g = f
    · subst e; rw [upd_same]; exact .inl rfl
    · rw [upd_other _ _ e]
      rcases h.fm0 g hg with q | ⟨a, q⟩
      · exact .inl q
      · exact .inr ⟨a, by show upd r.fm f (-1) g = _; rw [upd_other _ _ e]; exact q⟩
  · show updP r.mp (r.e x).pg (some x) p = some a ↔ a ∈ (r.setV x false).ids ∧ (upd r.e x { r.e x with fr := -1 } a).fr < 0 ∧ ((upd r.e x { r.e x with fr := -1 } a).pg : Int) = p
    rw [a3]
    unfold updP
    by_cases e : a = x
    · subst e
      rw [upd_same]
      constructor
      · intro q
        refine ⟨hxm, by show (-1 : Int) < 0; omega, ?_⟩
        by_cases ep : p = ((r.e a).pg : Int)
        · exact ep.symm
        · rw [if_neg ep] at q
          have := ((h.mp p a).1 q).2.1
          omega
      · rintro ⟨_, _, q⟩
        have q : ((r.e a).pg : Int) = p := q
        rw [if_pos q.symm]
    · rw [upd_other _ _ e]
      by_cases ep : p = ((r.e x).pg : Int)
      · rw [if_pos ep]
        constructor
        · intro q; simp only [Option.some.injEq] at q; exact (e q.symm).elim
        · rintro ⟨q1, q2, q3⟩
          have := (h.mp p a).2 ⟨q1, q2, q3⟩
          rw [ep, hno] at this; cases this
      · rw [if_neg ep]; exact h.mp p a
  · show r.mc + 1 = (s.L.set i { r.e x with fr := -1 }).countP _
    have h2 := countP_set (p := fun e : En => decide (e.fr < 0)) (y := { r.e x with fr := -1 }) hL
    have h1 := h.mc
    unfold PrS.gone at h1
    rw [h1]
    have c1 : decide ((r.e x).fr < 0) = false := by simp; omega
    simp only [c1] at h2
    simpa using h2.symm
  · show (r.setV x false).ids.length + (r.setV x false).sp.length = 2 * n
    rw [a3, b1]; exact h.tot
theorem put_drop (s : PrS) (i : Nat) (y : En) : (s.put i y).drop i = s.drop i := by
  unfold PrS.put PrS.drop
  simp only [List.length_set, PrS.mk.injEq, and_true, true_and]
  rw [List.eraseIdx_eq_take_drop_succ, List.eraseIdx_eq_take_drop_succ, List.take_set_of_le (Nat.le_refl _), List.drop_set_of_lt (by omega)]
theorem mv_drop {j : Nat} (hi : s.hd j < s.L.length) : (s.mv j).drop (s.hd j) = s.drop (s.hd j) := by
  unfold PrS.mv PrS.drop
  simp only [PrS.mk.injEq, and_true, true_and]
  funext k
  by_cases e : k = j
  · subst e
    rw [upd_same]
    unfold dropH
    by_cases c : s.hd k + 1 < s.L.length
    · rw [Nat.mod_eq_of_lt c]
      (repeat' split) <;> omega
    · have : s.hd k + 1 = s.L.length := by omega
      rw [this, Nat.mod_self]
      (repeat' split) <;> omega
  · rw [upd_other _ _ e]
/-- A frame's entry goes. -/
theorem told_pdrop (hno : r.mp ((r.e x).pg : Nat) = none) : ((r.empty f x).told x).pdrop x = (r.empty f x).pdrop x := by
  obtain ⟨a1, a2, a3, a4, a5⟩ := setV_e (r := r) x false
  have e1 : ((r.empty f x).e x).pg = (r.e x).pg := by show (upd r.e x { r.e x with fr := -1 } x).pg = _; rw [upd_same]
  have e2 : (r.empty f x).mp = r.mp := a5
  have hfun : updP (updP r.mp (r.e x).pg (some x)) (r.e x).pg none = r.mp := by
    funext z; unfold updP
    by_cases q : z = ((r.e x).pg : Int)
    · rw [if_pos q, q, hno]
    · rw [if_neg q, if_neg q]
  have hfun2 : updP r.mp (r.e x).pg none = r.mp := by
    funext z; unfold updP
    by_cases q : z = ((r.e x).pg : Int)
    · rw [if_pos q, q, hno]
    · rw [if_neg q]
  have key : ∀ q : Raw, q.mp ((q.e x).pg : Nat) = none → q.forget x = q := fun q hq => by
    unfold Raw.forget
    split
    · have h1 : (mpF q.mp ((q.e x).pg : Nat)).isSome = false := by unfold mpF; rw [hq]; rfl
      rw [h1]
      have : updP q.mp (q.e x).pg none = q.mp := by
        funext z; unfold updP
        by_cases c : z = ((q.e x).pg : Int)
        · rw [if_pos c, c, hq]
        · rw [if_neg c]
      rw [this]; rfl
    · rfl
  have k1 : ((r.empty f x).cold x).forget x = (r.empty f x).cold x := key _ (by show (r.empty f x).mp (((r.empty f x).e x).pg : Nat) = none; rw [e1, e2]; exact hno)
  have k2 : (((r.empty f x).told x).cold x).forget x = (r.empty f x).cold x := by
    unfold Raw.forget
    have h1 : (((r.empty f x).told x).cold x).mp (((((r.empty f x).told x).cold x).e x).pg : Nat) = some x := by
      show updP (r.empty f x).mp ((r.empty f x).e x).pg (some x) (((r.empty f x).e x).pg : Nat) = some x
      unfold updP; rw [if_pos rfl]
    have h2 : (mpF (((r.empty f x).told x).cold x).mp (((((r.empty f x).told x).cold x).e x).pg : Nat)).isSome = true := by unfold mpF; rw [h1]; rfl
    rw [h1, if_pos (by rfl), h2]
    show ({ ((r.empty f x).told x).cold x with mp := updP (updP (r.empty f x).mp ((r.empty f x).e x).pg (some x)) ((r.empty f x).e x).pg none, mc := (r.empty f x).mc + 1 - 1 } : Raw) = _
    rw [e1, e2, hfun]
    show _ = ({ (r.empty f x) with hot := if ((r.empty f x).e x).hot = true then (r.empty f x).hot - 1 else (r.empty f x).hot } : Raw)
    unfold Raw.cold Raw.told
    simp only [e2, Nat.add_sub_cancel]
  unfold Raw.pdrop
  rw [k1, k2]
theorem Rf.out (h : Rf n r s) (hk : PK n m s) (hx : r.ids[i]? = some x) (hf : (r.e x).fr = (f : Int)) : Rf n ((r.empty f x).pdrop x) ((s.empty f).drop i) := by
  have h1 := h.leaves hk hx hf
  have h2 := h1.ghost (i := i) (x := x) (by rw [empty_told_e]; show (r.setV x false).ids[i]? = some x; rw [(setV_e (r := r) x false).2.2.1]; exact hx) (by rw [empty_told_e]; show (upd r.e x { r.e x with fr := -1 } x).fr < 0; rw [upd_same]; show (-1 : Int) < 0; omega)
  rw [told_pdrop (h.mp_none hk hx (by omega)), put_drop] at h2
  exact h2
end
end Go.Proofs.Ytoainbdkhhblbaa

/-
  Pro: the hands' work ends, and leaves true what was: the hot hand's, the test hand's. Plain facts, with no program in sight.
-/
import Derived.Test.YtfgkaoncojhdeaaProI
namespace Go.Proofs.Ytfgkaoncojhdeaa
open Go.RowKit
set_option linter.unusedVariables false
set_option linter.unusedSimpArgs false

/-- From a hand on. -/
def PrS.rot (s : PrS) (j : Nat) : List En := s.L.drop (s.hd j) ++ s.L.take (s.hd j)
/-- What the hands' work leaves as it is. -/
structure Kept (s s' : PrS) : Prop where
  pg : s'.pg = s.pg
  on : s'.on = s.on
  gn : s'.gone ≤ s.gone
  K : ∀ (a b : Nat), s'.K a b ↔ s.K a b
theorem Kept.refl (s : PrS) : Kept s s := ⟨rfl, rfl, Nat.le_refl _, fun _ _ => Iff.rfl⟩
theorem Kept.trans {a b c : PrS} (h : Kept a b) (k : Kept b c) : Kept a c := ⟨k.pg.trans h.pg, k.on.trans h.on, Nat.le_trans k.gn h.gn, fun x y => (k.K x y).trans (h.K x y)⟩
theorem PM.kept {n : Nat} {s s' : PrS} (h : PM n s) (k : Kept s s') : PM n s' := h.of k.pg k.on k.K

section
variable {n m : Nat} {s s' fin : PrS} {i j : Nat} {x y : En}
theorem rot_cons (hx : s.L[s.hd j]? = some x) : s.rot j = x :: (s.L.drop (s.hd j + 1) ++ s.L.take (s.hd j)) := by
  unfold PrS.rot
  have := get_lt hx
  rw [List.drop_eq_getElem_cons this]
  rw [List.getElem?_eq_getElem this] at hx
  simp only [Option.some.injEq] at hx
  rw [hx]; rfl
theorem rot_put_mv (hi : s.hd j < s.L.length) (y : En) : ((s.put (s.hd j) y).mv j).rot j = s.L.drop (s.hd j + 1) ++ s.L.take (s.hd j) ++ [y] := by
  unfold PrS.rot PrS.put PrS.mv
  simp only [upd_same, List.length_set]
  generalize s.hd j = h at *
  have tk : (s.L.set h y).take (h + 1) = s.L.take h ++ [y] := by
    apply List.ext_getElem?
    intro k
    rw [List.getElem?_take, List.getElem?_set]
    have hl : (s.L.take h).length = h := by rw [List.length_take]; omega
    by_cases e : k < h
    · rw [if_pos (by omega), if_neg (by omega), List.getElem?_append_left (by omega), List.getElem?_take, if_pos e]
    · by_cases e2 : k = h
      · subst e2; rw [if_pos (by omega), if_pos rfl, if_pos hi, List.getElem?_append_right (by omega), hl]; simp
      · rw [if_neg (by omega), List.getElem?_append_right (by omega), hl, List.getElem?_eq_none (by simp; omega)]
  by_cases e : h + 1 < s.L.length
  · rw [Nat.mod_eq_of_lt e, tk, List.drop_set_of_lt (by omega), List.append_assoc]
  · have : h + 1 = s.L.length := by omega
    rw [this, Nat.mod_self, List.drop_zero, List.take_zero, List.append_nil, List.drop_length, List.nil_append, ← tk, this, List.take_of_length_le (by simp)]
theorem rot_mv (hx : s.L[s.hd j]? = some x) : (s.mv j).rot j = s.L.drop (s.hd j + 1) ++ s.L.take (s.hd j) ++ [x] := by
  have h := rot_put_mv (j := j) (get_lt hx) x
  have e : s.L.set (s.hd j) x = s.L := by
    apply List.ext_getElem?; intro k; rw [List.getElem?_set]
    by_cases q : s.hd j = k
    · rw [← q, if_pos rfl, if_pos (get_lt hx), hx]
    · rw [if_neg q]
  have e2 : s.put (s.hd j) x = s := by unfold PrS.put; rw [e]
  rw [e2] at h; exact h
theorem rot_drop (hi : s.hd j < s.L.length) : (s.drop (s.hd j)).rot j = s.L.drop (s.hd j + 1) ++ s.L.take (s.hd j) := by
  unfold PrS.rot PrS.drop dropH
  simp only [Nat.lt_irrefl, if_false]
  generalize s.hd j = h at *
  rw [List.eraseIdx_eq_take_drop_succ]
  have hl : (s.L.take h).length = h := by rw [List.length_take]; omega
  by_cases e : s.L.length - 1 ≤ h
  · rw [if_pos e, List.drop_zero, List.take_zero, List.append_nil, List.drop_eq_nil_of_le (by omega), List.append_nil, List.nil_append]
  · rw [if_neg e, List.drop_append_of_le_length (by omega), List.drop_eq_nil_of_le (by omega), List.nil_append, List.take_append_of_le_length (by omega), List.take_of_length_le (by omega)]
theorem rot_count (p : En → Bool) : (s.rot j).countP p = s.L.countP p := by
  unfold PrS.rot
  rw [List.countP_append, Nat.add_comm, ← List.countP_append, List.take_append_drop]

/-! ### One step of the hot hand -/
theorem ends_kept (h : PK n m s) (hx : s.L[i]? = some x) : PK n m (s.ends i x) ∧ Kept s (s.ends i x) := by
  obtain ⟨q1, q2, q3, q4⟩ := h.el x (mem_get hx)
  unfold PrS.ends
  by_cases hg : x.fr < 0
  · rw [if_pos hg]
    have hx' : s.less.L[i]? = some x := hx
    exact ⟨h.less.drop hx', rfl, rfl, by have := drop_gone hx'; have e : s.less.gone = s.gone := rfl; omega, fun a b => by rw [drop_K h.less hx']; exact ⟨fun q => q.1, fun q => ⟨q, by omega⟩⟩⟩
  · rw [if_neg hg]
    have hx' : s.less.L[i]? = some x := hx
    exact ⟨h.less.put (y := { x with test := false }) hx' rfl rfl (fun q => (hg q).elim) (fun _ => rfl), rfl, rfl, Nat.le_of_eq (put_gone (s := s.less) (y := { x with test := false }) hx' rfl), fun a b => put_K (y := { x with test := false }) hx' rfl rfl a b⟩
theorem ends_hot (hx : s.L[i]? = some x) (hc : x.hot = false) : (s.ends i x).hotN = s.hotN := by
  have hx' : s.less.L[i]? = some x := hx
  unfold PrS.ends
  split
  · have h1 := drop_hot hx'
    rw [hc] at h1
    have h2 : s.less.hotN = s.hotN := rfl
    simp at h1; omega
  · have h1 := put_hot (y := { x with test := false }) hx'
    have h2 : s.less.hotN = s.hotN := rfl
    have h3 : ({ x with test := false } : En).hot = x.hot := rfl
    rw [h3] at h1; omega
theorem hotStep_kept (h : PK n m s) (hx : s.L[s.hd 0]? = some x) : PK n m (hotStep s x).1 ∧ Kept s (hotStep s x).1 ∧ (hotStep s x).1.hotN + (if (hotStep s x).2 = true then 1 else 0) = s.hotN := by
  obtain ⟨q1, q2, q3, q4⟩ := h.el x (mem_get hx)
  have hi := get_lt hx
  unfold hotStep
  by_cases hh : x.hot = true
  · rw [if_pos hh]
    have hnf : ¬ x.fr < 0 := fun q => by have := (q3 q).1; rw [q4 hh] at this; cases this
    by_cases hr : x.ref = true
    · rw [if_pos hr]
      refine ⟨(h.put (y := { x with ref := false }) hx rfl rfl (fun q => (hnf q).elim) q4).mv (by show 0 < (s.L.set _ _).length; rw [List.length_set]; omega) 0, ⟨rfl, rfl, Nat.le_of_eq (put_gone (y := { x with ref := false }) hx rfl), fun a b => put_K (y := { x with ref := false }) hx rfl rfl a b⟩, ?_⟩
      have h1 := put_hot (y := { x with ref := false }) hx
      have h2 : ((s.put (s.hd 0) { x with ref := false }).mv 0).hotN = (s.put (s.hd 0) { x with ref := false }).hotN := rfl
      have h3 : ({ x with ref := false } : En).hot = x.hot := rfl
      rw [h3] at h1
      simp only [h2, Bool.false_eq_true, if_false]; omega
    · rw [if_neg hr]
      refine ⟨(h.put (y := { x with hot := false }) hx rfl rfl (fun q => (hnf q).elim) (fun q => (by cases q))).mv (by show 0 < (s.L.set _ _).length; rw [List.length_set]; omega) 0, ⟨rfl, rfl, Nat.le_of_eq (put_gone (y := { x with hot := false }) hx rfl), fun a b => put_K (y := { x with hot := false }) hx rfl rfl a b⟩, ?_⟩
      have h1 := put_hot (y := { x with hot := false }) hx
      have h2 : ((s.put (s.hd 0) { x with hot := false }).mv 0).hotN = (s.put (s.hd 0) { x with hot := false }).hotN := rfl
      have h3 : ({ x with hot := false } : En).hot = false := rfl
      rw [h3, hh] at h1
      simp only [Bool.false_eq_true, if_false, if_true] at h1
      simp only [h2, if_true]; omega
  · rw [if_neg hh]
    have hc : x.hot = false := by simpa using hh
    by_cases ht : x.test = true
    · rw [if_pos ht]
      obtain ⟨k1, k2⟩ := ends_kept h hx
      have k3 := ends_hot hx hc
      by_cases hg : x.fr < 0
      · rw [if_pos hg]; exact ⟨k1, k2, by simpa using k3⟩
      · rw [if_neg hg]
        have hlen : 0 < (s.ends (s.hd 0) x).L.length := by unfold PrS.ends; rw [if_neg hg]; show 0 < (s.L.set _ _).length; rw [List.length_set]; omega
        exact ⟨k1.mv hlen 0, ⟨k2.pg, k2.on, k2.gn, k2.K⟩, by simp only [Bool.false_eq_true, if_false]; exact k3⟩
    · rw [if_neg ht]
      exact ⟨h.mv (by omega) 0, ⟨rfl, rfl, Nat.le_refl _, fun _ _ => Iff.rfl⟩, by simp; rfl⟩
theorem workO_kept : ∀ {k : Nat} {s fin : PrS}, PK n m s → workO k s = some fin → PK n m fin ∧ Kept s fin ∧ fin.hotN = s.hotN - 1
  | 0, s, fin, _, e => by cases e
  | k + 1, s, fin, h, e => by
    unfold workO at e
    by_cases h0 : s.hotN = 0
    · rw [if_pos h0] at e; cases e; exact ⟨h, Kept.refl _, by omega⟩
    · rw [if_neg h0] at e
      obtain ⟨x, hx⟩ := h.at (hot_pos h0) (j := 0) (by omega)
      obtain ⟨k1, k2, k3⟩ := hotStep_kept h hx
      rw [hx] at e
      simp only at e
      by_cases hd : (hotStep s x).2 = true
      · rw [if_pos hd] at e k3; cases e; exact ⟨k1, k2, by omega⟩
      · rw [if_neg hd] at e k3
        obtain ⟨j1, j2, j3⟩ := workO_kept (k := k) k1 e
        exact ⟨j1, k2.trans j2, by omega⟩
theorem workO_one : ∀ {k k' : Nat} {s fin fin' : PrS}, workO k s = some fin → workO k' s = some fin' → fin = fin'
  | 0, _, s, _, _, e, _ => by cases e
  | _ + 1, 0, s, _, _, _, e => by cases e
  | k + 1, k' + 1, s, fin, fin', e, e' => by
    unfold workO at e e'
    by_cases h0 : s.hotN = 0
    · rw [if_pos h0] at e e'; cases e; cases e'; rfl
    · rw [if_neg h0] at e e'
      cases hx : s.L[s.hd 0]? with
      | none => rw [hx] at e; cases e
      | some x =>
        rw [hx] at e e'
        simp only at e e'
        by_cases hd : (hotStep s x).2 = true
        · rw [if_pos hd] at e e'; cases e; cases e'; rfl
        · rw [if_neg hd] at e e'; exact workO_one (k := k) (k' := k') e e'
theorem first_of {p : En → Bool} : ∀ {l : List En}, (∃ x ∈ l, p x = true) → ∃ A x B, l = A ++ x :: B ∧ (∀ a ∈ A, p a = false) ∧ p x = true
  | [], ⟨_, h, _⟩ => by cases h
  | a :: l, ⟨x, h, q⟩ => by
    by_cases ha : p a = true
    · exact ⟨[], a, l, rfl, fun _ q => (by cases q), ha⟩
    · have : ∃ x ∈ l, p x = true := by
        rcases List.mem_cons.1 h with rfl | h
        · exact (ha q).elim
        · exact ⟨x, h, q⟩
      obtain ⟨A, y, B, e, q1, q2⟩ := first_of this
      refine ⟨a :: A, y, B, by rw [e]; rfl, fun b hb => ?_, q2⟩
      rcases List.mem_cons.1 hb with rfl | hb
      · simpa using ha
      · exact q1 b hb
def hr (e : En) : Bool := e.hot && e.ref
theorem hot_of_mem (hx : x ∈ s.rot 0) (hh : x.hot = true) : ¬ s.hotN = 0 := by
  intro e
  have : (s.rot 0).countP (fun e => e.hot) = 0 := by rw [rot_count]; exact e
  have := List.countP_eq_zero.1 this x hx
  exact this hh
theorem work_ends : ∀ (c : Nat) (A : List En) {s : PrS} {x : En} {B : List En}, PK n m s → s.rot 0 = A ++ x :: B → (∀ a ∈ A, a.hot = false) → x.hot = true → (s.rot 0).countP hr = c → ∃ k fin, workO k s = some fin := by
  intro c
  induction c using Nat.strongRecOn with
  | _ c ih =>
    intro A
    induction A with
    | nil =>
      intro s x B h hr1 hA hh hc
      have h0 := hot_of_mem (s := s) (x := x) (by rw [hr1]; simp) hh
      obtain ⟨x', hx⟩ := h.at (hot_pos h0) (j := 0) (by omega)
      have e := rot_cons hx
      rw [hr1] at e
      simp only [List.nil_append, List.cons.injEq] at e
      obtain ⟨rfl, eB⟩ := e
      by_cases hrf : x.ref = true
      · have hs : hotStep s x = ((s.put (s.hd 0) { x with ref := false }).mv 0, false) := by unfold hotStep; rw [if_pos hh, if_pos hrf]
        have hk := (hotStep_kept h hx).1
        rw [hs] at hk
        have e2 := rot_put_mv (j := 0) (get_lt hx) { x with ref := false }
        rw [← eB] at e2
        obtain ⟨A', x', B', q1, q2, q3⟩ := first_of (p := fun e : En => e.hot) (l := B ++ [{ x with ref := false }]) ⟨{ x with ref := false }, List.mem_append.2 (.inr (List.mem_singleton.2 rfl)), hh⟩
        have hc2 : (B ++ [{ x with ref := false }]).countP hr < c := by
          rw [← hc, hr1]
          simp [List.countP_append, List.countP_cons, hr, hh, hrf]
        obtain ⟨k, fin, hk2⟩ := ih _ hc2 A' (s := (s.put (s.hd 0) { x with ref := false }).mv 0) (x := x') (B := B') hk (by rw [e2]; exact q1) q2 q3 (by rw [e2])
        refine ⟨k + 1, fin, ?_⟩
        rw [workO, if_neg h0, hx]
        simp only [hs]
        exact hk2
      · refine ⟨1, (s.put (s.hd 0) { x with hot := false }).mv 0, ?_⟩
        have hs : hotStep s x = ((s.put (s.hd 0) { x with hot := false }).mv 0, true) := by unfold hotStep; rw [if_pos hh, if_neg hrf]
        rw [workO, if_neg h0, hx]
        simp only [hs, if_true]
    | cons a A ihA =>
      intro s x B h hr1 hA hh hc
      have h0 := hot_of_mem (s := s) (x := x) (by rw [hr1]; simp) hh
      obtain ⟨a', hx⟩ := h.at (hot_pos h0) (j := 0) (by omega)
      have e := rot_cons hx
      rw [hr1] at e
      simp only [List.cons_append, List.cons.injEq] at e
      obtain ⟨rfl, eB⟩ := e
      have hna : a.hot = false := hA a (List.mem_cons_self ..)
      have hk := (hotStep_kept h hx).1
      have hra : hr a = false := by simp [hr, hna]
      -- the rest comes to the front
      have step : ∀ (t : PrS) (T : List En), hotStep s a = (t, false) → t.rot 0 = A ++ x :: (B ++ T) → T.countP hr = 0 → ∃ k fin, workO k s = some fin := by
        intro t T hs ht hT
        rw [hs] at hk
        have hc2 : (t.rot 0).countP hr = c := by
          rw [← hc, hr1, ht]
          simp [List.countP_append, List.countP_cons, hra, hT]
        obtain ⟨k, fin, hk2⟩ := ihA (s := t) (x := x) (B := B ++ T) hk ht (fun b hb => hA b (List.mem_cons_of_mem _ hb)) hh hc2
        refine ⟨k + 1, fin, ?_⟩
        rw [workO, if_neg h0, hx]
        simp only [hs]
        exact hk2
      by_cases ht : a.test = true
      · by_cases hg : a.fr < 0
        · refine step (s.less.drop (s.hd 0)) [] ?_ ?_ rfl
          · unfold hotStep PrS.ends; simp only [hna, ht, hg, if_true, if_false, Bool.false_eq_true]
          · have := rot_drop (s := s.less) (j := 0) (get_lt hx)
            rw [List.append_nil, eB]; exact this
        · refine step ((s.less.put (s.hd 0) { a with test := false }).mv 0) [{ a with test := false }] ?_ ?_ (by simp [hr, hna])
          · unfold hotStep PrS.ends; simp only [hna, ht, hg, if_true, if_false, Bool.false_eq_true]
          · have := rot_put_mv (s := s.less) (j := 0) (get_lt hx) { a with test := false }
            rw [show A ++ x :: (B ++ [{ a with test := false }]) = (A ++ x :: B) ++ [{ a with test := false }] from by simp, eB]; exact this
      · refine step (s.mv 0) [a] ?_ ?_ (by simp [hr, hna])
        · unfold hotStep; simp only [hna, ht, if_true, if_false, Bool.false_eq_true]
        · have := rot_mv (s := s) (j := 0) hx
          rw [show A ++ x :: (B ++ [a]) = (A ++ x :: B) ++ [a] from by simp, eB]; exact this
/-- The hot hand's work ends. -/
theorem work_some (h : PK n m s) (h0 : ¬ s.hotN = 0) : ∃ k, workO k s = some s.work := by
  have : ∃ x ∈ s.rot 0, x.hot = true := by
    have h1 : ¬ (s.rot 0).countP (fun e => e.hot) = 0 := by rw [rot_count]; exact h0
    rw [List.countP_eq_zero] at h1
    exact Classical.byContradiction fun q => h1 (fun a ha hh => q ⟨a, ha, hh⟩)
  obtain ⟨A, x, B, e, q1, q2⟩ := first_of (p := fun e : En => e.hot) this
  obtain ⟨k, fin, hk⟩ := work_ends _ A h e q1 q2 rfl
  have hex : ∃ p : Nat × PrS, workO p.1 s = some p.2 := ⟨(k, fin), hk⟩
  refine ⟨hex.choose.1, ?_⟩
  have : s.work = hex.choose.2 := by unfold PrS.work; rw [dif_pos hex]
  rw [this]; exact hex.choose_spec
theorem coolO_ok : ∀ {k : Nat} {s : PrS}, PK n m s → s.hotN < k → ∃ fin, coolO n k s = some fin ∧ PK n m fin ∧ Kept s fin
  | 0, s, _, hk => by omega
  | k + 1, s, h, hk => by
    unfold coolO
    by_cases hc : s.hotN ≤ n - s.goal
    · exact ⟨s, by rw [if_pos hc], h, Kept.refl _⟩
    · rw [if_neg hc]
      obtain ⟨j, hj⟩ := work_some h (by omega)
      obtain ⟨j1, j2, j3⟩ := workO_kept h hj
      obtain ⟨fin, q1, q2, q3⟩ := coolO_ok (k := k) j1 (by omega)
      exact ⟨fin, q1, q2, j2.trans q3⟩
theorem cool_ok (h : PK n m s) : coolO n (s.hotN + 1) s = some (s.cool n) ∧ PK n m (s.cool n) ∧ Kept s (s.cool n) := by
  obtain ⟨fin, q1, q2, q3⟩ := coolO_ok (n := n) h (Nat.lt_succ_self s.hotN)
  have : s.cool n = fin := by unfold PrS.cool; rw [q1]; rfl
  rw [this]; exact ⟨q1, q2, q3⟩

/-! ### The test hand -/
theorem testStep_kept (h : PK n m s) (hx : s.L[s.hd 2]? = some x) : PK n m (testStep s x) ∧ Kept s (testStep s x) := by
  have hi := get_lt hx
  obtain ⟨k1, k2⟩ := ends_kept h hx
  unfold testStep
  by_cases ht : x.test = true
  · rw [if_pos ht]
    by_cases hg : x.fr < 0
    · rw [if_pos hg]; exact ⟨k1, k2⟩
    · rw [if_neg hg]
      have hlen : 0 < (s.ends (s.hd 2) x).L.length := by unfold PrS.ends; rw [if_neg hg]; show 0 < (s.L.set _ _).length; rw [List.length_set]; omega
      exact ⟨k1.mv hlen 2, ⟨k2.pg, k2.on, k2.gn, k2.K⟩⟩
  · rw [if_neg ht]; exact ⟨h.mv (by omega) 2, ⟨rfl, rfl, Nat.le_refl _, fun _ _ => Iff.rfl⟩⟩
theorem PK.le {m' : Nat} (h : PK n m s) (hm : s.gone ≤ m') : PK n m' s := ⟨h.hl, h.uq, h.el, hm, h.gl, h.n1⟩
theorem test_ends : ∀ (A : List En) {s : PrS} {x : En} {B : List En}, PK n (n + 1) s → s.rot 2 = A ++ x :: B → (∀ a ∈ A, ¬ a.fr < 0) → x.fr < 0 → ∃ k fin, testO n k s = some fin ∧ PK n n fin ∧ Kept s fin := by
  intro A
  induction A with
  | nil =>
    intro s x B h hr1 hA hg
    by_cases h1 : s.gone ≤ n
    · exact ⟨1, s, by rw [testO, if_pos h1], h.le h1, Kept.refl _⟩
    · obtain ⟨x', hx⟩ := h.at (gone_pos (by omega)) (j := 2) (by omega)
      have e := rot_cons hx
      rw [hr1] at e
      simp only [List.nil_append, List.cons.injEq] at e
      obtain ⟨rfl, eB⟩ := e
      obtain ⟨k1, k2⟩ := testStep_kept h hx
      have hd : testStep s x = s.less.drop (s.hd 2) := by unfold testStep PrS.ends; rw [if_pos ((h.el x (mem_get hx)).2.2.1 hg).1, if_pos hg, if_pos hg]
      have hgn : (testStep s x).gone ≤ n := by
        have h2 := drop_gone (s := s.less) (i := s.hd 2) (x := x) hx
        rw [if_pos hg] at h2
        have h3 : s.less.gone = s.gone := rfl
        have h4 := h.ng
        rw [hd]; omega
      refine ⟨2, testStep s x, ?_, k1.le hgn, k2⟩
      rw [testO, if_neg h1, hx]
      simp only
      rw [testO, if_pos hgn]
  | cons a A ih =>
    intro s x B h hr1 hA hg
    by_cases h1 : s.gone ≤ n
    · exact ⟨1, s, by rw [testO, if_pos h1], h.le h1, Kept.refl _⟩
    · obtain ⟨a', hx⟩ := h.at (gone_pos (by omega)) (j := 2) (by omega)
      have e := rot_cons hx
      rw [hr1] at e
      simp only [List.cons_append, List.cons.injEq] at e
      obtain ⟨rfl, eB⟩ := e
      have hna : ¬ a.fr < 0 := hA a (List.mem_cons_self ..)
      obtain ⟨k1, k2⟩ := testStep_kept h hx
      have hrot : ∃ T, (testStep s a).rot 2 = A ++ x :: (B ++ T) := by
        unfold testStep PrS.ends
        rw [if_neg hna, if_neg hna]
        by_cases ht : a.test = true
        · rw [if_pos ht]
          have := rot_put_mv (s := s.less) (j := 2) (get_lt hx) { a with test := false }
          exact ⟨[{ a with test := false }], by rw [show A ++ x :: (B ++ [{ a with test := false }]) = (A ++ x :: B) ++ [{ a with test := false }] from by simp, eB]; exact this⟩
        · rw [if_neg ht]
          have := rot_mv (s := s) (j := 2) hx
          exact ⟨[a], by rw [show A ++ x :: (B ++ [a]) = (A ++ x :: B) ++ [a] from by simp, eB]; exact this⟩
      obtain ⟨T, hT⟩ := hrot
      obtain ⟨k, fin, q1, q2, q3⟩ := ih k1 hT (fun b hb => hA b (List.mem_cons_of_mem _ hb)) hg
      refine ⟨k + 1, fin, ?_, q2, k2.trans q3⟩
      rw [testO, if_neg h1, hx]
      exact q1
theorem testO_one : ∀ {k k' : Nat} {s fin fin' : PrS}, testO n k s = some fin → testO n k' s = some fin' → fin = fin'
  | 0, _, s, _, _, e, _ => by cases e
  | _ + 1, 0, s, _, _, _, e => by cases e
  | k + 1, k' + 1, s, fin, fin', e, e' => by
    unfold testO at e e'
    by_cases h0 : s.gone ≤ n
    · rw [if_pos h0] at e e'; cases e; cases e'; rfl
    · rw [if_neg h0] at e e'
      cases hx : s.L[s.hd 2]? with
      | none => rw [hx] at e; cases e
      | some x =>
        rw [hx] at e e'
        exact testO_one (k := k) (k' := k') e e'
theorem tests_ok (h : PK n (n + 1) s) : (∃ k, testO n k s = some (s.tests n)) ∧ PK n n (s.tests n) ∧ Kept s (s.tests n) := by
  have hex : ∃ k fin, testO n k s = some fin ∧ PK n n fin ∧ Kept s fin := by
    by_cases h1 : s.gone ≤ n
    · exact ⟨1, s, by rw [testO, if_pos h1], h.le h1, Kept.refl _⟩
    · have : ∃ x ∈ s.rot 2, decide (x.fr < 0) = true := by
        have h1 : ¬ (s.rot 2).countP (fun e => decide (e.fr < 0)) = 0 := by rw [rot_count]; unfold PrS.gone at h1; omega
        rw [List.countP_eq_zero] at h1
        exact Classical.byContradiction fun q => h1 (fun a ha hh => q ⟨a, ha, hh⟩)
      obtain ⟨A, x, B, e, q1, q2⟩ := first_of (p := fun e : En => decide (e.fr < 0)) this
      exact test_ends A h e (fun a ha => by have := q1 a ha; simpa using this) (by simpa using q2)
  obtain ⟨k, fin, q1, q2, q3⟩ := hex
  have hx2 : ∃ p : Nat × PrS, testO n p.1 s = some p.2 := ⟨(k, fin), q1⟩
  have : s.tests n = hx2.choose.2 := by unfold PrS.tests; rw [dif_pos hx2]
  have e2 : s.tests n = fin := by rw [this]; exact testO_one hx2.choose_spec q1
  rw [e2]; exact ⟨⟨k, q1⟩, q2, q3⟩
end
end Go.Proofs.Ytfgkaoncojhdeaa

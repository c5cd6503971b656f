/-
  Pro: the hands' work ends, and leaves true what was: the hot hand's, the test hand's. Plain facts, with no program in sight.
  Pro: what stays true behind each call; both sides go alike. Plain facts, with no program in sight.
  The document's Pro: the hot hand works; as long as too many are hot; the test hand works; an entry is laid at the end.
  The document's Pro: set, remove, access.
-/
import Derived.Test.YtoainbdkhhblbaaK05
import Derived.Test.YtoainbdkhhblbaaK09
import Derived.BigQuiet
namespace Go.Proofs.Ytoainbdkhhblbaa
open Go.RowKit
set_option linter.unusedVariables false
set_option linter.unusedSimpArgs false

/-- From a hand on. -/
def PrS.rot (s : PrS) (j : Nat) : List En := s.L.drop (s.hd j) ++ s.L.take (s.hd j)
/-- What the hands' work leaves as it is. -/
structure Kept (s s' : PrS) : Prop where
  pg : s'.pg = s.pg
  on : s'.on = s.on
  gn : s'.gone ≤ s.gone
  K : ∀ (a b : Nat), s'.K a b ↔ s.K a b
theorem Kept.refl (s : PrS) : Kept s s := ⟨rfl, rfl, Nat.le_refl _, fun _ _ => Iff.rfl⟩
theorem Kept.trans {a b c : PrS} (h : Kept a b) (k : Kept b c) : Kept a c := ⟨k.pg.trans h.pg, k.on.trans h.on, Nat.le_trans k.gn h.gn, fun x y => (k.K x y).trans (h.K x y)⟩
theorem PM.kept {n : Nat} {s s' : PrS} (h : PM n s) (k : Kept s s') : PM n s' := h.of k.pg k.on k.K

section
variable {n m : Nat} {s s' fin : PrS} {i j : Nat} {x y : En}
theorem rot_cons (hx : s.L[s.hd j]? = some x) : s.rot j = x :: (s.L.drop (s.hd j + 1) ++ s.L.take (s.hd j)) := by
  unfold PrS.rot
  have := get_lt hx
  rw [List.drop_eq_getElem_cons this]
  rw [List.getElem?_eq_getElem this] at hx
  simp only [Option.some.injEq] at hx
  rw [hx]; rfl
theorem rot_put_mv (hi : s.hd j < s.L.length) (y : En) : ((s.put (s.hd j) y).mv j).rot j = s.L.drop (s.hd j + 1) ++ s.L.take (s.hd j) ++ [y] := by
  unfold PrS.rot PrS.put PrS.mv
  simp only [upd_same, List.length_set]
  generalize s.hd j = h at *
  have tk : (s.L.set h y).take (h + 1) = s.L.take h ++ [y] := by
    apply List.ext_getElem?
    intro k
    rw [List.getElem?_take, List.getElem?_set]
    have hl : (s.L.take h).length = h := by rw [List.length_take]; omega
    by_cases e : k < h
    · rw [if_pos (by omega), if_neg (by omega), List.getElem?_append_left (by omega), List.getElem?_take, if_pos e]
    · by_cases e2 : k = h
      · subst e2; rw [if_pos (by omega), if_pos rfl, if_pos hi, List.getElem?_append_right (by omega), hl]; simp
      · rw [if_neg (by omega), List.getElem?_append_right (by omega), hl, List.getElem?_eq_none (by simp; omega)]
  by_cases e : h + 1 < s.L.length
  · rw [Nat.mod_eq_of_lt e, tk, List.drop_set_of_lt (by omega), List.append_assoc]
  · have : h + 1 = s.L.length := by omega
    rw [this, Nat.mod_self, List.drop_zero, List.take_zero, List.append_nil, List.drop_length, List.nil_append, ← tk, this, List.take_of_length_le (by simp)]
theorem rot_mv (hx : s.L[s.hd j]? = some x) : (s.mv j).rot j = s.L.drop (s.hd j + 1) ++ s.L.take (s.hd j) ++ [x] := by
  have h := rot_put_mv (j := j) (get_lt hx) x
  have e : s.L.set (s.hd j) x = s.L := by
    apply List.ext_getElem?; intro k; rw [List.getElem?_set]
    by_cases q : s.hd j = k
    · rw [← q, if_pos rfl, if_pos (get_lt hx), hx]
    · rw [if_neg q]
  have e2 : s.put (s.hd j) x = s := by unfold PrS.put; rw [e]
  rw [e2] at h; exact h
theorem rot_drop (hi : s.hd j < s.L.length) : (s.drop (s.hd j)).rot j = s.L.drop (s.hd j + 1) ++ s.L.take (s.hd j) := by
  unfold PrS.rot PrS.drop dropH
  simp only [Nat.lt_irrefl, if_false]
  generalize s.hd j = h at *
  rw [List.eraseIdx_eq_take_drop_succ]
  have hl : (s.L.take h).length = h := by rw [List.length_take]; omega
  by_cases e : s.L.length - 1 ≤ h
  · rw [if_pos e, List.drop_zero, List.take_zero, List.append_nil, List.drop_eq_nil_of_le (by omega), List.append_nil, List.nil_append]
  · rw [if_neg e, List.drop_append_of_le_length (by omega), List.drop_eq_nil_of_le (by omega), List.nil_append, List.take_append_of_le_length (by omega), List.take_of_length_le (by omega)]
theorem rot_count (p : En → Bool) : (s.rot j).countP p = s.L.countP p := by
  unfold PrS.rot
  rw [List.countP_append, Nat.add_comm, ← List.countP_append, List.take_append_drop]

/-! ### One step of the hot hand -/
theorem ends_kept (h : PK n m s) (hx : s.L[i]? = some x) : PK n m (s.ends i x) ∧ Kept s (s.ends i x) := by
  obtain ⟨q1, q2, q3, q4⟩ := h.el x (mem_get hx)
  unfold PrS.ends
  by_cases hg : x.fr < 0
  · rw [if_pos hg]
    have hx' : s.less.L[i]? = some x := hx
    exact ⟨h.less.drop hx', rfl, rfl, by have := drop_gone hx'; have e : s.less.gone = s.gone := rfl; omega, fun a b => by rw [drop_K h.less hx']; exact ⟨fun q => q.1, fun q => ⟨q, by omega⟩⟩⟩
  · rw [if_neg hg]
    have hx' : s.less.L[i]? = some x := hx
    exact ⟨h.less.put (y := { x with test := false }) hx' rfl rfl (fun q => (hg q).elim) (fun _ => rfl), rfl, rfl, Nat.le_of_eq (put_gone (s := s.less) (y := { x with test := false }) hx' rfl), fun a b => put_K (y := { x with test := false }) hx' rfl rfl a b⟩
theorem ends_hot (hx : s.L[i]? = some x) (hc : x.hot = false) : (s.ends i x).hotN = s.hotN := by
  have hx' : s.less.L[i]? = some x := hx
  unfold PrS.ends
  split
  · have h1 := drop_hot hx'
    rw [hc] at h1
    have h2 : s.less.hotN = s.hotN := rfl
    simp at h1; omega
  · have h1 := put_hot (y := { x with test := false }) hx'
    have h2 : s.less.hotN = s.hotN := rfl
    have h3 : ({ x with test := false } : En).hot = x.hot := rfl
    rw [h3] at h1; omega
theorem hotStep_kept (h : PK n m s) (hx : s.L[s.hd 0]? = some x) : PK n m (hotStep s x).1 ∧ Kept s (hotStep s x).1 ∧ (hotStep s x).1.hotN + (if (hotStep s x).2 = true then 1 else 0) = s.hotN := by
  obtain ⟨q1, q2, q3, q4⟩ := h.el x (mem_get hx)
  have hi := get_lt hx
  unfold hotStep
  by_cases hh : x.hot = true
  · rw [if_pos hh]
    have hnf : ¬ x.fr < 0 := fun q => by have := (q3 q).1; rw [q4 hh] at this; cases this
    by_cases hr : x.ref = true
    · rw [if_pos hr]
      refine ⟨(h.put (y := { x with ref := false }) hx rfl rfl (fun q => (hnf q).elim) q4).mv (by show 0 < (s.L.set _ _).length; rw [List.length_set]; omega) 0, ⟨rfl, rfl, Nat.le_of_eq (put_gone (y := { x with ref := false }) hx rfl), fun a b => put_K (y := { x with ref := false }) hx rfl rfl a b⟩, ?_⟩
      have h1 := put_hot (y := { x with ref := false }) hx
      have h2 : ((s.put (s.hd 0) { x with ref := false }).mv 0).hotN = (s.put (s.hd 0) { x with ref := false }).hotN := rfl
      have h3 : ({ x with ref := false } : En).hot = x.hot := rfl
      rw [h3] at h1
      simp only [h2, Bool.false_eq_true, if_false]; omega
    · rw [if_neg hr]
      refine ⟨(h.put (y := { x with hot := false }) hx rfl rfl (fun q => (hnf q).elim) (fun q => (by cases q))).mv (by show 0 < (s.L.set _ _).length; rw [List.length_set]; omega) 0, ⟨rfl, rfl, Nat.le_of_eq (put_gone (y := { x with hot := false }) hx rfl), fun a b => put_K (y := { x with hot := false }) hx rfl rfl a b⟩, ?_⟩
      have h1 := put_hot (y := { x with hot := false }) hx
      have h2 : ((s.put (s.hd 0) { x with hot := false }).mv 0).hotN = (s.put (s.hd 0) { x with hot := false }).hotN := rfl
      have h3 : ({ x with hot := false } : En).hot = false := rfl
      rw [h3, hh] at h1
      simp only [Bool.false_eq_true, if_false, if_true] at h1
      simp only [h2, if_true]; omega
  · rw [if_neg hh]
    have hc : x.hot = false := by simpa using hh
    by_cases ht : x.test = true
    · rw [if_pos ht]
      obtain ⟨k1, k2⟩ := ends_kept h hx
      have k3 := ends_hot hx hc
      by_cases hg : x.fr < 0
      · rw [if_pos hg]; exact ⟨k1, k2, by simpa using k3⟩
      · rw [if_neg hg]
        have hlen : 0 < (s.ends (s.hd 0) x).L.length := by unfold PrS.ends; rw [if_neg hg]; show 0 < (s.L.set _ _).length; rw [List.length_set]; omega
        exact ⟨k1.mv hlen 0, ⟨k2.pg, k2.on, k2.gn, k2.K⟩, by simp only [Bool.false_eq_true, if_false]; exact k3⟩
    · rw [if_neg ht]
      exact ⟨h.mv (by omega) 0, ⟨rfl, rfl, Nat.le_refl _, fun _ _ => Iff.rfl⟩, by simp; rfl⟩
theorem workO_kept : ∀ {k : Nat} {s fin : PrS}, PK n m s → workO k s = some fin → PK n m fin ∧ Kept s fin ∧ fin.hotN = s.hotN - 1
  | 0, s, fin, _, e => by cases e
  | k + 1, s, fin, h, e => by
    unfold workO at e
    by_cases h0 : s.hotN = 0
    · rw [if_pos h0] at e; cases e; exact ⟨h, Kept.refl _, by omega⟩
    · rw [if_neg h0] at e
      obtain ⟨x, hx⟩ := h.at (hot_pos h0) (j := 0) (by omega)
      obtain ⟨k1, k2, k3⟩ := hotStep_kept h hx
      rw [hx] at e
      simp only at e
      by_cases hd : (hotStep s x).2 = true
      · rw [if_pos hd] at e k3; cases e; exact ⟨k1, k2, by omega⟩
      · rw [if_neg hd] at e k3
        obtain ⟨j1, j2, j3⟩ := workO_kept (k := k) k1 e
        exact ⟨j1, k2.trans j2, by omega⟩
theorem workO_one : ∀ {k k' : Nat} {s fin fin' : PrS}, workO k s = some fin → workO k' s = some fin' → fin = fin'
  | 0, _, s, _, _, e, _ => by cases e
  | _ + 1, 0, s, _, _, _, e => by cases e
  | k + 1, k' + 1, s, fin, fin', e, e' => by
    unfold workO at e e'
    by_cases h0 : s.hotN = 0
    · rw [if_pos h0] at e e'; cases e; cases e'; rfl
    · rw [if_neg h0] at e e'
      cases hx : s.L[s.hd 0]? with
      | none => rw [hx] at e; cases e
      | some x =>
        rw [hx] at e e'
        simp only at e e'
        by_cases hd : (hotStep s x).2 = true
        · rw [if_pos hd] at e e'; cases e; cases e'; rfl
        · rw [if_neg hd] at e e'; exact workO_one (k := k) (k' := k') e e'
theorem first_of {p : En → Bool} : ∀ {l : List En}, (∃ x ∈ l, p x = true) → ∃ A x B, l = A ++ x :: B ∧ (∀ a ∈ A, p a = false) ∧ p x = true
  | [], ⟨_, h, _⟩ => by cases h
  | a :: l, ⟨x, h, q⟩ => by
    by_cases ha : p a = true
    · exact ⟨[], a, l, rfl, fun _ q => (by cases q), ha⟩
    · have : ∃ x ∈ l, p x = true := by
        rcases List.mem_cons.1 h with rfl | h
        · exact (ha q).elim
        · exact ⟨x, h, q⟩
      obtain ⟨A, y, B, e, q1, q2⟩ := first_of this
      refine ⟨a :: A, y, B, by rw [e]; rfl, fun b hb => ?_, q2⟩
      rcases List.mem_cons.1 hb with rfl | hb
      · simpa using ha
      · exact q1 b hb
def hr (e : En) : Bool := e.hot && e.ref
theorem hot_of_mem (hx : x ∈ s.rot 0) (hh : x.hot = true) : ¬ s.hotN = 0 := by
  intro e
  have : (s.rot 0).countP (fun e => e.hot) = 0 := by rw [rot_count]; exact e
  have := List.countP_eq_zero.1 this x hx
  exact this hh
theorem work_ends : ∀ (c : Nat) (A : List En) {s : PrS} {x : En} {B : List En}, PK n m s → s.rot 0 = A ++ x :: B → (∀ a ∈ A, a.hot = false) → x.hot = true → (s.rot 0).countP hr = c → ∃ k fin, workO k s = some fin := by
  intro c
  induction c using Nat.strongRecOn with
  | _ c ih =>
    intro A
    induction A with
    | nil =>
      intro s x B h hr1 hA hh hc
      have h0 := hot_of_mem (s := s) (x := x) (by rw [hr1]; simp) hh
      obtain ⟨x', hx⟩ := h.at (hot_pos h0) (j := 0) (by omega)
      have e := rot_cons hx
      rw [hr1] at e
      simp only [List.nil_append, List.cons.injEq] at e
      obtain ⟨rfl, eB⟩ := e
      by_cases hrf : x.ref = true
      · have hs : hotStep s x = ((s.put (s.hd 0) { x with ref := false }).mv 0, false) := by unfold hotStep; rw [if_pos hh, if_pos hrf]
        have hk := (hotStep_kept h hx).1
        rw [hs] at hk
        have e2 := rot_put_mv (j := 0) (get_lt hx) { x with ref := false }
        rw [← eB] at e2
        obtain ⟨A', x', B', q1, q2, q3⟩ := first_of (p := fun e : En => e.hot) (l := B ++ [{ x with ref := false }]) ⟨{ x with ref := false }, List.mem_append.2 (.inr (List.mem_singleton.2 rfl)), hh⟩
        have hc2 : (B ++ [{ x with ref := false }]).countP hr < c := by
          rw [← hc, hr1]
          simp [List.countP_append, List.countP_cons, hr, hh, hrf]
        obtain ⟨k, fin, hk2⟩ := ih _ hc2 A' (s := (s.put (s.hd 0) { x with ref := false }).mv 0) (x := x') (B := B') hk (by rw [e2]; exact q1) q2 q3 (by rw [e2])
        refine ⟨k + 1, fin, ?_⟩
        rw [workO, if_neg h0, hx]
        simp only [hs]
        exact hk2
      · refine ⟨1, (s.put (s.hd 0) { x with hot := false }).mv 0, ?_⟩
        have hs : hotStep s x = ((s.put (s.hd 0) { x with hot := false }).mv 0, true) := by unfold hotStep; rw [if_pos hh, if_neg hrf]
        rw [workO, if_neg h0, hx]
        simp only [hs, if_true]
    | cons a A ihA =>
      intro s x B h hr1 hA hh hc
      have h0 := hot_of_mem (s := s) (x := x) (by rw [hr1]; simp) hh
      obtain ⟨a', hx⟩ := h.at (hot_pos h0) (j := 0) (by omega)
      have e := rot_cons hx
      rw [hr1] at e
      simp only [List.cons_append, List.cons.injEq] at e
      obtain ⟨rfl, eB⟩ := e
      have hna : a.hot = false := hA a (List.mem_cons_self ..)
      have hk := (hotStep_kept h hx).1
      have hra : hr a = false := by simp [hr, hna]
      -- the rest comes to the front
      have step : ∀ (t : PrS) (T : List En), hotStep s a = (t, false) → t.rot 0 = A ++ x :: (B ++ T) → T.countP hr = 0 → ∃ k fin, workO k s = some fin := by
        intro t T hs ht hT
        rw [hs] at hk
        have hc2 : (t.rot 0).countP hr = c := by
          rw [← hc, hr1, ht]
          simp [List.countP_append, List.countP_cons, hra, hT]
        obtain ⟨k, fin, hk2⟩ := ihA (s := t) (x := x) (B := B ++ T) hk ht (fun b hb => hA b (List.mem_cons_of_mem _ hb)) hh hc2
        refine ⟨k + 1, fin, ?_⟩
        rw [workO, if_neg h0, hx]
        simp only [hs]
        exact hk2
      by_cases ht : a.test = true
      · by_cases hg : a.fr < 0
        · refine step (s.less.drop (s.hd 0)) [] ?_ ?_ rfl
          · unfold hotStep PrS.ends; simp only [hna, ht, hg, if_true, if_false, Bool.false_eq_true]
          · have := rot_drop (s := s.less) (j := 0) (get_lt hx)
            rw [List.append_nil, eB]; exact this
        · refine step ((s.less.put (s.hd 0) { a with test := false }).mv 0) [{ a with test := false }] ?_ ?_ (by simp [hr, hna])
          · unfold hotStep PrS.ends; simp only [hna, ht, hg, if_true, if_false, Bool.false_eq_true]
          · have := rot_put_mv (s := s.less) (j := 0) (get_lt hx) { a with test := false }
            rw [show A ++ x :: (B ++ [{ a with test := false }]) = (A ++ x :: B) ++ [{ a with test := false }] from by simp, eB]; exact this
      · refine step (s.mv 0) [a] ?_ ?_ (by simp [hr, hna])
        · unfold hotStep; simp only [hna, ht, if_true, if_false, Bool.false_eq_true]
        · have := rot_mv (s := s) (j := 0) hx
          rw [show A ++ x :: (B ++ [a]) = (A ++ x :: B) ++ [a] from by simp, eB]; exact this
/-- The hot hand's work ends. -/
theorem work_some (h : PK n m s) (h0 : ¬ s.hotN = 0) : ∃ k, workO k s = some s.work := by
  have : ∃ x ∈ s.rot 0, x.hot = true := by
    have h1 : ¬ (s.rot 0).countP (fun e => e.hot) = 0 := by rw [rot_count]; exact h0
    rw [List.countP_eq_zero] at h1
    exact Classical.byContradiction fun q => h1 (fun a ha hh => q ⟨a, ha, hh⟩)
  obtain ⟨A, x, B, e, q1, q2⟩ := first_of (p := fun e : En => e.hot) this
  obtain ⟨k, fin, hk⟩ := work_ends _ A h e q1 q2 rfl
  have hex : ∃ p : Nat × PrS, workO p.1 s = some p.2 := ⟨(k, fin), hk⟩
  refine ⟨hex.choose.1, ?_⟩
  have : s.work = hex.choose.2 := by unfold PrS.work; rw [dif_pos hex]
  rw [this]; exact hex.choose_spec
theorem coolO_ok : ∀ {k : Nat} {s : PrS}, PK n m s → s.hotN < k → ∃ fin, coolO n k s = some fin ∧ PK n m fin ∧ Kept s fin
  | 0, s, _, hk => by omega
  | k + 1, s, h, hk => by
    unfold coolO
    by_cases hc : s.hotN ≤ n - s.goal
    · exact ⟨s, by rw [if_pos hc], h, Kept.refl _⟩
    · rw [if_neg hc]
      obtain ⟨j, hj⟩ := work_some h (by omega)
      obtain ⟨j1, j2, j3⟩ := workO_kept h hj
      obtain ⟨fin, q1, q2, q3⟩ := coolO_ok (k := k) j1 (by omega)
      exact ⟨fin, q1, q2, j2.trans q3⟩
theorem cool_ok (h : PK n m s) : coolO n (s.hotN + 1) s = some (s.cool n) ∧ PK n m (s.cool n) ∧ Kept s (s.cool n) := by
  obtain ⟨fin, q1, q2, q3⟩ := coolO_ok (n := n) h (Nat.lt_succ_self s.hotN)
  have : s.cool n = fin := by unfold PrS.cool; rw [q1]; rfl
  rw [this]; exact ⟨q1, q2, q3⟩

/-! ### The test hand -/
theorem testStep_kept (h : PK n m s) (hx : s.L[s.hd 2]? = some x) : PK n m (testStep s x) ∧ Kept s (testStep s x) := by
  have hi := get_lt hx
  obtain ⟨k1, k2⟩ := ends_kept h hx
  unfold testStep
  by_cases ht : x.test = true
  · rw [if_pos ht]
    by_cases hg : x.fr < 0
    · rw [if_pos hg]; exact ⟨k1, k2⟩
    · rw [if_neg hg]
      have hlen : 0 < (s.ends (s.hd 2) x).L.length := by unfold PrS.ends; rw [if_neg hg]; show 0 < (s.L.set _ _).length; rw [List.length_set]; omega
      exact ⟨k1.mv hlen 2, ⟨k2.pg, k2.on, k2.gn, k2.K⟩⟩
  · rw [if_neg ht]; exact ⟨h.mv (by omega) 2, ⟨rfl, rfl, Nat.le_refl _, fun _ _ => Iff.rfl⟩⟩
theorem PK.le {m' : Nat} (h : PK n m s) (hm : s.gone ≤ m') : PK n m' s := ⟨h.hl, h.uq, h.el, hm, h.gl, h.n1⟩
theorem test_ends : ∀ (A : List En) {s : PrS} {x : En} {B : List En}, PK n (n + 1) s → s.rot 2 = A ++ x :: B → (∀ a ∈ A, ¬ a.fr < 0) → x.fr < 0 → ∃ k fin, testO n k s = some fin ∧ PK n n fin ∧ Kept s fin := by
  intro A
  induction A with
  | nil =>
    intro s x B h hr1 hA hg
    by_cases h1 : s.gone ≤ n
    · exact ⟨1, s, by rw [testO, if_pos h1], h.le h1, Kept.refl _⟩
    · obtain ⟨x', hx⟩ := h.at (gone_pos (by omega)) (j := 2) (by omega)
      have e := rot_cons hx
      rw [hr1] at e
      simp only [List.nil_append, List.cons.injEq] at e
      obtain ⟨rfl, eB⟩ := e
      obtain ⟨k1, k2⟩ := testStep_kept h hx
      have hd : testStep s x = s.less.drop (s.hd 2) := by unfold testStep PrS.ends; rw [if_pos ((h.el x (mem_get hx)).2.2.1 hg).1, if_pos hg, if_pos hg]
      have hgn : (testStep s x).gone ≤ n := by
        have h2 := drop_gone (s := s.less) (i := s.hd 2) (x := x) hx
        rw [if_pos hg] at h2
        have h3 : s.less.gone = s.gone := rfl
        have h4 := h.ng
        rw [hd]; omega
      refine ⟨2, testStep s x, ?_, k1.le hgn, k2⟩
      rw [testO, if_neg h1, hx]
      simp only
      rw [testO, if_pos hgn]
  | cons a A ih =>
    intro s x B h hr1 hA hg
    by_cases h1 : s.gone ≤ n
    · exact ⟨1, s, by rw [testO, if_pos h1], h.le h1, Kept.refl _⟩
    · obtain ⟨a', hx⟩ := h.at (gone_pos (by omega)) (j := 2) (by omega)
      have e := rot_cons hx
      rw [hr1] at e
      simp only [List.cons_append, List.cons.injEq] at e
      obtain ⟨rfl, eB⟩ := e
      have hna : ¬ a.fr < 0 := hA a (List.mem_cons_self ..)
      obtain ⟨k1, k2⟩ := testStep_kept h hx
      have hrot : ∃ T, (testStep s a).rot 2 = A ++ x :: (B ++ T) := by
        unfold testStep PrS.ends
        rw [if_neg hna, if_neg hna]
        by_cases ht : a.test = true
        · rw [if_pos ht]
          have := rot_put_mv (s := s.less) (j := 2) (get_lt hx) { a with test := false }
          exact ⟨[{ a with test := false }], by rw [show A ++ x :: (B ++ [{ a with test := false }]) = (A ++ x :: B) ++ [{ a with test := false }] from by simp, eB]; exact this⟩
        · rw [if_neg ht]
          have := rot_mv (s := s) (j := 2) hx
          exact ⟨[a], by rw [show A ++ x :: (B ++ [a]) = (A ++ x :: B) ++ [a] from by simp, eB]; exact this⟩
      obtain ⟨T, hT⟩ := hrot
      obtain ⟨k, fin, q1, q2, q3⟩ := ih k1 hT (fun b hb => hA b (List.mem_cons_of_mem _ hb)) hg
      refine ⟨k + 1, fin, ?_, q2, k2.trans q3⟩
      rw [testO, if_neg h1, hx]
      exact q1
theorem testO_one : ∀ {k k' : Nat} {s fin fin' : PrS}, testO n k s = some fin → testO n k' s = some fin' → fin = fin'
  | 0, _, s, _, _, e, _ => by cases e
  | _ + 1, 0, s, _, _, _, e => by cases e
  | k + 1, k' + 1, s, fin, fin', e, e' => by
    unfold testO at e e'
    by_cases h0 : s.gone ≤ n
    · rw [if_pos h0] at e e'; cases e; cases e'; rfl
    · rw [if_neg h0] at e e'
      cases hx : s.L[s.hd 2]? with
      | none => rw [hx] at e; cases e
      | some x =>
        rw [hx] at e e'
        exact testO_one (k := k) (k' := k') e e'
theorem tests_ok (h : PK n (n + 1) s) : (∃ k, testO n k s = some (s.tests n)) ∧ PK n n (s.tests n) ∧ Kept s (s.tests n) := by
  have hex : ∃ k fin, testO n k s = some fin ∧ PK n n fin ∧ Kept s fin := by
    by_cases h1 : s.gone ≤ n
    · exact ⟨1, s, by rw [testO, if_pos h1], h.le h1, Kept.refl _⟩
    · have : ∃ x ∈ s.rot 2, decide (x.fr < 0) = true := by
        have h1 : ¬ (s.rot 2).countP (fun e => decide (e.fr < 0)) = 0 := by rw [rot_count]; unfold PrS.gone at h1; omega
        rw [List.countP_eq_zero] at h1
        exact Classical.byContradiction fun q => h1 (fun a ha hh => q ⟨a, ha, hh⟩)
      obtain ⟨A, x, B, e, q1, q2⟩ := first_of (p := fun e : En => decide (e.fr < 0)) this
      exact test_ends A h e (fun a ha => by have := q1 a ha; simpa using this) (by simpa using q2)
  obtain ⟨k, fin, q1, q2, q3⟩ := hex
  have hx2 : ∃ p : Nat × PrS, testO n p.1 s = some p.2 := ⟨(k, fin), q1⟩
  have : s.tests n = hx2.choose.2 := by unfold PrS.tests; rw [dif_pos hx2]
  have e2 : s.tests n = fin := by rw [this]; exact testO_one hx2.choose_spec q1
  rw [e2]; exact ⟨⟨k, q1⟩, q2, q3⟩
end
end Go.Proofs.Ytoainbdkhhblbaa
namespace Go.Proofs.Ytoainbdkhhblbaa
open Go.RowKit
set_option linter.unusedVariables false
set_option linter.unusedSimpArgs false

section
variable {n m : Nat} {s s' fin : PrS} {i j : Nat} {x y : En}
theorem again_K (h : PK n m s) (hx : s.L[i]? = some x) (e1 : y.pg = x.pg) (e2 : y.fr = x.fr) (a b : Nat) : ((s.drop i).lay y).K a b ↔ s.K a b := by
  rw [lay_K, drop_K h hx]
  constructor
  · rintro (⟨q1, q2⟩ | ⟨q, _⟩)
    · exact ⟨x, mem_get hx, by rw [← e2]; exact q1, by rw [← e1]; exact q2⟩
    · exact q
  · rintro ⟨z, hz, q1, q2⟩
    by_cases e : x.fr = a
    · left
      obtain ⟨k, hk⟩ := List.getElem?_of_mem hz
      have := h.uq i k x z hx hk (.inr ⟨by rw [e, q1], by omega⟩)
      subst this
      rw [hx] at hk; cases hk
      exact ⟨by rw [e2]; exact q1, by rw [e1]; exact q2⟩
    · exact .inr ⟨⟨z, hz, q1, q2⟩, e⟩
def En.turn (x : En) : En := { x with ref := false, hot := x.test, test := !x.test }
theorem turn_pre (h : PK n m s) (hx : s.L[i]? = some x) (hf : 0 ≤ x.fr) : PK n m (((s.mv 1).drop i).lay x.turn) ∧ Kept s (((s.mv 1).drop i).lay x.turn) := by
  have h1 := h.mv (by have := get_lt hx; omega) 1
  have hx' : (s.mv 1).L[i]? = some x := hx
  refine ⟨h1.again (y := x.turn) hx' rfl rfl hf (fun q => ?_), lay_pg.1, lay_pg.2.1, ?_, fun a b => again_K (y := x.turn) h1 hx' rfl rfl a b⟩
  · have q : x.test = true := q
    show (!x.test) = false
    rw [q]; rfl
  · have e1 := lay_gone (s := (s.mv 1).drop i) (x := x.turn)
    have e2 := drop_gone hx'
    have e3 : x.turn.fr = x.fr := rfl
    have e4 : (s.mv 1).gone = s.gone := rfl
    rw [e3] at e1; omega
theorem turn_ok (h : PK n m s) (hx : s.L[i]? = some x) (hf : 0 ≤ x.fr) : PK n m (s.turn n i x) ∧ Kept s (s.turn n i x) := by
  obtain ⟨k1, k2⟩ := turn_pre h hx hf
  obtain ⟨_, k3, k4⟩ := cool_ok k1
  exact ⟨k3, k2.trans k4⟩
theorem empty_K (s : PrS) (f : Nat) (a : Int) (b : Nat) : (s.empty f).K a b ↔ s.K a b := Iff.rfl
/-- Behind the page's way out of its frame: it is a ghost's. -/
theorem send_pre (h : PK n n s) (hm : PM n s) (hx : s.L[i]? = some x) (hf : 0 ≤ x.fr) (hr : x.ref = false) (ht : x.test = true) :
    PK n (n + 1) (((s.mv 1).empty x.fr.toNat).put i { x with fr := -1 }) ∧ PM n (((s.mv 1).empty x.fr.toNat).put i { x with fr := -1 }) := by
  have hi := get_lt hx
  have h1 := h.mv (by omega) 1
  obtain ⟨q1, q2, q3, q4⟩ := h.el x (mem_get hx)
  have hh : x.hot = false := by cases e : x.hot with
    | false => rfl
    | true => have := q4 e; rw [ht] at this; cases this
  have hx' : ((s.mv 1).empty x.fr.toNat).L[i]? = some x := hx
  have hk : ∀ (a b : Nat), (((s.mv 1).empty x.fr.toNat).put i { x with fr := -1 }).K a b ↔ s.K a b ∧ ¬ x.fr = a := by
    intro a b
    constructor
    · rintro ⟨z, hz, p1, p2⟩
      obtain ⟨k, hk⟩ := List.getElem?_of_mem hz
      have hk : (s.L.set i { x with fr := -1 })[k]? = some z := hk
      rw [List.getElem?_set] at hk
      by_cases e : i = k
      · rw [if_pos e, if_pos (by omega)] at hk
        cases hk
        have p1 : (-1 : Int) = a := p1
        omega
      · rw [if_neg e] at hk
        exact ⟨⟨z, mem_get hk, p1, p2⟩, fun q => e (h.uq i k x z hx hk (.inr ⟨by rw [q, p1], hf⟩))⟩
    · rintro ⟨⟨z, hz, p1, p2⟩, hne⟩
      obtain ⟨k, hk⟩ := List.getElem?_of_mem hz
      have e : ¬ i = k := by rintro rfl; rw [hx] at hk; cases hk; exact hne p1
      exact ⟨z, List.mem_of_getElem? (i := k) (by show (s.L.set i _)[k]? = _; rw [List.getElem?_set, if_neg e]; exact hk), p1, p2⟩
  have ex : ((x.fr.toNat : Nat) : Int) = x.fr := by omega
  refine ⟨⟨fun j hj => .inl ?_, set_uq h.uq hx rfl (.inr (by show (-1 : Int) < 0; omega)), fun z hz => ?_, ?_, h.gl, h.n1⟩, fun a b k => ?_, fun f hf' k => ?_⟩
  · show (s.mv 1).hd j < (s.L.set i _).length
    rw [List.length_set]; exact h1.lt (by show 0 < s.L.length; omega) hj
  · rcases set_mem hz with rfl | hz
    · exact ⟨⟨by show (-1 : Int) ≤ -1; omega, by show (-1 : Int) < n; omega⟩, q2, fun _ => ⟨ht, hr⟩, q4⟩
    · exact h.el z hz
  · have e := countP_set (p := fun e : En => decide (e.fr < 0)) (y := { x with fr := -1 }) hx
    have h2 := h.ng
    unfold PrS.gone at h2 ⊢
    show (s.L.set i _).countP _ ≤ n + 1
    simp only [show decide (x.fr < 0) = false from by simp; omega] at e
    simp at e
    omega
  · obtain ⟨k1, k2⟩ := (hk a b).1 k
    show upd s.pg x.fr.toNat 0 a = b
    rw [upd_other _ _ (by omega)]
    exact hm.pf a b k1
  · show upd s.pg x.fr.toNat 0 f = 0 ∧ upd s.on x.fr.toNat false f = false
    by_cases e : f = x.fr.toNat
    · subst e; exact ⟨upd_same .., upd_same ..⟩
    · rw [upd_other _ _ e, upd_other _ _ e]
      exact hm.p0 f hf' (fun b q => k b ((hk f b).2 ⟨q, by omega⟩))
theorem send_ok (h : PK n n s) (hm : PM n s) (hx : s.L[i]? = some x) (hf : 0 ≤ x.fr) (hr : x.ref = false) :
    PK n n (s.send n i x) ∧ PM n (s.send n i x) ∧ (s.send n i x).pg = upd s.pg x.fr.toNat 0 ∧ (s.send n i x).on = upd s.on x.fr.toNat false := by
  unfold PrS.send
  by_cases ht : x.test = true
  · rw [if_pos ht]
    obtain ⟨k1, k2⟩ := send_pre h hm hx hf hr ht
    obtain ⟨_, k3, k4⟩ := tests_ok k1
    exact ⟨k3, k2.kept k4, k4.pg, k4.on⟩
  · rw [if_neg ht]
    have h1 := h.mv (by have := get_lt hx; omega) 1
    have hm1 : PM n (s.mv 1) := hm.of rfl rfl (fun _ _ => Iff.rfl)
    exact ⟨(h1.empty _).drop hx, hm1.out h1 hx hf, rfl, rfl⟩
theorem idle_not (h : PK n m s) (hx : s.L[i]? = some x) (hi : ¬ s.idle x = true) : 0 ≤ x.fr ∧ x.hot = false ∧ (x.ref = false → s.on x.fr.toNat = true) := by
  unfold PrS.idle at hi
  cases h1 : x.hot
  · cases h2 : decide (x.fr < 0)
    · refine ⟨by simpa using h2, rfl, fun h3 => ?_⟩
      rw [h1, h2, h3] at hi
      simpa using hi
    · rw [h2] at hi; simp at hi
  · rw [h1] at hi; simp at hi
/-- What the cold hand leaves. -/
def VicOk (n : Nat) (s : PrS) (r : PrS × Option Nat) : Prop :=
  PK n n r.1 ∧ PM n r.1 ∧ match r.2 with
  | none => Kept s r.1
  | some f => f < n ∧ ¬ s.pg f = 0 ∧ s.on f = true ∧ r.1.pg = upd s.pg f 0 ∧ r.1.on = upd s.on f false
theorem pg_of (h : PK n m s) (hm : PM n s) (hx : s.L[i]? = some x) (hf : 0 ≤ x.fr) : x.fr.toNat < n ∧ s.pg x.fr.toNat = x.pg ∧ 1 ≤ x.pg := by
  obtain ⟨q1, q2, _, _⟩ := h.el x (mem_get hx)
  exact ⟨by omega, hm.pf _ _ ⟨x, mem_get hx, by omega, rfl⟩, q2.1⟩
theorem vicL_ok : ∀ (k : Nat) {s : PrS}, PK n n s → PM n s → VicOk n s (vicL n k s)
  | 0, s, h, hm => ⟨h, hm, Kept.refl s⟩
  | k + 1, s, h, hm => by
    unfold vicL
    cases hx : s.L[s.hd 1]? with
    | none => exact ⟨h, hm, Kept.refl s⟩
    | some x =>
      have hi := get_lt hx
      simp only
      by_cases hd : s.idle x = true
      · rw [if_pos hd]
        have hm1 : PM n (s.mv 1) := hm.of rfl rfl (fun _ _ => Iff.rfl)
        obtain ⟨q1, q2, q3⟩ := vicL_ok k (h.mv (by omega) 1) hm1
        refine ⟨q1, q2, ?_⟩
        cases e : (vicL n k (s.mv 1)).2 with
        | none => rw [e] at q3; exact ⟨q3.pg, q3.on, q3.gn, q3.K⟩
        | some f => rw [e] at q3; exact q3
      · rw [if_neg hd]
        obtain ⟨hf, hh, ho⟩ := idle_not h hx hd
        by_cases hr : x.ref = true
        · rw [if_pos hr]
          obtain ⟨t1, t2⟩ := turn_ok h hx hf
          obtain ⟨q1, q2, q3⟩ := vicL_ok k t1 (hm.kept t2)
          refine ⟨q1, q2, ?_⟩
          cases e : (vicL n k (s.turn n (s.hd 1) x)).2 with
          | none => rw [e] at q3; exact t2.trans q3
          | some f => rw [e] at q3; simp only at q3 ⊢; rw [t2.pg, t2.on] at q3; exact q3
        · rw [if_neg hr]
          have hr' : x.ref = false := by simpa using hr
          obtain ⟨k1, k2, k3, k4⟩ := send_ok h hm hx hf hr'
          obtain ⟨p1, p2, p3⟩ := pg_of h hm hx hf
          exact ⟨k1, k2, p1, by omega, ho hr', k3, k4⟩
theorem K_of (hm : PM n s) {f : Nat} (hf : f < n) (hp : ¬ s.pg f = 0) : s.K f (s.pg f) := by
  refine Classical.byContradiction fun q => hp (hm.p0 f hf (fun b k => ?_)).1
  have := hm.pf f b k
  rw [this] at q; exact q k
theorem size_pos (h : ¬ s.sizeN n = 0) : ∃ f, f < n ∧ (¬ s.pg f = 0) ∧ s.on f = true := by
  unfold PrS.sizeN at h
  rw [List.countP_eq_zero] at h
  refine Classical.byContradiction fun q => h (fun f hf hd => q ⟨f, List.mem_range.1 hf, ?_⟩)
  simpa using hd
theorem size_zero (h : s.sizeN n = 0) {f : Nat} (hf : f < n) (hp : ¬ s.pg f = 0) : s.on f = false := by
  unfold PrS.sizeN at h
  rw [List.countP_eq_zero] at h
  have := h f (List.mem_range.2 hf)
  simpa [hp] using this
/-- The first that may go. -/
theorem first_ok (h : PK n m s) (hm : PM n s) (hz : ¬ s.sizeN n = 0) : ∃ e ∈ s.L, (s.rot 1).find? s.mayGo = some e ∧ s.first = e.fr.toNat ∧ 0 ≤ e.fr ∧ s.first < n ∧ (¬ s.pg s.first = 0) ∧ s.on s.first = true := by
  obtain ⟨f, hf, hp, ho⟩ := size_pos hz
  obtain ⟨x, hx, e1, e2⟩ := K_of hm hf hp
  have hmr : x ∈ s.rot 1 := by
    unfold PrS.rot
    rw [← List.take_append_drop (s.hd 1) s.L] at hx
    exact List.mem_append.2 ((List.mem_append.1 hx).symm)
  have hgo : s.mayGo x = true := by
    unfold PrS.mayGo
    rw [e1]; simp [ho]
  cases e : (s.rot 1).find? s.mayGo with
  | none => rw [List.find?_eq_none] at e; exact (e x hmr hgo).elim
  | some y =>
    have hy := List.mem_of_find?_eq_some e
    have hg := List.find?_some e
    have hyL : y ∈ s.L := by
      unfold PrS.rot at hy
      rw [← List.take_append_drop (s.hd 1) s.L]
      exact List.mem_append.2 ((List.mem_append.1 hy).symm)
    have hfirst : s.first = y.fr.toNat := by
      unfold PrS.first
      unfold PrS.rot at e
      rw [e]
    unfold PrS.mayGo at hg
    simp only [Bool.and_eq_true, decide_eq_true_eq] at hg
    obtain ⟨k, hk⟩ := List.getElem?_of_mem hyL
    obtain ⟨p1, p2, p3⟩ := pg_of h hm hk hg.1
    exact ⟨y, hyL, rfl, hfirst, hg.1, by omega, by rw [hfirst]; omega, by rw [hfirst]; exact hg.2⟩
/-- A frame's entry. -/
theorem ofF_some {f : Nat} (e : s.ofF f = some i) : ∃ x, s.L[i]? = some x ∧ x.fr = f := by
  obtain ⟨h1, h2, _⟩ := List.findIdx?_eq_some_iff_getElem.1 e
  exact ⟨_, List.getElem?_eq_getElem h1, by simpa using h2⟩
theorem ofF_none {f : Nat} (e : s.ofF f = none) : ∀ x ∈ s.L, ¬ x.fr = f := by
  intro x hx q
  have := List.findIdx?_eq_none_iff.1 e x hx
  simp [q] at this
theorem ofG_some {p : Nat} (e : s.ofG p = some i) : ∃ x, s.L[i]? = some x ∧ x.fr = -1 ∧ x.pg = p := by
  obtain ⟨h1, h2, _⟩ := List.findIdx?_eq_some_iff_getElem.1 e
  exact ⟨_, List.getElem?_eq_getElem h1, by simpa using h2⟩
theorem ofG_none {p : Nat} (e : s.ofG p = none) : ∀ x ∈ s.L, x.fr = -1 → ¬ x.pg = p := by
  intro x hx q q2
  have := List.findIdx?_eq_none_iff.1 e x hx
  simp [q, q2] at this
theorem ofF_of (hm : PM n s) {f : Nat} (hf : f < n) (hp : ¬ s.pg f = 0) : ∃ i x, s.ofF f = some i ∧ s.L[i]? = some x ∧ x.fr = f := by
  obtain ⟨x, hx, e1, _⟩ := K_of hm hf hp
  cases e : s.ofF f with
  | none => exact (ofF_none e x hx e1).elim
  | some i => obtain ⟨y, h1, h2⟩ := ofF_some e; exact ⟨i, y, rfl, h1, h2⟩
theorem rem_ok (h : PK n n s) (hm : PM n s) {f : Nat} (hf : f < n) (hp : ¬ s.pg f = 0) : PK n n (s.rem f) ∧ PM n (s.rem f) ∧ (s.rem f).pg = upd s.pg f 0 ∧ (s.rem f).on = upd s.on f false := by
  obtain ⟨i, x, e, hx, ef⟩ := ofF_of hm hf hp
  have e2 : f = x.fr.toNat := by omega
  unfold PrS.rem
  rw [e]
  simp only
  refine ⟨(h.empty f).drop hx, ?_, rfl, rfl⟩
  rw [e2]
  exact hm.out h hx (by omega)
/-! ### A page is touched -/
theorem put_id {l : List Nat} : True := trivial
theorem upd_self {α : Type} (c : Nat → α) (i : Nat) (v : α) (h : c i = v) : upd c i v = c := by
  funext j
  by_cases e : j = i
  · subst e; rw [upd_same, h]
  · rw [upd_other _ _ e]
theorem access_old (h : PK n n s) (hm : PM n s) {a id : Nat} (ha : a < n) (hp : s.pg a = id) (h1 : 1 ≤ id) :
    PK n n (s.access n a id) ∧ PM n (s.access n a id) ∧ (s.access n a id).pg = upd s.pg a id ∧ (s.access n a id).on = s.on ∧ ∃ i x, s.ofF a = some i ∧ s.L[i]? = some x ∧ x.fr = a ∧ s.access n a id = { s with pg := upd s.pg a id }.put i { x with ref := true } := by
  obtain ⟨i, x, e, hx, ef⟩ := ofF_of hm ha (by omega)
  obtain ⟨q1, q2, q3, q4⟩ := h.el x (mem_get hx)
  have ea : s.access n a id = { s with pg := upd s.pg a id }.put i { x with ref := true } := by
    unfold PrS.access
    simp only [e, hx]
  have es : ({ s with pg := upd s.pg a id } : PrS) = s := by rw [upd_self _ _ _ hp]
  refine ⟨?_, ?_, by rw [ea]; rfl, by rw [ea]; rfl, i, x, e, hx, ef, ea⟩
  · rw [ea, es]; exact h.put (y := { x with ref := true }) hx rfl rfl (fun q => by have q : x.fr < 0 := q; omega) q4
  · rw [ea, es]; exact hm.put (y := { x with ref := true }) hx rfl rfl
/-- A page that comes. -/
theorem come_PM (hm : PM n s) {a id : Nat} {s1 : PrS} (e1 : s1.pg = upd s.pg a id) (e2 : s1.on = s.on) (hk : ∀ (c b : Nat), s1.K c b ↔ (a = c ∧ id = b) ∨ s.K c b) (ha : a < n) (hp : s.pg a = 0) (hno : ∀ b, ¬ s.K a b) : PM n s1 := by
  refine ⟨fun c b k => ?_, fun f hf k => ?_⟩
  · rw [e1]
    rcases (hk c b).1 k with ⟨q1, q2⟩ | q
    · subst q1 q2; exact upd_same ..
    · have : ¬ c = a := fun e => hno b (e ▸ q)
      rw [upd_other _ _ this]; exact hm.pf c b q
  · have : ¬ f = a := fun e => k id ((hk f id).2 (.inl ⟨e.symm, rfl⟩))
    rw [e1, e2, upd_other _ _ this]
    exact hm.p0 f hf (fun b q => k b ((hk f b).2 (.inr q)))
theorem no_K (h : PK n m s) (hm : PM n s) {a : Nat} (hp : s.pg a = 0) : ∀ b, ¬ s.K a b := by
  intro b k
  have e := hm.pf a b k
  obtain ⟨x, hx, e1, e2⟩ := k
  have := (h.el x hx).2.1.1
  omega
theorem ofF_no (h : PK n m s) (hm : PM n s) {a : Nat} (hp : s.pg a = 0) : s.ofF a = none := by
  cases e : s.ofF a with
  | none => rfl
  | some i =>
    obtain ⟨x, hx, e1⟩ := ofF_some e
    exact (no_K h hm hp x.pg ⟨x, mem_get hx, e1, rfl⟩).elim
theorem access_new (h : PK n n s) (hm : PM n s) {a id : Nat} (ha : a < n) (hp : s.pg a = 0) (h1 : 1 ≤ id) (h2 : id < 4294967296) (hni : ∀ f, f < n → ¬ s.pg f = id) :
    PK n n (s.access n a id) ∧ PM n (s.access n a id) ∧ (s.access n a id).pg = upd s.pg a id ∧ (s.access n a id).on = s.on := by
  have hof := ofF_no h hm hp
  have hno := no_K h hm hp
  have hfr : ∀ y ∈ s.L, 0 ≤ y.fr → ¬ y.pg = id := fun y hy hf q => by
    obtain ⟨k, hk⟩ := List.getElem?_of_mem hy
    obtain ⟨p1, p2, _⟩ := pg_of h hm hk hf
    exact hni _ p1 (by rw [p2]; exact q)
  unfold PrS.access
  rw [hof]
  simp only
  cases e : s.ofG id with
  | none =>
    simp only
    have hpk : PK n n { s with pg := upd s.pg a id } := ⟨h.hl, h.uq, h.el, h.ng, h.gl, h.n1⟩
    refine ⟨hpk.lay ⟨⟨by show (-1 : Int) ≤ (a : Int); omega, by show (a : Int) < n; omega⟩, ⟨h1, h2⟩, fun q => by have q : (a : Int) < 0 := q; omega, fun q => by cases q⟩ (by show (0 : Int) ≤ a; omega) (fun y hy => ⟨fun q => ?_, fun q => ofF_none hof y hy q⟩), ?_, lay_pg.1, lay_pg.2.1⟩
    · by_cases hg : 0 ≤ y.fr
      · exact hfr y hy hg q
      · exact ofG_none e y hy (by have := (h.el y hy).1; omega) q
    · refine come_PM hm (a := a) (id := id) lay_pg.1 lay_pg.2.1 (fun c b => ?_) ha hp hno
      rw [lay_K]
      constructor
      · rintro (⟨q1, q2⟩ | q)
        · have q1 : (a : Int) = c := q1
          exact .inl ⟨by omega, q2⟩
        · exact .inr q
      · rintro (⟨q1, q2⟩ | q)
        · exact .inl ⟨by show (a : Int) = c; omega, q2⟩
        · exact .inr q
  | some i =>
    obtain ⟨g, hg, g1, g2⟩ := ofG_some e
    simp only
    have hpk : PK n n { s with pg := upd s.pg a id, goal := min (s.goal + 1) (max (n - 1) 1) } := ⟨h.hl, h.uq, h.el, h.ng, by have := h.gl; show 1 ≤ min (s.goal + 1) (max (n - 1) 1) ∧ min (s.goal + 1) (max (n - 1) 1) ≤ _; omega, h.n1⟩
    have hd := hpk.drop (i := i) (x := g) hg
    have hl : PK n n (({ s with pg := upd s.pg a id, goal := min (s.goal + 1) (max (n - 1) 1) }.drop i).lay ⟨id, a, true, false, false⟩) := by
      refine hd.lay ⟨⟨by show (-1 : Int) ≤ (a : Int); omega, by show (a : Int) < n; omega⟩, ⟨h1, h2⟩, fun q => by have q : (a : Int) < 0 := q; omega, fun q => rfl⟩ (by show (0 : Int) ≤ a; omega) (fun y hy => ⟨fun q => ?_, fun q => ofF_none hof y (List.mem_of_mem_eraseIdx hy) q⟩)
      have hyL : y ∈ s.L := List.mem_of_mem_eraseIdx hy
      obtain ⟨k, hk⟩ := List.getElem?_of_mem hy
      have hk : (s.L.eraseIdx i)[k]? = some y := hk
      rw [eraseIdx_get] at hk
      have q : y.pg = id := q
      split at hk
      · have := h.uq i k g y hg hk (.inl (by omega)); omega
      · have := h.uq i (k + 1) g y hg hk (.inl (by omega)); omega
    obtain ⟨_, c1, c2⟩ := cool_ok hl
    refine ⟨c1, ?_, c2.pg.trans lay_pg.1, c2.on.trans lay_pg.2.1⟩
    refine PM.kept (come_PM (s1 := ({ s with pg := upd s.pg a id, goal := min (s.goal + 1) (max (n - 1) 1) }.drop i).lay ⟨id, a, true, false, false⟩) hm (a := a) (id := id) lay_pg.1 lay_pg.2.1 (fun c b => ?_) ha hp hno) c2
    rw [lay_K, drop_K hpk hg]
    constructor
    · rintro (⟨q1, q2⟩ | ⟨q, _⟩)
      · have q1 : (a : Int) = c := q1
        exact .inl ⟨by omega, q2⟩
      · exact .inr q
    · rintro (⟨q1, q2⟩ | q)
      · exact .inl ⟨by show (a : Int) = c; omega, q2⟩
      · exact .inr ⟨q, by omega⟩
/-! ### How many -/
theorem nd_frames (h : PK n m s) : ((s.L.filter (fun e => decide (0 ≤ e.fr))).map (fun e => e.fr.toNat)).Nodup := by
  have hp : s.L.Pairwise (fun x y => 0 ≤ x.fr → ¬ x.fr = y.fr) := by
    rw [List.pairwise_iff_getElem]
    intro i j hi hj hij hf e
    have := h.uq i j _ _ (List.getElem?_eq_getElem hi) (List.getElem?_eq_getElem hj) (.inr ⟨e, hf⟩)
    omega
  have h2 := hp.sublist (List.filter_sublist (p := fun e : En => decide (0 ≤ e.fr)))
  refine List.pairwise_map.2 (h2.imp_of_mem (fun {a b} ha hb hab e => ?_))
  have := (List.mem_filter.1 ha).2
  have := (List.mem_filter.1 hb).2
  simp at *
  exact hab (by omega) (by omega)
theorem frames_le (h : PK n m s) : s.L.countP (fun e => decide (0 ≤ e.fr)) ≤ n := by
  have := List.Nodup.length_le_of_subset (l₁ := (s.L.filter (fun e => decide (0 ≤ e.fr))).map (fun e => e.fr.toNat)) (l₂ := List.range n) (nd_frames h) (fun y hy => by
    obtain ⟨e, he, rfl⟩ := List.mem_map.1 hy
    obtain ⟨h1, h2⟩ := List.mem_filter.1 he
    simp at h2
    have := (h.el e h1).1
    exact List.mem_range.2 (by omega))
  simpa [List.countP_eq_length_filter] using this
theorem countP_two (l : List En) : l.countP (fun e => decide (0 ≤ e.fr)) + l.countP (fun e => decide (e.fr < 0)) = l.length := by
  induction l with
  | nil => rfl
  | cons a l ih =>
    by_cases q : 0 ≤ a.fr
    · have q2 : ¬ a.fr < 0 := by omega
      simp [List.countP_cons, q, q2]; omega
    · have q2 : a.fr < 0 := by omega
      simp [List.countP_cons, q, q2]; omega
theorem len_le (h : PK n m s) : s.L.length ≤ n + s.gone := by
  have := frames_le h
  have := countP_two s.L
  unfold PrS.gone; omega
theorem hot_le (h : PK n m s) : s.hotN ≤ n := by
  refine Nat.le_trans ?_ (frames_le h)
  unfold PrS.hotN
  refine List.countP_mono_left (fun e he hh => ?_)
  obtain ⟨_, _, q3, q4⟩ := h.el e he
  by_cases q : 0 ≤ e.fr
  · simpa using q
  · have := (q3 (by omega)).1
    rw [q4 hh] at this; cases this
theorem empty_lt (h : PK n n s) (hm : PM n s) {a : Nat} (ha : a < n) (hp : s.pg a = 0) : s.L.length < 2 * n := by
  have h1 := nd_frames h
  have hno := no_K h hm hp
  have h2 : ((s.L.filter (fun e => decide (0 ≤ e.fr))).map (fun e => e.fr.toNat)).length + 1 ≤ n := by
    have := List.Nodup.length_le_of_subset (l₁ := a :: (s.L.filter (fun e => decide (0 ≤ e.fr))).map (fun e => e.fr.toNat)) (l₂ := List.range n) (List.nodup_cons.2 ⟨fun q => by
      obtain ⟨e, he, q⟩ := List.mem_map.1 q
      obtain ⟨h1, h2⟩ := List.mem_filter.1 he
      simp at h2
      exact hno e.pg ⟨e, h1, by omega, rfl⟩, h1⟩) (fun y hy => by
      rcases List.mem_cons.1 hy with rfl | hy
      · exact List.mem_range.2 ha
      · obtain ⟨e, he, rfl⟩ := List.mem_map.1 hy
        obtain ⟨h1, h2⟩ := List.mem_filter.1 he
        simp at h2
        have := (h.el e h1).1
        exact List.mem_range.2 (by omega))
    simpa using this
  have := countP_two s.L
  have h4 := h.ng
  unfold PrS.gone at h4
  rw [List.length_map, ← List.countP_eq_length_filter] at h2
  omega
end
end Go.Proofs.Ytoainbdkhhblbaa
namespace Go.Proofs.Ytoainbdkhhblbaa
open Go.RowKit
set_option linter.unusedVariables false
set_option linter.unusedSimpArgs false

section
variable {w w' w0 : World} {pb gb ob n m : Nat} {F : Nat → Prop} {s : PrS} {lv : Value} {x y : En} {i : Nat}
theorem q_work_step {g : Nat} {st fin : PrS} (h : workO g st = some fin) (h0 : ¬ st.hotN = 0) (hy : st.L[st.hd 0]? = some y) : ∃ g', g = g' + 1 ∧ ((hotStep st y).2 = true → fin = (hotStep st y).1) ∧ ((hotStep st y).2 = false → workO g' (hotStep st y).1 = some fin) := by
  cases g with
  | zero => cases h
  | succ g =>
    unfold workO at h
    rw [if_neg h0, hy] at h
    simp only at h
    refine ⟨g, rfl, fun e => ?_, fun e => ?_⟩
    · rw [if_pos e] at h; simpa using h.symm
    · rw [if_neg (by simp [e])] at h; exact h
theorem q_work_stop {g : Nat} {st fin : PrS} (h : workO g st = some fin) (h0 : st.hotN = 0) : fin = st := by
  cases g with
  | zero => cases h
  | succ g => unfold workO at h; rw [if_pos h0] at h; simpa using h.symm
theorem q_test_step {g : Nat} {st fin : PrS} (h : testO n g st = some fin) (h0 : n < st.gone) (hy : st.L[st.hd 2]? = some y) : ∃ g', g = g' + 1 ∧ testO n g' (testStep st y) = some fin := by
  cases g with
  | zero => cases h
  | succ g =>
    unfold testO at h
    rw [if_neg (by omega), hy] at h
    exact ⟨g, rfl, h⟩
theorem q_test_stop {g : Nat} {st fin : PrS} (h : testO n g st = some fin) (h0 : st.gone ≤ n) : fin = st := by
  cases g with
  | zero => cases h
  | succ g => unfold testO at h; rw [if_pos h0] at h; simpa using h.symm
theorem PK.allh (h : PK n m s) (hL : 0 < s.L.length) : ∀ j, j < 3 → s.hd j < s.L.length := fun j hj => h.lt hL hj
/-- An entry laid into memory of its own. -/
theorem en_blk (w : World) (x : En) : Blk (w.alloc (.cells #[.int .u32 (x.pg : Nat), .int .i64 x.fr, .bool x.hot, .bool x.ref, .bool x.test] 74)) w.heap.size 5 (enC x) :=
  Blk.new _ _ _ 5 _ _ rfl rfl (fun i hi => by
    match i, hi with
    | 0, _ | 1, _ | 2, _ | 3, _ | 4, _ => rfl)
set_option maxRecDepth 100000 in
set_option maxHeartbeats 8000000 in
theorem q_work (h : RS w0 F pb gb ob n w s) (hk : PK n m s) (h0 : ¬ s.hotN = 0) : Calls Try.prog 69 #[.pointer (some ⟨pb, 0, none⟩)] w fun e w' => e = .returned (.tuple #[]) ∧ RS w0 F pb gb ob n w' s.work := by
  obtain ⟨k0, hk0⟩ := work_some hk h0
  have H := Lib.hid h
  have HK := Lib.hid hk
  have HK0 := Lib.hid hk0
  clear h hk h0 hk0
  generalize s.work = fin at *
  go_enter Try.func69, Try.ntmps69
  go_wp2_with fail
  go_loopg [] k0 (fun g wr => ∃ st, RS w0 F pb gb ob n wr st ∧ PK n m st ∧ workO g st = some fin)
  case atStart => exact ⟨s, H.out, HK.out, HK0.out⟩
  case round =>
    obtain ⟨st, h1, hk1, ho⟩ := hrel
    clear H HK HK0
    have HHOT := Lib.hid (q_Hot h1)
    by_cases hz : st.hotN = 0
    · have KEY : Hid (RS w0 F pb gb ob n wr fin) := by rw [q_work_stop ho hz]; exact h1
      rw [hz] at HHOT
      clear hz h1 hk1 ho
      go_wp2_with (go_at_call 15; (refine HHOT.out.mono ?_); rintro e w' ⟨rfl, rfl⟩; clear HHOT)
      go_returns
      exact ⟨rfl, KEY.out⟩
    · have hlen : 0 < st.L.length := hot_pos hz
      obtain ⟨y, hy⟩ := hk1.at hlen (j := 0) (by omega)
      obtain ⟨g', eg, st1, st2⟩ := q_work_step ho hz hy
      have hgk := Lib.hid eg
      obtain ⟨q1, q2, q3, q4⟩ := hk1.el y (mem_get hy)
      obtain ⟨pk2, -, -⟩ := hotStep_kept hk1 hy
      have hgl : st.goal < 100000 := by
        obtain ⟨⟨lv, r, _⟩, _⟩ := h1
        have := r.hn
        have := hk1.gl
        omega
      have hzp : (0 : Int) < (st.hotN : Int) := by omega
      obtain ⟨_, hhd, _, _, _, hm, _⟩ := h1.hd
      have c4 : wr.cell? ⟨pb, 4, none⟩ = some (.int .i64 (st.hd 0 : Nat)) := hhd 0 (by omega)
      have HLT := Lib.hid (hk1.allh hlen)
      have lp := h1.lt
      obtain ⟨g, cap, c3, p1, p2, p3, p4, p5, n1, n2, n3, ⟨x0, x1, x2, x3, x4⟩, _⟩ := h1.setEn hy
      have HB := Lib.hid (en_blk wr y)
      have H1 := Lib.hid h1
      have HY := Lib.hid hy
      have HPK := Lib.hid hk1
      have HGL := Lib.hid hgl
      have HLEN := Lib.hid hlen
      clear h1 hk1 ho hz eg hhd hlen n1 n2 n3 p4 hgl hy
      go_upto_region 3 with (go_at_call 15; (refine HHOT.out.mono ?_); rintro e w' ⟨rfl, rfl⟩; clear HHOT)
      have b3 := HB.out
      have R3 := Lib.hid (H1.out.fr0 ((Fr.refl NoF _).alloc (.cells #[.int .u32 (y.pg : Nat), .int .i64 y.fr, .bool y.hot, .bool y.ref, .bool y.test] 74)))
      clear HB H1 c4 c3 x0 x1 x2 x3 x4 lp
      generalize World.alloc _ (.cells #[.int .u32 (y.pg : Nat), .int .i64 y.fr, .bool y.hot, .bool y.ref, .bool y.test] 74) = w3 at *
      obtain ⟨g3, cap3, c3, p1', p2', p3', p4', p5', _, _, _, _, HS⟩ := R3.out.setEn HY.out
      have lp := R3.out.lt
      have d2 : w3.cell? ⟨_, 2, none⟩ = some (.bool y.hot) := b3.cell (i := 2) (by omega)
      have d3 : w3.cell? ⟨_, 3, none⟩ = some (.bool y.ref) := b3.cell (i := 3) (by omega)
      have d4 : w3.cell? ⟨_, 4, none⟩ = some (.bool y.test) := b3.cell (i := 4) (by omega)
      have ld := b3.lt
      clear b3
      have HSH := Lib.hid HS
      have f2 := p4' (st.hd 0 * 5 + 2)
      have f3 := p4' (st.hd 0 * 5 + 3)
      clear HS p4'
      unfold hotStep at st1 st2 pk2
      by_cases hh : y.hot = true
      · rw [if_pos hh] at st1 st2 pk2
        rw [hh] at d2
        by_cases hrf : y.ref = true
        · rw [if_pos hrf] at st2 pk2
          rw [hrf] at d3
          have S2 := Lib.hid (st2 rfl)
          have PK2 := Lib.hid pk2
          have HP := HSH.out 3 (.bool false) { y with ref := false } (by omega) (fun j hj => by match j, hj with | 0, _ | 1, _ | 2, _ | 3, _ | 4, _ => rfl)
          have HM := Lib.hid (q_move HP (by show 0 < (st.L.set _ _).length; rw [List.length_set]; exact HLEN.out) (j := 0) (by omega) (by show st.hd 0 < (st.L.set _ _).length; rw [List.length_set]; exact HLT.out 0 (by omega)))
          clear st1 st2 pk2 hh hrf q3 q4 HP HSH
          go_wp2_with fail
          refine HM.out.mono ?_
          clear HM
          rintro e w4 ⟨rfl, h4⟩
          have H4 := Lib.hid h4
          clear h4
          go_wp2
          go_roundg g'
          case measure => have := hgk.out; omega
          case rel => exact ⟨_, H4.out, PK2.out, S2.out⟩
        · have hrf : y.ref = false := by simpa using hrf
          rw [if_neg (by simp [hrf])] at st1
          rw [hrf] at d3
          have S1 := Lib.hid (st1 rfl)
          have HP := HSH.out 2 (.bool false) { y with hot := false } (by omega) (fun j hj => by match j, hj with | 0, _ | 1, _ | 2, _ | 3, _ | 4, _ => rfl)
          have HM := Lib.hid (q_move HP (by show 0 < (st.L.set _ _).length; rw [List.length_set]; exact HLEN.out) (j := 0) (by omega) (by show st.hd 0 < (st.L.set _ _).length; rw [List.length_set]; exact HLT.out 0 (by omega)))
          clear st1 st2 pk2 hh hrf q3 q4 HP HSH
          go_wp2_with fail
          refine HM.out.mono ?_
          clear HM
          rintro e w4 ⟨rfl, h4⟩
          have KEY : Hid (RS w0 F pb gb ob n w4 fin) := by rw [S1.out]; exact h4
          clear h4
          go_wp2
          go_returns
          exact ⟨rfl, KEY.out⟩
      · have hh : y.hot = false := by simpa using hh
        rw [if_neg (by simp [hh])] at st1 st2 pk2
        rw [hh] at d2
        by_cases ht : y.test = true
        · rw [if_pos ht] at st2 pk2
          rw [ht] at d4
          have HE := q_end R3.out HY.out HLT.out HGL.out
          by_cases hg : y.fr < 0
          · rw [if_pos hg] at st2 pk2
            rw [show decide (y.fr < 0) = true from by simpa using hg] at HE
            have HE := Lib.hid HE
            have S2 := Lib.hid (st2 rfl)
            have PK2 := Lib.hid pk2
            clear st1 st2 pk2 hh ht hg q3 q4 HSH q1
            go_wp2_with fail
            refine HE.out.mono ?_
            clear HE
            rintro e w4 ⟨rfl, h4⟩
            have H4 := Lib.hid h4
            clear h4
            go_wp2
            go_roundg g'
            case measure => have := hgk.out; omega
            case rel => exact ⟨_, H4.out, PK2.out, S2.out⟩
          · rw [if_neg hg] at st2 pk2
            rw [show decide (y.fr < 0) = false from by simpa using hg] at HE
            have HE := Lib.hid HE
            have S2 := Lib.hid (st2 rfl)
            have PK2 := Lib.hid pk2
            have hE : (st.ends (st.hd 0) y).hd = st.hd ∧ (st.ends (st.hd 0) y).L.length = st.L.length := by
              unfold PrS.ends; rw [if_neg hg]; exact ⟨rfl, by show (st.L.set _ _).length = _; rw [List.length_set]⟩
            have HEN := Lib.hid hE
            clear st1 st2 pk2 hh ht hg q3 q4 HSH q1 hE
            go_wp2_with fail
            refine HE.out.mono ?_
            clear HE
            rintro e w4 ⟨rfl, h4⟩
            have HM := Lib.hid (q_move h4 (by rw [HEN.out.2]; exact HLEN.out) (j := 0) (by omega) (by rw [HEN.out.1, HEN.out.2]; exact HLT.out 0 (by omega)))
            clear h4
            go_wp2_with fail
            refine HM.out.mono ?_
            clear HM
            rintro e w5 ⟨rfl, h5⟩
            have H5 := Lib.hid h5
            clear h5
            go_wp2
            go_roundg g'
            case measure => have := hgk.out; omega
            case rel => exact ⟨_, H5.out, PK2.out, S2.out⟩
        · have ht : y.test = false := by simpa using ht
          rw [if_neg (by simp [ht])] at st2 pk2
          rw [ht] at d4
          have S2 := Lib.hid (st2 rfl)
          have PK2 := Lib.hid pk2
          have HM := Lib.hid (q_move R3.out HLEN.out (j := 0) (by omega) (HLT.out 0 (by omega)))
          clear st1 st2 pk2 hh ht q3 q4 HSH q1
          go_wp2_with fail
          refine HM.out.mono ?_
          clear HM
          rintro e w5 ⟨rfl, h5⟩
          have H5 := Lib.hid h5
          clear h5
          go_wp2
          go_roundg g'
          case measure => have := hgk.out; omega
          case rel => exact ⟨_, H5.out, PK2.out, S2.out⟩
set_option maxRecDepth 100000 in
set_option maxHeartbeats 4000000 in
theorem q_hot (h : RS w0 F pb gb ob n w s) (hk : PK n m s) : Calls Try.prog 48 #[.pointer (some ⟨pb, 0, none⟩)] w fun e w' => e = .returned (.tuple #[]) ∧ RS w0 F pb gb ob n w' (s.cool n) := by
  have hk0 := (cool_ok (n := n) hk).1
  have H := Lib.hid h
  have HK := Lib.hid hk
  have HK0 := Lib.hid hk0
  clear h hk hk0
  generalize s.cool n = fin at *
  generalize s.hotN + 1 = k0 at *
  go_enter Try.func48, Try.ntmps48
  go_wp2_with fail
  go_loopg [] k0 (fun g wr => ∃ st, RS w0 F pb gb ob n wr st ∧ PK n m st ∧ coolO n g st = some fin)
  case atStart => exact ⟨s, H.out, HK.out, HK0.out⟩
  case round =>
    obtain ⟨st, h1, hk1, ho⟩ := hrel
    clear H HK HK0
    have hgl := hk1.gl
    have h1n := hk1.n1
    have hht := hot_le hk1
    obtain ⟨_, _, c7, c0, _, _, hn⟩ := h1.hd
    have lp := h1.lt
    have hw : IntKind.i64.wrap ((n : Int) - (st.goal : Int)) = (n : Int) - (st.goal : Int) := IntWalk.i64_in _ ⟨by omega, by omega⟩
    have HHOT : Hid (∀ d, Calls Try.prog 15 #[.pointer (some ⟨pb, 0, none⟩)] (wr.drewN d) fun e w' => e = .returned (.int .i64 (st.hotN : Nat)) ∧ wr.drewN d = w') := fun d => (q_Hot (h1.fr0 ((Fr.refl NoF wr).drewN d))).mono fun e w' ⟨q1, q2⟩ => ⟨q1, q2.symm⟩
    by_cases hz : st.hotN ≤ n - st.goal
    · have hfin : fin = st := by
        cases gk with
        | zero => cases ho
        | succ g => unfold coolO at ho; rw [if_pos hz] at ho; simpa using ho.symm
      have KEY : Hid (∀ d, RS w0 F pb gb ob n (wr.drewN d) fin) := fun d => by rw [hfin]; exact h1.fr0 ((Fr.refl NoF wr).drewN d)
      by_cases hp : 0 < st.hotN
      · have hd1 : decide ((0 : Int) < (st.hotN : Int)) = true := by simpa using hp
        have hd2 : decide ((n : Int) - (st.goal : Int) < (st.hotN : Int)) = false := by simp; omega
        clear hz hfin h1 hk1 ho hgl h1n hht
        generalize st.hotN = ht at *
        generalize st.goal = gl at *
        go_wp2_with fail
        go_quiet ((go_at_call 15; with_reducible exact qs (HHOT.out _)))
        go_wp2
        go_returns
        exact ⟨rfl, KEY.out _⟩
      · have hd1 : decide ((0 : Int) < (st.hotN : Int)) = false := by simpa using hp
        clear hz hfin h1 hk1 ho hgl h1n hht
        generalize st.hotN = ht at *
        generalize st.goal = gl at *
        go_wp2_with fail
        go_quiet ((go_at_call 15; with_reducible exact qs (HHOT.out _)))
        go_wp2
        go_returns
        exact ⟨rfl, KEY.out _⟩
    · obtain ⟨g', eg, st2⟩ : ∃ g', gk = g' + 1 ∧ coolO n g' st.work = some fin := by
        cases gk with
        | zero => cases ho
        | succ g => unfold coolO at ho; rw [if_neg hz] at ho; exact ⟨g, rfl, ho⟩
      have hgk := Lib.hid eg
      have S2 := Lib.hid st2
      have hne : ¬ st.hotN = 0 := by omega
      obtain ⟨j, hj⟩ := work_some hk1 hne
      have PK2 := Lib.hid (workO_kept hk1 hj).1
      have HW : Hid (∀ d, Calls Try.prog 69 #[.pointer (some ⟨pb, 0, none⟩)] (wr.drewN d) fun e w' => e = .returned (.tuple #[]) ∧ RS w0 F pb gb ob n w' st.work) := fun d => q_work (h1.fr0 ((Fr.refl NoF wr).drewN d)) hk1 hne
      have hd1 : decide ((0 : Int) < (st.hotN : Int)) = true := by simp; omega
      have hlt : (n : Int) - (st.goal : Int) < (st.hotN : Int) := by omega
      have hp0 : 0 < st.hotN := by omega
      clear hz h1 hk1 ho eg st2 hne hj hgl h1n hht
      generalize st.hotN = ht at *
      generalize st.goal = gl at *
      go_wp2_with fail
      go_quiet ((go_at_call 15; with_reducible exact qs (HHOT.out _)))
      go_wp2_with fail
      refine (HW.out _).mono ?_
      clear HW
      rintro e w3 ⟨rfl, h3⟩
      have H3 := Lib.hid h3
      clear h3
      go_wp2
      go_roundg g'
      case measure => have := hgk.out; omega
      case rel => exact ⟨_, H3.out, PK2.out, S2.out⟩
set_option maxRecDepth 100000 in
set_option maxHeartbeats 8000000 in
theorem q_test (h : RS w0 F pb gb ob n w s) (hk : PK n (n + 1) s) : Calls Try.prog 50 #[.pointer (some ⟨pb, 0, none⟩)] w fun e w' => e = .returned (.tuple #[]) ∧ RS w0 F pb gb ob n w' (s.tests n) := by
  obtain ⟨⟨k0, hk0⟩, _, _⟩ := tests_ok hk
  have H := Lib.hid h
  have HK := Lib.hid hk
  have HK0 := Lib.hid hk0
  clear h hk hk0
  generalize s.tests n = fin at *
  go_enter Try.func50, Try.ntmps50
  go_wp2_with fail
  go_loopg [] k0 (fun g wr => ∃ st, RS w0 F pb gb ob n wr st ∧ PK n (n + 1) st ∧ testO n g st = some fin)
  case atStart => exact ⟨s, H.out, HK.out, HK0.out⟩
  case round =>
    obtain ⟨st, h1, hk1, ho⟩ := hrel
    clear H HK HK0
    obtain ⟨_, _, _, c0, _, _, hn⟩ := h1.hd
    have lp := h1.lt
    have HGO : Hid (∀ d, Calls Try.prog 70 #[.pointer (some ⟨pb, 0, none⟩)] (wr.drewN d) fun e w' => e = .returned (.int .i64 (st.gone : Nat)) ∧ Fr NoF wr w' ∧ w'.cell? ⟨pb, 0, none⟩ = some (.int .i64 n) ∧ pb < w'.heap.size) := fun d => (q_gone (h1.fr0 ((Fr.refl NoF wr).drewN d)) (fun e he => (hk1.el e he).2.1.2)).mono fun e w' ⟨q1, q2⟩ => by
      have f : Fr NoF wr w' := ((Fr.refl NoF wr).drewN d).trans q2 (fun _ q => q.elim)
      exact ⟨q1, f, (h1.fr0 f).hd.2.2.2.1, (h1.fr0 f).lt⟩
    by_cases hz : st.gone ≤ n
    · have HR : Hid (∀ W, Fr NoF wr W → RS w0 F pb gb ob n W fin) := fun W f => by rw [q_test_stop ho hz]; exact h1.fr0 f
      have hle : ((st.gone : Nat) : Int) ≤ (n : Int) := by omega
      clear hz h1 hk1 ho
      generalize st.gone = gn at *
      go_wp2_with fail
      go_cut [9] (fun v wx => v = .bool false ∧ Fr NoF wr wx)
      case first =>
        go_region_with (go_at_call 70; (refine (HGO.out _).mono ?_); rintro e w' ⟨rfl, f, e1, e2⟩)
        all_goals
          have HF := Lib.hid f
          clear f e1 e2
          go_wp2_with fail
          go_meet
          exact ⟨by rw [show decide (n < gn) = false from by simp; omega], HF.out⟩
      case rest =>
        obtain ⟨rfl, hcut⟩ := hcut
        have KEY := Lib.hid (HR.out _ hcut)
        clear hcut HR HGO
        go_wp2_with fail
        go_returns
        exact ⟨rfl, KEY.out⟩
    · have hzz : n < st.gone := by omega
      have hlen : 0 < st.L.length := gone_pos (by omega)
      obtain ⟨y, hy⟩ := hk1.at hlen (j := 2) (by omega)
      obtain ⟨g', eg, st2⟩ := q_test_step ho hzz hy
      have hgk := Lib.hid eg
      obtain ⟨q1, q2, q3, q4⟩ := hk1.el y (mem_get hy)
      obtain ⟨pk2, -⟩ := testStep_kept hk1 hy
      have hgl : st.goal < 100000 := by
        have := hk1.gl
        omega
      have HLT := Lib.hid (hk1.allh hlen)
      have H1 := Lib.hid h1
      have HY := Lib.hid hy
      have HGL := Lib.hid hgl
      have HLEN := Lib.hid hlen
      have hle : (n : Int) < ((st.gone : Nat) : Int) := by omega
      clear hz hzz h1 hk1 ho eg hy hgl hlen
      generalize st.gone = gn at *
      go_wp2_with fail
      go_cut [9] (fun v wx => v = .bool true ∧ Fr NoF wr wx)
      case first =>
        go_region_with (go_at_call 70; (refine (HGO.out _).mono ?_); rintro e w' ⟨rfl, f, e1, e2⟩)
        all_goals
          have HF := Lib.hid f
          clear f e1 e2
          go_wp2_with fail
          go_meet
          exact ⟨by first | rfl | rw [show decide (n < gn) = true from by simp; omega], HF.out⟩
      case rest =>
        obtain ⟨rfl, hcut⟩ := hcut
        have R3 := Lib.hid (H1.out.fr0 hcut)
        clear hcut H1 HGO c0 lp hle
        obtain ⟨_, hhd, _, _, _, hm, _⟩ := R3.out.hd
        obtain ⟨g, cap, c3, p1, p2, p3, p4, p5, _, _, _, ⟨_, _, _, _, x4⟩, _⟩ := R3.out.setEn HY.out
        have lp := R3.out.lt
        have c6 := hhd 2 (by omega)
        rw [show 4 + 2 = 6 from rfl] at c6
        clear p4 hhd
        unfold testStep at st2 pk2
        by_cases ht : y.test = true
        · rw [if_pos ht] at st2 pk2
          rw [ht] at x4
          have HE := q_end R3.out HY.out HLT.out HGL.out
          by_cases hg : y.fr < 0
          · rw [if_pos hg] at st2 pk2
            rw [show decide (y.fr < 0) = true from by simpa using hg] at HE
            have HE := Lib.hid HE
            have S2 := Lib.hid st2
            have PK2 := Lib.hid pk2
            clear st2 pk2 ht hg q3 q4 q1
            go_wp2_with fail
            refine HE.out.mono ?_
            clear HE
            rintro e w4 ⟨rfl, h4⟩
            have H4 := Lib.hid h4
            clear h4
            go_wp2
            go_roundg g'
            case measure => have := hgk.out; omega
            case rel => exact ⟨_, H4.out, PK2.out, S2.out⟩
          · rw [if_neg hg] at st2 pk2
            rw [show decide (y.fr < 0) = false from by simpa using hg] at HE
            have HE := Lib.hid HE
            have S2 := Lib.hid st2
            have PK2 := Lib.hid pk2
            have hE : (st.ends (st.hd 2) y).hd = st.hd ∧ (st.ends (st.hd 2) y).L.length = st.L.length := by
              unfold PrS.ends; rw [if_neg hg]; exact ⟨rfl, by show (st.L.set _ _).length = _; rw [List.length_set]⟩
            have HEN := Lib.hid hE
            clear st2 pk2 ht hg q3 q4 q1 hE
            go_wp2_with fail
            refine HE.out.mono ?_
            clear HE
            rintro e w4 ⟨rfl, h4⟩
            have HM := Lib.hid (q_move h4 (by rw [HEN.out.2]; exact HLEN.out) (j := 2) (by omega) (by rw [HEN.out.1, HEN.out.2]; exact HLT.out 2 (by omega)))
            clear h4
            go_wp2_with fail
            refine HM.out.mono ?_
            clear HM
            rintro e w5 ⟨rfl, h5⟩
            have H5 := Lib.hid h5
            clear h5
            go_wp2
            go_roundg g'
            case measure => have := hgk.out; omega
            case rel => exact ⟨_, H5.out, PK2.out, S2.out⟩
        · have ht : y.test = false := by simpa using ht
          rw [if_neg (by simp [ht])] at st2 pk2
          rw [ht] at x4
          have S2 := Lib.hid st2
          have PK2 := Lib.hid pk2
          have HM := Lib.hid (q_move R3.out HLEN.out (j := 2) (by omega) (HLT.out 2 (by omega)))
          clear st2 pk2 ht q3 q4 q1
          go_wp2_with fail
          refine HM.out.mono ?_
          clear HM
          rintro e w5 ⟨rfl, h5⟩
          have H5 := Lib.hid h5
          clear h5
          go_wp2
          go_roundg g'
          case measure => have := hgk.out; omega
          case rel => exact ⟨_, H5.out, PK2.out, S2.out⟩
/-- From here on: what it is made of now. -/
theorem RS.here (h : RS w0 F pb gb ob n w s) : ∃ F' : Nat → Prop, (∀ W, Fr NoF w W → RS W F' pb gb ob n W s) ∧ (∀ i, F' i → F i ∨ w0.heap.size ≤ i) ∧ ∀ i, F' i → i < w.heap.size := by
  obtain ⟨⟨lv, h1, h2⟩, h3, h4⟩ := h
  refine ⟨fun i => i = pb ∨ i = gb ∨ i = ob ∨ lv.ownBlock = some i, fun W f => ⟨⟨lv, h1.fr0 f, fun b q => .inl (.inr (.inr (.inr q)))⟩, Fr.refl _ _, .inl rfl, .inr (.inl rfl), .inr (.inr (.inl rfl))⟩, ?_, ?_⟩
  · rintro i (rfl | rfl | rfl | q)
    · exact .inl h4.1
    · exact .inl h4.2.1
    · exact .inl h4.2.2
    · exact h2 i q
  · rintro i (rfl | rfl | rfl | q)
    · exact h1.hd.lt
    · exact h1.pg.lt
    · exact h1.on.lt
    · exact h1.sl.lt i q
theorem RS.into {F' : Nat → Prop} {W : World} {s' : PrS} (h : RS w0 F pb gb ob n w s) (hF : ∀ i, F' i → F i ∨ w0.heap.size ≤ i) (f : Fr NoF w W) (h' : RS W F' pb gb ob n w' s') : RS w0 F pb gb ob n w' s' := by
  obtain ⟨_, h3, h4⟩ := h
  obtain ⟨⟨lv, a1, a2⟩, a3, _⟩ := h'
  have f1 : Fr F w0 W := h3.trans f (fun _ q => q.elim)
  refine ⟨⟨lv, a1, fun b q => ?_⟩, f1.trans a3 (fun i q => hF i q), h4⟩
  rcases a2 b q with q | q
  · exact hF b q
  · exact .inr (Nat.le_trans f1.size q)
set_option maxHeartbeats 2000000 in
theorem q_again (h : RS w0 F pb gb ob n w s) (hk : PK n m s) (hx : s.L[i]? = some y) (x : En) : Calls Try.prog 47 #[.pointer (some ⟨pb, 0, none⟩), .int .i64 i, .agg (enA x)] w fun e w' => e = .returned (.tuple #[]) ∧ RS w0 F pb gb ob n w' ((s.drop i).lay x) := by
  have hi := get_lt hx
  have hkd := hk.drop hx
  obtain ⟨F', hR, hF, hlt⟩ := h.here
  have f0 : Fr NoF w (w.alloc (.cells #[.int .u32 (x.pg : Nat), .int .i64 x.fr, .bool x.hot, .bool x.ref, .bool x.test] 74)) := (Fr.refl NoF w).alloc _
  have HIN : Hid (∀ w' s', RS (w.alloc (.cells #[.int .u32 (x.pg : Nat), .int .i64 x.fr, .bool x.hot, .bool x.ref, .bool x.test] 74)) F' pb gb ob n w' s' → RS w0 F pb gb ob n w' s') := fun w' s' r => h.into hF f0 r
  have HD := Lib.hid (q_drop (hR _ f0) hi (hk.allh (by omega)))
  have HB : Hid (∀ w', Fr F' (w.alloc (.cells #[.int .u32 (x.pg : Nat), .int .i64 x.fr, .bool x.hot, .bool x.ref, .bool x.test] 74)) w' → Blk w' w.heap.size 5 (enC x)) := fun w' f => (en_blk w x).fr f (fun q => by have := hlt _ q; omega)
  have HL : Hid (∀ W, RS (w.alloc (.cells #[.int .u32 (x.pg : Nat), .int .i64 x.fr, .bool x.hot, .bool x.ref, .bool x.test] 74)) F' pb gb ob n W (s.drop i) → Calls Try.prog 52 #[.pointer (some ⟨pb, 0, none⟩), .agg (enA x)] W fun e w' => e = .returned (.tuple #[]) ∧ RS w0 F pb gb ob n w' ((s.drop i).lay x)) := fun W hW => by
    have h1 := h.hd.2.2.2.2.2.1
    have h2 := drop_len hi
    exact (q_lay hW (fun hp => hkd.allh hp) (by omega) x).mono fun e w' ⟨he, r⟩ => ⟨he, HIN.out _ _ r⟩
  obtain ⟨pg, fr, hot, ref, test⟩ := x
  unfold enA at *
  clear h hk hx hkd hR hF hlt f0
  go_enter Try.func47, Try.ntmps47
  go_wp2_with fail
  refine HD.out.mono ?_
  clear HD
  rintro e w1 ⟨rfl, h1⟩
  have hb := HB.out w1 h1.f
  have d0 : w1.cell? ⟨_, 0, none⟩ = some (.int .u32 (pg : Nat)) := hb.cell (i := 0) (by omega)
  have d1 : w1.cell? ⟨_, 1, none⟩ = some (.int .i64 fr) := hb.cell (i := 1) (by omega)
  have d2 : w1.cell? ⟨_, 2, none⟩ = some (.bool hot) := hb.cell (i := 2) (by omega)
  have d3 : w1.cell? ⟨_, 3, none⟩ = some (.bool ref) := hb.cell (i := 3) (by omega)
  have d4 : w1.cell? ⟨_, 4, none⟩ = some (.bool test) := hb.cell (i := 4) (by omega)
  have ld := hb.lt
  have HLL := Lib.hid (HL.out w1 h1)
  clear hb h1 HB HL HIN
  go_wp2_with fail
  refine HLL.out.mono ?_
  clear HLL
  rintro e w2 ⟨rfl, h2⟩
  have H2 := Lib.hid h2
  clear h2
  go_wp2
  go_returns
  exact ⟨rfl, H2.out⟩
end
end Go.Proofs.Ytoainbdkhhblbaa
namespace Go.Proofs.Ytoainbdkhhblbaa
open Go.RowKit
set_option linter.unusedVariables false
set_option linter.unusedSimpArgs false

theorem isEn_F (s : PrS) (f p : Nat) : s.L.findIdx? (isEn (f : Int) p) = s.ofF f := by
  unfold PrS.ofF
  congr 1
  funext e
  unfold isEn
  rw [decide_eq_decide]
  constructor
  · rintro ⟨q, _⟩; exact q
  · exact fun q => ⟨q, .inl (by omega)⟩
theorem isEn_G (s : PrS) (p : Nat) : s.L.findIdx? (isEn (-1) p) = s.ofG p := by
  unfold PrS.ofG
  congr 1
  funext e
  unfold isEn
  rw [decide_eq_decide]
  constructor
  · rintro ⟨q, q2⟩; exact ⟨q, q2.resolve_left (by omega)⟩
  · exact fun q => ⟨q.1, .inr q.2⟩
theorem isEn_pg (s : PrS) (g : Nat → Nat) (f : Int) (p : Nat) : ({ s with pg := g } : PrS).L.findIdx? (isEn f p) = s.L.findIdx? (isEn f p) := rfl
section
variable {w w' w0 : World} {pb gb ob n m f id : Nat} {F : Nat → Prop} {s : PrS} {lv : Value} {x y : En} {i : Nat}
theorem RS.rows (h : RS w0 F pb gb ob n w s) : w.cell? ⟨pb, 1, none⟩ = some (.slice (some ⟨gb, 0, none⟩) n n) ∧ w.cell? ⟨pb, 2, none⟩ = some (.slice (some ⟨ob, 0, none⟩) n n) ∧ (∀ a, a < n → w.cell? ⟨gb, a, none⟩ = some (.int .u32 (s.pg a : Nat))) ∧ (∀ a, a < n → w.cell? ⟨ob, a, none⟩ = some (.bool (s.on a))) ∧ (∀ a, w.frozen? ⟨gb, a, none⟩ = false) ∧ (∀ a, w.frozen? ⟨ob, a, none⟩ = false) ∧ gb < w.heap.size ∧ ob < w.heap.size ∧ ¬ pb = gb ∧ ¬ pb = ob ∧ ¬ gb = ob := by
  obtain ⟨⟨lv, h1, h2⟩, h3, h4⟩ := h
  exact ⟨h1.c 1 (by omega), h1.c 2 (by omega), fun a ha => h1.pg.cell ha, fun a ha => h1.on.cell ha, h1.pg.frozen, h1.on.frozen, h1.pg.lt, h1.on.lt, h1.d1, h1.d2, h1.d3⟩
theorem RS.setPage (h : RS w0 F pb gb ob n w s) (a id : Nat) : RS w0 F pb gb ob n (w.setCell ⟨gb, a, none⟩ (.int .u32 id)) { s with pg := upd s.pg a id } := by
  obtain ⟨⟨lv, h1, h2⟩, h3, h4⟩ := h
  exact ⟨⟨lv, h1.setPage a id, h2⟩, h3.setCell (p := ⟨gb, a, none⟩) (.inl h4.2.1) _, h4⟩
theorem RS.setOn (h : RS w0 F pb gb ob n w s) (a : Nat) (v : Bool) : RS w0 F pb gb ob n (w.setCell ⟨ob, a, none⟩ (.bool v)) { s with on := upd s.on a v } := by
  obtain ⟨⟨lv, h1, h2⟩, h3, h4⟩ := h
  exact ⟨⟨lv, h1.setOn a v, h2⟩, h3.setCell (p := ⟨ob, a, none⟩) (.inl h4.2.2) _, h4⟩
set_option maxHeartbeats 2000000 in
theorem q_set (h : RS w0 F pb gb ob n w s) (hf : f < n) (v : Bool) : Calls Try.prog 28 #[.pointer (some ⟨pb, 0, none⟩), .int .i64 f, .bool v] w fun e w' => e = .returned (.tuple #[]) ∧ RS w0 F pb gb ob n w' { s with on := upd s.on f v } := by
  obtain ⟨_, c2, _, co, _, fo, _, lo, _, _, _⟩ := h.rows
  have lp := h.lt
  have hn := h.hd.2.2.2.2.2.2
  have cf := co f hf
  have ff := fo f
  have g0 : (0 : Int) ≤ (f : Int) := by omega
  have g1 : (f : Int) < (n : Int) := by omega
  have K := Lib.hid (h.setOn f v)
  clear h co fo
  go_enter Try.func28, Try.ntmps28
  go_wp2
  go_returns
  exact ⟨rfl, K.out⟩
set_option maxHeartbeats 4000000 in
theorem q_remove (h : RS w0 F pb gb ob n w s) (hk : PK n m s) (hf : f < n) : Calls Try.prog 29 #[.pointer (some ⟨pb, 0, none⟩), .int .i64 f] w fun e w' => e = .returned (.tuple #[]) ∧ RS w0 F pb gb ob n w' (s.rem f) := by
  obtain ⟨c1, c2, cp, co, fp, fo, lg, lo, d1, d2, d3⟩ := h.rows
  have lp := h.lt
  have hn := h.hd.2.2.2.2.2.2
  have cf := co f hf
  have cg := cp f hf
  have ff := fo f
  have fg := fp f
  have d3' : ¬ ob = gb := fun e => d3 e.symm
  have g0 : (0 : Int) ≤ (f : Int) := by omega
  have g1 : (f : Int) < (n : Int) := by omega
  have K := Lib.hid ((h.setPage f 0).setOn f false)
  have HK := Lib.hid hk
  clear h co fo cp fp hk
  go_enter Try.func29, Try.ntmps29
  go_upto_region 0 with fail
  go_cut [] (fun wx => RS w0 F pb gb ob n wx (s.empty f))
  case first =>
    go_region
    go_wp2_with fail
    go_meet
    exact K.out.fr0 ((Fr.refl NoF _).drew)
  case rest =>
    have H1 := Lib.hid hcut
    have HO0 := q_of hcut f 0
    rw [isEn_F] at HO0
    have eo : (s.empty f).ofF f = s.ofF f := rfl
    rw [eo] at HO0
    have HO := Lib.hid HO0
    clear HO0 eo hcut K cf cg ff fg c1 c2 lg lo lp d1 d2 d3 d3'
    cases eF : s.ofF f with
    | none =>
      rw [eF] at HO
      have KEY : Hid (∀ W, Fr NoF _ W → RS w0 F pb gb ob n W (s.rem f)) := fun W g => by
        have : s.rem f = s.empty f := by unfold PrS.rem; rw [eF]
        rw [this]; exact H1.out.fr0 g
      clear eF
      unfold idxV at HO
      go_wp2_with (go_at_call 51; (refine HO.out.mono ?_); rintro e w' ⟨rfl, hf⟩; have K1 := Lib.hid (KEY.out _ hf); clear hf KEY HO)
      go_returns
      exact ⟨rfl, K1.out⟩
    | some i =>
      rw [eF] at HO
      obtain ⟨x, hx, _⟩ := ofF_some eF
      have hi := get_lt hx
      have hm := H1.out.hd.2.2.2.2.2.1
      have e0 : (s.empty f).L = s.L := rfl
      rw [e0] at hm
      have KEY : Hid (∀ W, Fr NoF _ W → Calls Try.prog 49 #[.pointer (some ⟨pb, 0, none⟩), .int .i64 i] W fun e w' => e = .returned (.tuple #[]) ∧ RS w0 F pb gb ob n w' (s.rem f)) := fun W g => by
        have : s.rem f = (s.empty f).drop i := by unfold PrS.rem; rw [eF]
        rw [this]; exact q_drop (H1.out.fr0 g) hi (HK.out.allh (by omega))
      clear eF hx e0
      unfold idxV at HO
      go_wp2_with (first | (go_at_call 51; (refine HO.out.mono ?_); rintro e w' ⟨rfl, hf⟩; have K1 := Lib.hid (KEY.out _ hf); clear hf KEY HO) | (go_at_call 49; (refine K1.out.mono ?_); rintro e w'' ⟨rfl, h2⟩; have K2 := Lib.hid h2; clear h2 K1))
      go_returns
      exact ⟨rfl, K2.out⟩
/-- A page comes to an empty frame. -/
theorem come_PK (hk : PK n m s) (hf : f < n) (h1 : 1 ≤ id) (h2 : id < 4294967296) (hno : ∀ x ∈ s.L, ¬ x.fr = (f : Int)) (hg : s.L[i]? = some x) (hgp : x.pg = id) (g : Nat → Nat) : PK n m { s with pg := g, goal := min (s.goal + 1) (max (n - 1) 1) } ∧ PK n m (({ s with pg := g, goal := min (s.goal + 1) (max (n - 1) 1) } : PrS).drop i) ∧ PK n m ((({ s with pg := g, goal := min (s.goal + 1) (max (n - 1) 1) } : PrS).drop i).lay ⟨id, f, true, false, false⟩) := by
  have hpk0 : PK n m { s with pg := g, goal := min (s.goal + 1) (max (n - 1) 1) } := ⟨hk.hl, hk.uq, hk.el, hk.ng, by have := hk.gl; show 1 ≤ min (s.goal + 1) (max (n - 1) 1) ∧ min (s.goal + 1) (max (n - 1) 1) ≤ _; omega, hk.n1⟩
  have hd := hpk0.drop (i := i) (x := x) hg
  refine ⟨hpk0, hd, ?_⟩
  refine hd.lay ⟨⟨by show (-1 : Int) ≤ (f : Int); omega, by show (f : Int) < n; omega⟩, ⟨h1, h2⟩, fun q => by have q : (f : Int) < 0 := q; omega, fun q => rfl⟩ (by show (0 : Int) ≤ f; omega) (fun y hy => ⟨fun q => ?_, fun q => hno y (List.mem_of_mem_eraseIdx hy) q⟩)
  obtain ⟨k, hkk⟩ := List.getElem?_of_mem hy
  have hkk : (s.L.eraseIdx i)[k]? = some y := hkk
  rw [eraseIdx_get] at hkk
  have q : y.pg = id := q
  split at hkk
  · have := hk.uq i k x y hg hkk (.inl (by omega)); omega
  · have := hk.uq i (k + 1) x y hg hkk (.inl (by omega)); omega
set_option maxRecDepth 100000 in
set_option maxHeartbeats 8000000 in
theorem q_access (h : RS w0 F pb gb ob n w s) (hk : PK n n s) (hm : PM n s) (hf : f < n) (h1 : 1 ≤ id) (h2 : id < 4294967296) (hq : s.pg f = id ∨ s.pg f = 0 ∧ ∀ g, g < n → ¬ s.pg g = id) :
    Calls Try.prog 27 #[.pointer (some ⟨pb, 0, none⟩), .int .i64 f, .int .u32 id] w fun e w' => e = .returned (.tuple #[]) ∧ RS w0 F pb gb ob n w' (s.access n f id) := by
  obtain ⟨c1, _, cp, _, fp, _, lg, _, d1, d2, d3⟩ := h.rows
  have lp := h.lt
  have hn := h.hd.2.2.2.2.2.2
  have cg := cp f hf
  have fg := fp f
  have g0 : (0 : Int) ≤ (f : Int) := by omega
  have g1 : (f : Int) < (n : Int) := by omega
  have H1 := Lib.hid (h.setPage f id)
  have HO : Hid (∀ W, RS w0 F pb gb ob n W { s with pg := upd s.pg f id } → Calls Try.prog 51 #[.pointer (some ⟨pb, 0, none⟩), .int .i64 f, .int .u32 id] W fun e w' => e = .returned (idxV (s.ofF f)) ∧ Fr NoF W w') := fun W r => by
    have := q_of r f id
    rw [isEn_pg, isEn_F] at this
    exact this
  have HG : Hid (∀ W, RS w0 F pb gb ob n W { s with pg := upd s.pg f id } → Calls Try.prog 51 #[.pointer (some ⟨pb, 0, none⟩), .int .i64 (-1), .int .u32 id] W fun e w' => e = .returned (idxV (s.ofG id)) ∧ Fr NoF W w') := fun W r => by
    have := q_of r (-1) id
    rw [isEn_pg, isEn_G] at this
    exact this
  have HK := Lib.hid hk
  have HH2 := Lib.hid h2
  rcases hq with hq | ⟨hq, hni⟩
  · obtain ⟨_, _, _, _, i, x, e, hx, ef, ea⟩ := access_old hk hm hf hq h1
    rw [e] at HO
    have HU : Hid (∀ W, RS w0 F pb gb ob n W { s with pg := upd s.pg f id } → RS w0 F pb gb ob n W s) := fun W r => by
      have : ({ s with pg := upd s.pg f id } : PrS) = s := by rw [upd_self _ _ _ hq]
      rw [this] at r; exact r
    have HX := Lib.hid hx
    have HEA := Lib.hid ea
    clear h hk hm hq hx ea e ef cp fp HG h2
    go_enter Try.func27, Try.ntmps27
    unfold idxV at HO
    have HHO := Lib.hid (HO.out _ H1.out)
    clear HO
    go_wp2_with (go_at_call 51; (refine HHO.out.mono ?_); rintro e w1 ⟨rfl, hf⟩; have R0 := H1.out.fr0 hf; have HEQ : Hid (({ s with pg := upd s.pg f id } : PrS).L[i]? = some x) := HX.out; obtain ⟨g, cap, c3, p1, p2, p3, p4, p5, n1, n2, n3, _, HS⟩ := R0.setEn HEQ.out; have hm := R0.hd.2.2.2.2.2.1; have lp := R0.lt; have f3 := p4 (i * 5 + 3); have K := Lib.hid (HS 3 (.bool true) { x with ref := true } (by omega) (fun j hj => by match j, hj with | 0, _ | 1, _ | 2, _ | 3, _ | 4, _ => rfl)); clear HS R0 p4 hf HHO HEQ)
    go_returns
    exact ⟨rfl, by rw [HEA.out]; exact K.out⟩
  · have hof := ofF_no hk hm hq
    have hl := empty_lt hk hm hf hq
    have hno := ofF_none hof
    rw [hof] at HO
    have HHO := Lib.hid (HO.out _ H1.out)
    cases eg : s.ofG id with
    | none =>
      have ea : s.access n f id = { s with pg := upd s.pg f id }.lay ⟨id, f, false, false, true⟩ := by unfold PrS.access; simp only [hof, eg]
      have HEA := Lib.hid ea
      rw [eg] at HG
      have HL : Hid (∀ W, RS w0 F pb gb ob n W { s with pg := upd s.pg f id } → Calls Try.prog 52 #[.pointer (some ⟨pb, 0, none⟩), .agg #[.int .u32 (id : Nat), .int .i64 (f : Nat), .bool false, .bool false, .bool true]] W fun e w' => e = .returned (.tuple #[]) ∧ RS w0 F pb gb ob n w' (s.access n f id)) := fun W r => by
        rw [ea]; exact q_lay r (fun hp => HK.out.allh hp) (by show s.L.length + 1 < 4000; omega) ⟨id, f, false, false, true⟩
      clear h hk hm hq cp fp hof hl hno HO ea eg h2
      unfold idxV at HHO HG
      go_enter Try.func27, Try.ntmps27
      go_wp2_with fail
      refine HHO.out.mono ?_
      clear HHO
      rintro e w1 ⟨rfl, hf1⟩
      have HHG := Lib.hid (HG.out _ (H1.out.fr0 hf1))
      have F1 := Lib.hid hf1
      clear hf1 HG c1 cg fg
      go_wp2_with fail
      refine HHG.out.mono ?_
      clear HHG
      rintro e w2 ⟨rfl, hf2⟩
      have HLL := Lib.hid (HL.out _ (H1.out.fr0 (F1.out.trans hf2 (fun _ q => q.elim))))
      clear hf2 HL
      go_wp2_with fail
      refine HLL.out.mono ?_
      clear HLL
      rintro e w3 ⟨rfl, h3⟩
      have H3 := Lib.hid h3
      clear h3
      go_wp2
      go_returns
      exact ⟨rfl, H3.out⟩
    | some i =>
      obtain ⟨x, hx, x1, x2⟩ := ofG_some eg
      have hi := get_lt hx
      have ea : s.access n f id = (({ s with pg := upd s.pg f id, goal := min (s.goal + 1) (max (n - 1) 1) }.drop i).lay ⟨id, f, true, false, false⟩).cool n := by unfold PrS.access; simp only [hof, eg]
      have HEA := Lib.hid ea
      rw [eg] at HG
      obtain ⟨k1, k2, k3⟩ := come_PK hk hf h1 h2 hno hx x2 (upd s.pg f id)
      have hgl := hk.gl
      have HGL : Hid (∀ W, RS w0 F pb gb ob n W { s with pg := upd s.pg f id } → RS w0 F pb gb ob n (W.setCell ⟨pb, 7, none⟩ (.int .i64 (min (s.goal + 1) (max (n - 1) 1) : Nat))) { s with pg := upd s.pg f id, goal := min (s.goal + 1) (max (n - 1) 1) }) := fun W r => r.setGoal _
      have HD : Hid (∀ W, RS w0 F pb gb ob n W { s with pg := upd s.pg f id, goal := min (s.goal + 1) (max (n - 1) 1) } → Calls Try.prog 49 #[.pointer (some ⟨pb, 0, none⟩), .int .i64 i] W fun e w' => e = .returned (.tuple #[]) ∧ RS w0 F pb gb ob n w' ({ s with pg := upd s.pg f id, goal := min (s.goal + 1) (max (n - 1) 1) }.drop i)) := fun W r => q_drop r hi (k1.allh (by show 0 < s.L.length; omega))
      have HL : Hid (∀ W, RS w0 F pb gb ob n W ({ s with pg := upd s.pg f id, goal := min (s.goal + 1) (max (n - 1) 1) }.drop i) → Calls Try.prog 52 #[.pointer (some ⟨pb, 0, none⟩), .agg #[.int .u32 (id : Nat), .int .i64 (f : Nat), .bool true, .bool false, .bool false]] W fun e w' => e = .returned (.tuple #[]) ∧ RS w0 F pb gb ob n w' (({ s with pg := upd s.pg f id, goal := min (s.goal + 1) (max (n - 1) 1) }.drop i).lay ⟨id, f, true, false, false⟩)) := fun W r =>
        q_lay r (fun hp => k2.allh hp) (by have := drop_len (s := { s with pg := upd s.pg f id, goal := min (s.goal + 1) (max (n - 1) 1) }) hi; have e0 : ({ s with pg := upd s.pg f id, goal := min (s.goal + 1) (max (n - 1) 1) } : PrS).L.length = s.L.length := rfl; omega) ⟨id, f, true, false, false⟩
      have HC : Hid (∀ W, RS w0 F pb gb ob n W (({ s with pg := upd s.pg f id, goal := min (s.goal + 1) (max (n - 1) 1) }.drop i).lay ⟨id, f, true, false, false⟩) → Calls Try.prog 48 #[.pointer (some ⟨pb, 0, none⟩)] W fun e w' => e = .returned (.tuple #[]) ∧ RS w0 F pb gb ob n w' (s.access n f id)) := fun W r => by rw [ea]; exact q_hot r k3
      clear h hk hm hq cp fp hof hl hno HO ea eg h2 k1 k2 k3 hx x1 x2 x
      unfold idxV at HHO HG
      go_enter Try.func27, Try.ntmps27
      go_wp2_with fail
      refine HHO.out.mono ?_
      clear HHO
      rintro e w1 ⟨rfl, hf1⟩
      have HHG := Lib.hid (HG.out _ (H1.out.fr0 hf1))
      have F1 := Lib.hid hf1
      clear hf1 HG c1 cg fg
      go_wp2_with fail
      refine HHG.out.mono ?_
      clear HHG
      rintro e w2 ⟨rfl, hf2⟩
      have R2 := H1.out.fr0 (F1.out.trans hf2 (fun _ q => q.elim))
      obtain ⟨_, _, c7, c0, fz, _, _⟩ := R2.hd
      have c7 : w2.cell? ⟨pb, 7, none⟩ = some (.int .i64 (s.goal : Nat)) := c7
      have lp2 := R2.lt
      have f7 := fz 7
      have R3 : Hid (∀ V : Int, V = ((min (s.goal + 1) (max (n - 1) 1) : Nat) : Int) → RS w0 F pb gb ob n (w2.setCell ⟨pb, 7, none⟩ (.int .i64 V)) { s with pg := upd s.pg f id, goal := min (s.goal + 1) (max (n - 1) 1) }) := fun V e => by rw [e]; exact HGL.out _ R2
      have hn1 := HK.out.n1
      clear hf2 fz R2 HGL H1 lp lg
      have hb : s.goal < 2000 := by omega
      have hb2 : (s.goal : Int) + 1 < 2001 := by omega
      go_wp2_with fail
      go_cut [] (fun wx => RS w0 F pb gb ob n wx { s with pg := upd s.pg f id, goal := min (s.goal + 1) (max (n - 1) 1) })
      case first =>
        clear HD HL HC
        go_region
        all_goals
          go_wp2_with fail
          all_goals go_meet
          all_goals exact (R3.out _ (by omega)).fr0 ((Fr.refl NoF _).drew)
      case rest =>
        have R4 := Lib.hid (HD.out _ hcut)
        clear hcut R3 HD c7 c0 f7 lp2 F1 hb hb2 hgl
        go_wp2_with fail
        refine R4.out.mono ?_
        clear R4
        rintro e w4 ⟨rfl, h4⟩
        have R5 := Lib.hid (HL.out _ h4)
        clear h4 HL
        go_wp2_with fail
        refine R5.out.mono ?_
        clear R5
        rintro e w5 ⟨rfl, h5⟩
        have R6 := Lib.hid (HC.out _ h5)
        clear h5 HC
        go_wp2_with fail
        refine R6.out.mono ?_
        clear R6
        rintro e w6 ⟨rfl, h6⟩
        have K := Lib.hid h6
        clear h6
        go_wp2
        go_returns
        exact ⟨rfl, K.out⟩
end
end Go.Proofs.Ytoainbdkhhblbaa

/-
  The document's LRU-K as functions: the pasts of pages as a list; what stays true. No program in sight.
  lruk's LRUK and the document's go alike. Plain facts, with no program in sight.
  lruk's LRUK and the document's go alike: the one that goes; all together. Plain facts, with no program in sight.
  lruk: the law's own told.
-/
import Derived.Test.YtbnckhkamebibaaK34
import Derived.Test.YtbnckhkamebibaaK32
import Derived.Test.YtbnckhkamebibaaK30
namespace Go.Proofs.Ytbnckhkamebibaa
open Go.RowKit
set_option linter.unusedVariables false

/-- A page's past. -/
structure Pa where
  p : Nat
  l : Nat
  ts : List Nat
def getP (ps : List Pa) (x : Nat) : Option Pa := ps.find? fun q => decide (q.p = x)
def dropP (ps : List Pa) (x : Nat) : List Pa := ps.filter fun q => !decide (q.p = x)
def setP (ps : List Pa) (q' : Pa) : List Pa := ps.map fun q => if q.p = q'.p then q' else q
def idxP (ps : List Pa) (x : Nat) : Option Nat := ps.findIdx? fun q => decide (q.p = x)
def OneP (ps : List Pa) : Prop := (ps.map (·.p)).Nodup

theorem nd_at {α : Type} {l : List α} (h : l.Nodup) {i j : Nat} {a : α} (hi : l[i]? = some a) (hj : l[j]? = some a) : i = j := by
  obtain ⟨li, ei⟩ := List.getElem?_eq_some_iff.1 hi
  obtain ⟨lj, ej⟩ := List.getElem?_eq_some_iff.1 hj
  rcases Nat.lt_trichotomy i j with q | q | q
  · exact (List.pairwise_iff_getElem.1 h i j li lj q (ei.trans ej.symm)).elim
  · exact q
  · exact (List.pairwise_iff_getElem.1 h j i lj li q (ej.trans ei.symm)).elim
theorem getP_mem {ps : List Pa} {x : Nat} {q : Pa} (h : getP ps x = some q) : q ∈ ps ∧ q.p = x := by
  unfold getP at h
  exact ⟨List.mem_of_find?_eq_some h, by simpa using List.find?_some h⟩
theorem getP_none {ps : List Pa} {x : Nat} (h : getP ps x = none) : ∀ q ∈ ps, ¬ q.p = x := by
  unfold getP at h
  intro q hq e
  have := (List.find?_eq_none.1 h) q hq
  simp [e] at this
theorem getP_no {ps : List Pa} {x : Nat} (h : ∀ q ∈ ps, ¬ q.p = x) : getP ps x = none := by
  unfold getP
  rw [List.find?_eq_none]
  intro q hq
  simpa using h q hq
theorem getP_some {ps : List Pa} (ho : OneP ps) {q : Pa} (hq : q ∈ ps) : getP ps q.p = some q := by
  cases e : getP ps q.p with
  | none => exact (getP_none e q hq rfl).elim
  | some r =>
    obtain ⟨h1, h2⟩ := getP_mem e
    obtain ⟨i, hi, e1⟩ := List.mem_iff_getElem.1 hq
    obtain ⟨j, hj, e2⟩ := List.mem_iff_getElem.1 h1
    have hij : i = j := nd_at ho (a := q.p) (by simp [hi, e1]) (by simp [hj, e2, h2])
    subst hij; rw [← e1, ← e2]
theorem dropP_mem {ps : List Pa} {x : Nat} {q : Pa} : q ∈ dropP ps x ↔ q ∈ ps ∧ ¬ q.p = x := by simp [dropP]
theorem getP_drop_same (ps : List Pa) (x : Nat) : getP (dropP ps x) x = none := getP_no fun q hq => (dropP_mem.1 hq).2
theorem getP_drop_other (ps : List Pa) {x y : Nat} (h : ¬ y = x) : getP (dropP ps x) y = getP ps y := by
  unfold getP dropP
  rw [List.find?_filter]
  congr 1
  funext q
  by_cases e : q.p = y
  · have : ¬ q.p = x := fun e2 => h (e ▸ e2)
    simp [e, h]
  · simp [e]
theorem getP_set_same {ps : List Pa} {q' : Pa} (h : (getP ps q'.p).isSome = true) : getP (setP ps q') q'.p = some q' := by
  induction ps with
  | nil => simp [getP] at h
  | cons a ps ih =>
    by_cases e : a.p = q'.p
    · simp [getP, setP, e]
    · have h2 : (getP ps q'.p).isSome = true := by
        have : getP (a :: ps) q'.p = getP ps q'.p := by simp [getP, e]
        rw [this] at h; exact h
      have h3 := ih h2
      have : getP (setP (a :: ps) q') q'.p = getP (setP ps q') q'.p := by simp [getP, setP, e]
      rw [this]; exact h3
theorem getP_set_other (ps : List Pa) (q' : Pa) {y : Nat} (h : ¬ y = q'.p) : getP (setP ps q') y = getP ps y := by
  induction ps with
  | nil => rfl
  | cons a ps ih =>
    have e1 : setP (a :: ps) q' = (if a.p = q'.p then q' else a) :: setP ps q' := rfl
    rw [e1]
    by_cases e : a.p = q'.p
    · rw [if_pos e]
      have h1 : ¬ q'.p = y := fun q => h q.symm
      have h2 : ¬ a.p = y := fun q => h1 (e ▸ q)
      have g1 : getP (q' :: setP ps q') y = getP (setP ps q') y := by simp [getP, h1]
      have g2 : getP (a :: ps) y = getP ps y := by simp [getP, h2]
      rw [g1, g2, ih]
    · rw [if_neg e]
      by_cases h2 : a.p = y
      · simp [getP, h2]
      · have g1 : getP (a :: setP ps q') y = getP (setP ps q') y := by simp [getP, h2]
        have g2 : getP (a :: ps) y = getP ps y := by simp [getP, h2]
        rw [g1, g2, ih]
theorem getP_snoc (ps : List Pa) (q' : Pa) (y : Nat) : getP (ps ++ [q']) y = (getP ps y).or (if q'.p = y then some q' else none) := by
  unfold getP
  rw [List.find?_append]
  congr 1
  by_cases e : q'.p = y <;> simp [e]
theorem setP_mem {ps : List Pa} {q' q : Pa} (h : q ∈ setP ps q') : q = q' ∨ q ∈ ps := by
  obtain ⟨r, h1, h2⟩ := List.mem_map.1 h
  by_cases e : r.p = q'.p
  · rw [if_pos e] at h2; exact .inl h2.symm
  · rw [if_neg e] at h2; exact .inr (h2 ▸ h1)
theorem setP_p (ps : List Pa) (q' : Pa) : (setP ps q').map (·.p) = ps.map (·.p) := by
  unfold setP
  rw [List.map_map]
  apply List.map_congr_left
  intro a _
  simp only [Function.comp]
  split
  · rename_i e; exact e.symm
  · rfl
theorem setP_len (ps : List Pa) (q' : Pa) : (setP ps q').length = ps.length := by simp [setP]
theorem OneP.at {ps : List Pa} (h : OneP ps) {i j : Nat} {a b : Pa} (hi : ps[i]? = some a) (hj : ps[j]? = some b) (e : a.p = b.p) : i = j := by
  exact nd_at (show (ps.map (·.p)).Nodup from h) (a := a.p) (by simp [hi]) (by simp [hj, e])
/-- Written at its place. -/
theorem set_setP {ps : List Pa} (h : OneP ps) {i : Nat} {a q' : Pa} (hi : ps[i]? = some a) (e : a.p = q'.p) : ps.set i q' = setP ps q' := by
  apply List.ext_getElem?
  intro j
  unfold setP
  rw [List.getElem?_set, List.getElem?_map]
  have li := (List.getElem?_eq_some_iff.1 hi).1
  by_cases ej : i = j
  · subst ej
    rw [if_pos rfl, if_pos li, hi]
    simp [e]
  · rw [if_neg ej]
    cases hj : ps[j]? with
    | none => rfl
    | some b =>
      have : ¬ b.p = q'.p := fun q => ej (h.at hi hj (e.trans q.symm))
      simp [this]
/-- Taken out at its place. -/
theorem cut_dropP {ps : List Pa} (h : OneP ps) {i : Nat} {a : Pa} (hi : ps[i]? = some a) : ps.take i ++ ps.drop (i + 1) = dropP ps a.p := by
  have li := (List.getElem?_eq_some_iff.1 hi).1
  have ea := (List.getElem?_eq_some_iff.1 hi).2
  have hs : ps = ps.take i ++ ps[i] :: ps.drop (i + 1) := by simp
  have k1 : ∀ q ∈ ps.take i, ¬ q.p = a.p := by
    intro q hq e
    obtain ⟨j, hj, e2⟩ := List.mem_iff_getElem.1 hq
    have hj' : j < i := by simp at hj; omega
    have : ps[j]? = some q := by rw [← e2]; simp
    have := h.at this hi e
    omega
  have k2 : ∀ q ∈ ps.drop (i + 1), ¬ q.p = a.p := by
    intro q hq e
    obtain ⟨j, hj, e2⟩ := List.mem_iff_getElem.1 hq
    have : ps[i + 1 + j]? = some q := by rw [← e2]; simp at hj ⊢
    have := h.at this hi e
    omega
  unfold dropP
  conv => rhs; rw [hs]
  rw [List.filter_append, List.filter_cons, ea]
  rw [List.filter_eq_self.2 (fun q hq => by simpa using k1 q hq), List.filter_eq_self.2 (fun q hq => by simpa using k2 q hq)]
  simp
theorem idxP_some {ps : List Pa} {x i : Nat} (h : idxP ps x = some i) : ∃ a, ps[i]? = some a ∧ a.p = x ∧ i < ps.length := by
  unfold idxP at h
  obtain ⟨hi, hp, _⟩ := List.findIdx?_eq_some_iff_getElem.1 h
  exact ⟨ps[i], by simp [hi], by simpa using hp, hi⟩
theorem idxP_none {ps : List Pa} {x : Nat} (h : idxP ps x = none) : ∀ q ∈ ps, ¬ q.p = x := by
  unfold idxP at h
  intro q hq e
  have := (List.findIdx?_eq_none_iff.1 h) q hq
  simp [e] at this
theorem idxP_is {ps : List Pa} {x i : Nat} (hi : i < ps.length) (h : ps[i].p = x) (hn : ∀ q ∈ ps.take i, ¬ q.p = x) : idxP ps x = some i := by
  unfold idxP
  rw [List.findIdx?_eq_some_iff_getElem]
  refine ⟨hi, by simpa using h, fun j hj => ?_⟩
  have : ps[j] ∈ ps.take i := List.mem_iff_getElem.2 ⟨j, by simp; omega, by simp⟩
  simpa using hn _ this
theorem idxP_no {ps : List Pa} {x : Nat} (h : ∀ q ∈ ps, ¬ q.p = x) : idxP ps x = none := by
  unfold idxP
  rw [List.findIdx?_eq_none_iff]
  intro q hq
  simpa using h q hq
theorem idxP_get {ps : List Pa} {x i : Nat} (h : idxP ps x = some i) (ho : OneP ps) : ps[i]? = getP ps x := by
  obtain ⟨a, h1, h2, _⟩ := idxP_some h
  rw [h1, ← h2]
  exact (getP_some ho (List.mem_of_getElem? h1)).symm
theorem getP_idx {ps : List Pa} {x : Nat} {a : Pa} (h : getP ps x = some a) : ∃ i, idxP ps x = some i := by
  cases e : idxP ps x with
  | some i => exact ⟨i, rfl⟩
  | none => exact (idxP_none e a (getP_mem h).1 (getP_mem h).2).elim

/-- What the document's LRU-K is. -/
structure S5 where
  page : List Nat
  on : Nat → Bool
  ps : List Pa
  old : List Nat
  T : Nat
/-- The times behind one more touch, so many of them. -/
def moreT (ts : List Nat) (l : Nat) (j : Nat) : Nat := if ts.getD j 0 = 0 then 0 else ts.getD j 0 + l - ts.getD 0 0
def farT (K T : Nat) (ts : List Nat) (l : Nat) : List Nat := T :: (List.range (K - 1)).map (moreT ts l)
def newT (K T : Nat) : List Nat := T :: List.replicate (K - 1) 0
def touch (K near T : Nat) (a : Pa) : Pa := ⟨a.p, T, if near < T - a.l then farT K T a.ts a.l else a.ts⟩
def accP (K near T : Nat) (ps : List Pa) (id : Nat) : List Pa :=
  match getP ps id with
  | none => ps ++ [⟨id, T, newT K T⟩]
  | some a => setP ps (touch K near T a)
def S5.access (K near : Nat) (s : S5) (a id : Nat) : S5 := ⟨s.page.set a id, s.on, accP K near (s.T + 1) s.ps id, awayN s.old id, s.T + 1⟩
def S5.pg (s : S5) (f : Nat) : Nat := s.page.getD f 0
def S5.pa (s : S5) (f : Nat) : Pa := (getP s.ps (s.pg f)).getD ⟨0, 0, []⟩
def S5.key (K : Nat) (s : S5) (f : Nat) : Nat × Nat := ((s.pa f).ts.getD (K - 1) 0, (s.pa f).l)
/-- It may go: of those that were touched long enough ago, or of all. -/
def S5.may (near : Nat) (s : S5) (all : Bool) (f : Nat) : Bool := okF s.page s.on f && (all || decide (near < s.T + 1 - (s.pa f).l))
def S5.worse (K : Nat) (s : S5) (f o : Nat) : Bool := decide ((s.key K o).1 < (s.key K f).1) || (decide ((s.key K f).1 = (s.key K o).1) && decide ((s.key K o).2 < (s.key K f).2))
def S5.bestF (K near : Nat) (s : S5) (all : Bool) : Nat → Option Nat
  | 0 => none
  | m + 1 => if s.may near all m = true then (match S5.bestF K near s all m with
      | none => some m
      | some o => if s.worse K m o = true then some o else some m) else S5.bestF K near s all m
def S5.vic (K near n : Nat) (s : S5) : Option Nat := match s.bestF K near false n with | some f => some f | none => s.bestF K near true n
def S5.gone (kept : Nat) (s : S5) (f : Nat) : S5 :=
  ⟨s.page.set f 0, upd s.on f false, if kept < s.old.length + 1 then dropP s.ps ((s.old ++ [s.pg f]).getD 0 0) else s.ps, if kept < s.old.length + 1 then (s.old ++ [s.pg f]).drop 1 else s.old ++ [s.pg f], s.T⟩
def S5.remove (s : S5) (f : Nat) : S5 := ⟨s.page.set f 0, upd s.on f false, dropP s.ps (s.pg f), s.old, s.T⟩
def polD (K near kept n : Nat) : Pol S5 where
  miss s _ := s
  access s a id := s.access K near a id
  set s a v := ⟨s.page, upd s.on a v, s.ps, s.old, s.T⟩
  victim s _ := s.vic K near n
  gone s _ := match s.vic K near n with | none => s | some f => s.gone kept f
  remove s a := s.remove a
  size s := cntF s.page s.on s.page.length
  ghosts s := s.old

/-- A past is in order. -/
structure PaOk (K T : Nat) (a : Pa) : Prop where
  len : a.ts.length = K
  l1 : 1 ≤ a.l
  lT : a.l ≤ T
  t0 : a.ts.getD 0 0 ≤ a.l
  tj : ∀ j, a.ts.getD j 0 ≤ a.ts.getD 0 0
/-- What stays true. -/
structure Inv5 (K kept n : Nat) (s : S5) : Prop where
  pn : s.page.length = n
  k1 : 1 ≤ K
  ok : ∀ a ∈ s.ps, PaOk K s.T a
  len : s.ps.length ≤ s.T
  one : OneP s.ps
  ls : (s.ps.map (·.l)).Nodup
  fp : ∀ f, ¬ s.pg f = 0 → (getP s.ps (s.pg f)).isSome = true
  op : ∀ x ∈ s.old, 1 ≤ x ∧ (getP s.ps x).isSome = true ∧ ∀ f, ¬ s.pg f = x
  inj : ∀ f g, s.pg f = s.pg g → ¬ s.pg f = 0 → f = g
  on : ∀ f, s.on f = true → ¬ s.pg f = 0
  od : s.old.Nodup
  ok2 : s.old.length ≤ kept
theorem pg_set {l : List Nat} {a x f : Nat} (ha : a < l.length) : (l.set a x).getD f 0 = if f = a then x else l.getD f 0 := getD_setA ha
theorem PaOk.mono {K T T' : Nat} {a : Pa} (h : PaOk K T a) (ht : T ≤ T') : PaOk K T' a := ⟨h.len, h.l1, Nat.le_trans h.lT ht, h.t0, h.tj⟩
theorem farT_get (K T : Nat) (ts : List Nat) (l j : Nat) : (farT K T ts l).getD j 0 = if j = 0 then T else if j < K then moreT ts l (j - 1) else 0 := by
  unfold farT
  cases j with
  | zero => rfl
  | succ j =>
    rw [if_neg (by omega)]
    by_cases h : j + 1 < K
    · rw [if_pos h]
      simp [show j < K - 1 from by omega]
    · rw [if_neg h]
      simp [show ¬ j < K - 1 from by omega]
theorem newT_get (K T j : Nat) : (newT K T).getD j 0 = if j = 0 then T else 0 := by
  unfold newT
  cases j with
  | zero => rfl
  | succ j =>
    rw [if_neg (by omega)]
    simp [List.getElem?_replicate]
    split <;> rfl
theorem moreT_le {K T : Nat} {a : Pa} (h : PaOk K T a) (j : Nat) : moreT a.ts a.l j ≤ a.l := by
  unfold moreT
  have := h.tj j
  have := h.t0
  split <;> omega
theorem touch_ok {K near T : Nat} {a : Pa} (h : PaOk K T a) (hk : 1 ≤ K) : PaOk K (T + 1) (touch K near (T + 1) a) := by
  unfold touch
  by_cases e : near < T + 1 - a.l
  · rw [if_pos e]
    refine ⟨by simp [farT]; omega, by simp, Nat.le_refl _, ?_, fun j => ?_⟩
    · show (farT K (T + 1) a.ts a.l).getD 0 0 ≤ T + 1
      rw [farT_get]; simp
    · show (farT K (T + 1) a.ts a.l).getD j 0 ≤ (farT K (T + 1) a.ts a.l).getD 0 0
      rw [farT_get, farT_get, if_pos rfl]
      have := moreT_le h (j - 1)
      have := h.lT
      split
      · omega
      · split <;> omega
  · rw [if_neg e]
    have h1 := h.t0
    have h2 := h.lT
    exact ⟨h.len, by simp, Nat.le_refl _, by show a.ts.getD 0 0 ≤ T + 1; omega, h.tj⟩
theorem new_ok (K T id : Nat) (hk : 1 ≤ K) : PaOk K (T + 1) ⟨id, T + 1, newT K (T + 1)⟩ := by
  refine ⟨by simp [newT]; omega, by simp, Nat.le_refl _, ?_, fun j => ?_⟩
  · show (newT K (T + 1)).getD 0 0 ≤ T + 1
    rw [newT_get]; simp
  · show (newT K (T + 1)).getD j 0 ≤ (newT K (T + 1)).getD 0 0
    rw [newT_get, newT_get, if_pos rfl]
    split <;> omega
theorem accP_get (K near T : Nat) (ps : List Pa) (id y : Nat) : getP (accP K near T ps id) y = if y = id then some (match getP ps id with | none => ⟨id, T, newT K T⟩ | some a => touch K near T a) else getP ps y := by
  unfold accP
  cases e : getP ps id with
  | none =>
    simp only
    rw [getP_snoc]
    by_cases ey : y = id
    · subst ey; rw [e, if_pos rfl]; simp
    · rw [if_neg ey, if_neg (fun q => ey q.symm)]; simp
  | some a =>
    simp only
    have hp := (getP_mem e).2
    by_cases ey : y = id
    · subst ey
      rw [if_pos rfl]
      have : (touch K near T a).p = y := hp
      rw [← this]
      exact getP_set_same (by rw [this, e]; rfl)
    · rw [if_neg ey]
      exact getP_set_other _ _ (by show ¬ y = a.p; rw [hp]; exact ey)
theorem accP_mem {K near T : Nat} {ps : List Pa} {id : Nat} {q : Pa} (h : q ∈ accP K near T ps id) : q ∈ ps ∨ q = ⟨id, T, newT K T⟩ ∨ ∃ a ∈ ps, a.p = id ∧ q = touch K near T a := by
  unfold accP at h
  cases e : getP ps id with
  | none =>
    rw [e] at h
    rcases List.mem_append.1 h with h | h
    · exact .inl h
    · exact .inr (.inl (List.mem_singleton.1 h))
  | some a =>
    rw [e] at h
    rcases setP_mem h with h | h
    · exact .inr (.inr ⟨a, (getP_mem e).1, (getP_mem e).2, h⟩)
    · exact .inl h
theorem setP_l {ps : List Pa} {q' : Pa} (ho : OneP ps) (h : (ps.map (·.l)).Nodup) (hl : ∀ q ∈ ps, ¬ q.l = q'.l) : ((setP ps q').map (·.l)).Nodup := by
  induction ps with
  | nil => exact List.nodup_nil
  | cons a ps ih =>
    have ho' : OneP ps := (List.nodup_cons.1 ho).2
    have hp := (List.nodup_cons.1 ho).1
    have h' := (List.nodup_cons.1 h).2
    have hl' := (List.nodup_cons.1 h).1
    have ih := ih ho' h' (fun q hq => hl q (List.mem_cons_of_mem _ hq))
    have e1 : setP (a :: ps) q' = (if a.p = q'.p then q' else a) :: setP ps q' := rfl
    rw [e1, List.map_cons, List.nodup_cons]
    refine ⟨fun hm => ?_, ih⟩
    obtain ⟨r, hr, er⟩ := List.mem_map.1 hm
    by_cases e : a.p = q'.p
    · rw [if_pos e] at er
      have : setP ps q' = ps := by
        unfold setP
        conv => rhs; rw [← List.map_id ps]
        apply List.map_congr_left
        intro z hz
        have : ¬ z.p = q'.p := fun q => hp (List.mem_map.2 ⟨z, hz, q.trans e.symm⟩)
        simp [this]
      rw [this] at hr
      exact hl r (List.mem_cons_of_mem _ hr) er
    · rw [if_neg e] at er
      rcases setP_mem hr with rfl | q
      · exact hl a (List.mem_cons_self ..) er.symm
      · exact hl' (List.mem_map.2 ⟨r, q, er⟩)
theorem away_mem {l : List Nat} {f x : Nat} : x ∈ awayN l f ↔ x ∈ l ∧ ¬ x = f := by simp [awayN]
/-- A touch keeps it. -/
theorem Inv5.access {K near kept n : Nat} {s : S5} (h : Inv5 K kept n s) {a id : Nat} (ha : a < n) (hf : s.pg a = id ∨ s.pg a = 0 ∧ ∀ f, ¬ s.pg f = id) (h1 : 1 ≤ id) : Inv5 K kept n (s.access K near a id) := by
  have hal : a < s.page.length := by rw [h.pn]; exact ha
  have hpg : ∀ f, (s.access K near a id).pg f = if f = a then id else s.pg f := fun f => pg_set hal
  have hget := accP_get K near (s.T + 1) s.ps id
  have hoth : ∀ f, ¬ f = a → ¬ s.pg f = id := fun f e q => by
    rcases hf with q2 | ⟨_, q2⟩
    · exact e (h.inj f a (q.trans q2.symm) (by omega))
    · exact q2 f q
  have hlsT : ∀ q ∈ s.ps, ¬ q.l = s.T + 1 := fun q hq e => by have := (h.ok q hq).lT; omega
  refine ⟨by simp [S5.access, h.pn], h.k1, fun q hq => ?_, ?_, ?_, ?_, fun f => ?_, fun x hx => ?_, fun f g => ?_, fun f hf => ?_, ?_, ?_⟩
  · rcases accP_mem hq with q1 | rfl | ⟨b, q1, _, rfl⟩
    · exact (h.ok q q1).mono (Nat.le_succ _)
    · exact new_ok K s.T id h.k1
    · exact touch_ok (h.ok b q1) h.k1
  · show (accP K near (s.T + 1) s.ps id).length ≤ s.T + 1
    have := h.len
    unfold accP
    split
    · simp; omega
    · rw [setP_len]; omega
  · show OneP (accP K near (s.T + 1) s.ps id)
    unfold accP
    split
    · rename_i e
      unfold OneP
      rw [List.map_append, List.nodup_append]
      refine ⟨h.one, by simp, fun x hx y hy e2 => ?_⟩
      obtain ⟨q, q1, q2⟩ := List.mem_map.1 hx
      simp at hy
      exact getP_none e q q1 (q2.trans (e2.trans hy))
    · unfold OneP; rw [setP_p]; exact h.one
  · show ((accP K near (s.T + 1) s.ps id).map (·.l)).Nodup
    unfold accP
    split
    · rw [List.map_append, List.nodup_append]
      refine ⟨h.ls, by simp, fun x hx y hy e2 => ?_⟩
      obtain ⟨q, q1, q2⟩ := List.mem_map.1 hx
      simp at hy
      exact hlsT q q1 (q2.trans (e2.trans hy))
    · exact setP_l h.one h.ls hlsT
  · rw [hpg]
    intro h0
    show (getP (accP K near (s.T + 1) s.ps id) _).isSome = true
    rw [hget]
    by_cases e2 : f = a
    · rw [if_pos e2, if_pos rfl]; rfl
    · rw [if_neg e2] at h0 ⊢
      by_cases e : s.pg f = id
      · rw [if_pos e]; rfl
      · rw [if_neg e]; exact h.fp f h0
  · obtain ⟨hx1, hx2⟩ := away_mem.1 hx
    obtain ⟨o1, o2, o3⟩ := h.op x hx1
    refine ⟨o1, ?_, fun f => ?_⟩
    · show (getP (accP K near (s.T + 1) s.ps id) x).isSome = true
      rw [hget, if_neg hx2]; exact o2
    · rw [hpg]
      split
      · exact fun e => hx2 e.symm
      · exact o3 f
  · rw [hpg, hpg]
    intro e e0
    by_cases ef : f = a
    · by_cases eg : g = a
      · rw [ef, eg]
      · rw [if_pos ef, if_neg eg] at e
        exact (hoth g eg e.symm).elim
    · by_cases eg : g = a
      · rw [if_neg ef, if_pos eg] at e
        exact (hoth f ef e).elim
      · rw [if_neg ef, if_neg eg] at e
        rw [if_neg ef] at e0
        exact h.inj f g e e0
  · rw [hpg]
    split
    · omega
    · exact h.on f hf
  · exact h.od.filter _
  · exact Nat.le_trans (awayN_le _ _) h.ok2
theorem dropP_ok {K kept n : Nat} {s : S5} (h : Inv5 K kept n s) (x : Nat) : (∀ a ∈ dropP s.ps x, PaOk K s.T a) ∧ (dropP s.ps x).length ≤ s.T ∧ OneP (dropP s.ps x) ∧ ((dropP s.ps x).map (·.l)).Nodup := by
  refine ⟨fun a ha => h.ok a (dropP_mem.1 ha).1, Nat.le_trans (List.length_filter_le _ _) h.len, ?_, ?_⟩
  · exact List.Nodup.sublist (List.Sublist.map _ List.filter_sublist) h.one
  · exact List.Nodup.sublist (List.Sublist.map _ List.filter_sublist) h.ls
theorem Inv5.setOn {K kept n : Nat} {s : S5} (h : Inv5 K kept n s) {a : Nat} (ha : ¬ s.pg a = 0) (v : Bool) : Inv5 K kept n ⟨s.page, upd s.on a v, s.ps, s.old, s.T⟩ :=
  ⟨h.pn, h.k1, h.ok, h.len, h.one, h.ls, h.fp, h.op, h.inj, fun f hf => by
    by_cases e : f = a
    · rw [e]; exact ha
    · have : upd s.on a v f = true := hf
      rw [upd_other _ _ e] at this
      exact h.on f this, h.od, h.ok2⟩
theorem on_off {s : S5} (h : ∀ f, s.on f = true → ¬ s.pg f = 0) {a : Nat} {pg' : Nat → Nat} (hp : ∀ f, pg' f = if f = a then 0 else s.pg f) : ∀ f, upd s.on a false f = true → ¬ pg' f = 0 := fun f hf => by
  by_cases e : f = a
  · subst e; rw [upd_same] at hf; cases hf
  · rw [upd_other _ _ e] at hf; rw [hp, if_neg e]; exact h f hf
/-- A page that is taken away. -/
theorem Inv5.remove {K kept n : Nat} {s : S5} (h : Inv5 K kept n s) {a : Nat} (ha : a < n) (h0 : ¬ s.pg a = 0) : Inv5 K kept n (s.remove a) := by
  have hal : a < s.page.length := by rw [h.pn]; exact ha
  have hpg : ∀ f, (s.remove a).pg f = if f = a then 0 else s.pg f := fun f => pg_set hal
  obtain ⟨d1, d2, d3, d4⟩ := dropP_ok h (s.pg a)
  refine ⟨by simp [S5.remove, h.pn], h.k1, d1, d2, d3, d4, fun f => ?_, fun x hx => ?_, fun f g => ?_, on_off h.on hpg, h.od, h.ok2⟩
  · rw [hpg]
    split
    · exact fun q => (q rfl).elim
    · rename_i e
      intro q
      show (getP (dropP s.ps (s.pg a)) _).isSome = true
      rw [getP_drop_other _ (fun q2 => e (h.inj f a q2 q))]
      exact h.fp f q
  · obtain ⟨o1, o2, o3⟩ := h.op x hx
    refine ⟨o1, ?_, fun f => ?_⟩
    · show (getP (dropP s.ps (s.pg a)) x).isSome = true
      rw [getP_drop_other _ (fun q => o3 a q.symm)]; exact o2
    · rw [hpg]
      split
      · omega
      · exact o3 f
  · rw [hpg, hpg]
    intro e e0
    by_cases ef : f = a
    · rw [if_pos ef] at e0; exact (e0 rfl).elim
    · by_cases eg : g = a
      · rw [if_neg ef, if_pos eg] at e; rw [if_neg ef] at e0; exact (e0 e).elim
      · rw [if_neg ef, if_neg eg] at e; rw [if_neg ef] at e0; exact h.inj f g e e0
/-- A page that goes. -/
theorem Inv5.gone {K kept n : Nat} {s : S5} (h : Inv5 K kept n s) {a : Nat} (ha : a < n) (h0 : ¬ s.pg a = 0) : Inv5 K kept n (s.gone kept a) := by
  have hal : a < s.page.length := by rw [h.pn]; exact ha
  have hpg : ∀ f, (s.gone kept a).pg f = if f = a then 0 else s.pg f := fun f => pg_set hal
  have hnew : ¬ s.pg a ∈ s.old := fun q => (h.op _ q).2.2 a rfl
  have hnd : (s.old ++ [s.pg a]).Nodup := by
    rw [List.nodup_append]
    exact ⟨h.od, by simp, fun x hx y hy e => by rw [List.mem_singleton.1 hy] at e; exact hnew (e ▸ hx)⟩
  have hall : ∀ x ∈ s.old ++ [s.pg a], 1 ≤ x ∧ (getP s.ps x).isSome = true ∧ ∀ f, ¬ f = a → ¬ s.pg f = x := fun x hx => by
    rcases List.mem_append.1 hx with q | q
    · obtain ⟨o1, o2, o3⟩ := h.op x q
      exact ⟨o1, o2, fun f _ => o3 f⟩
    · rw [List.mem_singleton.1 q]
      exact ⟨by omega, h.fp a h0, fun f e q2 => e (h.inj f a q2 (by rw [q2]; exact h0))⟩
  have hinj : ∀ f g, (s.gone kept a).pg f = (s.gone kept a).pg g → ¬ (s.gone kept a).pg f = 0 → f = g := by
    intro f g
    rw [hpg, hpg]
    intro e e0
    by_cases ef : f = a
    · rw [if_pos ef] at e0; exact (e0 rfl).elim
    · by_cases eg : g = a
      · rw [if_neg ef, if_pos eg] at e; rw [if_neg ef] at e0; exact (e0 e).elim
      · rw [if_neg ef, if_neg eg] at e; rw [if_neg ef] at e0; exact h.inj f g e e0
  by_cases hk : kept < s.old.length + 1
  · have e1 : (s.gone kept a).ps = dropP s.ps ((s.old ++ [s.pg a]).getD 0 0) := if_pos hk
    have e2 : (s.gone kept a).old = (s.old ++ [s.pg a]).drop 1 := if_pos hk
    have hx0 : (s.old ++ [s.pg a]).getD 0 0 ∈ s.old ++ [s.pg a] := by cases s.old <;> simp
    have hsp : s.old ++ [s.pg a] = (s.old ++ [s.pg a]).getD 0 0 :: (s.old ++ [s.pg a]).drop 1 := by cases s.old <;> simp
    generalize (s.old ++ [s.pg a]).getD 0 0 = x0 at *
    obtain ⟨d1, d2, d3, d4⟩ := dropP_ok h x0
    refine ⟨by simp [S5.gone, h.pn], h.k1, by rw [e1]; exact d1, by rw [e1]; exact d2, by rw [e1]; exact d3, by rw [e1]; exact d4, fun f => ?_, fun x hx => ?_, hinj, on_off h.on hpg, ?_, ?_⟩
    · rw [hpg, e1]
      split
      · exact fun q => (q rfl).elim
      · rename_i e
        intro q
        rw [getP_drop_other _ ((hall x0 hx0).2.2 f e)]
        exact h.fp f q
    · rw [e2] at hx
      rw [e1]
      have hxm := List.mem_of_mem_drop hx
      obtain ⟨o1, o2, o3⟩ := hall x hxm
      have hne : ¬ x = x0 := by
        rintro rfl
        rw [hsp] at hnd
        exact (List.nodup_cons.1 hnd).1 hx
      refine ⟨o1, by rw [getP_drop_other _ hne]; exact o2, fun f => ?_⟩
      rw [hpg]
      split
      · omega
      · rename_i e; exact o3 f e
    · rw [e2]; exact hnd.sublist (List.drop_sublist _ _)
    · rw [e2]; have := h.ok2; simp
      omega
  · have e1 : (s.gone kept a).ps = s.ps := if_neg hk
    have e2 : (s.gone kept a).old = s.old ++ [s.pg a] := if_neg hk
    refine ⟨by simp [S5.gone, h.pn], h.k1, by rw [e1]; exact h.ok, by rw [e1]; exact h.len, by rw [e1]; exact h.one, by rw [e1]; exact h.ls, fun f => ?_, fun x hx => ?_, hinj, on_off h.on hpg, by rw [e2]; exact hnd, by rw [e2]; simp; omega⟩
    · rw [hpg, e1]
      split
      · exact fun q => (q rfl).elim
      · exact h.fp f
    · rw [e2] at hx
      rw [e1]
      obtain ⟨o1, o2, o3⟩ := hall x hx
      refine ⟨o1, o2, fun f => ?_⟩
      rw [hpg]
      split
      · omega
      · rename_i e; exact o3 f e
end Go.Proofs.Ytbnckhkamebibaa
namespace Go.Proofs.Ytbnckhkamebibaa
open Go.RowKit Go.Maps
set_option linter.unusedVariables false

def pastD (a : Pa) : Int × (Nat → Int) := ((a.l : Int), fun j => ((a.ts.getD j 0 : Nat) : Int))
def keyD (K : Nat) (s : S5) (f : Nat) : Option (Int × Int) := if okF s.page s.on f = true then some (((s.key K f).1 : Nat), ((s.key K f).2 : Nat)) else none
/-- Both go alike; kk bounds what was counted. -/
structure RS5 (K near kept n : Nat) (kk : Nat) (s : S5) (t : LK) (fr : List Nat) : Prop where
  inv : Inv5 K kept n s
  pf : s.page = fr
  tn : t.n = n
  tk : t.k = K
  tr : t.near = near
  tp : t.kept = kept
  T : t.T = s.T
  b : s.T ≤ kk
  g : t.gone ≤ kk
  fr : ∀ f, (t.fr f).1 = !decide (s.pg f = 0)
  fp : ∀ f, ¬ s.pg f = 0 → (t.fr f).2 = s.pg f
  P : ∀ x, t.P x = (getP s.ps x).map pastD
  R : ∀ f, t.R f = keyD K s f
  O : t.Old.map (·.1) = s.old
  t : t.t = cntR t.R t.n
section
variable {K near kept n kk : Nat} {s : S5} {t : LK} {fr : List Nat}
theorem cntR_cntF (R : Nat → Option (Int × Int)) (page : List Nat) (on : Nat → Bool) (h : ∀ f, (R f).isSome = okF page on f) : ∀ n, cntR R n = cntF page on n
  | 0 => rfl
  | n + 1 => by rw [cntF_succ]; unfold cntR; rw [cntR_cntF R page on h n, h n]
theorem keyD_some (K : Nat) (s : S5) (f : Nat) : (keyD K s f).isSome = okF s.page s.on f := by
  unfold keyD
  cases okF s.page s.on f <;> rfl
theorem RS5.cnt (h : RS5 K near kept n kk s t fr) : t.t = cntF s.page s.on s.page.length := by
  rw [h.t, h.tn, h.inv.pn]
  exact cntR_cntF _ _ _ (fun f => by rw [h.R, keyD_some]) n
theorem okF_pg (s : S5) (f : Nat) : okF s.page s.on f = (!decide (s.pg f = 0) && s.on f) := rfl
theorem okF_on {s : S5} (hi : Inv5 K kept n s) (f : Nat) : okF s.page s.on f = s.on f := by
  rw [okF_pg]
  cases e : s.on f with
  | false => simp
  | true => simp [hi.on f e]
theorem okF_lt {s : S5} (hi : Inv5 K kept n s) {f : Nat} (h : okF s.page s.on f = true) : f < n := by
  rw [okF_pg] at h
  apply Classical.byContradiction
  intro hn
  have : s.pg f = 0 := by
    unfold S5.pg
    rw [List.getD_eq_getElem?_getD, List.getElem?_eq_none (by rw [hi.pn]; omega)]
    rfl
  simp [this] at h
theorem pastOf_eq (h : RS5 K near kept n kk s t fr) (x : Nat) : pastOf t x = match getP s.ps x with | none => (0, fun _ => 0) | some a => pastD a := by
  unfold pastOf
  rw [h.P]
  cases getP s.ps x <;> rfl
theorem touchT_far (last : Int) (t : Nat → Int) (now near : Int) (k : Nat) (h : ¬ (¬ last = 0 ∧ now - last ≤ near)) (j : Nat) : touchT last t now near k j = if j = 0 then now else if j < k then (if t (j - 1) = 0 then 0 else t (j - 1) + (last - t 0)) else t j := by
  unfold touchT
  rw [if_neg h]
  by_cases e : j = 0
  · subst e; rw [upd_same, if_pos rfl]
  · rw [upd_other _ _ e, if_neg e]
    unfold timesF
    by_cases hk : j < k
    · rw [if_pos ⟨by omega, hk⟩, if_pos hk]
    · rw [if_neg (by omega), if_neg hk]
/-- A past behind a touch, on both sides. -/
theorem touch_eq {T : Nat} {a : Pa} (ha : PaOk K T a) (hk : 1 ≤ K) : touchT (pastD a).1 (pastD a).2 ((T + 1 : Nat) : Int) near K = (pastD (touch K near (T + 1) a)).2 := by
  funext j
  have h1 := ha.l1
  have h2 := ha.lT
  have h3 := ha.t0
  have h4 := ha.tj (j - 1)
  by_cases hf : near < T + 1 - a.l
  · rw [touchT_far _ _ _ _ _ (by show ¬ (¬ (a.l : Int) = 0 ∧ ((T + 1 : Nat) : Int) - (a.l : Int) ≤ (near : Int)); omega)]
    show _ = (((touch K near (T + 1) a).ts.getD j 0 : Nat) : Int)
    have : (touch K near (T + 1) a).ts = farT K (T + 1) a.ts a.l := if_pos hf
    rw [this, farT_get]
    by_cases e : j = 0
    · rw [if_pos e, if_pos e]
    · rw [if_neg e, if_neg e]
      by_cases hj : j < K
      · rw [if_pos hj, if_pos hj]
        show (if ((a.ts.getD (j - 1) 0 : Nat) : Int) = 0 then (0 : Int) else ((a.ts.getD (j - 1) 0 : Nat) : Int) + ((a.l : Int) - ((a.ts.getD 0 0 : Nat) : Int))) = ((moreT a.ts a.l (j - 1) : Nat) : Int)
        unfold moreT
        generalize a.ts.getD (j - 1) 0 = u at *
        generalize a.ts.getD 0 0 = v at *
        by_cases e0 : u = 0
        · rw [if_pos (by omega), if_pos e0]; rfl
        · rw [if_neg (by omega), if_neg e0]; omega
      · rw [if_neg hj, if_neg hj]
        show ((a.ts.getD j 0 : Nat) : Int) = ((0 : Nat) : Int)
        rw [List.getD_eq_getElem?_getD, List.getElem?_eq_none (by rw [ha.len]; omega)]; rfl
  · have e1 : touchT (pastD a).1 (pastD a).2 ((T + 1 : Nat) : Int) near K = (pastD a).2 := if_pos (by show ¬ (a.l : Int) = 0 ∧ ((T + 1 : Nat) : Int) - (a.l : Int) ≤ (near : Int); omega)
    rw [e1]
    show ((a.ts.getD j 0 : Nat) : Int) = (((touch K near (T + 1) a).ts.getD j 0 : Nat) : Int)
    have : (touch K near (T + 1) a).ts = a.ts := if_neg hf
    rw [this]
theorem touch_new (T : Nat) : touchT 0 (fun _ => 0) ((T + 1 : Nat) : Int) near K = fun j => (((newT K (T + 1)).getD j 0 : Nat) : Int) := by
  funext j
  rw [touchT_far _ _ _ _ _ (by simp), newT_get]
  by_cases e : j = 0
  · rw [if_pos e, if_pos e]
  · rw [if_neg e, if_neg e]
    split <;> simp
theorem touP_eq (h : RS5 K near kept n kk s t fr) (id : Nat) (x : Nat) : updO t.P id (some (((t.T + 1 : Nat) : Int), touchT (pastOf t id).1 (pastOf t id).2 ((t.T + 1 : Nat) : Int) t.near t.k)) x = (getP (accP K near (s.T + 1) s.ps id) x).map pastD := by
  rw [accP_get, h.T, h.tr, h.tk]
  by_cases e : x = id
  · subst e
    rw [updO_same, if_pos rfl, pastOf_eq h]
    cases eg : getP s.ps x with
    | none =>
      simp only
      rw [touch_new]; rfl
    | some a =>
      simp only
      rw [touch_eq (h.inv.ok a (getP_mem eg).1) h.inv.k1]; rfl
  · rw [updO_other _ _ e, if_neg e, h.P]
theorem rank_eq {t : LK} {ps : List Pa} (hk : t.k = K) (hP : ∀ x, t.P x = (getP ps x).map pastD) (x : Nat) : rankOf t x = (((((getP ps x).getD ⟨0, 0, []⟩).ts.getD (K - 1) 0 : Nat) : Int), ((((getP ps x).getD ⟨0, 0, []⟩).l : Nat) : Int)) := by
  unfold rankOf pastOf
  rw [hP, hk]
  cases getP ps x with
  | none => simp
  | some a => rfl
theorem woO_map (l : List (Nat × Nat)) (x : Nat) : (woO l x).map (·.1) = awayN (l.map (·.1)) x := by
  unfold woO awayN
  rw [List.filter_map]; rfl
theorem pg_at (h : RS5 K near kept n kk s t fr) {a x : Nat} (hx : fr[a]? = some x) : s.pg a = x := by
  unfold S5.pg
  rw [h.pf, List.getD_eq_getElem?_getD, hx]; rfl
theorem pg_no (h : RS5 K near kept n kk s t fr) {id : Nat} (hx : ¬ id ∈ fr) (h1 : 1 ≤ id) (f : Nat) : ¬ s.pg f = id := by
  intro e
  unfold S5.pg at e
  rw [h.pf, List.getD_eq_getElem?_getD] at e
  cases hf : fr[f]? with
  | none => rw [hf] at e; simp at e; omega
  | some y => rw [hf] at e; simp at e; exact hx (e ▸ List.mem_of_getElem? hf)
/-- A touch, on both sides. -/
theorem sim_access (h : RS5 K near kept n kk s t fr) {a id : Nat} (ha : a < n) (hx : fr[a]? = some id ∨ fr[a]? = some 0 ∧ ¬ id ∈ fr) (h1 : 1 ≤ id) : RS5 K near kept n (kk + 1) (s.access K near a id) ({ accS t a id with Fa := fun _ => false }) (fr.set a id) := by
  have hf : s.pg a = id ∨ s.pg a = 0 ∧ ∀ f, ¬ s.pg f = id := hx.imp (fun q => pg_at h q) (fun q => ⟨pg_at h q.1, fun f => pg_no h q.2 h1 f⟩)
  have hal : a < s.page.length := by rw [h.inv.pn]; exact ha
  have hpg : ∀ f, (s.access K near a id).pg f = if f = a then id else s.pg f := fun f => pg_set hal
  have hI := h.inv.access (near := near) ha hf h1
  -- the page in the frame, behind its coming
  have hcom : comS t a id = { t with fr := updF t.fr a (true, id), Old := woO t.Old id } ∨ (comS t a id = t ∧ s.pg a = id) := by
    unfold comS
    rw [h.fr]
    by_cases e : s.pg a = 0
    · left; simp [e]
    · right
      exact ⟨by simp [e], hf.resolve_right (fun q => e q.1)⟩
  have hc2 : ((comS t a id).fr a).2 = id := by
    rcases hcom with e | ⟨e, e2⟩
    · rw [e]; show (updF t.fr a (true, id) a).2 = id; rw [updF_same]
    · rw [e, h.fp a (by omega), e2]
  have hc1 : ∀ f, ((comS t a id).fr f).1 = !decide ((s.access K near a id).pg f = 0) := fun f => by
    rw [hpg]
    rcases hcom with e | ⟨e, e2⟩
    · rw [e]; show (updF t.fr a (true, id) f).1 = _
      by_cases ef : f = a
      · subst ef; rw [updF_same, if_pos rfl]; simp; omega
      · rw [updF_other _ _ ef, if_neg ef]; exact h.fr f
    · rw [e, h.fr]
      by_cases ef : f = a
      · subst ef; rw [if_pos rfl, e2]
      · rw [if_neg ef]
  have hc3 : ∀ f, ¬ (s.access K near a id).pg f = 0 → ((comS t a id).fr f).2 = (s.access K near a id).pg f := fun f => by
    rw [hpg]
    by_cases ef : f = a
    · subst ef; rw [if_pos rfl]; exact fun _ => hc2
    · rw [if_neg ef]
      intro q
      rcases hcom with e | ⟨e, e2⟩
      · rw [e]; show (updF t.fr a (true, id) f).2 = _; rw [updF_other _ _ ef]; exact h.fp f q
      · rw [e]; exact h.fp f q
  have hcO : (comS t a id).Old.map (·.1) = awayN s.old id := by
    rcases hcom with e | ⟨e, e2⟩
    · rw [e]; show (woO t.Old id).map (·.1) = _; rw [woO_map, h.O]
    · rw [e, h.O]
      unfold awayN
      rw [List.filter_eq_self.2]
      intro x hx
      have : ¬ x = id := fun q => (h.inv.op x hx).2.2 a (by rw [e2, q])
      simp [this]
  have hcX : (comS t a id).n = t.n ∧ (comS t a id).k = t.k ∧ (comS t a id).near = t.near ∧ (comS t a id).kept = t.kept ∧ (comS t a id).T = t.T ∧ (comS t a id).P = t.P ∧ (comS t a id).R = t.R ∧ (comS t a id).t = t.t ∧ (comS t a id).gone = t.gone := by
    unfold comS
    split <;> exact ⟨rfl, rfl, rfl, rfl, rfl, rfl, rfl, rfl, rfl⟩
  obtain ⟨x1, x2, x3, x4, x5, x6, x7, x8, x9⟩ := hcX
  have hpo : pastOf (comS t a id) id = pastOf t id := by unfold pastOf; rw [x6]
  have hP : ∀ x, (touS (comS t a id) id).P x = (getP (s.access K near a id).ps x).map pastD := fun x => by
    show updO (comS t a id).P id (some ((((comS t a id).T + 1 : Nat) : Int), touchT (pastOf (comS t a id) id).1 (pastOf (comS t a id) id).2 (((comS t a id).T + 1 : Nat) : Int) (comS t a id).near (comS t a id).k)) x = _
    rw [hpo, x5, x6, x3, x2]
    exact touP_eq h id x
  have hac : accS t a id = rerS (touS (comS t a id) id) a := by unfold accS; rw [hc2]
  generalize hu : touS (comS t a id) id = u at *
  have u1 : u.n = n := by rw [← hu]; exact x1.trans h.tn
  have u2 : u.k = K := by rw [← hu]; exact x2.trans h.tk
  have u3 : u.near = near := by rw [← hu]; exact x3.trans h.tr
  have u4 : u.kept = kept := by rw [← hu]; exact x4.trans h.tp
  have u5 : u.T = s.T + 1 := by rw [← hu]; show (comS t a id).T + 1 = _; rw [x5, h.T]
  have u6 : u.R = t.R := by rw [← hu]; exact x7
  have u7 : u.t = t.t := by rw [← hu]; exact x8
  have u8 : u.gone = t.gone := by rw [← hu]; exact x9
  have u9 : u.fr = (comS t a id).fr := by rw [← hu]; rfl
  have u10 : u.Old = (comS t a id).Old := by rw [← hu]; rfl
  have hra : rankOf u (u.fr a).2 = (((((s.access K near a id).key K a).1 : Nat) : Int), ((((s.access K near a id).key K a).2 : Nat) : Int)) := by
    rw [u9, hc2, rank_eq u2 hP]
    unfold S5.key S5.pa
    rw [hpg, if_pos rfl]
  have hkey : ∀ f, ¬ f = a → okF s.page s.on f = true → (s.access K near a id).key K f = s.key K f := fun f e hok => by
    have hp : ¬ s.pg f = 0 := by rw [okF_pg] at hok; intro q; simp [q] at hok
    have hne : ¬ s.pg f = id := fun q => by
      rcases hf with q2 | ⟨_, q2⟩
      · exact e (h.inv.inj f a (q.trans q2.symm) hp)
      · exact q2 f q
    unfold S5.key S5.pa
    rw [hpg, if_neg e]
    have e : getP (s.access K near a id).ps (s.pg f) = getP s.ps (s.pg f) := by
      show getP (accP K near (s.T + 1) s.ps id) (s.pg f) = _
      rw [accP_get, if_neg hne]
    rw [e]
  have hokf : ∀ f, okF (s.access K near a id).page (s.access K near a id).on f = okF s.page s.on f := fun f => by
    rw [okF_on hI f, okF_on h.inv f]; rfl
  have hR : ∀ f, (rerS u a).R f = keyD K (s.access K near a id) f := fun f => by
    have hRf := h.R f
    unfold keyD at hRf ⊢
    rw [hokf]
    unfold rerS
    by_cases hs : (u.R a).isSome = true
    · rw [if_pos hs]
      show updK u.R a (some (rankOf u (u.fr a).2)) f = _
      by_cases ef : f = a
      · subst ef
        rw [updK_same, hra]
        rw [u6, h.R, keyD_some] at hs
        rw [if_pos hs]
      · rw [updK_other _ _ ef, u6, hRf]
        by_cases hok : okF s.page s.on f = true
        · rw [if_pos hok, if_pos hok, hkey f ef hok]
        · rw [if_neg hok, if_neg hok]
    · rw [if_neg hs, u6, hRf]
      by_cases hok : okF s.page s.on f = true
      · rw [if_pos hok, if_pos hok]
        by_cases ef : f = a
        · subst ef
          rw [u6, h.R, keyD_some] at hs
          exact (hs hok).elim
        · rw [hkey f ef hok]
      · rw [if_neg hok, if_neg hok]
  have hcnt : cntR (rerS u a).R n = cntR t.R n := by
    rw [cntR_cntF (rerS u a).R s.page s.on (fun f => by rw [hR f, keyD_some, hokf]) n, cntR_cntF t.R s.page s.on (fun f => by rw [h.R f, keyD_some]) n]
  have hr : (rerS u a).n = u.n ∧ (rerS u a).k = u.k ∧ (rerS u a).near = u.near ∧ (rerS u a).kept = u.kept ∧ (rerS u a).T = u.T ∧ (rerS u a).P = u.P ∧ (rerS u a).fr = u.fr ∧ (rerS u a).t = u.t ∧ (rerS u a).gone = u.gone ∧ (rerS u a).Old = u.Old := by
    unfold rerS
    split <;> exact ⟨rfl, rfl, rfl, rfl, rfl, rfl, rfl, rfl, rfl, rfl⟩
  obtain ⟨y1, y2, y3, y4, y5, y6, y7, y8, y9, y10⟩ := hr
  rw [hac]
  refine ⟨hI, by show s.page.set a id = fr.set a id; rw [h.pf], y1.trans u1, y2.trans u2, y3.trans u3, y4.trans u4, y5.trans u5, Nat.succ_le_succ h.b, ?_, fun f => ?_, fun f q => ?_, fun x => ?_, hR, ?_, ?_⟩
  · show (rerS u a).gone ≤ kk + 1
    rw [y9, u8]; have := h.g; omega
  · show ((rerS u a).fr f).1 = _
    rw [y7, u9]; exact hc1 f
  · show ((rerS u a).fr f).2 = _
    rw [y7, u9]; exact hc3 f q
  · show (rerS u a).P x = _
    rw [y6]; exact hP x
  · show (rerS u a).Old.map (·.1) = _
    rw [y10, u10]; exact hcO
  · show (rerS u a).t = cntR (rerS u a).R (rerS u a).n
    rw [y8, y1, u1, u7, hcnt, h.t, h.tn]
theorem sim_set (h : RS5 K near kept n kk s t fr) {a x : Nat} (ha : a < n) (hx : fr[a]? = some x) (h1 : 1 ≤ x) (v : Bool) : RS5 K near kept n kk ⟨s.page, upd s.on a v, s.ps, s.old, s.T⟩ ({ setS t a v with Fa := fun _ => false }) fr := by
  have hp : ¬ s.pg a = 0 := by rw [pg_at h hx]; omega
  have hI := h.inv.setOn hp v
  have hok : ∀ f, okF s.page (upd s.on a v) f = if f = a then v else okF s.page s.on f := fun f => by
    have e1 := okF_on hI f
    rw [okF_on h.inv f]
    refine e1.trans ?_
    show upd s.on a v f = _
    by_cases e : f = a
    · subst e; rw [upd_same, if_pos rfl]
    · rw [upd_other _ _ e, if_neg e]
  have hra : rankOf t (t.fr a).2 = ((((s.key K a).1 : Nat) : Int), (((s.key K a).2 : Nat) : Int)) := by
    rw [h.fp a hp, rank_eq h.tk h.P]; rfl
  have hkd : ∀ f, keyD K ⟨s.page, upd s.on a v, s.ps, s.old, s.T⟩ f = if f = a then (if v = true then some ((((s.key K a).1 : Nat) : Int), (((s.key K a).2 : Nat) : Int)) else none) else keyD K s f := fun f => by
    show (if okF s.page (upd s.on a v) f = true then some (((s.key K f).1 : Int), ((s.key K f).2 : Int)) else none) = _
    rw [hok]
    by_cases e : f = a
    · subst e; rw [if_pos rfl, if_pos rfl]
    · rw [if_neg e, if_neg e]; rfl
  have hR : ∀ f, (setS t a v).R f = keyD K ⟨s.page, upd s.on a v, s.ps, s.old, s.T⟩ f := fun f => by
    rw [hkd]
    unfold setS
    by_cases hs : (t.R a).isSome = v
    · rw [if_pos hs, h.R]
      by_cases e : f = a
      · subst e
        rw [if_pos rfl]
        rw [h.R, keyD_some] at hs
        unfold keyD
        rw [hs]
      · rw [if_neg e]
    · rw [if_neg hs]
      cases v with
      | true =>
        show updK t.R a (some (rankOf t (t.fr a).2)) f = _
        by_cases e : f = a
        · subst e; rw [updK_same, if_pos rfl, hra]; rfl
        · rw [updK_other _ _ e, if_neg e]; exact h.R f
      | false =>
        show updK t.R a none f = _
        by_cases e : f = a
        · subst e; rw [updK_same, if_pos rfl]; rfl
        · rw [updK_other _ _ e, if_neg e]; exact h.R f
  have hcnt : (setS t a v).t = cntR (setS t a v).R n := by
    have ht := h.t
    rw [h.tn] at ht
    unfold setS
    by_cases hs : (t.R a).isSome = v
    · rw [if_pos hs]; exact ht
    · rw [if_neg hs]
      cases v with
      | true =>
        show t.t + 1 = cntR (updK t.R a (some (rankOf t (t.fr a).2))) n
        rw [cntR_put _ _ ha, ht]
        have : (t.R a).isSome = false := by simpa using hs
        rw [this]; rfl
      | false =>
        show t.t - 1 = cntR (updK t.R a none) n
        rw [cntR_drop _ ha, ht]
        have : (t.R a).isSome = true := by cases q : (t.R a).isSome with | true => rfl | false => exact (hs q).elim
        rw [this]; rfl
  have hr : (setS t a v).n = t.n ∧ (setS t a v).k = t.k ∧ (setS t a v).near = t.near ∧ (setS t a v).kept = t.kept ∧ (setS t a v).T = t.T ∧ (setS t a v).P = t.P ∧ (setS t a v).fr = t.fr ∧ (setS t a v).gone = t.gone ∧ (setS t a v).Old = t.Old := by
    unfold setS
    split
    · exact ⟨rfl, rfl, rfl, rfl, rfl, rfl, rfl, rfl, rfl⟩
    · split <;> exact ⟨rfl, rfl, rfl, rfl, rfl, rfl, rfl, rfl, rfl⟩
  obtain ⟨y1, y2, y3, y4, y5, y6, y7, y9, y10⟩ := hr
  refine ⟨hI, h.pf, y1.trans h.tn, y2.trans h.tk, y3.trans h.tr, y4.trans h.tp, y5.trans h.T, h.b, ?_, fun f => ?_, fun f q => ?_, fun x => ?_, hR, ?_, ?_⟩
  · show (setS t a v).gone ≤ kk
    rw [y9]; exact h.g
  · show ((setS t a v).fr f).1 = _
    rw [y7]; exact h.fr f
  · show ((setS t a v).fr f).2 = _
    rw [y7]; exact h.fp f q
  · show (setS t a v).P x = _
    rw [y6]; exact h.P x
  · show (setS t a v).Old.map (·.1) = _
    rw [y10]; exact h.O
  · show (setS t a v).t = cntR (setS t a v).R (setS t a v).n
    rw [y1, h.tn]; exact hcnt
end
end Go.Proofs.Ytbnckhkamebibaa
namespace Go.Proofs.Ytbnckhkamebibaa
open Go.RowKit Go.Maps
set_option linter.unusedVariables false

section
variable {K near kept n kk : Nat} {s : S5} {t : LK} {fr : List Nat}
/-- One rank is ahead of the other. -/
def ltK (x y : Nat × Nat) : Prop := x.1 < y.1 ∨ (x.1 = y.1 ∧ x.2 < y.2)
theorem may_ok {all : Bool} {f : Nat} (h : s.may near all f = true) : okF s.page s.on f = true := by
  unfold S5.may at h
  rw [Bool.and_eq_true] at h
  exact h.1
theorem may_true (f : Nat) : s.may near true f = okF s.page s.on f := by
  unfold S5.may; simp
theorem key_one (hi : Inv5 K kept n s) {f g : Nat} (hf : okF s.page s.on f = true) (hg : okF s.page s.on g = true) (e : (s.key K f).2 = (s.key K g).2) : f = g := by
  have p1 : ¬ s.pg f = 0 := by rw [okF_pg] at hf; intro q; simp [q] at hf
  have p2 : ¬ s.pg g = 0 := by rw [okF_pg] at hg; intro q; simp [q] at hg
  have g1 := hi.fp f p1
  have g2 := hi.fp g p2
  unfold S5.key S5.pa at e
  cases ef : getP s.ps (s.pg f) with
  | none => rw [ef] at g1; cases g1
  | some a =>
    cases eg : getP s.ps (s.pg g) with
    | none => rw [eg] at g2; cases g2
    | some b =>
      rw [ef, eg] at e
      have e : a.l = b.l := e
      obtain ⟨m1, q1⟩ := getP_mem ef
      obtain ⟨m2, q2⟩ := getP_mem eg
      obtain ⟨i, hi1, e1⟩ := List.mem_iff_getElem.1 m1
      obtain ⟨j, hj1, e2⟩ := List.mem_iff_getElem.1 m2
      have hij : i = j := nd_at hi.ls (a := a.l) (by simp [hi1, e1]) (by simp [hj1, e2, e])
      subst hij
      have hab : a = b := e1.symm.trans e2
      exact hi.inj f g (by rw [← q1, ← q2, hab]) p1
theorem best_some (hi : Inv5 K kept n s) (all : Bool) : ∀ (m f : Nat), s.bestF K near all m = some f → f < m ∧ s.may near all f = true ∧ ∀ g, g < m → s.may near all g = true → f = g ∨ ltK (s.key K f) (s.key K g)
  | 0, f, h => by cases h
  | m + 1, f, h => by
    unfold S5.bestF at h
    by_cases hm : s.may near all m = true
    · rw [if_pos hm] at h
      cases e : s.bestF K near all m with
      | none =>
        rw [e] at h
        injection h with h
        subst h
        refine ⟨Nat.lt_succ_self _, hm, fun g hg hg2 => ?_⟩
        by_cases eg : g = m
        · exact .inl eg.symm
        · exact (best_none hi all m e g (by omega) hg2).elim
      | some o =>
        rw [e] at h
        obtain ⟨b1, b2, b3⟩ := best_some hi all m o e
        simp only at h
        by_cases hw : s.worse K m o = true
        · rw [if_pos hw] at h
          injection h with h
          subst h
          refine ⟨by omega, b2, fun g hg hg2 => ?_⟩
          by_cases eg : g = m
          · subst eg
            right
            unfold S5.worse at hw
            simp only [Bool.or_eq_true, Bool.and_eq_true, decide_eq_true_eq] at hw
            unfold ltK
            omega
          · exact b3 g (by omega) hg2
        · rw [if_neg hw] at h
          injection h with h
          subst h
          unfold S5.worse at hw
          simp only [Bool.or_eq_true, Bool.and_eq_true, decide_eq_true_eq, not_or, not_and] at hw
          have hne : ¬ (s.key K m).2 = (s.key K o).2 := fun q => by
            have := key_one hi (may_ok hm) (may_ok b2) q
            omega
          have hlt : ltK (s.key K m) (s.key K o) := by
            unfold ltK
            obtain ⟨w1, w2⟩ := hw
            by_cases e1 : (s.key K m).1 = (s.key K o).1
            · have := w2 e1; omega
            · omega
          refine ⟨Nat.lt_succ_self _, hm, fun g hg hg2 => ?_⟩
          by_cases eg : g = m
          · exact .inl eg.symm
          · right
            rcases b3 g (by omega) hg2 with rfl | q
            · exact hlt
            · unfold ltK at *; omega
    · rw [if_neg hm] at h
      obtain ⟨b1, b2, b3⟩ := best_some hi all m f h
      refine ⟨by omega, b2, fun g hg hg2 => ?_⟩
      by_cases eg : g = m
      · subst eg; exact (hm hg2).elim
      · exact b3 g (by omega) hg2
where best_none (hi : Inv5 K kept n s) (all : Bool) : ∀ (m : Nat), s.bestF K near all m = none → ∀ g, g < m → ¬ s.may near all g = true
  | 0, _, g, hg => by omega
  | m + 1, h, g, hg => by
    unfold S5.bestF at h
    by_cases hm : s.may near all m = true
    · rw [if_pos hm] at h
      cases e : s.bestF K near all m with
      | none => rw [e] at h; cases h
      | some o => rw [e] at h; simp only at h; split at h <;> cases h
    · rw [if_neg hm] at h
      by_cases eg : g = m
      · subst eg; exact hm
      · exact best_none hi all m h g (by omega)
theorem best_none' (hi : Inv5 K kept n s) (all : Bool) (m : Nat) (h : s.bestF K near all m = none) (g : Nat) (hg : g < m) : ¬ s.may near all g = true := best_some.best_none hi all m h g hg
theorem far_may (h : RS5 K near kept n kk s t fr) (x : Nat) : (farK t.R (farOf t) x) = if s.may near false x = true then some ((((s.key K x).1 : Nat) : Int), (((s.key K x).2 : Nat) : Int)) else none := by
  unfold farK farOf
  rw [h.R x, h.T, h.tr]
  unfold keyD S5.may
  by_cases hok : okF s.page s.on x = true
  · rw [if_pos hok, hok]
    simp only [Bool.true_and, Bool.false_or]
    have e : ((((s.key K x).2 : Nat) : Int) ≤ (s.T : Int) - near) ↔ near < s.T + 1 - (s.pa x).l := by
      show ((((s.pa x).l : Nat) : Int) ≤ (s.T : Int) - near) ↔ _
      omega
    by_cases q : near < s.T + 1 - (s.pa x).l
    · have q1 := e.2 q
      simp only [q, decide_true, if_true]
      simp only [q1, decide_true, if_true]
    · have q1 : ¬ ((((s.key K x).2 : Nat) : Int) ≤ (s.T : Int) - near) := fun z => q (e.1 z)
      simp only [q, decide_false, Bool.false_eq_true, if_false]
      simp only [q1, decide_false, Bool.false_eq_true, if_false]
  · rw [if_neg hok]
    have : okF s.page s.on x = false := by simpa using hok
    rw [this]
    simp
theorem least_of {L : Nat → Option (Int × Int)} {M : Nat → Bool} {key : Nat → Nat × Nat} {m f : Nat} (hL : ∀ x, L x = if M x = true then some ((((key x).1 : Nat) : Int), (((key x).2 : Nat) : Int)) else none) (hM : ∀ x, M x = true → x < m) (hf : M f = true) (hb : ∀ g, g < m → M g = true → f = g ∨ ltK (key f) (key g)) : LeastK L f := by
  refine ⟨((key f).1 : Nat), ((key f).2 : Nat), by rw [hL, if_pos hf], fun y c d hy => ?_⟩
  rw [hL] at hy
  by_cases hy2 : M y = true
  · rw [if_pos hy2] at hy
    injection hy with hy
    injection hy with h1 h2
    rcases hb y (hM y hy2) hy2 with rfl | q
    · right; exact ⟨h1, .inr ⟨h2, Nat.le_refl _⟩⟩
    · unfold ltK at q; omega
  · rw [if_neg hy2] at hy; cases hy
theorem may_lt (hi : Inv5 K kept n s) {all : Bool} {x : Nat} (h : s.may near all x = true) : x < n := okF_lt hi (may_ok h)
/-- The one that goes, on both sides. -/
theorem sim_vic (h : RS5 K near kept n kk s t fr) : (∃ x, s.vic K near n = some x ∧ okF s.page s.on x = true ∧ Goes t x ∧ 0 < t.t) ∨ (s.vic K near n = none ∧ t.t = 0) := by
  have hpos : ∀ x, okF s.page s.on x = true → 0 < t.t := fun x hx => by
    rw [h.t, h.tn]
    exact cntR_pos _ (okF_lt h.inv hx) (by rw [h.R, keyD_some]; exact hx)
  unfold S5.vic
  cases e : s.bestF K near false n with
  | some f =>
    obtain ⟨b1, b2, b3⟩ := best_some h.inv false n f e
    refine .inl ⟨f, rfl, may_ok b2, .inl (least_of (M := s.may near false) (far_may h) (fun x q => may_lt h.inv q) b2 b3), hpos f (may_ok b2)⟩
  | none =>
    have hno := best_none' h.inv false n e
    have hfn : ∀ z, farK t.R (farOf t) z = none := fun z => by
      rw [far_may h, if_neg]
      intro q
      exact hno z (may_lt h.inv q) q
    have hfr : ∀ z, freshK t.R (farOf t) z = keyD K s z := fun z => by
      have := hfn z
      unfold farK at this
      unfold freshK
      cases ez : farOf t z with
      | true =>
        rw [ez] at this
        simp only [if_true] at this ⊢
        rw [← h.R]; exact this.symm
      | false => simp only [Bool.false_eq_true, if_false]; exact h.R z
    cases e2 : s.bestF K near true n with
    | some f =>
      obtain ⟨b1, b2, b3⟩ := best_some h.inv true n f e2
      refine .inl ⟨f, rfl, may_ok b2, .inr ⟨hfn, least_of (M := s.may near true) (fun x => ?_) (fun x q => may_lt h.inv q) b2 b3⟩, hpos f (may_ok b2)⟩
      rw [hfr x, may_true]; rfl
    | none =>
      have hno2 := best_none' h.inv true n e2
      refine .inr ⟨rfl, ?_⟩
      rw [h.t, h.tn, cntR_cntF _ s.page s.on (fun f => by rw [h.R, keyD_some])]
      unfold cntF
      rw [List.length_eq_zero_iff, List.filter_eq_nil_iff]
      intro z hz q
      exact hno2 z (List.mem_range.1 hz) (by rw [may_true]; exact q)
theorem cnt0 (h : RS5 K near kept n kk s t fr) : t.t = 0 ↔ cntF s.page s.on s.page.length = 0 := by rw [h.cnt]
theorem vic_gone (h : RS5 K near kept n kk s t fr) {a : Nat} (hok : okF s.page s.on a = true) : RS5 K near kept n (kk + 1) (s.gone kept a) ({ vicS t a t.Fa with Fa := fun _ => false }) (fr.set a 0) := by
  have ha := okF_lt h.inv hok
  have hp : ¬ s.pg a = 0 := by rw [okF_pg] at hok; intro q; simp [q] at hok
  have hal : a < s.page.length := by rw [h.inv.pn]; exact ha
  have hpg : ∀ f, (s.gone kept a).pg f = if f = a then 0 else s.pg f := fun f => pg_set hal
  have hI := h.inv.gone ha hp
  have hpa := h.fp a hp
  have hOl : t.Old.length = s.old.length := by rw [← h.O]; simp
  have hOm : (t.Old ++ [(s.pg a, t.gone + 1)]).map (·.1) = s.old ++ [s.pg a] := by rw [List.map_append, h.O]; rfl
  have hhd : ((t.Old ++ [(s.pg a, t.gone + 1)]).headD (0, 0)).1 = (s.old ++ [s.pg a]).getD 0 0 := by
    rw [← hOm]; cases t.Old <;> rfl
  have hold : ∀ x ∈ s.old ++ [s.pg a], ∀ f, ¬ f = a → ¬ s.pg f = x := fun x hx f e => by
    rcases List.mem_append.1 hx with q | q
    · exact (h.inv.op x q).2.2 f
    · rw [List.mem_singleton.1 q]; intro q2; exact e (h.inv.inj f a q2 (by rw [q2]; exact hp))
  have hx0 : (s.old ++ [s.pg a]).getD 0 0 ∈ s.old ++ [s.pg a] := by cases s.old <;> simp
  have hps : ∀ f, ¬ f = a → getP (s.gone kept a).ps (s.pg f) = getP s.ps (s.pg f) := fun f e => by
    show getP (if kept < s.old.length + 1 then dropP s.ps ((s.old ++ [s.pg a]).getD 0 0) else s.ps) (s.pg f) = _
    split
    · rw [getP_drop_other _ (hold _ hx0 f e)]
    · rfl
  have hokf : ∀ f, okF (s.gone kept a).page (s.gone kept a).on f = if f = a then false else okF s.page s.on f := fun f => by
    rw [okF_on hI f, okF_on h.inv f]
    show upd s.on a false f = _
    by_cases e : f = a
    · subst e; rw [upd_same, if_pos rfl]
    · rw [upd_other _ _ e, if_neg e]
  have hkd : ∀ f, keyD K (s.gone kept a) f = updK t.R a none f := fun f => by
    unfold keyD
    rw [hokf]
    by_cases e : f = a
    · subst e; rw [if_pos rfl, updK_same]; rfl
    · rw [if_neg e, updK_other _ _ e, h.R]
      unfold keyD S5.key S5.pa
      rw [hpg, if_neg e, hps f e]
  obtain ⟨v1, v2, v3, v4, v5, v6⟩ := vic_facts t a t.Fa
  have w : (vicS t a t.Fa).n = t.n ∧ (vicS t a t.Fa).k = t.k ∧ (vicS t a t.Fa).kept = t.kept ∧ (vicS t a t.Fa).fr = updF t.fr a (false, (t.fr a).2) ∧ (vicS t a t.Fa).t = t.t - 1 := by
    unfold vicS remS
    split <;> exact ⟨rfl, rfl, rfl, rfl, rfl⟩
  obtain ⟨w1, w2, w3, w4, w5⟩ := w
  have w6 : (vicS t a t.Fa).Old = if kept < s.old.length + 1 then (t.Old ++ [(s.pg a, t.gone + 1)]).tail else t.Old ++ [(s.pg a, t.gone + 1)] := by
    unfold vicS remS
    rw [hpa]
    by_cases hk : kept < s.old.length + 1
    · rw [if_pos hk, if_pos (by show t.kept < (t.Old ++ [(s.pg a, t.gone + 1)]).length; rw [h.tp]; simp; omega)]
    · rw [if_neg hk, if_neg (by show ¬ t.kept < (t.Old ++ [(s.pg a, t.gone + 1)]).length; rw [h.tp]; simp; omega)]
  have w7 : (vicS t a t.Fa).P = if kept < s.old.length + 1 then updO t.P ((s.old ++ [s.pg a]).getD 0 0) none else t.P := by
    unfold vicS remS
    rw [hpa]
    by_cases hk : kept < s.old.length + 1
    · rw [if_pos hk, if_pos (by show t.kept < (t.Old ++ [(s.pg a, t.gone + 1)]).length; rw [h.tp]; simp; omega)]
      show updO t.P ((t.Old ++ [(s.pg a, t.gone + 1)]).headD (0, 0)).1 none = _
      rw [hhd]
    · rw [if_neg hk, if_neg (by show ¬ t.kept < (t.Old ++ [(s.pg a, t.gone + 1)]).length; rw [h.tp]; simp; omega)]
  refine ⟨hI, by show s.page.set a 0 = fr.set a 0; rw [h.pf], w1.trans h.tn, w2.trans h.tk, v3.trans h.tr, w3.trans h.tp, v2.trans h.T, Nat.le_succ_of_le h.b, ?_, fun f => ?_, fun f q => ?_, fun x => ?_, fun f => ?_, ?_, ?_⟩
  · show (vicS t a t.Fa).gone ≤ kk + 1
    rw [v4]; exact Nat.succ_le_succ h.g
  · show ((vicS t a t.Fa).fr f).1 = _
    rw [w4, hpg]
    by_cases e : f = a
    · subst e; rw [updF_same, if_pos rfl]; simp
    · rw [updF_other _ _ e, if_neg e]; exact h.fr f
  · show ((vicS t a t.Fa).fr f).2 = _
    rw [hpg] at q ⊢
    rw [w4]
    by_cases e : f = a
    · rw [if_pos e] at q; exact (q rfl).elim
    · rw [if_neg e] at q ⊢; rw [updF_other _ _ e]; exact h.fp f q
  · show (vicS t a t.Fa).P x = (getP (if kept < s.old.length + 1 then dropP s.ps ((s.old ++ [s.pg a]).getD 0 0) else s.ps) x).map pastD
    rw [w7]
    by_cases hk : kept < s.old.length + 1
    · rw [if_pos hk, if_pos hk]
      by_cases e : x = (s.old ++ [s.pg a]).getD 0 0
      · rw [← e, updO_same, getP_drop_same]; rfl
      · rw [updO_other _ _ e, getP_drop_other _ e]; exact h.P x
    · rw [if_neg hk, if_neg hk]; exact h.P x
  · show (vicS t a t.Fa).R f = _
    rw [v1, hkd]
  · show (vicS t a t.Fa).Old.map (·.1) = if kept < s.old.length + 1 then (s.old ++ [s.pg a]).drop 1 else s.old ++ [s.pg a]
    rw [w6]
    by_cases hk : kept < s.old.length + 1
    · rw [if_pos hk, if_pos hk, List.map_tail, hOm, List.drop_one]
    · rw [if_neg hk, if_neg hk, hOm]
  · show (vicS t a t.Fa).t = cntR (vicS t a t.Fa).R (vicS t a t.Fa).n
    rw [w5, v1, w1, h.tn, cntR_drop _ ha, h.t, h.tn]
    have : (t.R a).isSome = true := by rw [h.R, keyD_some]; exact hok
    rw [this]; rfl
theorem sim_remove (h : RS5 K near kept n kk s t fr) {a x : Nat} (ha : a < n) (hx : fr[a]? = some x) (h1 : 1 ≤ x) : RS5 K near kept n kk (s.remove a) ({ remvS t a with Fa := fun _ => false }) (fr.set a 0) := by
  have hp : ¬ s.pg a = 0 := by rw [pg_at h hx]; omega
  have hal : a < s.page.length := by rw [h.inv.pn]; exact ha
  have hpg : ∀ f, (s.remove a).pg f = if f = a then 0 else s.pg f := fun f => pg_set hal
  have hI := h.inv.remove ha hp
  have hpa := h.fp a hp
  have hokf : ∀ f, okF (s.remove a).page (s.remove a).on f = if f = a then false else okF s.page s.on f := fun f => by
    rw [okF_on hI f, okF_on h.inv f]
    show upd s.on a false f = _
    by_cases e : f = a
    · subst e; rw [upd_same, if_pos rfl]
    · rw [upd_other _ _ e, if_neg e]
  have hkd : ∀ f, keyD K (s.remove a) f = updK t.R a none f := fun f => by
    unfold keyD
    rw [hokf]
    by_cases e : f = a
    · subst e; rw [if_pos rfl, updK_same]; rfl
    · rw [if_neg e, updK_other _ _ e, h.R]
      unfold keyD
      by_cases hok : okF s.page s.on f = true
      · rw [if_pos hok, if_pos hok]
        have hpf : ¬ s.pg f = 0 := by rw [okF_pg] at hok; intro q; simp [q] at hok
        have hne : ¬ s.pg f = s.pg a := fun q => e (h.inv.inj f a q hpf)
        have hps : getP (s.remove a).ps (s.pg f) = getP s.ps (s.pg f) := getP_drop_other _ hne
        unfold S5.key S5.pa
        rw [hpg, if_neg e, hps]
      · rw [if_neg hok, if_neg hok]
  refine ⟨hI, by show s.page.set a 0 = fr.set a 0; rw [h.pf], h.tn, h.tk, h.tr, h.tp, h.T, h.b, h.g, fun f => ?_, fun f q => ?_, fun x => ?_, fun f => (hkd f).symm, h.O, ?_⟩
  · show (updF t.fr a (false, (t.fr a).2) f).1 = _
    rw [hpg]
    by_cases e : f = a
    · subst e; rw [updF_same, if_pos rfl]; simp
    · rw [updF_other _ _ e, if_neg e]; exact h.fr f
  · show (updF t.fr a (false, (t.fr a).2) f).2 = _
    rw [hpg] at q ⊢
    by_cases e : f = a
    · rw [if_pos e] at q; exact (q rfl).elim
    · rw [if_neg e] at q ⊢; rw [updF_other _ _ e]; exact h.fp f q
  · show updO t.P (t.fr a).2 none x = (getP (dropP s.ps (s.pg a)) x).map pastD
    rw [hpa]
    by_cases e : x = s.pg a
    · rw [e, updO_same, getP_drop_same]; rfl
    · rw [updO_other _ _ e, getP_drop_other _ e]; exact h.P x
  · show lessN t.t (t.R a).isSome = cntR (updK t.R a none) t.n
    rw [cntR_drop _ (by rw [h.tn]; exact ha), h.t]
theorem RS5.mono (h : RS5 K near kept n kk s t fr) : RS5 K near kept n (kk + 1) s t fr :=
  { h with b := Nat.le_succ_of_le h.b, g := Nat.le_succ_of_le h.g }
end
/-- Both go alike. -/
theorem sim5 (K near kept n : Nat) (hn : n < 1000) (hkept : kept < 1000) : SimSysK (polD K near kept n) polL pre5 n (RS5 K near kept n) where
  mono := fun h => h.mono
  len := fun h => by rw [← h.pf]; exact h.inv.pn
  size := fun {k s t fr} h => ⟨h.cnt, by
    show cntF s.page s.on s.page.length < 1000000
    have := cntF_le s.page s.on s.page.length
    have := h.inv.pn
    omega⟩
  ghosts := fun {k s t fr} h => ⟨by show (t.Old.map (·.1)).Perm s.old; rw [h.O], h.inv.od, by have := h.inv.ok2; show s.old.length < 1000000; omega⟩
  miss := fun {k s t fr id} h _ _ _ => ⟨⟨fun q => (by cases q), fun q => (by cases q), fun q => (by cases q), fun q => (by cases q)⟩, h⟩
  access := fun {k s t fr a id} h hk ha hx h1 h2 => ⟨⟨fun _ => ⟨by show a < t.n; rw [h.tn]; exact ha, h2, by have := h.b; rw [h.T]; omega⟩, fun q => (by cases q), fun q => (by cases q), fun q => (by cases q)⟩, sim_access h ha hx h1⟩
  set := fun {k s t fr a x} v h hk ha hx h1 => ⟨⟨fun q => (by cases q), fun _ => ⟨by show a < t.n; rw [h.tn]; exact ha, by show (t.fr a).1 = true; rw [h.fr, pg_at h hx]; simp; omega, by have := h.b; rw [h.T]; omega⟩, fun q => (by cases q), fun q => (by cases q)⟩, sim_set h ha hx h1 v⟩
  victim := fun {k s t fr id} h _ _ _ => by
    show polL.victim t id = s.vic K near n
    rcases sim_vic h with ⟨x, e, _, hg, h0⟩ | ⟨e, h0⟩
    · rw [e]; exact (goes_some h0 hg).1
    · rw [e]; exact if_pos h0
  none := fun {k s t fr id} h hk _ _ _ => ⟨by
    show s.vic K near n = none ↔ cntF s.page s.on s.page.length = 0
    rw [← cnt0 h]
    rcases sim_vic h with ⟨x, e, _, hg, h0⟩ | ⟨e, h0⟩
    · rw [e]; constructor
      · intro q; cases q
      · intro q; omega
    · rw [e]; exact ⟨fun _ => h0, fun _ => rfl⟩, pre_vic h hk⟩
  gone := fun {k s t fr a id} h hk _ _ _ hv => by
    have hv : s.vic K near n = some a := hv
    rcases sim_vic h with ⟨x, e, hok, hg, h0⟩ | ⟨e, h0⟩
    · rw [e] at hv
      injection hv with hv
      subst hv
      refine ⟨okF_lt h.inv hok, pre_vic h hk, ?_⟩
      have e1 : (polD K near kept n).gone s id = s.gone kept x := by
        show (match s.vic K near n with | none => s | some f => s.gone kept f) = _
        rw [e]
      rw [e1, (goes_some (page := id) h0 hg).2]
      exact vic_gone h hok
    · rw [e] at hv; cases hv
  remove := fun {k s t fr a x} h ha hx h1 => ⟨⟨fun q => (by cases q), fun q => (by cases q), fun q => (by cases q), fun _ => ⟨by show a < t.n; rw [h.tn]; exact ha, by show (t.fr a).1 = true; rw [h.fr, pg_at h hx]; simp; omega⟩⟩, sim_remove h ha hx h1⟩
where pre_vic {k : Nat} {s : S5} {t : LK} {fr : List Nat} {c : Cl} (h : RS5 K near kept n k s t fr) (hk : k < 10000) (h3 : ¬ c.kind = 1 := by intro q; cases q) (h4 : ¬ c.kind = 2 := by intro q; cases q) (h5 : ¬ c.kind = 4 := by intro q; cases q) : pre5 t c :=
  ⟨fun q => (h3 q).elim, fun q => (h4 q).elim, fun _ => ⟨by have := h.b; rw [h.T]; omega, by have := h.g; omega, fun x hx => by
    have hok : okF s.page s.on x = true := by rw [h.R, keyD_some] at hx; exact hx
    have hp : ¬ s.pg x = 0 := by rw [okF_pg] at hok; intro q; simp [q] at hok
    refine ⟨by rw [h.tn]; exact okF_lt h.inv hok, ?_⟩
    rw [h.fp x hp, oldK_none]
    intro p hp2 e
    have hm : s.pg x ∈ s.old := by rw [← h.O, ← e]; exact List.mem_map.2 ⟨p, hp2, rfl⟩
    exact (h.inv.op _ hm).2.2 x rfl⟩, fun q => (h5 q).elim⟩
end Go.Proofs.Ytbnckhkamebibaa
namespace Go.Proofs.Ytbnckhkamebibaa
open Go.RowKit Go.Maps
set_option linter.unusedVariables false

def u0 : LK := newS 2 2 0 1
def u1 : LK := accS u0 0 1
def u2 : LK := setS u1 0 true
def u3 : LK := accS u2 0 1
def u4 : LK := accS u3 1 2
def u5 : LK := setS u4 1 true
theorem u5_R0 : u5.R 0 = some (1, 2) := by decide +kernel
theorem u5_R1 : u5.R 1 = some (0, 3) := by decide +kernel
theorem u3_R (x : Nat) (h : ¬ x = 0) : u3.R x = none := by
  have e : ∀ S : LK, ∀ p, (accS S 0 p).R x = S.R x := fun S p => by
    unfold accS rerS touS comS
    split <;> split <;> first | (exact updK_other _ _ h) | rfl
  show (accS u2 0 1).R x = none
  rw [e]
  show (setS u1 0 true).R x = none
  have e2 : (setS u1 0 true).R x = u1.R x := by
    unfold setS
    split
    · rfl
    · split
      · exact updK_other _ _ h
      · exact updK_other _ _ h
  rw [e2]
  show (accS u0 0 1).R x = none
  rw [e]; rfl
theorem u5_R (x : Nat) (h : ¬ x = 0) (h1 : ¬ x = 1) : u5.R x = none := by
  have e : (accS u3 1 2).R x = u3.R x := by
    unfold accS rerS touS comS
    split <;> split <;> first | (exact updK_other _ _ h1) | rfl
  have e2 : (setS u4 1 true).R x = u4.R x := by
    unfold setS
    split
    · rfl
    · split
      · exact updK_other _ _ h1
      · exact updK_other _ _ h1
  show (setS u4 1 true).R x = none
  rw [e2]
  show (accS u3 1 2).R x = none
  rw [e]; exact u3_R x h
theorem u5_dom : ∀ x, (u5.R x).isSome = true → x < u5.n ∧ oldK u5.Old (u5.fr x).2 = none := by
  intro x hx
  by_cases h : x = 0
  · subst h; exact ⟨by decide +kernel, by decide +kernel⟩
  · by_cases h1 : x = 1
    · subst h1; exact ⟨by decide +kernel, by decide +kernel⟩
    · rw [u5_R x h h1] at hx; cases hx
theorem u5_least {Fb : Nat → Bool} {x : Nat} (ha : Aged u5.R u5.Fa Fb ((u5.T : Int) - u5.near)) (hl : LeastC u5.R Fb x) : x = 1 := by
  have hu : ((u5.T : Int) - u5.near) = 3 := by decide +kernel
  rw [hu] at ha
  have f0 : Fb 0 = true := (ha 0 1 2 u5_R0).2 (.inr (by omega))
  have f1 : Fb 1 = true := (ha 1 0 3 u5_R1).2 (.inr (by omega))
  have k1 : farK u5.R Fb 1 = some (0, 3) := by unfold farK; rw [if_pos f1, u5_R1]
  rcases hl with ⟨a, b, h1, h2⟩ | ⟨h1, _⟩
  · have h3 := h2 1 0 3 k1
    unfold farK at h1
    by_cases h : x = 0
    · subst h
      rw [if_pos f0, u5_R0] at h1
      injection h1 with h1
      injection h1 with h4 h5
      omega
    · by_cases e : x = 1
      · exact e
      · rw [u5_R x h e] at h1
        split at h1 <;> cases h1
  · rw [h1 1] at k1; cases k1
theorem u6_old (Fb : Nat → Bool) : (vicS u5 1 Fb).Old.map (·.1) = [2] := by
  have e : u5.Old = [] := by decide +kernel
  have e2 : (u5.fr 1).2 = 2 := by decide +kernel
  have e3 : u5.kept = 1 := by decide +kernel
  unfold vicS remS
  simp [e, e2, e3]
theorem u6_t (Fb : Nat → Bool) : (vicS u5 1 Fb).t = 1 := by
  have e : u5.t = 2 := by decide +kernel
  unfold vicS remS
  split <;> (show u5.t - 1 = 1; rw [e])
theorem u6_gone (Fb : Nat → Bool) : (vicS u5 1 Fb).gone < 800000 := by
  have e : u5.gone = 0 := by decide +kernel
  unfold vicS remS
  split <;> (show u5.gone + 1 < 800000; rw [e]; omega)
set_option maxRecDepth 100000 in
set_option maxHeartbeats 4000000 in
theorem toldK_calls (w : World) : Calls Try.prog 6 #[] w fun e w' => e = .returned (.bool true) ∧ Fr NoF w w' := by
  have HN : Hid (Calls Try.prog 5 #[.int .i64 2, .int .i64 2, .int .i64 0, .int .i64 1] w fun e w' => ∃ lb F, e = .returned (.tuple #[.pointer (some ⟨lb, 0, none⟩), .int .i64 0]) ∧ CRL w' lb u0 F ∧ (∀ i, F i → w.heap.size ≤ i) ∧ Fr NoF w w') := crl_new 2 2 0 1 w (by omega) (by omega) (by omega) (by omega)
  go_enter Try.func6, Try.ntmps6
  go_wp2_with fail
  refine HN.out.mono ?_
  rintro e w1 ⟨lb, F, rfl, hc, g, f⟩
  have HT : Hid (TL w w1 lb u0) := ⟨F, hc, g, f⟩
  clear hc g f HN
  go_wp2_with fail
  go_loopw [3] (fun i wr => (i = .int .i64 0 ∧ TL w wr lb u0) ∨ (i = .int .i64 1 ∧ TL w wr lb u3) ∨ (i = .int .i64 2 ∧ TL w wr lb u5)) (fun i _ => 3 - (intOf i).toNat)
  case atStart => exact .inl ⟨rfl, HT.out⟩
  case round =>
    rcases hrel with ⟨rfl, hT⟩ | ⟨rfl, hT⟩ | ⟨rfl, hT⟩
    · have HT0 := Lib.hid hT
      have H1 : Hid (Calls Try.prog 15 #[.pointer (some ⟨lb, 0, none⟩), .int .i64 0, .int .u32 1] wr fun e w' => e = .returned (.tuple #[]) ∧ TL w w' lb u1) := hT.access (at' := 0) (page := 1) (by decide +kernel) (by unfold okN; omega) (by decide +kernel)
      clear hT
      go_wp2_with fail
      refine (lmiss_calls _ _ _).mono ?_
      rintro e w2 ⟨rfl, rfl⟩
      go_wp2_with fail
      refine H1.out.mono ?_
      rintro e w2 ⟨rfl, h1⟩
      have H2 : Hid (Calls Try.prog 16 #[.pointer (some ⟨lb, 0, none⟩), .int .i64 0, .bool true] w2 fun e w' => e = .returned (.tuple #[]) ∧ TL w w' lb u2) := h1.set (at' := 0) (by decide +kernel) (by decide +kernel) (by decide +kernel) true
      clear h1 H1
      go_wp2_with fail
      refine H2.out.mono ?_
      rintro e w3 ⟨rfl, h2⟩
      have H3 : Hid (Calls Try.prog 15 #[.pointer (some ⟨lb, 0, none⟩), .int .i64 0, .int .u32 1] w3 fun e w' => e = .returned (.tuple #[]) ∧ TL w w' lb u3) := h2.access (at' := 0) (page := 1) (by decide +kernel) (by unfold okN; omega) (by decide +kernel)
      clear h2 H2
      go_wp2_with fail
      refine H3.out.mono ?_
      rintro e w4 ⟨rfl, h3⟩
      have HT3 := Lib.hid h3
      clear h3 H3
      go_wp2
      go_roundw
      case rel => exact .inr (.inl ⟨rfl, HT3.out⟩)
      case measure => simp [intOf]
    · have HT0 := Lib.hid hT
      have H1 : Hid (Calls Try.prog 15 #[.pointer (some ⟨lb, 0, none⟩), .int .i64 1, .int .u32 2] wr fun e w' => e = .returned (.tuple #[]) ∧ TL w w' lb u4) := hT.access (at' := 1) (page := 2) (by decide +kernel) (by unfold okN; omega) (by decide +kernel)
      clear hT
      go_wp2_with fail
      refine (lmiss_calls _ _ _).mono ?_
      rintro e w2 ⟨rfl, rfl⟩
      go_wp2_with fail
      refine H1.out.mono ?_
      rintro e w2 ⟨rfl, h1⟩
      have H2 : Hid (Calls Try.prog 16 #[.pointer (some ⟨lb, 0, none⟩), .int .i64 1, .bool true] w2 fun e w' => e = .returned (.tuple #[]) ∧ TL w w' lb u5) := h1.set (at' := 1) (by decide +kernel) (by decide +kernel) (by decide +kernel) true
      clear h1 H1
      go_wp2_with fail
      refine H2.out.mono ?_
      rintro e w3 ⟨rfl, h2⟩
      have HT3 := Lib.hid h2
      clear h2 H2
      go_wp2
      go_roundw
      case rel => exact .inr (.inr ⟨rfl, HT3.out⟩)
      case measure => simp [intOf]
    · have H1 : Hid (Calls Try.prog 17 #[.pointer (some ⟨lb, 0, none⟩), .int .u32 3] wr fun e w' => ∃ Fb, e = .returned (.tuple #[.int .i64 1, .bool true]) ∧ TL w w' lb (vicS u5 1 Fb)) := (hT.victim (by decide +kernel) 3 (by decide +kernel) (by decide +kernel) u5_dom).mono fun e w' ⟨x, he, Fb, ha, hl, h'⟩ => by
        obtain rfl := u5_least ha hl
        exact ⟨Fb, he, h'⟩
      clear hT
      go_wp2_with fail
      refine (lmiss_calls _ _ _).mono ?_
      rintro e w2 ⟨rfl, rfl⟩
      go_wp2_with fail
      refine H1.out.mono ?_
      rintro e w2 ⟨Fb, rfl, h1⟩
      have HGH := Lib.hid (h1.ghosts (u6_gone Fb))
      have HT1 := Lib.hid h1
      clear h1 H1
      go_wp2_with fail
      refine HGH.out.mono ?_
      rintro e w3 ⟨v, rfl, hs, hob, hf⟩
      rw [u6_old] at hs
      obtain ⟨va, vc, rfl, c1, c2⟩ := SlK.shape hs
      have ht2 := HT1.out.fr0 hf
      have HSZ := Lib.hid ht2.size
      rw [u6_t] at HSZ
      obtain ⟨F, _, _, hfr⟩ := ht2
      have HFR := Lib.hid hfr
      have HSS := Lib.hid hs
      clear hs hob hf hfr HGH HT1 HT
      go_wp2_with fail
      refine HSZ.out.mono ?_
      rintro e w4 ⟨rfl, f4⟩
      obtain ⟨b, off, c, ev, hcn, hcm, hbl, hc⟩ := SlC.at (HSS.out.keep f4) (k := 0) (by simp) (by omega)
      simp only [Value.slice.injEq, List.length_cons, List.length_nil, true_and] at ev
      obtain ⟨rfl, rfl⟩ := ev
      have y0 : w4.cell? ⟨b, off, none⟩ = some (.int .u32 2) := hc 0 (.int .u32 2) rfl
      have HF4 := Lib.hid (HFR.out.trans f4 (fun _ q => q.elim))
      clear f4 hc
      go_wp2
      go_returns
      exact ⟨rfl, HF4.out⟩
end Go.Proofs.Ytbnckhkamebibaa

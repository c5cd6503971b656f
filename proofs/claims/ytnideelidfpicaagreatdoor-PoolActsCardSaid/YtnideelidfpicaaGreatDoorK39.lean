/-
  Both Disks go alike: the pages as a list, what is to fail, and each call's answer. Plain facts.
-/
import Derived.Test.YtnideelidfpicaaGreatDoorK29
import Derived.Test.YtnideelidfpicaaGreatDoorK38
namespace Go.Proofs.YtnideelidfpicaaGreatDoor
open Go.RowKit Go.Maps
set_option linter.unusedVariables false

/-- The pages at places a .. a + n - 1. -/
def plR (pg : Nat → Bool × Nat) (a n : Nat) : List (Nat × Nat) := ((List.range' a n).filter fun i => (pg i).1).map fun i => (i + 1, (pg i).2)
def plL (pg : Nat → Bool × Nat) (n : Nat) : List (Nat × Nat) := plR pg 0 n
theorem plR_add (pg : Nat → Bool × Nat) (a m n : Nat) : plR pg a (m + n) = plR pg a m ++ plR pg (a + m) n := by
  unfold plR
  rw [← List.range'_append_1, List.filter_append, List.map_append]
theorem plR_one (pg : Nat → Bool × Nat) (a : Nat) : plR pg a 1 = if (pg a).1 = true then [(a + 1, (pg a).2)] else [] := by
  unfold plR
  by_cases h : (pg a).1 = true <;> simp [h]
theorem plR_congr {pg pg' : Nat → Bool × Nat} {a n : Nat} (h : ∀ i, a ≤ i → i < a + n → pg i = pg' i) : plR pg a n = plR pg' a n := by
  induction n generalizing a with
  | zero => rfl
  | succ n ih =>
    have e1 := plR_add pg a 1 n
    have e2 := plR_add pg' a 1 n
    rw [Nat.add_comm n 1, e1, e2, plR_one, plR_one, h a (by omega) (by omega), ih (a := a + 1) (fun i h1 h2 => h i (by omega) (by omega))]
theorem plR_mem {pg : Nat → Bool × Nat} {a n : Nat} {p : Nat × Nat} : p ∈ plR pg a n ↔ ∃ i, a ≤ i ∧ i < a + n ∧ (pg i).1 = true ∧ p = (i + 1, (pg i).2) := by
  unfold plR
  simp only [List.mem_map, List.mem_filter, List.mem_range'_1]
  constructor
  · rintro ⟨i, ⟨⟨h1, h2⟩, h3⟩, rfl⟩; exact ⟨i, h1, h2, h3, rfl⟩
  · rintro ⟨i, h1, h2, h3, rfl⟩; exact ⟨i, ⟨⟨h1, h2⟩, h3⟩, rfl⟩
theorem plR_len (pg : Nat → Bool × Nat) (a n : Nat) : (plR pg a n).length ≤ n := by
  unfold plR
  rw [List.length_map]
  exact Nat.le_trans (List.length_filter_le _ _) (by rw [List.length_range']; exact Nat.le_refl _)
theorem plR_full {pg : Nat → Bool × Nat} {a n : Nat} (h : ∀ i, a ≤ i → i < a + n → (pg i).1 = true) : (plR pg a n).length = n := by
  unfold plR
  rw [List.length_map, List.filter_eq_self.2 (fun i hi => by rw [List.mem_range'_1] at hi; exact h i hi.1 hi.2), List.length_range']
theorem plL_split (pg : Nat → Bool × Nat) {i n : Nat} (h : i < n) : plL pg n = plL pg i ++ (plR pg i 1 ++ plR pg (i + 1) (n - i - 1)) := by
  unfold plL
  have e := plR_add pg 0 i (1 + (n - i - 1))
  rw [show i + (1 + (n - i - 1)) = n from by omega, Nat.zero_add, plR_add] at e
  exact e
theorem plL_short {pg : Nat → Bool × Nat} {i n : Nat} (h : i < n) (hf : (pg i).1 = false) : (plL pg n).length < n := by
  rw [plL_split pg h, plR_one, hf]
  have h1 := plR_len pg 0 i
  have h2 := plR_len pg (i + 1) (n - i - 1)
  unfold plL
  simp only [List.length_append]
  simp
  omega
theorem ids_plR (pg : Nat → Bool × Nat) (n : Nat) : idsL pg n = (plL pg n).map (·.1) := by
  unfold idsL plL plR
  rw [List.map_map, List.range_eq_range']
  rfl
theorem atP_split {A B : List (Nat × Nat)} {id v : Nat} (h : ∀ p ∈ A, ¬ p.1 = id) : atP (A ++ (id, v) :: B) id = some A.length := by
  refine atP_some (k := A.length) (by simp) (by simp) (fun j hj => ?_)
  rw [List.getElem_append_left hj]
  exact h _ (List.getElem_mem hj)
theorem atP_no {L : List (Nat × Nat)} {id : Nat} (h : ∀ p ∈ L, ¬ p.1 = id) : atP L id = none := atP_none (fun k hk => h _ (List.getElem_mem hk))

/-- Where a page that is there stands. -/
theorem plL_at {pg : Nat → Bool × Nat} {n id : Nat} (h1 : 1 ≤ id) (h2 : id ≤ n) (h3 : (pg (id - 1)).1 = true) : plL pg n = plL pg (id - 1) ++ (id, (pg (id - 1)).2) :: plR pg id (n - id) ∧ atP (plL pg n) id = some (plL pg (id - 1)).length := by
  have e : plL pg n = plL pg (id - 1) ++ (id, (pg (id - 1)).2) :: plR pg id (n - id) := by
    rw [plL_split pg (i := id - 1) (by omega), plR_one, if_pos h3, show id - 1 + 1 = id from by omega, show n - (id - 1) - 1 = n - id from by omega]
    rfl
  refine ⟨e, ?_⟩
  rw [e]
  refine atP_split (fun p hp => ?_)
  unfold plL at hp
  obtain ⟨i, _, q, _, rfl⟩ := plR_mem.1 hp
  show ¬ i + 1 = id
  omega
theorem plL_none {pg : Nat → Bool × Nat} {n id : Nat} (h : ¬ (1 ≤ id ∧ id ≤ n ∧ (pg (id - 1)).1 = true)) : atP (plL pg n) id = none := by
  refine atP_no (fun p hp q => ?_)
  unfold plL at hp
  obtain ⟨i, _, h2, h3, rfl⟩ := plR_mem.1 hp
  have q : i + 1 = id := q
  subst q
  exact h ⟨by omega, by omega, by rw [Nat.add_sub_cancel]; exact h3⟩
theorem plL_upd {pg : Nat → Bool × Nat} {n id : Nat} (h1 : 1 ≤ id) (h2 : id ≤ n) (b : Bool) (v : Nat) : plL (upd pg (id - 1) (b, v)) n = plL pg (id - 1) ++ ((if b = true then [(id, v)] else []) ++ plR pg id (n - id)) := by
  rw [plL_split _ (i := id - 1) (by omega), plR_one, upd_same, show id - 1 + 1 = id from by omega, show n - (id - 1) - 1 = n - id from by omega]
  have e1 : plL (upd pg (id - 1) (b, v)) (id - 1) = plL pg (id - 1) := plR_congr (fun i _ q => upd_other _ _ (by omega))
  have e2 : plR (upd pg (id - 1) (b, v)) id (n - id) = plR pg id (n - id) := plR_congr (fun i q _ => upd_other _ _ (by omega))
  rw [e1, e2]
theorem plL_set {pg : Nat → Bool × Nat} {n id : Nat} (h1 : 1 ≤ id) (h2 : id ≤ n) (h3 : (pg (id - 1)).1 = true) (v : Nat) : (plL pg n).set (plL pg (id - 1)).length (((plL pg n).getD (plL pg (id - 1)).length (0, 0)).1, v) = plL (upd pg (id - 1) ((pg (id - 1)).1, v)) n ∧ (plL pg n).getD (plL pg (id - 1)).length (0, 0) = (id, (pg (id - 1)).2) := by
  have e := (plL_at h1 h2 h3).1
  have g : (plL pg n).getD (plL pg (id - 1)).length (0, 0) = (id, (pg (id - 1)).2) := by rw [e]; simp
  refine ⟨?_, g⟩
  rw [g, h3, plL_upd h1 h2, if_pos rfl]
  conv => lhs; rw [e]
  simp
theorem plL_cut {pg : Nat → Bool × Nat} {n id : Nat} (h1 : 1 ≤ id) (h2 : id ≤ n) (h3 : (pg (id - 1)).1 = true) : (plL pg n).take (plL pg (id - 1)).length ++ (plL pg n).drop ((plL pg (id - 1)).length + 1) = plL (upd pg (id - 1) (false, 0)) n := by
  have e := (plL_at h1 h2 h3).1
  rw [plL_upd h1 h2, if_neg (by simp), e]
  simp
/-- The first id that no page has. -/
theorem plL_gap {pg : Nat → Bool × Nat} {n k : Nat} (h : Gap (plL pg n) k) : k ≤ n ∧ (∀ j, j < k → (pg j).1 = true) ∧ (k < n → (pg k).1 = false) ∧ (plL pg n).take k ++ [(k + 1, 0)] ++ (plL pg n).drop k = plL (upd pg k (true, 0)) (max n (k + 1)) := by
  have hall : ∀ j, j < k → j < n ∧ (pg j).1 = true := by
    intro j hj
    have hl : j < (plL pg n).length := by have := h.le; omega
    have hm := List.getElem_mem hl
    have ha := h.all j hl hj
    unfold plL at hm
    obtain ⟨i, _, q2, q3, q4⟩ := plR_mem.1 hm
    have e : i = j := by
      have : ((plL pg n)[j]).1 = i + 1 := by unfold plL; rw [q4]
      omega
    subst e
    exact ⟨by omega, q3⟩
  have hkn : k ≤ n := by
    rcases Nat.eq_zero_or_pos k with q | q
    · omega
    · have := (hall (k - 1) (by omega)).1; omega
  have hfull : (plL pg k).length = k := plR_full (fun i _ q => (hall i (by omega)).2)
  have esp : plL pg n = plL pg k ++ plR pg k (n - k) := by
    have := plR_add pg 0 k (n - k)
    rw [show k + (n - k) = n from by omega, Nat.zero_add] at this
    exact this
  have hnot : k < n → (pg k).1 = false := by
    intro q
    cases hb : (pg k).1 with
    | false => rfl
    | true =>
      have e2 := plR_add pg k 1 (n - k - 1)
      rw [show 1 + (n - k - 1) = n - k from by omega, plR_one, if_pos hb] at e2
      have hl : k < (plL pg n).length := by rw [esp, e2, List.length_append, hfull]; simp
      have := h.not hl
      refine (this ?_).elim
      have e3 : (plL pg n)[k]? = some (k + 1, (pg k).2) := by
        rw [esp, e2, List.getElem?_append_right (by omega), hfull]
        simp
      rw [List.getElem?_eq_getElem hl] at e3
      rw [Option.some.inj e3]
  refine ⟨hkn, fun j q => (hall j q).2, hnot, ?_⟩
  have et : (plL pg n).take k = plL pg k := by rw [esp]; exact List.take_left' hfull
  have ed : (plL pg n).drop k = plR pg k (n - k) := by rw [esp]; exact List.drop_left' hfull
  rw [et, ed]
  have ek : plL (upd pg k (true, 0)) k = plL pg k := plR_congr (fun i _ q => upd_other _ _ (by omega))
  by_cases q : k < n
  · rw [show max n (k + 1) = n from by omega, plL_split _ q, plR_one, upd_same, if_pos rfl, ek]
    have e2 := plR_add pg k 1 (n - k - 1)
    rw [show 1 + (n - k - 1) = n - k from by omega, plR_one, if_neg (by rw [hnot q]; simp)] at e2
    have e4 : plR (upd pg k (true, 0)) (k + 1) (n - k - 1) = plR pg (k + 1) (n - k - 1) := plR_congr (fun i q _ => upd_other _ _ (by omega))
    rw [e2, e4]
    simp
  · obtain rfl : k = n := by omega
    rw [show max k (k + 1) = k + 1 from by omega, plL_split (upd pg k (true, 0)) (i := k) (n := k + 1) (by omega), plR_one, upd_same, if_pos rfl, ek, show k + 1 - k - 1 = 0 from by omega, Nat.sub_self]
    simp [plR]
theorem Gap.same {L : List (Nat × Nat)} {k k' : Nat} (h : Gap L k) (h' : Gap L k') : k = k' := by
  rcases Nat.lt_trichotomy k k' with q | q | q
  · have hl : k < L.length := by have := h'.le; omega
    exact (h.not hl (h'.all k hl q)).elim
  · exact q
  · have hl : k' < L.length := by have := h.le; omega
    exact (h'.not hl (h.all k' hl q)).elim

/-! ### What is to fail -/
def valP (l : List (Nat × Nat)) (id : Nat) : Nat := match atP l id with
  | none => 0
  | some k => (l.getD k (0, 0)).2
theorem atP_of {l : List (Nat × Nat)} {id : Nat} : (atP l id = none ∧ ∀ p ∈ l, ¬ p.1 = id) ∨ ∃ A v B, l = A ++ (id, v) :: B ∧ (∀ p ∈ A, ¬ p.1 = id) ∧ atP l id = some A.length ∧ valP l id = v := by
  induction l with
  | nil => exact .inl ⟨rfl, fun p hp => (by cases hp)⟩
  | cons a l ih =>
    by_cases e : a.1 = id
    · obtain ⟨a1, a2⟩ := a
      have e : a1 = id := e
      subst e
      have h1 : atP ((a1, a2) :: l) a1 = some 0 := atP_split (A := []) (fun p hp => (by cases hp))
      exact .inr ⟨[], a2, l, rfl, fun p hp => (by cases hp), h1, by unfold valP; rw [h1]; rfl⟩
    · rcases ih with ⟨h1, h2⟩ | ⟨A, v, B, rfl, h2, h3, h4⟩
      · have h5 : ∀ p ∈ a :: l, ¬ p.1 = id := fun p hp => by
          rcases List.mem_cons.1 hp with rfl | q
          · exact e
          · exact h2 p q
        exact .inl ⟨atP_no h5, h5⟩
      · have h5 : ∀ p ∈ a :: A, ¬ p.1 = id := fun p hp => by
          rcases List.mem_cons.1 hp with rfl | q
          · exact e
          · exact h2 p q
        have h6 : atP (a :: (A ++ (id, v) :: B)) id = some (a :: A).length := atP_split h5
        exact .inr ⟨a :: A, v, B, rfl, h5, h6, by unfold valP; rw [h6]; simp⟩
theorem valP_split {A B : List (Nat × Nat)} {id v : Nat} (h : ∀ p ∈ A, ¬ p.1 = id) : valP (A ++ (id, v) :: B) id = v := by
  unfold valP; rw [atP_split h]; simp
/-- Another id's value hangs on the others. -/
theorem valP_other {A B : List (Nat × Nat)} {id v v' x : Nat} (hx : ¬ x = id) : valP (A ++ (id, v) :: B) x = valP (A ++ (id, v') :: B) x := by
  induction A with
  | nil =>
    rcases atP_of (l := B) (id := x) with ⟨h1, h2⟩ | ⟨A', u, B', rfl, h2, h3, h4⟩
    · have g : ∀ v, valP ([] ++ (id, v) :: B) x = 0 := fun v => by
        unfold valP
        rw [atP_no (fun p hp => by
          rcases List.mem_cons.1 hp with rfl | q
          · exact fun q => hx q.symm
          · exact h2 p q)]
      rw [g, g]
    · have g : ∀ v, valP ([] ++ (id, v) :: (A' ++ (x, u) :: B')) x = u := fun v => valP_split (A := (id, v) :: A') (fun p hp => by
          rcases List.mem_cons.1 hp with rfl | q
          · exact fun q => hx q.symm
          · exact h2 p q)
      rw [g, g]
  | cons a A ih =>
    by_cases e : a.1 = x
    · obtain ⟨a1, a2⟩ := a
      have e : a1 = x := e
      subst e
      have g : ∀ l, valP ((a1, a2) :: l) a1 = a2 := fun l => valP_split (A := []) (fun p hp => (by cases hp))
      exact (g _).trans (g _).symm
    · have g : ∀ l : List (Nat × Nat), valP (a :: l) x = valP l x := fun l => by
        rcases atP_of (l := l) (id := x) with ⟨h1, h2⟩ | ⟨A', u, B', rfl, h2, h3, h4⟩
        · unfold valP
          rw [h1, atP_no (fun p hp => by
            rcases List.mem_cons.1 hp with rfl | q
            · exact e
            · exact h2 p q)]
        · rw [h4]
          exact valP_split (A := a :: A') (fun p hp => by
            rcases List.mem_cons.1 hp with rfl | q
            · exact e
            · exact h2 p q)
      show valP (a :: (A ++ (id, v) :: B)) x = valP (a :: (A ++ (id, v') :: B)) x
      rw [g, g]; exact ih
theorem failsP_is (l : List (Nat × Nat)) (id : Nat) : (failsP l id).2 = decide (¬ valP l id = 0) ∧ ∀ x, valP (failsP l id).1 x = if x = id then valP l id - 1 else valP l x := by
  rcases atP_of (l := l) (id := id) with ⟨h1, h2⟩ | ⟨A, v, B, rfl, h2, h3, h4⟩
  · have hv : valP l id = 0 := by unfold valP; rw [h1]
    have e : failsP l id = (l, false) := by unfold failsP; rw [h1]
    rw [e, hv]
    refine ⟨by simp, fun x => ?_⟩
    split
    · rename_i q; rw [q, hv]
    · rfl
  · have g : (A ++ (id, v) :: B).getD A.length (0, 0) = (id, v) := by simp
    rw [h4]
    by_cases hz : v = 0
    · subst hz
      have e : failsP (A ++ (id, 0) :: B) id = (A ++ (id, 0) :: B, false) := by unfold failsP; rw [h3]; simp only [g, if_true]
      rw [e]
      refine ⟨by simp, fun x => ?_⟩
      split
      · rename_i q; rw [q, h4]
      · rfl
    · have e : failsP (A ++ (id, v) :: B) id = (A ++ (id, v - 1) :: B, true) := by
        unfold failsP; rw [h3]; simp only [g, hz, if_false]
        simp
      rw [e]
      refine ⟨by simp [hz], fun x => ?_⟩
      split
      · rename_i q; rw [q]; exact valP_split h2
      · rename_i q; exact valP_other q
theorem setP_is (l : List (Nat × Nat)) (id v x : Nat) : valP (setP l id v) x = if x = id then v else valP l x := by
  rcases atP_of (l := l) (id := id) with ⟨h1, h2⟩ | ⟨A, u, B, rfl, h2, h3, h4⟩
  · have e : setP l id v = l ++ [(id, v)] := by unfold setP; rw [h1]
    rw [e]
    split
    · rename_i q; rw [q]; exact valP_split h2
    · rename_i q
      rcases atP_of (l := l) (id := x) with ⟨g1, g2⟩ | ⟨A, u, B, rfl, g2, g3, g4⟩
      · unfold valP
        rw [g1, atP_no (fun p hp => by
          rcases List.mem_append.1 hp with r | r
          · exact g2 p r
          · simp at r; rw [r]; exact fun s => q s.symm)]
      · rw [g4, List.append_assoc]
        exact valP_split g2
  · have g : (A ++ (id, u) :: B).getD A.length (0, 0) = (id, u) := by simp
    have e : setP (A ++ (id, u) :: B) id v = A ++ (id, v) :: B := by
      unfold setP; rw [h3]; simp only [g]; simp
    rw [e]
    split
    · rename_i q; rw [q]; exact valP_split h2
    · rename_i q; exact valP_other q

/-! ### Both sides -/
structure DRel (s : DS) (r : RS) : Prop where
  room : r.room = s.room
  L : r.L = plL s.pg s.np
  rd : r.rd = s.rd
  wr : r.wr = s.wr
  st : r.stops = s.stops
  le : s.stops = true → r.left = (s.left : Int)
  nr : ∀ id, 1 ≤ id → id ≤ s.room → valP r.nr id = s.fl (id, false)
  ns : ∀ id, 1 ≤ id → id ≤ s.room → valP r.ns id = s.fl (id, true)
  np : s.np ≤ s.room
section
variable {s : DS} {r : RS}
theorem DRel.stopped (h : DRel s r) : r.stopped = decide (s.stops = true ∧ s.left = 0) := by
  unfold RS.stopped
  rw [h.st]
  cases hs : s.stops with
  | false => simp
  | true => rw [h.le hs]; simp <;> omega
theorem DRel.has (h : DRel s r) (id : Nat) : (s.has id = true ∧ 1 ≤ id ∧ id ≤ s.np ∧ (s.pg (id - 1)).1 = true ∧ atP r.L id = some (plL s.pg (id - 1)).length) ∨ (s.has id = false ∧ atP r.L id = none) := by
  rw [h.L]
  by_cases q : 1 ≤ id ∧ id ≤ s.np ∧ (s.pg (id - 1)).1 = true
  · exact .inl ⟨by unfold DS.has; simp [q.1, q.2.1, q.2.2], q.1, q.2.1, q.2.2, (plL_at q.1 q.2.1 q.2.2).2⟩
  · refine .inr ⟨?_, plL_none q⟩
    unfold DS.has
    cases hb : (s.pg (id - 1)).1 with
    | false => simp
    | true =>
      have : ¬ (1 ≤ id ∧ id ≤ s.np) := fun k => q ⟨k.1, k.2, hb⟩
      simp [this]
theorem DRel.read (h : DRel s r) (id : Nat) : (s.read id).1 = (r.read id).1 ∧ DRel (s.read id).2 (r.read id).2 := by
  rcases h.has id with ⟨hh, h1, h2, h3, hat⟩ | ⟨hh, hat⟩
  · have hst := h.stopped
    by_cases q : s.stops = true ∧ s.left = 0
    · have e1 : s.read id = ((0, 7), s) := by unfold DS.read DS.att; rw [hh]; simp [q.1, q.2]
      have e2 : r.read id = ((0, 7), r) := by unfold RS.read; rw [hat]; simp only [hst, q, and_self, decide_true, if_true]
      rw [e1, e2]; exact ⟨rfl, h⟩
    · obtain ⟨f1, f2⟩ := failsP_is r.nr id
      rw [h.nr id h1 (by have := h.np; omega)] at f1 f2
      by_cases z : s.fl (id, false) = 0
      · have e2 : r.read id = (((s.pg (id - 1)).2, 0), { r with rd := r.rd + 1, left := r.left - 1 }) := by
          unfold RS.read; rw [hat]; simp only [hst, q, decide_false, f1, z, not_true, Bool.false_eq_true, if_false]
          rw [h.L, (plL_set h1 h2 h3 0).2]
        rw [e2]
        cases hs : s.stops with
        | false =>
          have e1 : s.read id = (((s.pg (id - 1)).2, 0), { s with rd := s.rd + 1 }) := by unfold DS.read DS.att; rw [hh]; simp [hs, z]
          rw [e1]
          exact ⟨rfl, h.room, h.L, congrArg (· + 1) h.rd, h.wr, h.st, (fun k => by rw [show s.stops = true from k] at hs; cases hs), h.nr, h.ns, h.np⟩
        | true =>
          have hl := h.le hs
          have hl0 : ¬ s.left = 0 := fun k => q ⟨hs, k⟩
          have e1 : s.read id = (((s.pg (id - 1)).2, 0), { s with left := s.left - 1, rd := s.rd + 1 }) := by unfold DS.read DS.att; rw [hh]; simp [hs, z, hl0]
          rw [e1]
          exact ⟨rfl, h.room, h.L, congrArg (· + 1) h.rd, h.wr, h.st, (fun _ => by show r.left - 1 = ((s.left - 1 : Nat) : Int); omega), h.nr, h.ns, h.np⟩
      · have e1 : s.read id = ((0, 7), { s with fl := updK s.fl (id, false) (s.fl (id, false) - 1) }) := by unfold DS.read DS.att; rw [hh]; simp [q, z]
        have e2 : r.read id = ((0, 7), { r with nr := (failsP r.nr id).1 }) := by unfold RS.read; rw [hat]; simp [hst, q, f1, z]
        rw [e1, e2]
        refine ⟨rfl, h.room, h.L, h.rd, h.wr, h.st, h.le, fun x x1 x2 => ?_, fun x x1 x2 => ?_, h.np⟩
        · show valP (failsP r.nr id).1 x = updK s.fl (id, false) (s.fl (id, false) - 1) (x, false)
          rw [f2 x]
          unfold updK
          by_cases e : x = id
          · simp [e]
          · simp [e]; exact h.nr x x1 x2
        · show valP r.ns x = updK s.fl (id, false) (s.fl (id, false) - 1) (x, true)
          unfold updK; simp; exact h.ns x x1 x2
  · have e1 : s.read id = ((0, 3), s) := by unfold DS.read DS.att; rw [hh]; simp
    have e2 : r.read id = ((0, 3), r) := by unfold RS.read; rw [hat]
    rw [e1, e2]; exact ⟨rfl, h⟩
theorem DRel.write (h : DRel s r) (id v : Nat) : (s.write id v).1 = (r.write id v).1 ∧ DRel (s.write id v).2 (r.write id v).2 := by
  rcases h.has id with ⟨hh, h1, h2, h3, hat⟩ | ⟨hh, hat⟩
  · have hst := h.stopped
    by_cases q : s.stops = true ∧ s.left = 0
    · have e1 : s.write id v = (7, s) := by unfold DS.write DS.att; rw [hh]; simp [q.1, q.2]
      have e2 : r.write id v = (7, r) := by unfold RS.write; rw [hat]; simp only [hst, q, and_self, decide_true, if_true]
      rw [e1, e2]; exact ⟨rfl, h⟩
    · obtain ⟨f1, f2⟩ := failsP_is r.ns id
      rw [h.ns id h1 (by have := h.np; omega)] at f1 f2
      by_cases z : s.fl (id, true) = 0
      · have e2 : r.write id v = (0, { r with L := plL (upd s.pg (id - 1) ((s.pg (id - 1)).1, v)) s.np, wr := r.wr + 1, left := r.left - 1 }) := by
          unfold RS.write; rw [hat]; simp only [hst, q, decide_false, f1, z, not_true, Bool.false_eq_true, if_false]
          rw [h.L, (plL_set h1 h2 h3 v).1]
        rw [e2]
        cases hs : s.stops with
        | false =>
          have e1 : s.write id v = (0, { s with wr := s.wr + 1, pg := upd s.pg (id - 1) ((s.pg (id - 1)).1, v) }) := by unfold DS.write DS.att; rw [hh]; simp [hs, z]
          rw [e1]
          exact ⟨rfl, h.room, rfl, h.rd, congrArg (· + 1) h.wr, h.st, (fun k => by rw [show s.stops = true from k] at hs; cases hs), h.nr, h.ns, h.np⟩
        | true =>
          have hl := h.le hs
          have hl0 : ¬ s.left = 0 := fun k => q ⟨hs, k⟩
          have e1 : s.write id v = (0, { s with left := s.left - 1, wr := s.wr + 1, pg := upd s.pg (id - 1) ((s.pg (id - 1)).1, v) }) := by unfold DS.write DS.att; rw [hh]; simp [hs, z, hl0]
          rw [e1]
          exact ⟨rfl, h.room, rfl, h.rd, congrArg (· + 1) h.wr, h.st, (fun _ => by show r.left - 1 = ((s.left - 1 : Nat) : Int); omega), h.nr, h.ns, h.np⟩
      · have e1 : s.write id v = (7, { s with fl := updK s.fl (id, true) (s.fl (id, true) - 1) }) := by unfold DS.write DS.att; rw [hh]; simp [q, z]
        have e2 : r.write id v = (7, { r with ns := (failsP r.ns id).1 }) := by unfold RS.write; rw [hat]; simp [hst, q, f1, z]
        rw [e1, e2]
        refine ⟨rfl, h.room, h.L, h.rd, h.wr, h.st, h.le, fun x x1 x2 => ?_, fun x x1 x2 => ?_, h.np⟩
        · show valP r.nr x = updK s.fl (id, true) (s.fl (id, true) - 1) (x, false)
          unfold updK; simp; exact h.nr x x1 x2
        · show valP (failsP r.ns id).1 x = updK s.fl (id, true) (s.fl (id, true) - 1) (x, true)
          rw [f2 x]
          unfold updK
          by_cases e : x = id
          · simp [e]
          · simp [e]; exact h.ns x x1 x2
  · have e1 : s.write id v = (3, s) := by unfold DS.write DS.att; rw [hh]; simp
    have e2 : r.write id v = (3, r) := by unfold RS.write; rw [hat]
    rw [e1, e2]; exact ⟨rfl, h⟩
theorem DRel.free_no (h : DRel s r) {id : Nat} (hh : s.has id = false) : r.free id = (3, r) := by
  rcases h.has id with ⟨q, _⟩ | ⟨_, hat⟩
  · rw [hh] at q; cases q
  · unfold RS.free; rw [hat]
theorem DRel.free_yes (h : DRel s r) {id : Nat} (hh : s.has id = true) : (r.free id).1 = 0 ∧ DRel (s.gone id) (r.free id).2 := by
  rcases h.has id with ⟨_, h1, h2, h3, hat⟩ | ⟨q, _⟩
  · have e : r.free id = (0, { r with L := plL (upd s.pg (id - 1) (false, 0)) s.np }) := by
      unfold RS.free; rw [hat, h.L]; simp only [plL_cut h1 h2 h3]
    rw [e]
    exact ⟨rfl, h.room, rfl, h.rd, h.wr, h.st, h.le, h.nr, h.ns, h.np⟩
  · rw [hh] at q; cases q
theorem DRel.fail (h : DRel s r) (id : Nat) (b : Bool) (x : Nat) : DRel (s.fail id b x) (r.fail id b x) := by
  have hk : ∀ y c, 1 ≤ y → y ≤ s.room → (s.fail id b x).fl (y, c) = if y = id ∧ c = b then x else s.fl (y, c) := by
    intro y c y1 y2
    unfold DS.fail
    by_cases q : 1 ≤ id ∧ id ≤ s.room
    · rw [if_pos q]
      show updK s.fl (id, b) x (y, c) = _
      unfold updK
      by_cases e : y = id <;> by_cases e' : c = b <;> simp [e, e']
    · rw [if_neg q, if_neg]
      rintro ⟨rfl, _⟩; exact q ⟨y1, y2⟩
  have ho : (s.fail id b x).room = s.room ∧ (s.fail id b x).np = s.np ∧ (s.fail id b x).pg = s.pg ∧ (s.fail id b x).rd = s.rd ∧ (s.fail id b x).wr = s.wr ∧ (s.fail id b x).stops = s.stops ∧ (s.fail id b x).left = s.left := by
    unfold DS.fail; split <;> exact ⟨rfl, rfl, rfl, rfl, rfl, rfl, rfl⟩
  obtain ⟨o1, o2, o3, o4, o5, o6, o7⟩ := ho
  cases b with
  | false =>
    refine ⟨by rw [o1]; exact h.room, by rw [o2, o3]; exact h.L, by rw [o4]; exact h.rd, by rw [o5]; exact h.wr, by rw [o6]; exact h.st, by rw [o6, o7]; exact h.le, fun y y1 y2 => ?_, fun y y1 y2 => ?_, by rw [o1, o2]; exact h.np⟩
    · rw [o1] at y2
      rw [hk y _ y1 y2]
      show valP (setP r.nr id x) y = _
      rw [setP_is]
      by_cases e : y = id <;> simp [e]
      exact h.nr y y1 y2
    · rw [o1] at y2
      rw [hk y _ y1 y2]
      show valP r.ns y = _
      simp
      exact h.ns y y1 y2
  | true =>
    refine ⟨by rw [o1]; exact h.room, by rw [o2, o3]; exact h.L, by rw [o4]; exact h.rd, by rw [o5]; exact h.wr, by rw [o6]; exact h.st, by rw [o6, o7]; exact h.le, fun y y1 y2 => ?_, fun y y1 y2 => ?_, by rw [o1, o2]; exact h.np⟩
    · rw [o1] at y2
      rw [hk y _ y1 y2]
      show valP r.nr y = _
      simp
      exact h.nr y y1 y2
    · rw [o1] at y2
      rw [hk y _ y1 y2]
      show valP (setP r.ns id x) y = _
      rw [setP_is]
      by_cases e : y = id <;> simp [e]
      exact h.ns y y1 y2
theorem DRel.stop (h : DRel s r) (t : Nat) : DRel { s with stops := true, left := t } { r with stops := true, left := (t : Int) } :=
  ⟨h.room, h.L, h.rd, h.wr, rfl, fun _ => rfl, h.nr, h.ns, h.np⟩
/-- A page comes by the first id that none has. -/
def DS.put (s : DS) (k : Nat) : DS := { s with np := max s.np (k + 1), pg := upd s.pg k (true, 0) }
theorem DRel.put (h : DRel s r) {k : Nat} (hg : Gap r.L k) (hl : r.L.length < r.room) : DRel (s.put k) (r.ins k) := by
  rw [h.L] at hg hl
  obtain ⟨g1, g2, g3, g4⟩ := plL_gap hg
  refine ⟨h.room, ?_, h.rd, h.wr, h.st, h.le, h.nr, h.ns, ?_⟩
  · show r.L.take k ++ [(k + 1, 0)] ++ r.L.drop k = _
    rw [h.L]; exact g4
  · show max s.np (k + 1) ≤ s.room
    have hnp := h.np
    rw [h.room] at hl
    rcases Nat.lt_or_ge k s.np with q | q
    · omega
    · have e : k = s.np := by omega
      subst e
      have : (plL s.pg s.np).length = s.np := plR_full (fun i _ q => g2 i (by omega))
      omega
end
end Go.Proofs.YtnideelidfpicaaGreatDoor

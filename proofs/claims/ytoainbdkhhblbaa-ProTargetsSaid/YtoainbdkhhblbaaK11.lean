/-
  Rows that are linked by numbers, and the lists that they stand for: plain facts on functions and lists, with no program in sight.
-/
import Derived.Test.YtoainbdkhhblbaaK01
namespace Go.Proofs.Ytoainbdkhhblbaa
set_option linter.unusedVariables false

/-- From a by nx, through l, to b; and back by pv. -/
def Lk (nx pv : Nat → Nat) : Nat → List Nat → Nat → Prop
  | a, [], b => nx a = b ∧ pv b = a
  | a, x :: l, b => nx a = x ∧ pv x = a ∧ Lk nx pv x l b

theorem Lk.append {nx pv : Nat → Nat} : ∀ {a : Nat} {l1 : List Nat} {x : Nat} {l2 : List Nat} {b : Nat}, Lk nx pv a (l1 ++ x :: l2) b ↔ Lk nx pv a l1 x ∧ Lk nx pv x l2 b
  | a, [], x, l2, b => by simp [Lk, and_assoc]
  | a, y :: l1, x, l2, b => by simp [Lk, Lk.append (l1 := l1), and_assoc]
theorem Lk.congr {nx pv nx' pv' : Nat → Nat} : ∀ {a : Nat} {l : List Nat} {b : Nat}, Lk nx pv a l b → (∀ i, i = a ∨ i ∈ l → nx' i = nx i) → (∀ i, i ∈ l ∨ i = b → pv' i = pv i) → Lk nx' pv' a l b
  | a, [], b, h, h1, h2 => by
    obtain ⟨e1, e2⟩ := h
    exact ⟨by rw [h1 a (.inl rfl)]; exact e1, by rw [h2 b (.inr rfl)]; exact e2⟩
  | a, x :: l, b, h, h1, h2 => by
    obtain ⟨e1, e2, r⟩ := h
    refine ⟨by rw [h1 a (.inl rfl)]; exact e1, by rw [h2 x (.inl (List.mem_cons_self ..))]; exact e2, Lk.congr r ?_ ?_⟩
    · intro i hi; exact h1 i (.inr (by rcases hi with rfl | hi <;> simp [*]))
    · intro i hi; exact h2 i (by rcases hi with hi | rfl <;> simp [*])
theorem Lk.last {nx pv : Nat → Nat} : ∀ {a : Nat} {l : List Nat} {b : Nat}, Lk nx pv a l b → pv b = l.getLast?.getD a
  | a, [], b, h => h.2
  | a, [x], b, h => by simpa [Lk] using h.2.2.2
  | a, x :: y :: l, b, h => by
    have := Lk.last (l := y :: l) h.2.2
    rw [this]; cases l <;> simp [List.getLast?_cons]
theorem Lk.first {nx pv : Nat → Nat} : ∀ {a : Nat} {l : List Nat} {b : Nat}, Lk nx pv a l b → nx a = l.head?.getD b
  | a, [], b, h => h.1
  | a, x :: l, b, h => h.1

/-- The state stands for the lists L. -/
structure RInv (n m : Nat) (rw nx pv ls : Nat → Nat) (L : List (List Nat)) : Prop where
  len : L.length = m
  lk : ∀ (k : Nat) (l : List Nat), L[k]? = some l → Lk nx pv (n + k) l (n + k)
  lsz : ∀ (k : Nat) (l : List Nat), L[k]? = some l → ls k = l.length
  nd : ∀ (k : Nat) (l : List Nat), L[k]? = some l → l.Nodup
  mem : ∀ (k : Nat) (l : List Nat), L[k]? = some l → ∀ x, x ∈ l → x < n ∧ rw x = k + 1
  cl : ∀ k, k < m → rw (n + k) = k + 1
  out : ∀ x, x < n → rw x = 0 ∨ ∃ (k : Nat) (l : List Nat), L[k]? = some l ∧ x ∈ l

theorem RInv.row_lt {n m : Nat} {rw nx pv ls : Nat → Nat} {L : List (List Nat)} (h : RInv n m rw nx pv ls L) {x k : Nat} (hx : x < n) (hr : rw x = k + 1) : k < m ∧ ∃ l, L[k]? = some l ∧ x ∈ l := by
  rcases h.out x hx with e | ⟨k', l, hl, hm⟩
  · omega
  · have e := (h.mem k' l hl x hm).2
    obtain rfl : k' = k := by omega
    have := (List.getElem?_eq_some_iff.1 hl).1
    exact ⟨by have := h.len; omega, l, hl, hm⟩
/-- What stands ahead of a thing and behind it, where it is in a row. -/
theorem Lk.at {nx pv : Nat → Nat} {a : Nat} {l1 : List Nat} {x : Nat} {l2 : List Nat} {b : Nat} (h : Lk nx pv a (l1 ++ x :: l2) b) : pv x = l1.getLast?.getD a ∧ nx x = l2.head?.getD b := by
  obtain ⟨h1, h2⟩ := Lk.append.1 h
  exact ⟨h1.last, h2.first⟩

section
variable {n m : Nat} {rw nx pv ls : Nat → Nat} {L : List (List Nat)}

theorem getLast_mem_or {l : List Nat} {a : Nat} : l.getLast?.getD a = a ∧ l = [] ∨ l.getLast?.getD a ∈ l := by
  rcases List.eq_nil_or_concat l with rfl | ⟨l', y, rfl⟩
  · exact .inl ⟨rfl, rfl⟩
  · right; simp
theorem head_mem_or {l : List Nat} {a : Nat} : l.head?.getD a = a ∧ l = [] ∨ l.head?.getD a ∈ l := by
  cases l with
  | nil => exact .inl ⟨rfl, rfl⟩
  | cons x l => right; simp

/-- The neighbours of a thing in row k, as numbers of nodes. -/
theorem RInv.near (h : RInv n m rw nx pv ls L) {k : Nat} {l1 : List Nat} {x : Nat} {l2 : List Nat} (hl : L[k]? = some (l1 ++ x :: l2)) :
    (pv x = n + k ∧ l1 = [] ∨ pv x ∈ l1) ∧ (nx x = n + k ∧ l2 = [] ∨ nx x ∈ l2) := by
  obtain ⟨e1, e2⟩ := (h.lk k _ hl).at
  exact ⟨e1 ▸ getLast_mem_or, e2 ▸ head_mem_or⟩

theorem RInv.k_lt (h : RInv n m rw nx pv ls L) {k : Nat} {l : List Nat} (hl : L[k]? = some l) : k < m := by
  have := (List.getElem?_eq_some_iff.1 hl).1
  have := h.len; omega

theorem RInv.set_get {k j : Nat} {l l' : List Nat} (hl : (L.set k l)[j]? = some l') : j = k ∧ l' = l ∨ ¬ j = k ∧ L[j]? = some l' := by
  rw [List.getElem?_set] at hl
  by_cases e : k = j
  · rw [if_pos e] at hl
    split at hl
    · exact .inl ⟨e.symm, (Option.some.inj hl).symm⟩
    · cases hl
  · rw [if_neg e] at hl
    exact .inr ⟨fun q => e q.symm, hl⟩

theorem RInv.bounds (h : RInv n m rw nx pv ls L) {k : Nat} {l1 : List Nat} {x : Nat} {l2 : List Nat} (hl : L[k]? = some (l1 ++ x :: l2)) :
    x < n ∧ rw x = k + 1 ∧ pv x < n + m ∧ nx x < n + m ∧ ¬ pv x = x ∧ ¬ nx x = x := by
  have hk := h.k_lt hl
  have hx := h.mem k _ hl x (by simp)
  have hnd := h.nd k _ hl
  obtain ⟨hp, hn⟩ := h.near hl
  rw [List.nodup_append] at hnd
  obtain ⟨_, d2, d3⟩ := hnd
  rw [List.nodup_cons] at d2
  refine ⟨hx.1, hx.2, ?_, ?_, ?_, ?_⟩
  · rcases hp with ⟨e, _⟩ | e
    · omega
    · have := (h.mem k _ hl (pv x) (by simp [e])).1; omega
  · rcases hn with ⟨e, _⟩ | e
    · omega
    · have := (h.mem k _ hl (nx x) (by simp [e])).1; omega
  · rcases hp with ⟨e, _⟩ | e
    · omega
    · intro q; exact d3 _ e _ (List.mem_cons_self ..) q
  · rcases hn with ⟨e, _⟩ | e
    · omega
    · intro q; rw [q] at e; exact d2.1 e

/-- A thing goes out of its row. -/
theorem RInv.take (h : RInv n m rw nx pv ls L) {k : Nat} {l1 : List Nat} {x : Nat} {l2 : List Nat} (hl : L[k]? = some (l1 ++ x :: l2)) :
    RInv n m (upd rw x 0) (upd (upd nx (pv x) (nx x)) x 0) (upd (upd pv (nx x) (pv x)) x 0) (upd ls k (ls k - 1)) (L.set k (l1 ++ l2)) := by
  have hk := h.k_lt hl
  obtain ⟨hxn, hrx, b1, b2, b3, b4⟩ := h.bounds hl
  obtain ⟨hp, hn⟩ := h.near hl
  have hnd := h.nd k _ hl
  have hlk := h.lk k _ hl
  have hmem := h.mem k _ hl
  rw [List.nodup_append] at hnd
  obtain ⟨d1, d2, d3⟩ := hnd
  rw [List.nodup_cons] at d2
  have nx1 : ∀ i, i ∈ l1 → ¬ i = x := fun i hi e => d3 i hi x (List.mem_cons_self ..) e
  have nx2 : ∀ i, i ∈ l2 → ¬ i = x := fun i hi e => d2.1 (e ▸ hi)
  have n12 : ∀ i, i ∈ l1 → ¬ i ∈ l2 := fun i hi hj => d3 i hi i (List.mem_cons_of_mem _ hj) rfl
  have ltn : ∀ i, i ∈ l1 ∨ i ∈ l2 → i < n := fun i hi => (hmem i (by rcases hi with hi | hi <;> simp [hi])).1
  -- rows other than k don't meet the three nodes
  have oth : ∀ j l, ¬ j = k → L[j]? = some l → ∀ i, i = n + j ∨ i ∈ l → ¬ i = x ∧ ¬ i = pv x ∧ ¬ i = nx x := by
    intro j l hjk hj i hi
    have notin : ∀ y, y ∈ l1 ++ x :: l2 → ¬ i = y := by
      intro y hy e
      have h1 := hmem y hy
      rcases hi with hi | hi
      · omega
      · have h2 := h.mem j l hj i hi; rw [e] at h2; omega
    refine ⟨notin x (by simp), ?_, ?_⟩
    · rcases hp with ⟨e, _⟩ | e
      · rcases hi with hi | hi
        · omega
        · have h2 := h.mem j l hj i hi; omega
      · exact notin _ (by simp [e])
    · rcases hn with ⟨e, _⟩ | e
      · rcases hi with hi | hi
        · omega
        · have h2 := h.mem j l hj i hi; omega
      · exact notin _ (by simp [e])
  refine ⟨by simp [h.len], ?_, ?_, ?_, ?_, ?_, ?_⟩
  · intro j l' hj
    rcases RInv.set_get hj with ⟨rfl, rfl⟩ | ⟨hjk, hj'⟩
    · obtain ⟨k1, k2⟩ := Lk.append.1 hlk
      -- join: ahead of l2 there stands what was behind l1
      have e1 : pv x = l1.getLast?.getD (n + j) := k1.last
      have e2 : nx x = l2.head?.getD (n + j) := k2.first
      rcases List.eq_nil_or_concat l1 with rfl | ⟨l1', y, rfl⟩
      · have e1' : pv x = n + j := by simpa using e1
        cases l2 with
        | nil =>
          have e2' : nx x = n + j := by simpa using e2
          simp [Lk, upd, e1', e2']
          omega
        | cons z l2 =>
          have e2' : nx x = z := by simpa using e2
          have hz := ltn z (.inr (by simp))
          have hzx := nx2 z (by simp)
          refine ⟨by simp [upd, e1', e2']; omega, by simp [upd, e1', e2', hzx], ?_⟩
          refine Lk.congr k2.2.2 ?_ ?_
          · intro i hi
            have hi' : i ∈ z :: l2 := by rcases hi with rfl | hi <;> simp [*]
            have := ltn i (.inr hi')
            rw [upd_other _ _ (nx2 i hi'), upd_other _ _ (by omega)]
          · intro i hi
            have hix : ¬ i = x := by rcases hi with hi | rfl; exact nx2 i (by simp [hi]); omega
            have hiz : ¬ i = nx x := by
              rw [e2']
              rcases hi with hi | rfl
              · intro e; subst e; exact (List.nodup_cons.1 d2.2).1 hi
              · omega
            rw [upd_other _ _ hix, upd_other _ _ hiz]
      · have e1' : pv x = y := by simpa using e1
        rw [List.concat_eq_append] at *
        have hy := ltn y (.inl (by simp))
        have hyx := nx1 y (by simp)
        obtain ⟨q1, q2⟩ := Lk.append.1 k1
        have dy : ¬ y ∈ l1' := by
          rw [List.nodup_append] at d1
          exact fun hm => d1.2.2 y hm y (by simp) rfl
        have tail : Lk (upd (upd nx (pv x) (nx x)) x 0) (upd (upd pv (nx x) (pv x)) x 0) y l2 (n + j) := by
          cases l2 with
          | nil =>
            have e2' : nx x = n + j := by simpa using e2
            exact ⟨by simp [upd, e1', e2', hyx], by simp [upd, e1', e2']; omega⟩
          | cons z l2 =>
            have e2' : nx x = z := by simpa using e2
            have hz := ltn z (.inr (by simp))
            have hzx := nx2 z (by simp)
            have hyz : ∀ i, i ∈ z :: l2 → ¬ i = y := fun i hi e => n12 y (by simp) (e ▸ hi)
            refine ⟨by simp [upd, e1', e2', hyx], by simp [upd, e1', e2', hzx], ?_⟩
            refine Lk.congr k2.2.2 ?_ ?_
            · intro i hi
              have hi' : i ∈ z :: l2 := by rcases hi with rfl | hi <;> simp [*]
              rw [upd_other _ _ (nx2 i hi'), upd_other _ _ (by rw [e1']; exact hyz i hi')]
            · intro i hi
              have hix : ¬ i = x := by rcases hi with hi | rfl; exact nx2 i (by simp [hi]); omega
              have hiz : ¬ i = nx x := by
                rw [e2']
                rcases hi with hi | rfl
                · intro e; subst e; exact (List.nodup_cons.1 d2.2).1 hi
                · omega
              rw [upd_other _ _ hix, upd_other _ _ hiz]
        rw [List.append_assoc]
        refine Lk.append.2 ⟨?_, tail⟩
        refine Lk.congr q1 ?_ ?_
        · intro i hi
          have hix : ¬ i = x := by rcases hi with rfl | hi; omega; exact nx1 i (by simp [hi])
          have hiy : ¬ i = pv x := by
            rw [e1']; rcases hi with rfl | hi; omega; exact fun e => dy (e ▸ hi)
          rw [upd_other _ _ hix, upd_other _ _ hiy]
        · intro i hi
          have hi' : i ∈ l1' ++ [y] := by rcases hi with hi | rfl <;> simp [*]
          have hiz : ¬ i = nx x := by
            rcases hn with ⟨e, _⟩ | e
            · have := ltn i (.inl hi'); omega
            · intro q; exact n12 i hi' (q ▸ e)
          rw [upd_other _ _ (nx1 i hi'), upd_other _ _ hiz]
    · refine Lk.congr (h.lk j l' hj') ?_ ?_
      · intro i hi
        have := oth j l' hjk hj' i hi
        rw [upd_other _ _ this.1, upd_other _ _ this.2.1]
      · intro i hi
        have := oth j l' hjk hj' i hi.symm
        rw [upd_other _ _ this.1, upd_other _ _ this.2.2]
  · intro j l' hj
    rcases RInv.set_get hj with ⟨rfl, rfl⟩ | ⟨hjk, hj'⟩
    · rw [upd_same, h.lsz j _ hl]; simp
    · rw [upd_other _ _ hjk, h.lsz j _ hj']
  · intro j l' hj
    rcases RInv.set_get hj with ⟨rfl, rfl⟩ | ⟨hjk, hj'⟩
    · rw [List.nodup_append]
      exact ⟨d1, d2.2, fun a ha b hb => d3 a ha b (List.mem_cons_of_mem _ hb)⟩
    · exact h.nd j _ hj'
  · intro j l' hj y hy
    rcases RInv.set_get hj with ⟨rfl, rfl⟩ | ⟨hjk, hj'⟩
    · have hyx : ¬ y = x := by rcases List.mem_append.1 hy with q | q; exact nx1 y q; exact nx2 y q
      rw [upd_other _ _ hyx]
      exact hmem y (by rcases List.mem_append.1 hy with q | q <;> simp [q])
    · rw [upd_other _ _ (oth j l' hjk hj' y (.inr hy)).1]
      exact h.mem j l' hj' y hy
  · intro j hj
    rw [upd_other _ _ (by omega)]
    exact h.cl j hj
  · intro y hy
    by_cases e : y = x
    · subst e; left; exact upd_same ..
    · rw [upd_other _ _ e]
      rcases h.out y hy with q | ⟨j, l, hj, hm⟩
      · exact .inl q
      · right
        by_cases ej : j = k
        · subst ej
          rw [hl] at hj
          obtain rfl := Option.some.inj hj
          refine ⟨j, l1 ++ l2, by rw [List.getElem?_set, if_pos rfl, if_pos (by have := h.len; omega)], ?_⟩
          simp only [List.mem_append, List.mem_cons] at hm ⊢
          rcases hm with q | q | q
          · exact .inl q
          · exact (e q).elim
          · exact .inr q
        · exact ⟨j, l, by rw [List.getElem?_set, if_neg (fun q => ej q.symm)]; exact hj, hm⟩

/-- A thing in no row comes into row k, between l1 and l2. -/
theorem RInv.give (h : RInv n m rw nx pv ls L) {k : Nat} {l1 l2 : List Nat} (hl : L[k]? = some (l1 ++ l2)) {x : Nat} (hx : x < n) (hrx : rw x = 0) {t p : Nat} (ht : t = l2.head?.getD (n + k)) (hp : p = pv t) :
    RInv n m (upd rw x (k + 1)) (upd (upd nx x t) p x) (upd (upd pv x p) t x) (upd ls k (ls k + 1)) (L.set k (l1 ++ x :: l2)) := by
  have hk := h.k_lt hl
  have hnd := h.nd k _ hl
  have hlk := h.lk k _ hl
  have hmem := h.mem k _ hl
  rw [List.nodup_append] at hnd
  obtain ⟨d1, d2, d3⟩ := hnd
  have notin : ∀ (j : Nat) (l : List Nat), L[j]? = some l → ∀ (i : Nat), i ∈ l → ¬ i = x := by
    intro j l hj i hi e
    have := (h.mem j l hj i hi).2; rw [e, hrx] at this; omega
  have nx1 : ∀ i, i ∈ l1 → ¬ i = x := fun i hi => notin k _ hl i (by simp [hi])
  have nx2 : ∀ i, i ∈ l2 → ¬ i = x := fun i hi => notin k _ hl i (by simp [hi])
  have n12 : ∀ i, i ∈ l1 → ¬ i ∈ l2 := fun i hi hj => d3 i hi i hj rfl
  have ltn : ∀ i, i ∈ l1 ∨ i ∈ l2 → i < n := fun i hi => (hmem i (by rcases hi with hi | hi <;> simp [hi])).1
  -- the row as two chains that meet between l1 and l2
  have hpp : p = l1.getLast?.getD (n + k) := by
    rw [hp, ht]
    cases l2 with
    | nil => simp only [List.append_nil] at hlk; simpa using hlk.last
    | cons z l2 => simpa using (Lk.append.1 hlk).1.last
  have ptcase : (t = n + k ∧ l2 = []) ∨ t ∈ l2 := ht ▸ head_mem_or
  have ppcase : (p = n + k ∧ l1 = []) ∨ p ∈ l1 := hpp ▸ getLast_mem_or
  have htx : ¬ t = x := by rcases ptcase with ⟨e, _⟩ | e; omega; exact nx2 _ e
  have hpx : ¬ p = x := by rcases ppcase with ⟨e, _⟩ | e; omega; exact nx1 _ e
  have oth : ∀ j l, ¬ j = k → L[j]? = some l → ∀ i, i = n + j ∨ i ∈ l → ¬ i = x ∧ ¬ i = p ∧ ¬ i = t := by
    intro j l hjk hj i hi
    have ne : ∀ y, y ∈ l1 ++ l2 → ¬ i = y := by
      intro y hy e
      have h1 := hmem y hy
      rcases hi with hi | hi
      · omega
      · have h2 := h.mem j l hj i hi; rw [e] at h2; omega
    refine ⟨?_, ?_, ?_⟩
    · rcases hi with hi | hi
      · omega
      · exact notin j l hj i hi
    · rcases ppcase with ⟨e, _⟩ | e
      · rcases hi with hi | hi
        · omega
        · have h2 := h.mem j l hj i hi; omega
      · exact ne _ (by simp [e])
    · rcases ptcase with ⟨e, _⟩ | e
      · rcases hi with hi | hi
        · omega
        · have h2 := h.mem j l hj i hi; omega
      · exact ne _ (by simp [e])
  refine ⟨by simp [h.len], ?_, ?_, ?_, ?_, ?_, ?_⟩
  · intro j l' hj
    rcases RInv.set_get hj with ⟨rfl, rfl⟩ | ⟨hjk, hj'⟩
    · refine Lk.append.2 ⟨?_, ?_⟩
      · -- from the closing node through l1 to x
        rcases List.eq_nil_or_concat l1 with rfl | ⟨l1', y, rfl⟩
        · have e : p = n + j := by simpa using hpp
          exact ⟨by rw [e]; simp [upd], by rw [upd_other _ _ (fun q => htx q.symm)]; simp [upd, e]⟩
        · rw [List.concat_eq_append] at *
          have e : p = y := by simpa using hpp
          have q1 : Lk nx pv (n + j) l1' y := by
            rw [List.append_assoc] at hlk
            exact (Lk.append.1 hlk).1
          have dy : ¬ y ∈ l1' := by
            rw [List.nodup_append] at d1
            exact fun hm => d1.2.2 y hm y (by simp) rfl
          have hy := ltn y (.inl (by simp))
          refine Lk.append.2 ⟨Lk.congr q1 ?_ ?_, ?_⟩
          · intro i hi
            have h1 : ¬ i = p := by rw [e]; rcases hi with rfl | hi; omega; exact fun q => dy (q ▸ hi)
            have h2 : ¬ i = x := by rcases hi with rfl | hi; omega; exact nx1 i (by simp [hi])
            rw [upd_other _ _ h1, upd_other _ _ h2]
          · intro i hi
            have hi' : i ∈ l1' ++ [y] := by rcases hi with hi | rfl <;> simp [*]
            have h1 : ¬ i = t := by
              rcases ptcase with ⟨e, _⟩ | e
              · have := ltn i (.inl hi'); omega
              · exact fun q => n12 i hi' (q ▸ e)
            rw [upd_other _ _ h1, upd_other _ _ (nx1 i hi')]
          · exact ⟨by rw [e]; simp [upd], by rw [upd_other _ _ (fun q => htx q.symm)]; simp [upd, e]⟩
      · cases l2 with
        | nil =>
          have e : t = n + j := by simpa using ht
          exact ⟨by rw [upd_other _ _ (fun q => hpx q.symm)]; simp [upd, e], by rw [e]; simp [upd]⟩
        | cons z l2 =>
          have e : t = z := by simpa using ht
          have k2 := (Lk.append.1 hlk).2
          refine ⟨by rw [upd_other _ _ (fun q => hpx q.symm)]; simp [upd, e], by rw [e]; simp [upd], ?_⟩
          refine Lk.congr k2 ?_ ?_
          · intro i hi
            have hi' : i ∈ z :: l2 := by rcases hi with rfl | hi <;> simp [*]
            have h1 : ¬ i = p := by
              rcases ppcase with ⟨e, _⟩ | e
              · have := ltn i (.inr hi'); omega
              · exact fun q => n12 p e (q ▸ hi')
            rw [upd_other _ _ h1, upd_other _ _ (nx2 i hi')]
          · intro i hi
            have h2 : ¬ i = x := by rcases hi with hi | rfl; exact nx2 i (by simp [hi]); omega
            have h1 : ¬ i = t := by
              rw [e]; rcases hi with hi | rfl
              · intro q; subst q; exact (List.nodup_cons.1 d2).1 hi
              · have := ltn z (.inr (by simp)); omega
            rw [upd_other _ _ h1, upd_other _ _ h2]
    · refine Lk.congr (h.lk j l' hj') ?_ ?_
      · intro i hi
        have := oth j l' hjk hj' i hi
        rw [upd_other _ _ this.2.1, upd_other _ _ this.1]
      · intro i hi
        have := oth j l' hjk hj' i hi.symm
        rw [upd_other _ _ this.2.2, upd_other _ _ this.1]
  · intro j l' hj
    rcases RInv.set_get hj with ⟨rfl, rfl⟩ | ⟨hjk, hj'⟩
    · rw [upd_same, h.lsz j _ hl]; simp; omega
    · rw [upd_other _ _ hjk, h.lsz j _ hj']
  · intro j l' hj
    rcases RInv.set_get hj with ⟨rfl, rfl⟩ | ⟨hjk, hj'⟩
    · rw [List.nodup_append]
      refine ⟨d1, List.nodup_cons.2 ⟨fun q => nx2 x q rfl, d2⟩, fun a ha b hb => ?_⟩
      rcases List.mem_cons.1 hb with rfl | hb
      · exact nx1 a ha
      · exact d3 a ha b hb
    · exact h.nd j _ hj'
  · intro j l' hj y hy
    rcases RInv.set_get hj with ⟨rfl, rfl⟩ | ⟨hjk, hj'⟩
    · by_cases e : y = x
      · subst e; exact ⟨hx, upd_same ..⟩
      · rw [upd_other _ _ e]
        exact hmem y (by simp only [List.mem_append, List.mem_cons] at hy ⊢; rcases hy with q | q | q; exact .inl q; exact (e q).elim; exact .inr q)
    · rw [upd_other _ _ (notin j l' hj' y hy)]
      exact h.mem j l' hj' y hy
  · intro j hj
    rw [upd_other _ _ (by omega)]
    exact h.cl j hj
  · intro y hy
    by_cases e : y = x
    · subst e
      exact .inr ⟨k, _, by rw [List.getElem?_set, if_pos rfl, if_pos (by have := h.len; omega)], by simp⟩
    · rw [upd_other _ _ e]
      rcases h.out y hy with q | ⟨j, l, hj, hm⟩
      · exact .inl q
      · right
        by_cases ej : j = k
        · subst ej
          rw [hl] at hj
          obtain rfl := Option.some.inj hj
          refine ⟨j, l1 ++ x :: l2, by rw [List.getElem?_set, if_pos rfl, if_pos (by have := h.len; omega)], ?_⟩
          simp only [List.mem_append, List.mem_cons] at hm ⊢
          rcases hm with q | q
          · exact .inl q
          · exact .inr (.inr q)
        · exact ⟨j, l, by rw [List.getElem?_set, if_neg (fun q => ej q.symm)]; exact hj, hm⟩
end
end Go.Proofs.Ytoainbdkhhblbaa

/-
  Both Models step alike: the pages as a list, what a call does to them; the code's Do, the document's Do.
-/
import Derived.Test.YtnjdoifgljdjcaaDoorMRefD
import Derived.Test.YtnjdoifgljdjcaaDoorModG
namespace Go.Proofs.YtnjdoifgljdjcaaDoor
open Go.RowKit
set_option linter.unusedVariables false

/-- What a list of pages says of an id. -/
def pgL (l : List Pg) : Nat → Option (Nat × Nat) := fun id => (l.find? (fun p => p.id == id)).map (fun p => (p.v, p.pins))
theorem pgL_ext {l : List Pg} {f : Nat → Option (Nat × Nat)} (h1 : ∀ q ∈ l, f q.id = some (q.v, q.pins)) (h2 : ∀ id, (∀ q ∈ l, ¬ q.id = id) → f id = none) : f = pgL l := by
  funext id
  unfold pgL
  cases e : l.find? (fun p => p.id == id) with
  | none =>
    rw [List.find?_eq_none] at e
    exact h2 id (fun q hq => by simpa using e q hq)
  | some q =>
    have hm := List.mem_of_find?_eq_some e
    have hi := List.find?_some e
    simp at hi
    rw [← hi]; exact h1 q hm
/-- The ids rise. -/
def Rise (l : List Pg) : Prop := l.Pairwise (fun p q => p.id < q.id)
theorem Rise.at {l : List Pg} (h : Rise l) {i j : Nat} (hj : j < l.length) (hij : i < j) : (l[i]'(by omega)).id < l[j].id := List.pairwise_iff_getElem.1 h i j (by omega) hj hij
theorem Rise.inj {l : List Pg} (h : Rise l) {i j : Nat} (hi : i < l.length) (hj : j < l.length) (e : l[i].id = l[j].id) : i = j := by
  rcases Nat.lt_trichotomy i j with q | q | q
  · have := h.at hj q; omega
  · exact q
  · have := h.at hi q; omega
theorem pgL_mem {l : List Pg} (h : Rise l) {q : Pg} (hq : q ∈ l) : pgL l q.id = some (q.v, q.pins) := by
  unfold pgL
  cases e : l.find? (fun p => p.id == q.id) with
  | none =>
    rw [List.find?_eq_none] at e
    have := e q hq
    simp at this
  | some p =>
    have hm := List.mem_of_find?_eq_some e
    have hi := List.find?_some e
    simp at hi
    obtain ⟨i, hi1, rfl⟩ := List.mem_iff_getElem.1 hm
    obtain ⟨j, hj1, rfl⟩ := List.mem_iff_getElem.1 hq
    have := h.inj hi1 hj1 hi
    subst this
    rfl
theorem pgL_at {l : List Pg} (h : Rise l) {j : Nat} (hj : j < l.length) : pgL l l[j].id = some (l[j].v, l[j].pins) := pgL_mem h (List.getElem_mem hj)
theorem pgL_none {l : List Pg} {id : Nat} (h : ∀ q ∈ l, ¬ q.id = id) : pgL l id = none := by
  unfold pgL
  rw [List.find?_eq_none.2 (fun q hq => by simpa using h q hq)]; rfl
theorem pgL_atG_none {l : List Pg} {id : Nat} (h : atG l id = none) : pgL l id = none := by
  unfold atG at h
  rw [List.findIdx?_eq_none_iff] at h
  exact pgL_none (fun q hq => by simpa using h q hq)
theorem pgL_some {l : List Pg} {id : Nat} {p : Nat × Nat} (h : pgL l id = some p) : ∃ q ∈ l, q.id = id ∧ p = (q.v, q.pins) := by
  unfold pgL at h
  cases e : l.find? (fun p => p.id == id) with
  | none => rw [e] at h; cases h
  | some q =>
    rw [e] at h
    have hi := List.find?_some e
    simp at hi h
    exact ⟨q, List.mem_of_find?_eq_some e, hi, h.symm⟩
/-! ### a page is written, goes, comes -/
theorem mem_set_id {l : List Pg} (h : Rise l) {j : Nat} (hj : j < l.length) {p q : Pg} (hq : q ∈ l.set j p) : q = p ∨ (q ∈ l ∧ ¬ q.id = l[j].id) := by
  obtain ⟨i, hi, rfl⟩ := List.mem_iff_getElem.1 hq
  rw [List.length_set] at hi
  by_cases e : j = i
  · subst e; left; simp
  · right
    rw [List.getElem_set_ne e]
    exact ⟨List.getElem_mem hi, fun q => e (h.inj hj hi q.symm)⟩
theorem pgL_set {l : List Pg} (h : Rise l) {j : Nat} (hj : j < l.length) (p : Pg) (hid : p.id = l[j].id) : updP (pgL l) l[j].id (some (p.v, p.pins)) = pgL (l.set j p) := by
  refine pgL_ext (fun q hq => ?_) (fun id hid' => ?_)
  · rcases mem_set_id h hj hq with rfl | ⟨hm, hne⟩
    · rw [hid, updP_same]
    · rw [updP_other _ _ hne]; exact pgL_mem h hm
  · have hne : ¬ id = l[j].id := fun e => hid' p (List.mem_iff_getElem.2 ⟨j, by rw [List.length_set]; exact hj, by simp⟩) (by rw [hid, e])
    rw [updP_other _ _ hne]
    refine pgL_none (fun q hq e => ?_)
    obtain ⟨i, hi, rfl⟩ := List.mem_iff_getElem.1 hq
    have hji : ¬ j = i := fun q => hne (by subst q; exact e.symm)
    exact hid' _ (List.mem_iff_getElem.2 ⟨i, by rw [List.length_set]; exact hi, rfl⟩) (by rw [List.getElem_set_ne hji]; exact e)
theorem Rise.set {l : List Pg} (h : Rise l) {j : Nat} (hj : j < l.length) (p : Pg) (hid : p.id = l[j].id) : Rise (l.set j p) := by
  refine List.pairwise_iff_getElem.2 (fun a c ha hc hac => ?_)
  rw [List.length_set] at ha hc
  have := h.at hc hac
  by_cases e1 : j = a
  · subst e1
    rw [List.getElem_set_self, List.getElem_set_ne (by omega), hid]; exact this
  · rw [List.getElem_set_ne e1]
    by_cases e2 : j = c
    · subst e2; rw [List.getElem_set_self, hid]; exact this
    · rw [List.getElem_set_ne e2]; exact this
theorem split_at {l : List Pg} {j : Nat} (hj : j < l.length) : l = l.take j ++ l[j] :: l.drop (j + 1) := by
  rw [← List.drop_eq_getElem_cons hj, List.take_append_drop]
theorem pinL_split {l : List Pg} {j : Nat} (hj : j < l.length) : pinL l = pinL (l.take j) + (if 0 < l[j].pins then 1 else 0) + pinL (l.drop (j + 1)) := by
  conv => lhs; rw [split_at hj]
  unfold pinL
  rw [List.countP_append, List.countP_cons]
  by_cases q : 0 < l[j].pins <;> simp [q] <;> omega
theorem pinL_set {l : List Pg} {j : Nat} (hj : j < l.length) (p : Pg) : pinL (l.set j p) + (if 0 < l[j].pins then 1 else 0) = pinL l + (if 0 < p.pins then 1 else 0) := by
  have h1 := pinL_split hj
  have h2 := pinL_split (l := l.set j p) (j := j) (by rw [List.length_set]; exact hj)
  rw [List.getElem_set_self, List.take_set_of_le (by omega), List.drop_set_of_lt (by omega)] at h2
  omega
theorem pinL_cut {l : List Pg} {j : Nat} (hj : j < l.length) : pinL (l.take j ++ l.drop (j + 1)) + (if 0 < l[j].pins then 1 else 0) = pinL l := by
  have h1 := pinL_split hj
  have : pinL (l.take j ++ l.drop (j + 1)) = pinL (l.take j) + pinL (l.drop (j + 1)) := by unfold pinL; rw [List.countP_append]
  omega
theorem cut_len {l : List Pg} {j : Nat} (hj : j < l.length) : (l.take j ++ l.drop (j + 1)).length = l.length - 1 := by
  rw [List.length_append, List.length_take, List.length_drop]; omega
theorem mem_cut {l : List Pg} (h : Rise l) {j : Nat} (hj : j < l.length) {q : Pg} : q ∈ l.take j ++ l.drop (j + 1) ↔ q ∈ l ∧ ¬ q.id = l[j].id := by
  have hs := split_at hj
  constructor
  · intro hq
    have hm : q ∈ l := by
      rcases List.mem_append.1 hq with q1 | q1
      · exact List.mem_of_mem_take q1
      · exact List.mem_of_mem_drop q1
    refine ⟨hm, fun e => ?_⟩
    have hP : Rise (l.take j ++ l[j] :: l.drop (j + 1)) := by rw [← hs]; exact h
    obtain ⟨p1, p2, p3⟩ := List.pairwise_append.1 hP
    rcases List.mem_append.1 hq with q1 | q1
    · have := p3 q q1 l[j] (.head _); omega
    · have := (List.pairwise_cons.1 p2).1 q q1; omega
  · rintro ⟨hm, hne⟩
    rw [hs] at hm
    rcases List.mem_append.1 hm with q1 | q1
    · exact List.mem_append.2 (.inl q1)
    · rcases List.mem_cons.1 q1 with rfl | q1
      · exact absurd rfl hne
      · exact List.mem_append.2 (.inr q1)
theorem Rise.cut {l : List Pg} (h : Rise l) (j : Nat) : Rise (l.take j ++ l.drop (j + 1)) := by
  refine List.Pairwise.sublist ?_ h
  conv => rhs; rw [← List.take_append_drop j l]
  refine List.Sublist.append (List.Sublist.refl _) ?_
  rw [← List.drop_drop]
  exact List.drop_sublist _ _
theorem pgL_cut {l : List Pg} (h : Rise l) {j : Nat} (hj : j < l.length) : updP (pgL l) l[j].id none = pgL (l.take j ++ l.drop (j + 1)) := by
  refine pgL_ext (fun q hq => ?_) (fun id hid => ?_)
  · obtain ⟨hm, hne⟩ := (mem_cut h hj).1 hq
    rw [updP_other _ _ hne]; exact pgL_mem h hm
  · by_cases e : id = l[j].id
    · subst e; rw [updP_same]
    · rw [updP_other _ _ e]
      exact pgL_none (fun q hq e2 => hid q ((mem_cut h hj).2 ⟨hq, fun e3 => e (by rw [← e2, e3])⟩) e2)
/-! ### the gap -/
theorem gap_ex (l : List Pg) : ∃ k, GapG l k := by
  have H : ∀ m, m ≤ l.length → (∀ j (hj : j < l.length), j < m → l[j].id = j + 1) ∨ ∃ k, GapG l k := by
    intro m
    induction m with
    | zero => intro _; exact .inl (fun j _ h => by omega)
    | succ m ih =>
      intro hm
      rcases ih (by omega) with h | h
      · by_cases e : l[m].id = m + 1
        · left
          intro j hj hjm
          by_cases q : j = m
          · subst q; exact e
          · exact h j hj (by omega)
        · exact .inr ⟨m, by omega, h, fun _ => e⟩
      · exact .inr h
  rcases H l.length (Nat.le_refl _) with h | h
  · exact ⟨l.length, Nat.le_refl _, h, fun q => by omega⟩
  · exact h
theorem GapG.unique {l : List Pg} {k k' : Nat} (h : GapG l k) (h' : GapG l k') : k = k' := by
  rcases Nat.lt_trichotomy k k' with q | q | q
  · have hk : k < l.length := Nat.lt_of_lt_of_le q h'.le
    exact absurd (h'.all k hk q) (h.not hk)
  · exact q
  · have hk : k' < l.length := Nat.lt_of_lt_of_le q h.le
    exact absurd (h.all k' hk q) (h'.not hk)
noncomputable def gapG (l : List Pg) : Nat := Classical.choose (gap_ex l)
theorem gapG_is (l : List Pg) : GapG l (gapG l) := Classical.choose_spec (gap_ex l)
theorem rise_ge {l : List Pg} (h : Rise l) (h1 : ∀ p ∈ l, 1 ≤ p.id) : ∀ j (hj : j < l.length), j + 1 ≤ l[j].id
  | 0, hj => h1 _ (List.getElem_mem hj)
  | j + 1, hj => by have := rise_ge h h1 j (by omega); have := h.at hj (Nat.lt_succ_self j); omega
theorem gap_above {l : List Pg} (h : Rise l) (h1 : ∀ p ∈ l, 1 ≤ p.id) {k : Nat} (hg : GapG l k) : ∀ j (hj : j < l.length), k ≤ j → k + 1 < l[j].id := by
  intro j hj hkj
  have hk : k < l.length := by omega
  have a := rise_ge h h1 k hk
  have b := hg.not hk
  by_cases e : k = j
  · subst e; omega
  · have := h.at hj (show k < j by omega); omega
theorem gap_not {l : List Pg} (h : Rise l) (h1 : ∀ p ∈ l, 1 ≤ p.id) {k : Nat} (hg : GapG l k) : ∀ q ∈ l, ¬ q.id = k + 1 := by
  intro q hq e
  obtain ⟨j, hj, rfl⟩ := List.mem_iff_getElem.1 hq
  by_cases q : j < k
  · have := hg.all j hj q; omega
  · have := gap_above h h1 hg j hj (by omega); omega
theorem gap_least {l : List Pg} (h : Rise l) (h1 : ∀ p ∈ l, 1 ≤ p.id) {k room : Nat} (hg : GapG l k) (hk : k < room) : IsLeast (freeB room (pgL l)) k := by
  refine ⟨?_, fun y hy => ?_⟩
  · unfold freeB; rw [pgL_none (gap_not h h1 hg)]; simp [hk]
  · have hle := hg.le
    have hyl : y < l.length := by omega
    have e := hg.all y hyl hy
    have := pgL_at h hyl
    rw [e] at this
    unfold freeB; rw [this]; simp
theorem mem_ins {l : List Pg} {k : Nat} {q : Pg} : q ∈ insG l k ↔ q = ⟨k + 1, 0, 1⟩ ∨ q ∈ l := by
  unfold insG
  constructor
  · intro h
    rcases List.mem_append.1 h with h | h
    · rcases List.mem_append.1 h with h | h
      · exact .inr (List.mem_of_mem_take h)
      · exact .inl (by simpa using h)
    · exact .inr (List.mem_of_mem_drop h)
  · rintro (rfl | h)
    · simp
    · rw [← List.take_append_drop k l] at h
      rcases List.mem_append.1 h with h | h
      · exact List.mem_append.2 (.inl (List.mem_append.2 (.inl h)))
      · exact List.mem_append.2 (.inr h)
theorem pgL_ins {l : List Pg} (h : Rise l) (h1 : ∀ p ∈ l, 1 ≤ p.id) {k : Nat} (hg : GapG l k) : updP (pgL l) (k + 1) (some (0, 1)) = pgL (insG l k) := by
  have hn := gap_not h h1 hg
  refine pgL_ext (fun q hq => ?_) (fun id hid => ?_)
  · rcases mem_ins.1 hq with rfl | hm
    · rw [updP_same]
    · rw [updP_other _ _ (hn q hm)]; exact pgL_mem h hm
  · have hne : ¬ id = k + 1 := fun e => hid _ (mem_ins.2 (.inl rfl)) e.symm
    rw [updP_other _ _ hne]
    exact pgL_none (fun q hq => hid q (mem_ins.2 (.inr hq)))
theorem pinL_ins (l : List Pg) (k : Nat) : pinL (insG l k) = pinL l + 1 := by
  have e : pinL l = pinL (l.take k) + pinL (l.drop k) := by
    conv => lhs; rw [← List.take_append_drop k l]
    unfold pinL; rw [List.countP_append]
  unfold insG pinL at *
  rw [List.countP_append, List.countP_append]
  simp
  omega
theorem Rise.ins {l : List Pg} (h : Rise l) (h1 : ∀ p ∈ l, 1 ≤ p.id) {k : Nat} (hg : GapG l k) : Rise (insG l k) := by
  have hle := hg.le
  have ht : ∀ p ∈ l.take k, p.id < k + 1 := by
    intro p hp
    obtain ⟨j, hj, rfl⟩ := List.mem_iff_getElem.1 hp
    rw [List.length_take] at hj
    rw [List.getElem_take]
    have := hg.all j (by omega) (by omega); omega
  have hd : ∀ p ∈ l.drop k, k + 1 < p.id := by
    intro p hp
    obtain ⟨j, hj, rfl⟩ := List.mem_iff_getElem.1 hp
    rw [List.length_drop] at hj
    rw [List.getElem_drop]
    exact gap_above h h1 hg (k + j) (by omega) (by omega)
  have hP : Rise (l.take k ++ l.drop k) := by rw [List.take_append_drop]; exact h
  obtain ⟨p1, p2, p3⟩ := List.pairwise_append.1 hP
  unfold insG Rise
  refine List.pairwise_append.2 ⟨List.pairwise_append.2 ⟨p1, List.pairwise_singleton _ _, fun a ha c hc => ?_⟩, p2, fun a ha c hc => ?_⟩
  · simp at hc; subst hc; exact ht a ha
  · rcases List.mem_append.1 ha with ha | ha
    · exact p3 a ha c hc
    · simp at ha; subst ha; exact hd c hc
end Go.Proofs.YtnjdoifgljdjcaaDoor

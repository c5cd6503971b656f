/-
  Pro: what stays true of the ring of entries; that the hands' work ends. Plain facts, with no program in sight.
-/
import Derived.Test.YtoainbdkhhblbaaK04
namespace Go.Proofs.Ytoainbdkhhblbaa
open Go.RowKit
set_option linter.unusedVariables false
set_option linter.unusedSimpArgs false

structure PK (n m : Nat) (s : PrS) : Prop where
  hl : ∀ j, j < 3 → s.hd j < s.L.length ∨ s.L = [] ∧ s.hd j = 0
  uq : ∀ (i j : Nat) (x y : En), s.L[i]? = some x → s.L[j]? = some y → (x.pg = y.pg ∨ x.fr = y.fr ∧ 0 ≤ x.fr) → i = j
  el : ∀ x ∈ s.L, (-1 ≤ x.fr ∧ x.fr < n) ∧ (1 ≤ x.pg ∧ x.pg < 4294967296) ∧ (x.fr < 0 → x.test = true ∧ x.ref = false) ∧ (x.hot = true → x.test = false)
  ng : s.gone ≤ m
  gl : 1 ≤ s.goal ∧ s.goal ≤ max (n - 1) 1
  n1 : 1 ≤ n
/-- Which page is in which frame. -/
def PrS.K (s : PrS) (a : Int) (b : Nat) : Prop := ∃ x ∈ s.L, x.fr = a ∧ x.pg = b
structure PM (n : Nat) (s : PrS) : Prop where
  pf : ∀ (a b : Nat), s.K a b → s.pg a = b
  p0 : ∀ f, f < n → (∀ b, ¬ s.K f b) → s.pg f = 0 ∧ s.on f = false

section
variable {n m : Nat} {s s' : PrS} {i j : Nat} {x y : En}
theorem mem_get {l : List En} (h : l[i]? = some x) : x ∈ l := List.mem_of_getElem? h
theorem get_lt {l : List En} (h : l[i]? = some x) : i < l.length := (List.getElem?_eq_some_iff.1 h).1
theorem PK.lt (h : PK n m s) (hL : 0 < s.L.length) {j : Nat} (hj : j < 3) : s.hd j < s.L.length := by
  rcases h.hl j hj with q | ⟨q, _⟩
  · exact q
  · rw [q] at hL; simp at hL
theorem PK.at (h : PK n m s) (hL : 0 < s.L.length) {j : Nat} (hj : j < 3) : ∃ x, s.L[s.hd j]? = some x := ⟨_, List.getElem?_eq_getElem (h.lt hL hj)⟩
theorem hot_pos (h : ¬ s.hotN = 0) : 0 < s.L.length := by
  unfold PrS.hotN at h
  have := List.countP_le_length (p := fun e : En => e.hot) (l := s.L); omega
theorem gone_pos (h : ¬ s.gone = 0) : 0 < s.L.length := by
  unfold PrS.gone at h
  have := List.countP_le_length (p := fun e : En => decide (e.fr < 0)) (l := s.L); omega
theorem PM.of (h : PM n s) (hp : s'.pg = s.pg) (ho : s'.on = s.on) (hk : ∀ (a b : Nat), s'.K a b ↔ s.K a b) : PM n s' :=
  ⟨fun a b k => by rw [hp]; exact h.pf a b ((hk a b).1 k), fun f hf k => by rw [hp, ho]; exact h.p0 f hf (fun b q => k b ((hk f b).2 q))⟩

/-! ### A hand moves -/
theorem PK.mv (h : PK n m s) (hL : 0 < s.L.length) (j : Nat) : PK n m (s.mv j) := by
  refine ⟨fun k hk => .inl ?_, h.uq, h.el, h.ng, h.gl, h.n1⟩
  show upd s.hd j _ k < s.L.length
  by_cases e : k = j
  · subst e; rw [upd_same]; exact Nat.mod_lt _ hL
  · rw [upd_other _ _ e]; exact h.lt hL hk
/-! ### Flags -/
theorem put_K (hx : s.L[i]? = some x) (e1 : y.pg = x.pg) (e2 : y.fr = x.fr) (a : Int) (b : Nat) : (s.put i y).K a b ↔ s.K a b := by
  have hi := get_lt hx
  constructor
  · rintro ⟨z, hz, q1, q2⟩
    rcases set_mem hz with rfl | hz
    · exact ⟨x, mem_get hx, by rw [← e2]; exact q1, by rw [← e1]; exact q2⟩
    · exact ⟨z, hz, q1, q2⟩
  · rintro ⟨z, hz, q1, q2⟩
    obtain ⟨k, hk⟩ := List.getElem?_of_mem hz
    by_cases e : i = k
    · subst e
      rw [hx] at hk; cases hk
      exact ⟨y, List.mem_of_getElem? (i := i) (by show (s.L.set i y)[i]? = _; rw [List.getElem?_set, if_pos rfl, if_pos hi]), by rw [e2]; exact q1, by rw [e1]; exact q2⟩
    · exact ⟨z, List.mem_of_getElem? (i := k) (by show (s.L.set i y)[k]? = _; rw [List.getElem?_set, if_neg e]; exact hk), q1, q2⟩
theorem set_uq {l : List En} (h : ∀ (i j : Nat) (x y : En), l[i]? = some x → l[j]? = some y → (x.pg = y.pg ∨ x.fr = y.fr ∧ 0 ≤ x.fr) → i = j) (hx : l[i]? = some x) (e1 : y.pg = x.pg) (e2 : y.fr = x.fr ∨ y.fr < 0) :
    ∀ (a b : Nat) (u v : En), (l.set i y)[a]? = some u → (l.set i y)[b]? = some v → (u.pg = v.pg ∨ u.fr = v.fr ∧ 0 ≤ u.fr) → a = b := by
  intro a b u v hu hv q
  have hi := get_lt hx
  rw [List.getElem?_set] at hu hv
  by_cases ea : i = a
  · by_cases eb : i = b
    · omega
    · subst ea
      rw [if_pos rfl, if_pos hi] at hu
      rw [if_neg eb] at hv
      cases hu
      refine h i b x v hx hv ?_
      rcases q with q | ⟨q, q'⟩
      · exact .inl (by rw [← e1]; exact q)
      · rcases e2 with e2 | e2
        · exact .inr (by rw [← e2]; exact ⟨q, q'⟩)
        · omega
  · by_cases eb : i = b
    · subst eb
      rw [if_neg ea] at hu
      rw [if_pos rfl, if_pos hi] at hv
      cases hv
      refine h a i u x hu hx ?_
      rcases q with q | ⟨q, q'⟩
      · exact .inl (by rw [← e1]; exact q)
      · rcases e2 with e2 | e2
        · exact .inr (by rw [← e2]; exact ⟨q, q'⟩)
        · omega
    · rw [if_neg ea] at hu
      rw [if_neg eb] at hv
      exact h a b u v hu hv q
theorem put_gone (hx : s.L[i]? = some x) (e2 : y.fr = x.fr) : (s.put i y).gone = s.gone := by
  have := countP_set (p := fun e : En => decide (e.fr < 0)) (y := y) hx
  simp only [e2] at this
  exact Nat.add_right_cancel this
theorem put_hot (hx : s.L[i]? = some x) : (s.put i y).hotN + (if x.hot = true then 1 else 0) = s.hotN + (if y.hot = true then 1 else 0) := countP_set (p := fun e : En => e.hot) hx
theorem PK.put (h : PK n m s) (hx : s.L[i]? = some x) (e1 : y.pg = x.pg) (e2 : y.fr = x.fr) (e3 : y.fr < 0 → y.test = true ∧ y.ref = false) (e4 : y.hot = true → y.test = false) : PK n m (s.put i y) := by
  refine ⟨fun j hj => .inl ?_, set_uq h.uq hx e1 (.inl e2), fun z hz => ?_, by rw [put_gone hx e2]; exact h.ng, h.gl, h.n1⟩
  · show s.hd j < (s.L.set i y).length
    rw [List.length_set]; exact h.lt (by have := get_lt hx; omega) hj
  · rcases set_mem hz with rfl | hz
    · obtain ⟨q1, q2, _, _⟩ := h.el x (mem_get hx)
      exact ⟨by rw [e2]; exact q1, by rw [e1]; exact q2, e3, e4⟩
    · exact h.el z hz
theorem PM.put (h : PM n s) (hx : s.L[i]? = some x) (e1 : y.pg = x.pg) (e2 : y.fr = x.fr) : PM n (s.put i y) := h.of rfl rfl (fun a b => put_K hx e1 e2 a b)
theorem PK.less (h : PK n m s) : PK n m s.less := ⟨h.hl, h.uq, h.el, h.ng, by have := h.gl; show 1 ≤ max (s.goal - 1) 1 ∧ max (s.goal - 1) 1 ≤ _; omega, h.n1⟩
/-! ### An entry goes -/
theorem drop_len (hi : i < s.L.length) : (s.drop i).L.length = s.L.length - 1 := List.length_eraseIdx_of_lt hi
theorem PK.drop (h : PK n m s) (hx : s.L[i]? = some x) : PK n m (s.drop i) := by
  have hi := get_lt hx
  refine ⟨fun j hj => ?_, fun a b u v hu hv q => ?_, fun z hz => h.el z (List.mem_of_mem_eraseIdx hz), ?_, h.gl, h.n1⟩
  · have hd := h.lt (by omega) hj
    have hl := drop_len hi
    by_cases e : s.L.length = 1
    · right
      constructor
      · exact List.eq_nil_of_length_eq_zero (by omega)
      · show dropH i (s.L.length - 1) (s.hd j) = 0
        unfold dropH; rw [if_pos (by omega)]
    · left
      rw [hl]
      show dropH i (s.L.length - 1) (s.hd j) < _
      unfold dropH
      (repeat' split) <;> omega
  · have hu : (s.L.eraseIdx i)[a]? = some u := hu
    have hv : (s.L.eraseIdx i)[b]? = some v := hv
    rw [eraseIdx_get] at hu hv
    by_cases ha : a < i <;> by_cases hb : b < i
    · rw [if_pos ha] at hu; rw [if_pos hb] at hv; exact h.uq a b u v hu hv q
    · rw [if_pos ha] at hu; rw [if_neg hb] at hv; have := h.uq a (b + 1) u v hu hv q; omega
    · rw [if_neg ha] at hu; rw [if_pos hb] at hv; have := h.uq (a + 1) b u v hu hv q; omega
    · rw [if_neg ha] at hu; rw [if_neg hb] at hv; have := h.uq (a + 1) (b + 1) u v hu hv q; omega
  · have := countP_erase (p := fun e : En => decide (e.fr < 0)) hx
    have h2 := h.ng
    unfold PrS.gone at h2 ⊢
    show (s.L.eraseIdx i).countP _ ≤ m
    omega
theorem drop_gone (hx : s.L[i]? = some x) : (s.drop i).gone + (if x.fr < 0 then 1 else 0) = s.gone := by
  have := countP_erase (p := fun e : En => decide (e.fr < 0)) hx
  simp only [decide_eq_true_eq] at this
  exact this
theorem drop_hot (hx : s.L[i]? = some x) : (s.drop i).hotN + (if x.hot = true then 1 else 0) = s.hotN := countP_erase (p := fun e : En => e.hot) hx
theorem drop_K (h : PK n m s) (hx : s.L[i]? = some x) (a b : Nat) : (s.drop i).K a b ↔ s.K a b ∧ ¬ x.fr = a := by
  constructor
  · rintro ⟨z, hz, q1, q2⟩
    refine ⟨⟨z, List.mem_of_mem_eraseIdx hz, q1, q2⟩, fun e => ?_⟩
    obtain ⟨k, hk⟩ := List.getElem?_of_mem hz
    have hk : (s.L.eraseIdx i)[k]? = some z := hk
    rw [eraseIdx_get] at hk
    split at hk
    · have := h.uq i k x z hx hk (.inr ⟨by rw [e, q1], by omega⟩); omega
    · have := h.uq i (k + 1) x z hx hk (.inr ⟨by rw [e, q1], by omega⟩); omega
  · rintro ⟨⟨z, hz, q1, q2⟩, hne⟩
    obtain ⟨k, hk⟩ := List.getElem?_of_mem hz
    have hki : ¬ k = i := by rintro rfl; rw [hx] at hk; cases hk; exact hne q1
    by_cases hlt : k < i
    · exact ⟨z, List.mem_of_getElem? (i := k) (by show (s.L.eraseIdx i)[k]? = _; rw [eraseIdx_get, if_pos hlt]; exact hk), q1, q2⟩
    · exact ⟨z, List.mem_of_getElem? (i := k - 1) (by show (s.L.eraseIdx i)[k - 1]? = _; rw [eraseIdx_get, if_neg (by omega), show k - 1 + 1 = k from by omega]; exact hk), q1, q2⟩
theorem PM.drop (hm : PM n s) (h : PK n m s) (hx : s.L[i]? = some x) (hg : x.fr < 0) : PM n (s.drop i) :=
  hm.of rfl rfl (fun a b => by rw [drop_K h hx]; exact ⟨fun q => q.1, fun q => ⟨q, by omega⟩⟩)
/-- .. out of its frame. -/
theorem PM.out (hm : PM n s) (h : PK n m s) (hx : s.L[i]? = some x) (hg : 0 ≤ x.fr) : PM n ((s.empty x.fr.toNat).drop i) := by
  have hk : ∀ (a b : Nat), ((s.empty x.fr.toNat).drop i).K a b ↔ s.K a b ∧ ¬ x.fr = a := fun a b => drop_K h hx a b
  have ex : ((x.fr.toNat : Nat) : Int) = x.fr := by omega
  refine ⟨fun a b k => ?_, fun f hf k => ?_⟩
  · obtain ⟨k1, k2⟩ := (hk a b).1 k
    show upd s.pg x.fr.toNat 0 a = b
    rw [upd_other _ _ (by omega)]
    exact hm.pf a b k1
  · show upd s.pg x.fr.toNat 0 f = 0 ∧ upd s.on x.fr.toNat false f = false
    by_cases e : f = x.fr.toNat
    · subst e; exact ⟨upd_same .., upd_same ..⟩
    · rw [upd_other _ _ e, upd_other _ _ e]
      exact hm.p0 f hf (fun b q => k b ((hk f b).2 ⟨q, by omega⟩))
theorem PK.empty (h : PK n m s) (f : Nat) : PK n m (s.empty f) := ⟨h.hl, h.uq, h.el, h.ng, h.gl, h.n1⟩
/-! ### An entry comes -/
theorem lay_K (a : Int) (b : Nat) : (s.lay x).K a b ↔ (x.fr = a ∧ x.pg = b) ∨ s.K a b := by
  have hm : ∀ y, y ∈ (s.lay x).L ↔ y = x ∨ y ∈ s.L := by
    intro y
    unfold PrS.lay
    split
    · rename_i e; rw [e]; simp
    · exact ins_mem
  unfold PrS.K
  constructor
  · rintro ⟨z, hz, q1, q2⟩
    rcases (hm z).1 hz with rfl | hz
    · exact .inl ⟨q1, q2⟩
    · exact .inr ⟨z, hz, q1, q2⟩
  · rintro (⟨q1, q2⟩ | ⟨z, hz, q1, q2⟩)
    · exact ⟨x, (hm x).2 (.inl rfl), q1, q2⟩
    · exact ⟨z, (hm z).2 (.inr hz), q1, q2⟩
theorem lay_gone : (s.lay x).gone = s.gone + (if x.fr < 0 then 1 else 0) := by
  unfold PrS.lay PrS.gone
  split
  · rename_i e; rw [e]; simp [List.countP_cons]
  · have := countP_ins (p := fun e : En => decide (e.fr < 0)) s.L (s.hd 0) x
    simp only [decide_eq_true_eq] at this
    exact this
theorem lay_hot : (s.lay x).hotN = s.hotN + (if x.hot = true then 1 else 0) := by
  unfold PrS.lay PrS.hotN
  split
  · rename_i e; rw [e]; simp [List.countP_cons]
  · exact countP_ins (p := fun e : En => e.hot) s.L (s.hd 0) x
theorem lay_len : (s.lay x).L.length = s.L.length + 1 := by
  unfold PrS.lay
  split
  · rename_i e; rw [e]; rfl
  · exact ins_len ..
theorem PK.lay (h : PK n m s) (hx : (-1 ≤ x.fr ∧ x.fr < n) ∧ (1 ≤ x.pg ∧ x.pg < 4294967296) ∧ (x.fr < 0 → x.test = true ∧ x.ref = false) ∧ (x.hot = true → x.test = false)) (hf : 0 ≤ x.fr) (hn : ∀ y ∈ s.L, ¬ y.pg = x.pg ∧ ¬ y.fr = x.fr) : PK n m (s.lay x) := by
  refine ⟨fun j hj => .inl ?_, ?_, ?_, by rw [lay_gone, if_neg (by omega)]; exact h.ng, ?_, h.n1⟩
  · rw [lay_len]
    unfold PrS.lay
    split
    · show (0 : Nat) < _; omega
    · rename_i e
      have := h.lt (by cases hL : s.L with | nil => exact (e hL).elim | cons a l => simp) hj
      show (if s.hd 0 ≤ s.hd j then s.hd j + 1 else s.hd j) < _
      split <;> omega
  · by_cases e : s.L = []
    · have eL : (s.lay x).L = [x] := by unfold PrS.lay; rw [if_pos e]
      intro a b u v hu hv _
      rw [eL] at hu hv
      have := get_lt hu; have := get_lt hv; simp at *; omega
    · have eL : (s.lay x).L = insE s.L (s.hd 0) x := by unfold PrS.lay; rw [if_neg e]
      have h0 := h.lt (by cases hL : s.L with | nil => exact (e hL).elim | cons a l => simp) (j := 0) (by omega)
      generalize s.hd 0 = p at *
      have key : ∀ (a : Nat) (u : En), (insE s.L p x)[a]? = some u → (a = p ∧ u = x) ∨ (∃ a', s.L[a']? = some u ∧ ¬ a = p ∧ a = if a' < p then a' else a' + 1) := by
        intro a u hu
        rw [ins_get _ (by omega)] at hu
        by_cases ha : a < p
        · rw [if_pos ha] at hu; exact .inr ⟨a, hu, by omega, by rw [if_pos ha]⟩
        · rw [if_neg ha] at hu
          by_cases hb : a = p
          · rw [if_pos hb] at hu; cases hu; exact .inl ⟨hb, rfl⟩
          · rw [if_neg hb] at hu; exact .inr ⟨a - 1, hu, hb, by rw [if_neg (by omega)]; omega⟩
      intro a b u v hu hv q
      rw [eL] at hu hv
      rcases key a u hu with ⟨ea, eu⟩ | ⟨a', ha, na, ea⟩
      · rcases key b v hv with ⟨eb, ev⟩ | ⟨b', hb, nb, eb⟩
        · omega
        · subst eu
          have := hn v (mem_get hb)
          rcases q with q | ⟨q, _⟩
          · exact (this.1 q.symm).elim
          · exact (this.2 q.symm).elim
      · rcases key b v hv with ⟨eb, ev⟩ | ⟨b', hb, nb, eb⟩
        · subst ev
          have := hn u (mem_get ha)
          rcases q with q | ⟨q, _⟩
          · exact (this.1 q).elim
          · exact (this.2 q).elim
        · have := h.uq a' b' u v ha hb q
          subst this; omega
  · intro z hz
    have : z = x ∨ z ∈ s.L := by
      unfold PrS.lay at hz
      split at hz
      · exact .inl (by simpa using hz)
      · exact ins_mem.1 hz
    rcases this with rfl | hz
    · exact hx
    · exact h.el z hz
  · show 1 ≤ (s.lay x).goal ∧ (s.lay x).goal ≤ _
    have : (s.lay x).goal = s.goal := by unfold PrS.lay; split <;> rfl
    rw [this]; exact h.gl
theorem lay_pg : (s.lay x).pg = s.pg ∧ (s.lay x).on = s.on ∧ (s.lay x).goal = s.goal := by unfold PrS.lay; split <;> exact ⟨rfl, rfl, rfl⟩
/-- An entry is laid at the end. -/
theorem PK.again (h : PK n m s) (hx : s.L[i]? = some x) (e1 : y.pg = x.pg) (e2 : y.fr = x.fr) (hf : 0 ≤ x.fr) (e4 : y.hot = true → y.test = false) : PK n m ((s.drop i).lay y) := by
  obtain ⟨q1, q2, _, _⟩ := h.el x (mem_get hx)
  refine (h.drop hx).lay ⟨by rw [e2]; exact q1, by rw [e1]; exact q2, fun q => by omega, e4⟩ (by omega) (fun z hz => ?_)
  obtain ⟨k, hk⟩ := List.getElem?_of_mem hz
  have hk : (s.L.eraseIdx i)[k]? = some z := hk
  rw [eraseIdx_get] at hk
  constructor
  · intro e
    split at hk
    · have := h.uq i k x z hx hk (.inl (by rw [← e1, e])); omega
    · have := h.uq i (k + 1) x z hx hk (.inl (by rw [← e1, e])); omega
  · intro e
    split at hk
    · have := h.uq i k x z hx hk (.inr ⟨by rw [← e2, e], hf⟩); omega
    · have := h.uq i (k + 1) x z hx hk (.inr ⟨by rw [← e2, e], hf⟩); omega
theorem PM.again (hm : PM n s) (h : PK n m s) (hx : s.L[i]? = some x) (e1 : y.pg = x.pg) (e2 : y.fr = x.fr) : PM n ((s.drop i).lay y) := by
  refine hm.of lay_pg.1 lay_pg.2.1 (fun a b => ?_)
  rw [lay_K, drop_K h hx]
  constructor
  · rintro (⟨q1, q2⟩ | ⟨q, _⟩)
    · exact ⟨x, mem_get hx, by rw [← e2]; exact q1, by rw [← e1]; exact q2⟩
    · exact q
  · rintro ⟨z, hz, q1, q2⟩
    by_cases e : x.fr = a
    · left
      obtain ⟨k, hk⟩ := List.getElem?_of_mem hz
      have := h.uq i k x z hx hk (.inr ⟨by rw [e, q1], by omega⟩)
      subst this
      rw [hx] at hk; cases hk
      exact ⟨by rw [e2]; exact q1, by rw [e1]; exact q2⟩
    · exact .inr ⟨⟨z, hz, q1, q2⟩, e⟩
end
end Go.Proofs.Ytoainbdkhhblbaa

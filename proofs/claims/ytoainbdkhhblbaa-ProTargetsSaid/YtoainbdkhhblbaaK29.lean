/-
  Pro: what lies in memory stands for the ring of entries: the ring's part. Plain facts, with no program in sight.
-/
import Derived.Test.YtoainbdkhhblbaaK28
import Derived.Test.YtoainbdkhhblbaaK10
namespace Go.Proofs.Ytoainbdkhhblbaa
open Go.RowKit
set_option linter.unusedVariables false
set_option linter.unusedSimpArgs false

/-! ### Lists -/
theorem split_at {l : List Nat} {i x : Nat} (h : l[i]? = some x) : l = l.take i ++ x :: l.drop (i + 1) := by
  have hi : i < l.length := (List.getElem?_eq_some_iff.1 h).1
  have e : l[i] = x := by rw [List.getElem?_eq_getElem hi] at h; simpa using h
  have := List.take_append_drop i l
  rw [List.drop_eq_getElem_cons hi, e] at this
  exact this.symm
theorem not_before {l : List Nat} {i x : Nat} (hn : l.Nodup) (h : l[i]? = some x) : (¬ x ∈ l.take i) ∧ ¬ x ∈ l.drop (i + 1) := by
  rw [split_at h, List.nodup_append] at hn
  exact ⟨fun q => hn.2.2 x q x (List.mem_cons_self ..) rfl, (List.nodup_cons.1 hn.2.1).1⟩
theorem awayN_erase {l : List Nat} {i x : Nat} (hn : l.Nodup) (h : l[i]? = some x) : awayN l x = l.eraseIdx i := by
  obtain ⟨q1, q2⟩ := not_before hn h
  rw [List.eraseIdx_eq_take_drop_succ]
  have e := split_at h
  have : awayN (l.take i ++ x :: l.drop (i + 1)) x = l.take i ++ l.drop (i + 1) := by
    have a1 := awayN_not q1
    have a2 := awayN_not q2
    unfold awayN at *
    rw [List.filter_append, List.filter_cons, a1, a2]
    simp
  rw [← e] at this; exact this
theorem insL_at {l : List Nat} {i x o : Nat} (hn : l.Nodup) (h : l[i]? = some o) : insL l x o = l.take i ++ x :: l.drop i := by
  have e := split_at h
  have hi : i < l.length := (List.getElem?_eq_some_iff.1 h).1
  have q := (not_before hn h).1
  have h1 : insL (l.take i ++ o :: l.drop (i + 1)) x o = l.take i ++ x :: o :: l.drop (i + 1) := insL_eq q
  rw [← e] at h1
  rw [h1]
  have e2 : l[i] = o := by rw [List.getElem?_eq_getElem hi] at h; simpa using h
  rw [List.drop_eq_getElem_cons hi, e2]
theorem idx_at {l : List Nat} {i x : Nat} (hn : l.Nodup) (h : l[i]? = some x) : l.idxOf x = i := by
  have hi : i < l.length := (List.getElem?_eq_some_iff.1 h).1
  have e := split_at h
  have q := (not_before hn h).1
  have : (l.take i ++ x :: l.drop (i + 1)).idxOf x = (l.take i).length := idxOf_mid q
  rw [← e, List.length_take] at this
  omega
theorem nd_inj {l : List Nat} {i j x : Nat} (hn : l.Nodup) (h : l[i]? = some x) (k : l[j]? = some x) : i = j := by
  rw [← idx_at hn h, ← idx_at hn k]
/-- The next one's place. -/
theorem nxt_at {l : List Nat} {i x : Nat} (hn : l.Nodup) (h : l[i]? = some x) : l[(i + 1) % l.length]? = some (nxt l x) := by
  have hi : i < l.length := (List.getElem?_eq_some_iff.1 h).1
  unfold nxt
  rw [idx_at hn h]
  by_cases e : i + 1 < l.length
  · rw [Nat.mod_eq_of_lt e, List.getElem?_eq_getElem e]
  · have : i + 1 = l.length := by omega
    rw [this, Nat.mod_self, List.getElem?_eq_none (Nat.le_refl _)]
    cases l with
    | nil => simp at hi
    | cons a l => simp
theorem nxt_mem {l : List Nat} {i x : Nat} (hn : l.Nodup) (h : l[i]? = some x) : nxt l x ∈ l := List.mem_of_getElem? (nxt_at hn h)

/-! ### The ring -/
structure RL (ids : List Nat) (h : Nat → Nat) (e : Nat → En) (L : List En) (hd : Nat → Nat) : Prop where
  L : L = ids.map e
  nd : ids.Nodup
  hd : ids = [] ∨ ∀ j, j < 3 → ids[hd j]? = some (h j)
section
variable {ids : List Nat} {h : Nat → Nat} {e : Nat → En} {L : List En} {hd : Nat → Nat} {i x : Nat} {r : Raw} {s : PrS}
theorem RL.len (q : RL ids h e L hd) : L.length = ids.length := by rw [q.L, List.length_map]
theorem RL.get (q : RL ids h e L hd) (hx : ids[i]? = some x) : L[i]? = some (e x) := by rw [q.L, List.getElem?_map, hx]; rfl
theorem RL.id (q : RL ids h e L hd) {y : En} (hy : L[i]? = some y) : ∃ x, ids[i]? = some x ∧ e x = y := by
  rw [q.L, List.getElem?_map] at hy
  cases hx : ids[i]? with
  | none => rw [hx] at hy; cases hy
  | some x => rw [hx] at hy; exact ⟨x, rfl, by simpa using hy⟩
theorem RL.hands (q : RL ids h e L hd) {j : Nat} (hj : j < 3) (hne : ¬ ids = []) : ids[hd j]? = some (h j) := (q.hd.resolve_left hne) j hj
theorem RL.at (q : RL ids h e L hd) {j : Nat} (hj : j < 3) {y : En} (hy : L[hd j]? = some y) : h j ∈ ids ∧ ids[hd j]? = some (h j) ∧ e (h j) = y := by
  obtain ⟨x, hx, ex⟩ := q.id hy
  have hne : ¬ ids = [] := fun c => by rw [c] at hx; cases hx
  have := q.hands hj hne
  rw [this] at hx
  simp only [Option.some.injEq] at hx
  exact ⟨List.mem_of_getElem? this, this, by rw [hx]; exact ex⟩
theorem RL.move (q : RL r.ids r.h r.e s.L s.hd) (j : Nat) : RL (r.move j).ids (r.move j).h (r.move j).e (s.mv j).L (s.mv j).hd := by
  refine ⟨q.L, q.nd, ?_⟩
  rcases q.hd with c | c
  · exact .inl c
  · right
    intro k hk
    show r.ids[upd s.hd j ((s.hd j + 1) % s.L.length) k]? = some (upd r.h j (nxt r.ids (r.h j)) k)
    by_cases ek : k = j
    · subst ek
      rw [upd_same, upd_same, q.len]
      exact nxt_at q.nd (c k hk)
    · rw [upd_other _ _ ek, upd_other _ _ ek]; exact c k hk
theorem RL.put (q : RL ids h e L hd) (hx : ids[i]? = some x) (y : En) : RL ids h (upd e x y) (L.set i y) hd := by
  refine ⟨?_, q.nd, q.hd⟩
  rw [q.L]
  apply List.ext_getElem?
  intro k
  rw [List.getElem?_set, List.getElem?_map, List.getElem?_map, List.length_map]
  by_cases ek : i = k
  · subst ek
    rw [if_pos rfl, if_pos (List.getElem?_eq_some_iff.1 hx).1, hx]
    simp [upd_same]
  · rw [if_neg ek]
    cases hz : ids[k]? with
    | none => rfl
    | some z =>
      have : ¬ z = x := fun c => ek (nd_inj q.nd hx (by rw [hz, c]))
      simp [upd_other _ _ this]
theorem RL.leave (q : RL r.ids r.h r.e s.L s.hd) (hx : r.ids[i]? = some x) : RL (r.leave x).ids (r.leave x).h (r.leave x).e (s.drop i).L (s.drop i).hd := by
  have hi : i < r.ids.length := (List.getElem?_eq_some_iff.1 hx).1
  have ea : awayN r.ids x = r.ids.eraseIdx i := awayN_erase q.nd hx
  refine ⟨?_, ?_, ?_⟩
  · show s.L.eraseIdx i = (awayN r.ids x).map r.e
    rw [ea, q.L, List.eraseIdx_eq_take_drop_succ, List.eraseIdx_eq_take_drop_succ, List.map_append, List.map_take, List.map_drop]
  · show (awayN r.ids x).Nodup
    unfold awayN
    exact q.nd.filter _
  · by_cases h1 : r.ids.length = 1
    · left
      show awayN r.ids x = []
      rw [ea]
      exact List.eq_nil_of_length_eq_zero (by rw [List.length_eraseIdx_of_lt hi]; omega)
    · right
      intro j hj
      have hne : ¬ r.ids = [] := fun c => by rw [c] at hi; simp at hi
      have c := q.hands hj hne
      have hk : s.hd j < r.ids.length := (List.getElem?_eq_some_iff.1 c).1
      show (awayN r.ids x)[dropH i (s.L.length - 1) (s.hd j)]? = some (if r.h j = x then nxt r.ids x else r.h j)
      rw [ea, List.getElem?_eraseIdx, q.len]
      have key : r.h j = x ↔ s.hd j = i := ⟨fun e => nd_inj q.nd (by rw [c, e]) hx, fun e => by rw [e, hx] at c; simpa using c.symm⟩
      by_cases ek : s.hd j = i
      · rw [if_pos (key.2 ek), ek]
        have hn := nxt_at q.nd hx
        by_cases el : r.ids.length - 1 ≤ i
        · have e1 : dropH i (r.ids.length - 1) i = 0 := by unfold dropH; simp only [Nat.lt_irrefl, if_false]; rw [if_pos el]
          have : i + 1 = r.ids.length := by omega
          rw [this, Nat.mod_self] at hn
          rw [e1, if_pos (by omega)]; exact hn
        · have e1 : dropH i (r.ids.length - 1) i = i := by unfold dropH; simp only [Nat.lt_irrefl, if_false]; rw [if_neg el]
          rw [e1, if_neg (by omega)]
          rw [Nat.mod_eq_of_lt (by omega)] at hn
          exact hn
      · rw [if_neg (fun e => ek (key.1 e))]
        by_cases el : i < s.hd j
        · have e1 : dropH i (r.ids.length - 1) (s.hd j) = s.hd j - 1 := by unfold dropH; simp only [el, if_true]; rw [if_neg (by omega)]
          rw [e1, if_neg (by omega), show s.hd j - 1 + 1 = s.hd j from by omega]; exact c
        · have e1 : dropH i (r.ids.length - 1) (s.hd j) = s.hd j := by unfold dropH; simp only [el, if_false]; rw [if_neg (by omega)]
          rw [e1, if_pos (by omega)]; exact c
theorem lay_ids_e (x : Nat) : (r.lay x).e = r.e ∧ (r.lay x).v = r.v ∧ (r.lay x).goal = r.goal ∧ (r.lay x).hot = r.hot ∧ (r.lay x).size = r.size ∧ (r.lay x).fm = r.fm ∧ (r.lay x).mp = r.mp ∧ (r.lay x).mc = r.mc ∧ (r.lay x).sp = awayN r.sp x := by
  unfold Raw.lay; split <;> exact ⟨rfl, rfl, rfl, rfl, rfl, rfl, rfl, rfl, rfl⟩
theorem insL_mem {l : List Nat} {x o y : Nat} : y ∈ insL l x o ↔ y = x ∨ y ∈ l := by
  unfold insL
  have e : l = l.takeWhile (fun y => !decide (y = o)) ++ l.dropWhile (fun y => !decide (y = o)) := List.takeWhile_append_dropWhile.symm
  constructor
  · intro h
    rcases List.mem_append.1 h with h | h
    · right; rw [e]; exact List.mem_append.2 (.inl h)
    · rcases List.mem_cons.1 h with h | h
      · exact .inl h
      · right; rw [e]; exact List.mem_append.2 (.inr h)
  · rintro (h | h)
    · exact List.mem_append.2 (.inr (List.mem_cons.2 (.inl h)))
    · rw [e] at h
      rcases List.mem_append.1 h with h | h
      · exact List.mem_append.2 (.inl h)
      · exact List.mem_append.2 (.inr (List.mem_cons.2 (.inr h)))
theorem lay_mem {y : Nat} : y ∈ (r.lay x).ids ↔ y = x ∨ y ∈ r.ids := by
  unfold Raw.lay
  split
  · rename_i c; rw [c]; simp
  · exact insL_mem
theorem RL.lay (q : RL r.ids r.h r.e s.L s.hd) (hni : ¬ x ∈ r.ids) : RL (r.lay x).ids (r.lay x).h (r.lay x).e (s.lay (r.e x)).L (s.lay (r.e x)).hd := by
  by_cases c : r.ids = []
  · have cL : s.L = [] := by rw [q.L, c]; rfl
    have e1 : r.lay x = { r with ids := [x], sp := awayN r.sp x, h := fun _ => x } := by unfold Raw.lay; rw [if_pos c]
    have e2 : s.lay (r.e x) = { s with L := [r.e x], hd := fun _ => 0 } := by unfold PrS.lay; rw [if_pos cL]
    rw [e1, e2]
    exact ⟨rfl, by simp, .inr (fun j hj => rfl)⟩
  · have cL : ¬ s.L = [] := fun e => c (by rw [q.L] at e; simpa using e)
    have h0 := q.hands (j := 0) (by omega) c
    have hi : s.hd 0 < r.ids.length := (List.getElem?_eq_some_iff.1 h0).1
    have ei : insL r.ids x (r.h 0) = r.ids.take (s.hd 0) ++ x :: r.ids.drop (s.hd 0) := insL_at q.nd h0
    have e1 : r.lay x = { r with ids := insL r.ids x (r.h 0), sp := awayN r.sp x } := by unfold Raw.lay; rw [if_neg c]
    have e2 : s.lay (r.e x) = { s with L := insE s.L (s.hd 0) (r.e x), hd := fun j => if s.hd 0 ≤ s.hd j then s.hd j + 1 else s.hd j } := by unfold PrS.lay; rw [if_neg cL]
    rw [e1, e2]
    refine ⟨?_, ?_, .inr (fun j hj => ?_)⟩
    · show insE s.L (s.hd 0) (r.e x) = (insL r.ids x (r.h 0)).map r.e
      rw [ei, List.map_append, List.map_cons, List.map_take, List.map_drop, ← q.L]; rfl
    · show (insL r.ids x (r.h 0)).Nodup
      rw [ei]
      have hp : (r.ids.take (s.hd 0) ++ x :: r.ids.drop (s.hd 0)).Perm (x :: r.ids) := by
        refine List.perm_middle.trans (List.Perm.cons _ ?_)
        rw [List.take_append_drop]
      rw [hp.nodup_iff]
      exact List.nodup_cons.2 ⟨hni, q.nd⟩
    · have cj := q.hands hj c
      show (insL r.ids x (r.h 0))[if s.hd 0 ≤ s.hd j then s.hd j + 1 else s.hd j]? = some (r.h j)
      have hl : (r.ids.take (s.hd 0)).length = s.hd 0 := by rw [List.length_take]; omega
      rw [ei]
      by_cases el : s.hd 0 ≤ s.hd j
      · rw [if_pos el, List.getElem?_append_right (by omega), hl, show s.hd j + 1 - s.hd 0 = (s.hd j - s.hd 0) + 1 from by omega, List.getElem?_cons_succ, List.getElem?_drop, show s.hd 0 + (s.hd j - s.hd 0) = s.hd j from by omega]
        exact cj
      · rw [if_neg el, List.getElem?_append_left (by omega), List.getElem?_take, if_pos (by omega)]
        exact cj
end
end Go.Proofs.Ytoainbdkhhblbaa

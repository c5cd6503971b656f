/-
  A region that draws its order, whose last operation waits for all others: the others first, in whatever order, and then the last one. (A store into a cell that the region itself reads.)
-/
import Derived.WalkKit
import Derived.Deep.RegionHeld
namespace Go.Proofs.YtmpjnphnljakiaaGreatDoor
open Go.RowKit
set_option linter.unusedVariables false

section
variable {P : Program} {Q : Exit → Act → World → Prop}

/-- What is asked behind the others. -/
def tailQ (P : Program) (ops : Array Oper) (last : Oper) (Q : Exit → Act → World → Prop) : Exit → Act → World → Prop
  | .normal, a, w => wpList P ops Q [last] a w
  | e, a, w => Q e a w

/-- The last operation waits for each other one, or for one that waits for it; each waits but for such as stand ahead of it; no guard is a later one. -/
def tailOk (md : Region.Mode) (l : List Oper) (last : Oper) : Bool :=
  ((List.range l.length).all fun i => (last.after.any fun e => Region.binds md e && e.on == i) || (List.range l.length).any fun j => decide (i < j) && match l[j]? with | none => false | some o => o.after.any fun e => Region.binds md e && e.on == i) &&
  ((List.range l.length).all fun i => match l[i]? with
    | none => false
    | some o => (o.after.all fun e => decide (e.on < i)) && (match o.guard with | none => true | some (g, _) => decide (g < l.length))) &&
  (last.after.all fun e => decide (e.on < l.length)) && (match last.guard with | none => true | some (g, _) => decide (g < l.length))
/-- What has come up waits for nothing that hasn't. -/
def ClT (md : Region.Mode) (l : List Oper) (d : Array Bool) : Prop := ∀ (j : Nat) (o : Oper), l[j]? = some o → d.getD j false = true → ∀ e ∈ o.after, Region.binds md e = true → d.getD e.on false = true

variable {md : Region.Mode} {l : List Oper} {last : Oper}

theorem tail_wait (h : tailOk md l last = true) {i : Nat} (hi : i < l.length) : (∃ e ∈ last.after, Region.binds md e = true ∧ e.on = i) ∨ ∃ j o, i < j ∧ l[j]? = some o ∧ ∃ e ∈ o.after, Region.binds md e = true ∧ e.on = i := by
  simp only [tailOk, Bool.and_eq_true, List.all_eq_true, List.mem_range] at h
  rcases Bool.or_eq_true _ _ |>.mp (h.1.1.1 i hi) with q | q
  · obtain ⟨e, he, hb⟩ := Array.any_eq_true'.1 q
    simp only [Bool.and_eq_true, beq_iff_eq] at hb
    exact .inl ⟨e, he, hb⟩
  · obtain ⟨j, hj, q⟩ := List.any_eq_true.1 q
    simp only [Bool.and_eq_true, decide_eq_true_eq] at q
    obtain ⟨q1, q2⟩ := q
    cases e : l[j]? with
    | none => rw [e] at q2; cases q2
    | some o =>
      rw [e] at q2
      obtain ⟨e', he, hb⟩ := Array.any_eq_true'.1 q2
      simp only [Bool.and_eq_true, beq_iff_eq] at hb
      exact .inr ⟨j, o, q1, e, e', he, hb⟩
theorem tail_edges (h : tailOk md l last = true) {i : Nat} {o : Oper} (ho : l[i]? = some o) : (∀ e ∈ o.after, e.on < i) ∧ ∀ g b, o.guard = some (g, b) → g < l.length := by
  simp only [tailOk, Bool.and_eq_true, List.all_eq_true, List.mem_range] at h
  have := h.1.1.2 i (List.getElem?_eq_some_iff.1 ho).1
  rw [ho] at this
  simp only [Bool.and_eq_true] at this
  refine ⟨fun e he => by simpa using Array.all_eq_true'.1 this.1 e he, fun g b hg => ?_⟩
  rw [hg] at this
  simpa using this.2
theorem tail_last (h : tailOk md l last = true) : (∀ e ∈ last.after, e.on < l.length) ∧ ∀ g b, last.guard = some (g, b) → g < l.length := by
  simp only [tailOk, Bool.and_eq_true] at h
  refine ⟨fun e he => by simpa using Array.all_eq_true'.1 h.1.2 e he, fun g b hg => ?_⟩
  have := h.2
  rw [hg] at this
  simpa using this

theorem getD_push (d : Array Bool) (j : Nat) (hj : j < d.size) (x b : Bool) : (d.push b).getD j x = d.getD j x := by
  simp [hj, Nat.lt_succ_of_lt hj, Array.getElem_push_lt]
theorem getD_push_at (d : Array Bool) (x b : Bool) : (d.push b).getD d.size x = b := by simp
theorem set_push (d : Array Bool) (i : Nat) (hi : i < d.size) (b : Bool) : (d.push b).setIfInBounds i true = (d.setIfInBounds i true).push b := by
  apply Array.ext_getElem?
  intro j
  simp only [Array.getElem?_setIfInBounds, Array.getElem?_push, Array.size_setIfInBounds, Array.size_push]
  by_cases e : i = j
  · subst e
    have h1 : i < d.size + 1 := by omega
    have h2 : ¬ i = d.size := by omega
    simp [hi, h1, h2]
  · simp [e]

theorem get_app {i : Nat} (hi : i < l.length) : (l ++ [last])[i]? = l[i]? := List.getElem?_append_left hi

theorem ready_in {d : Array Bool} (hd : d.size = l.length) {i : Nat} (hi : i < l.length) (h : tailOk md l last = true) :
    i ∈ Region.ready md (l ++ [last]).toArray (d.push false) ↔ i ∈ Region.ready md l.toArray d := by
  rw [mem_ready, mem_ready, getD_push d i (by omega)]
  have e : ((l ++ [last]).toArray)[i]? = l.toArray[i]? := by simp [List.getElem?_append_left hi]
  rw [e]
  constructor
  · rintro ⟨h0, o, ho, ha⟩
    refine ⟨h0, o, ho, fun e he hb => ?_⟩
    have hlt := (tail_edges h (by simpa using ho)).1 e he
    have := ha e he hb
    rwa [getD_push d e.on (by omega)] at this
  · rintro ⟨h0, o, ho, ha⟩
    refine ⟨h0, o, ho, fun e he hb => ?_⟩
    have hlt := (tail_edges h (by simpa using ho)).1 e he
    rw [getD_push d e.on (by omega)]
    exact ha e he hb
/-- Where none may come up, all have. -/
theorem all_listed {d : Array Bool} (hd : d.size = l.length) (h : tailOk md l last = true) (hr : Region.ready md l.toArray d = []) : ∀ i, i < l.length → d.getD i false = true := by
  intro i
  induction i using Nat.strongRecOn with
  | _ i ih =>
    intro hi
    cases e : d.getD i false with
    | true => rfl
    | false =>
      have hm : i ∈ Region.ready md l.toArray d := by
        rw [mem_ready]
        refine ⟨?_, l[i], by simp, fun e' he hb => ?_⟩
        · have : i < d.size := by omega
          simpa [this] using e
        · have hlt := (tail_edges h (List.getElem?_eq_getElem hi)).1 e' he
          exact ih e'.on hlt (by omega)
      rw [hr] at hm; cases hm
theorem last_ready {d : Array Bool} (hd : d.size = l.length) (h : tailOk md l last = true) (hc : ClT md l d) : l.length ∈ Region.ready md (l ++ [last]).toArray (d.push false) ↔ ∀ i, i < l.length → d.getD i false = true := by
  rw [mem_ready]
  constructor
  · rintro ⟨_, o, ho, ha⟩
    have : o = last := by simpa using ho.symm
    subst this
    have key : ∀ k i, l.length - i = k → i < l.length → d.getD i false = true := by
      intro k
      induction k using Nat.strongRecOn with
      | _ k ih =>
        intro i hk hi
        rcases tail_wait h hi with ⟨e, he, hb, rfl⟩ | ⟨j, o', hij, hj, e, he, hb, rfl⟩
        · have := ha e he hb
          rwa [getD_push d e.on (by omega)] at this
        · have hjl := (List.getElem?_eq_some_iff.1 hj).1
          exact hc j o' hj (ih (l.length - j) (by omega) j rfl hjl) e he hb
    exact fun i hi => key _ i rfl hi
  · intro hall
    refine ⟨by rw [← hd]; exact getD_push_at d true false, last, by simp, fun e he hb => ?_⟩
    have hlt := (tail_last h).1 e he
    rw [getD_push d e.on (by omega)]
    exact hall e.on hlt
theorem ClT.set {d : Array Bool} (hd : d.size = l.length) (hc : ClT md l d) {i : Nat} (hi : i ∈ Region.ready md l.toArray d) : ClT md l (d.setIfInBounds i true) := by
  obtain ⟨h0, o, ho, ha⟩ := mem_ready.1 hi
  have hio : l[i]? = some o := by simpa using ho
  have up : ∀ k, d.getD k false = true → (d.setIfInBounds i true).getD k false = true := by
    intro k hk
    simp only [Array.getD_eq_getD_getElem?, Array.getElem?_setIfInBounds] at *
    split
    · split <;> simp_all
    · exact hk
  intro j o' hj hdj e he hb
  by_cases e' : i = j
  · subst e'
    rw [hio] at hj
    injection hj with hj
    subst hj
    exact up _ (ha e he hb)
  · refine up _ (hc j o' hj ?_ e he hb)
    simp only [Array.getD_eq_getD_getElem?, Array.getElem?_setIfInBounds, if_neg e'] at hdj
    simpa [Array.getD_eq_getD_getElem?] using hdj

theorem yielded_in (tmps : Array Value) {g : Nat} (hg : g < l.length) : yielded (l ++ [last]).toArray tmps g = yielded l.toArray tmps g := by
  unfold yielded
  rw [show ((l ++ [last]).toArray)[g]? = l.toArray[g]? from by simp [List.getElem?_append_left hg]]
theorem wanted_in (tmps : Array Value) {o : Oper} (ho : ∀ g b, o.guard = some (g, b) → g < l.length) : Region.wanted o (yielded (l ++ [last]).toArray tmps) = Region.wanted o (yielded l.toArray tmps) := by
  unfold Region.wanted
  cases e : o.guard with
  | none => rfl
  | some x =>
    obtain ⟨g, b⟩ := x
    simp only [yielded_in tmps (ho g b e)]

theorem wp_tailQ {ops : Array Oper} {o : Oper} {a : Act} {w : World} {K : Act → World → Prop} (h : o.wp P a w K (tailQ P ops last Q)) : o.wp P a w K Q := by
  unfold Oper.wp at *
  generalize (execOp a.eval o).run P w = r at *
  cases r with
  | ok n w' =>
    cases n <;> simp only [Oper.upon] at h ⊢ <;>
      first
        | exact h
        | exact Calls.mono h (fun e w'' he => by cases e <;> exact he)
  | halt x w' => cases x <;> simp only [Oper.upon] at h ⊢ <;> exact h
theorem wpOp_tail {i : Nat} (hi : i < l.length) (hok : tailOk md l last = true) {a : Act} {w : World} {K K' : Act → World → Prop} (hK : ∀ a w, K a w → K' a w)
    (h : wpOp P l.toArray (tailQ P (l ++ [last]).toArray last Q) i K a w) : wpOp P (l ++ [last]).toArray Q i K' a w := by
  refine wpOp_mono hK ?_
  unfold wpOp at *
  rw [show ((l ++ [last]).toArray)[i]? = l.toArray[i]? from by simp [List.getElem?_append_left hi]]
  cases e : l.toArray[i]? with
  | none => rw [e] at h; exact h
  | some o =>
    rw [e] at h
    simp only at h ⊢
    rw [wanted_in a.tmps (tail_edges hok (by simpa using e)).2]
    split
    · rename_i hw
      rw [if_pos hw] at h
      exact h.imp wp_tailQ id
    · rename_i hw
      rw [if_neg hw] at h
      exact h
theorem wpOp_last {a : Act} {w : World} (h : wpList P (l ++ [last]).toArray Q [last] a w) {K : Act → World → Prop} (hK : ∀ a w, Q .normal a w → K a w) : wpOp P (l ++ [last]).toArray Q l.length K a w := by
  unfold wpOp
  rw [show ((l ++ [last]).toArray)[l.length]? = some last from by simp]
  simp only [wpList] at h ⊢
  split
  · rename_i hw
    rw [if_pos hw] at h
    exact h.imp (Oper.wp_mono hK) id
  · rename_i hw
    rw [if_neg hw] at h
    exact hK _ _ h

theorem wpAny_tail (hok : tailOk md l last = true) : ∀ (fuel : Nat) (d : Array Bool) (a : Act) (w : World), d.size = l.length → ClT md l d →
    wpAny P md l.toArray (tailQ P (l ++ [last]).toArray last Q) fuel d a w → wpAny P md (l ++ [last]).toArray Q (fuel + 1) (d.push false) a w := by
  have fin : ∀ (fuel : Nat) (d : Array Bool) (a : Act) (w : World), d.size = l.length → ClT md l d → Region.ready md l.toArray d = [] → wpList P (l ++ [last]).toArray Q [last] a w →
      wpAny P md (l ++ [last]).toArray Q (fuel + 1) (d.push false) a w := by
    intro fuel d a w hd hc hr hl
    have hall := all_listed (last := last) hd hok hr
    have hlr := (last_ready hd hok hc).2 hall
    refine ⟨fun h0 => (by rw [h0] at hlr; cases hlr), fun i hi => ?_⟩
    have hil : i = l.length := by
      rcases Nat.lt_or_ge i l.length with q | q
      · rw [ready_in hd q hok, hr] at hi; cases hi
      · obtain ⟨_, o, ho, _⟩ := mem_ready.1 hi
        have : i < (l ++ [last]).toArray.size := (Array.getElem?_eq_some_iff.1 ho).1
        simp at this; omega
    subst hil
    refine wpOp_last hl (fun a' w' hq => ?_)
    have hset : (d.push false).setIfInBounds l.length true = d.push true := by
      apply Array.ext_getElem?
      intro j
      simp only [Array.getElem?_setIfInBounds, Array.getElem?_push, Array.size_push]
      by_cases e : l.length = j
      · subst e
        have h2 : l.length = d.size := hd.symm
        simp [h2]
      · have h3 : ¬ j = d.size := by omega
        simp [e, h3]
    have hnil : Region.ready md (l ++ [last]).toArray (d.push true) = [] := by
      rw [List.eq_nil_iff_forall_not_mem]
      intro j hj
      obtain ⟨h0, o, ho, _⟩ := mem_ready.1 hj
      have hj' : j < (l ++ [last]).toArray.size := (Array.getElem?_eq_some_iff.1 ho).1
      simp at hj'
      rcases Nat.lt_or_ge j l.length with q | q
      · have h1 := hall j q
        rw [getD_push d j (by omega)] at h0
        have : j < d.size := by omega
        simp [this] at h0 h1
        rw [h0] at h1; cases h1
      · obtain rfl : j = d.size := by omega
        rw [getD_push_at] at h0; cases h0
    rw [hset]
    cases fuel with
    | zero => exact ⟨hnil, hq⟩
    | succ f => exact ⟨fun _ => hq, by rw [hnil]; simp⟩
  intro fuel
  induction fuel with
  | zero => intro d a w hd hc h; exact fin 0 d a w hd hc h.1 h.2
  | succ fuel ih =>
    intro d a w hd hc h
    by_cases hr : Region.ready md l.toArray d = []
    · exact fin (fuel + 1) d a w hd hc hr (h.1 hr)
    · refine ⟨fun h0 => ?_, fun i hi => ?_⟩
      · obtain ⟨j, hj⟩ := List.exists_mem_of_ne_nil _ hr
        have hjl : j < l.length := by
          obtain ⟨_, o, ho, _⟩ := mem_ready.1 hj
          have := (Array.getElem?_eq_some_iff.1 ho).1
          simpa using this
        have := (ready_in hd hjl hok).2 hj
        rw [h0] at this; cases this
      · rcases Nat.lt_or_ge i l.length with q | q
        · have hi' := (ready_in hd q hok).1 hi
          refine wpOp_tail q hok (fun a' w' hh => ?_) (h.2 i hi')
          rw [set_push d i (by omega)]
          exact ih _ a' w' (by simp [hd]) (hc.set hd hi') hh
        · obtain ⟨_, o, ho, _⟩ := mem_ready.1 hi
          have h2 : i < (l ++ [last]).toArray.size := (Array.getElem?_eq_some_iff.1 ho).1
          have hil : i = l.length := by simp at h2; omega
          subst hil
          have hall := (last_ready hd hok hc).1 hi
          have : Region.ready md l.toArray d = [] := by
            rw [List.eq_nil_iff_forall_not_mem]
            intro j hj
            obtain ⟨h0, o, ho, _⟩ := mem_ready.1 hj
            have hj' : j < l.toArray.size := (Array.getElem?_eq_some_iff.1 ho).1
            have hj'' : j < l.length := by simpa using hj'
            have h1 := hall j hj''
            have : j < d.size := by omega
            simp [this] at h0 h1
            rw [h0] at h1; cases h1
          exact (hr this).elim

/-- The beginning of such a region, held to S: the others first. -/
theorem region_tail (S : World → Prop) (n : Nat) {id : Nat} {l : List Oper} {last : Oper} {a : Act} {w : World} (hm : P.follows .mixedOrders = true) (hn : l = l.take n ++ [last]) (hln : (l.take n).length = n) (hok : tailOk .any (l.take n) last = true)
    (h : wpAnyH P .any (l.take n).toArray (tailQ P l.toArray last Q) S n (Array.replicate n false) a w.drew) : (Code.region id l.toArray true).wp P Q a w := by
  refine wp_region_any hm ?_
  have h1 := wpAny_tail (P := P) (Q := Q) (md := .any) hok n (Array.replicate n false) a w.drew (by simp [hln]) (fun j o _ hd => by simp [Array.getD_eq_getD_getElem?, Array.getElem?_replicate] at hd; split at hd <;> cases hd) (by rw [← hn]; exact wpAny_of_held _ _ _ _ h)
  rw [← hn] at h1
  have e1 : l.toArray.size = n + 1 := by
    have e0 := congrArg List.length hn
    rw [List.length_append, hln] at e0
    simpa using e0
  have e2 : (Array.replicate n false).push false = Array.replicate (n + 1) false := by
    apply Array.ext_getElem?
    intro j
    simp only [Array.getElem?_push, Array.getElem?_replicate, Array.size_replicate]
    by_cases e : j = n
    · subst e; simp
    · by_cases h2 : j < n
      · have : j < n + 1 := by omega
        simp [e, h2, this]
      · have : ¬ j < n + 1 := by omega
        simp [e, h2, this]
  rw [e2] at h1
  rw [e1]
  exact h1
end
end Go.Proofs.YtmpjnphnljakiaaGreatDoor

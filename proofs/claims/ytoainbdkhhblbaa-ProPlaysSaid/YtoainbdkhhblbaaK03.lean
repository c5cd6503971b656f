/-
  What is called of a policy, and answered, when pages are touched, held, let go and taken away: plain functions, with no program in sight.
-/
import Derived.Test.YtoainbdkhhblbaaK02
namespace Go.Proofs.Ytoainbdkhhblbaa
open Go.RowKit
set_option linter.unusedVariables false

/-- A call, and what is seen behind it. -/
structure Cl where
  kind : Nat
  frame : Nat
  page : Nat
  on : Bool
  want : Int
  size : Nat
  ghosts : List Nat

/-- A policy, as functions. -/
structure Pol (σ : Type) where
  miss : σ → Nat → σ
  access : σ → Nat → Nat → σ
  set : σ → Nat → Bool → σ
  victim : σ → Nat → Option Nat
  gone : σ → Nat → σ
  remove : σ → Nat → σ
  size : σ → Nat
  ghosts : σ → List Nat

/-- The least place of a number at or behind place k; -1: there is none. -/
def fromL (fr : List Nat) (x k : Nat) : Int := match (fr.drop k).findIdx? (fun y => decide (y = x)) with
  | none => -1
  | some j => (k + j : Nat)
def atL (fr : List Nat) (x : Nat) : Option Nat := fr.findIdx? (fun y => decide (y = x))
theorem fromL_zero (fr : List Nat) (x : Nat) : fromL fr x 0 = match atL fr x with | none => -1 | some j => (j : Int) := by
  unfold fromL atL
  rw [List.drop_zero]
  cases fr.findIdx? (fun y => decide (y = x)) <;> simp
theorem fromL_end (fr : List Nat) (x : Nat) : fromL fr x fr.length = -1 := by simp [fromL]
theorem fromL_step (fr : List Nat) (x k : Nat) (hk : k < fr.length) : fromL fr x k = if fr[k] = x then (k : Int) else fromL fr x (k + 1) := by
  unfold fromL
  rw [List.drop_eq_getElem_cons hk, List.findIdx?_cons]
  by_cases h : fr[k] = x
  · simp [h]
  · simp only [decide_eq_true_eq, h, if_false]
    cases (fr.drop (k + 1)).findIdx? (fun y => decide (y = x)) with
    | none => rfl
    | some j => simp; omega
theorem atL_some {fr : List Nat} {x a : Nat} (h : atL fr x = some a) : a < fr.length ∧ fr[a]? = some x := by
  obtain ⟨h1, h2, _⟩ := List.findIdx?_eq_some_iff_getElem.1 h
  exact ⟨h1, by rw [List.getElem?_eq_getElem h1]; simpa using h2⟩
theorem atL_none {fr : List Nat} {x : Nat} (h : atL fr x = none) : ¬ x ∈ fr := by
  intro hm
  have := List.findIdx?_eq_none_iff.1 h x hm
  simp at this

section
variable {σ : Type} (P : Pol σ)
def Pol.see (s : σ) (c : Cl) : Cl := { c with size := P.size s, ghosts := P.ghosts s }
def clMiss (id : Nat) : Cl := ⟨0, 0, id, false, 0, 0, []⟩
def clAcc (a id : Nat) : Cl := ⟨1, a, id, false, 0, 0, []⟩
def clSet (a : Nat) (v : Bool) : Cl := ⟨2, a, 0, v, 0, 0, []⟩
def clVic (id : Nat) (w : Int) : Cl := ⟨3, 0, id, false, w, 0, []⟩
def clRem (a : Nat) : Cl := ⟨4, a, 0, false, 0, 0, []⟩
/-- A page comes to a frame. -/
def Pol.come (s : σ) (fr : List Nat) (a id : Nat) (pre : List Cl) : σ × List Nat × List Cl :=
  let s1 := P.access s a id
  let s2 := P.set s1 a true
  (s2, fr.set a id, pre ++ [P.see s1 (clAcc a id), P.see s2 (clSet a true)])
/-- One thing that happens: the state, the frames, the calls. -/
def Pol.step (s : σ) (fr : List Nat) (k id : Nat) : σ × List Nat × List Cl :=
  if k = 0 then
    match atL fr id with
    | some a => (P.access s a id, fr, [P.see (P.access s a id) (clAcc a id)])
    | none =>
      let s1 := P.miss s id
      match atL fr 0 with
      | some a => P.come s1 fr a id [P.see s1 (clMiss id)]
      | none =>
        match P.victim s1 id with
        | none => (s1, fr, [P.see s1 (clMiss id), P.see s1 (clVic id (-1))])
        | some a => P.come (P.gone s1 id) fr a id [P.see s1 (clMiss id), P.see (P.gone s1 id) (clVic id a)]
  else
    match atL fr id with
    | none => (s, fr, [])
    | some a =>
      if k = 3 then (P.remove s a, fr.set a 0, [P.see (P.remove s a) (clRem a)])
      else (P.set s a (!decide (k = 1)), fr, [P.see (P.set s a (!decide (k = 1))) (clSet a (!decide (k = 1)))])
/-- All that happens. -/
def Pol.run : σ → List Nat → List (Nat × Nat) → σ × List Nat × List Cl
  | s, fr, [] => (s, fr, [])
  | s, fr, (k, id) :: r =>
    let x := P.step s fr k id
    let y := Pol.run x.1 x.2.1 r
    (y.1, y.2.1, x.2.2 ++ y.2.2)
theorem Pol.run_snoc (s : σ) (fr : List Nat) (l : List (Nat × Nat)) (o : Nat × Nat) :
    P.run s fr (l ++ [o]) = ((P.step (P.run s fr l).1 (P.run s fr l).2.1 o.1 o.2).1, (P.step (P.run s fr l).1 (P.run s fr l).2.1 o.1 o.2).2.1, (P.run s fr l).2.2 ++ (P.step (P.run s fr l).1 (P.run s fr l).2.1 o.1 o.2).2.2) := by
  induction l generalizing s fr with
  | nil => simp [Pol.run]
  | cons a l ih =>
    obtain ⟨k, id⟩ := a
    simp only [List.cons_append, Pol.run, ih, List.append_assoc]
theorem Pol.step_len (s : σ) (fr : List Nat) (k id : Nat) : (P.step s fr k id).2.2.length ≤ 4 := by
  unfold Pol.step Pol.come
  split
  · split
    · simp
    · simp only; split
      · simp
      · split <;> simp
  · split
    · simp
    · split <;> simp
theorem Pol.run_len (s : σ) (fr : List Nat) (l : List (Nat × Nat)) : (P.run s fr l).2.2.length ≤ 4 * l.length := by
  induction l generalizing s fr with
  | nil => simp [Pol.run]
  | cons a l ih =>
    obtain ⟨k, id⟩ := a
    have := P.step_len s fr k id
    have := ih (P.step s fr k id).1 (P.step s fr k id).2.1
    simp only [Pol.run, List.length_append, List.length_cons]
    omega
end

/-! ### Calls as cells -/
def clCells (c : Cl) (g : Value) : List Value := [.int .i64 c.kind, .int .i64 c.frame, .int .u32 c.page, .bool c.on, .int .i64 c.want, .int .i64 c.size, g]
def flatC : List Cl → List Value → List Value
  | c :: cs, g :: gs => clCells c g ++ flatC cs gs
  | _, _ => []
theorem flatC_snoc : ∀ {cs : List Cl} {gs : List Value} (c : Cl) (g : Value), gs.length = cs.length → flatC (cs ++ [c]) (gs ++ [g]) = flatC cs gs ++ clCells c g
  | [], [], c, g, _ => by simp [flatC]
  | a :: cs, b :: gs, c, g, h => by
    have := flatC_snoc (cs := cs) (gs := gs) c g (by simpa using h)
    simp only [List.cons_append, flatC, this, List.append_assoc]
theorem flatC_get : ∀ {cs : List Cl} {gs : List Value} {i j : Nat} {c : Cl} {g : Value}, cs[i]? = some c → gs[i]? = some g → j < 7 → (flatC cs gs)[i * 7 + j]? = (clCells c g)[j]?
  | a :: cs, b :: gs, 0, j, c, g, h1, h2, hj => by
    simp at h1 h2
    subst h1 h2
    simp only [flatC, Nat.zero_mul, Nat.zero_add]
    rw [List.getElem?_append_left (by simp [clCells]; omega)]
  | a :: cs, b :: gs, i + 1, j, c, g, h1, h2, hj => by
    simp at h1 h2
    have := flatC_get (i := i) (j := j) h1 h2 hj
    simp only [flatC]
    rw [List.getElem?_append_right (by simp [clCells]; omega)]
    rw [← this]
    congr 1
    simp [clCells]; omega
  | [], _, _, _, _, _, h, _, _ => by simp at h
  | _ :: _, [], _, _, _, _, _, h, _ => by simp at h
theorem flatC_one {cs : List Cl} {gs : List Value} (hg : ∀ g ∈ gs, g.oneCell' = true) : ∀ u ∈ flatC cs gs, u.oneCell' = true := by
  induction cs generalizing gs with
  | nil => intro u hu; simp [flatC] at hu
  | cons c cs ih =>
    cases gs with
    | nil => intro u hu; simp [flatC] at hu
    | cons g gs =>
      intro u hu
      simp only [flatC, List.mem_append] at hu
      rcases hu with hu | hu
      · simp only [clCells, List.mem_cons, List.not_mem_nil, or_false] at hu
        rcases hu with rfl | rfl | rfl | rfl | rfl | rfl | rfl
        all_goals first | rfl | exact hg _ (List.mem_cons_self ..)
      · exact ih (fun g' h' => hg g' (List.mem_cons_of_mem _ h')) u hu
theorem set_same' {fr : List Nat} {a x : Nat} (h : fr[a]? = some x) : fr.set a x = fr := by
  apply List.ext_getElem?
  intro i
  rw [List.getElem?_set]
  by_cases e : a = i
  · subst e; rw [if_pos rfl, if_pos (List.getElem?_eq_some_iff.1 h).1, h]
  · rw [if_neg e]
end Go.Proofs.Ytoainbdkhhblbaa

/-
  Pro: a ring of entries with three hands, as plain functions, with no program in sight: what each call leaves, and what stays true.
-/
import Derived.Test.YtoainbdkhhblbaaK03
namespace Go.Proofs.Ytoainbdkhhblbaa
open Go.RowKit
set_option linter.unusedVariables false
set_option linter.unusedSimpArgs false

structure En where
  pg : Nat
  fr : Int
  hot : Bool
  ref : Bool
  test : Bool
structure PrS where
  L : List En
  hd : Nat → Nat
  goal : Nat
  pg : Nat → Nat
  on : Nat → Bool

def dropH (i m h : Nat) : Nat := if m ≤ (if i < h then h - 1 else h) then 0 else (if i < h then h - 1 else h)
def PrS.drop (s : PrS) (i : Nat) : PrS := { s with L := s.L.eraseIdx i, hd := fun j => dropH i (s.L.length - 1) (s.hd j) }
def insE (l : List En) (i : Nat) (x : En) : List En := l.take i ++ x :: l.drop i
def PrS.lay (s : PrS) (x : En) : PrS :=
  if s.L = [] then { s with L := [x], hd := fun _ => 0 }
  else { s with L := insE s.L (s.hd 0) x, hd := fun j => if s.hd 0 ≤ s.hd j then s.hd j + 1 else s.hd j }
def PrS.less (s : PrS) : PrS := { s with goal := max (s.goal - 1) 1 }
def PrS.put (s : PrS) (i : Nat) (x : En) : PrS := { s with L := s.L.set i x }
def PrS.mv (s : PrS) (j : Nat) : PrS := { s with hd := upd s.hd j ((s.hd j + 1) % s.L.length) }
def PrS.hotN (s : PrS) : Nat := s.L.countP (fun e => e.hot)
def PrS.gone (s : PrS) : Nat := s.L.countP (fun e => decide (e.fr < 0))
def PrS.gh (s : PrS) : List Nat := (s.L.filter (fun e => decide (e.fr < 0))).map (fun e => e.pg)
/-- An entry's test ends. -/
def PrS.ends (s : PrS) (i : Nat) (x : En) : PrS := if x.fr < 0 then s.less.drop i else s.less.put i { x with test := false }

/-! ### The hot hand -/
def hotStep (s : PrS) (x : En) : PrS × Bool :=
  if x.hot then (if x.ref then ((s.put (s.hd 0) { x with ref := false }).mv 0, false) else ((s.put (s.hd 0) { x with hot := false }).mv 0, true))
  else if x.test then (if x.fr < 0 then (s.ends (s.hd 0) x, false) else ((s.ends (s.hd 0) x).mv 0, false))
  else (s.mv 0, false)
def workO : Nat → PrS → Option PrS
  | 0, _ => none
  | k + 1, s => if s.hotN = 0 then some s else match s.L[s.hd 0]? with
    | none => none
    | some x => if (hotStep s x).2 = true then some (hotStep s x).1 else workO k (hotStep s x).1
open Classical in
noncomputable def PrS.work (s : PrS) : PrS := if h : ∃ p : Nat × PrS, workO p.1 s = some p.2 then h.choose.2 else s
noncomputable def coolO (n : Nat) : Nat → PrS → Option PrS
  | 0, _ => none
  | k + 1, s => if s.hotN ≤ n - s.goal then some s else coolO n k s.work
noncomputable def PrS.cool (n : Nat) (s : PrS) : PrS := (coolO n (s.hotN + 1) s).getD s
/-! ### The test hand -/
def testStep (s : PrS) (x : En) : PrS :=
  if x.test then (if x.fr < 0 then s.ends (s.hd 2) x else (s.ends (s.hd 2) x).mv 2) else s.mv 2
def testO (n : Nat) : Nat → PrS → Option PrS
  | 0, _ => none
  | k + 1, s => if s.gone ≤ n then some s else match s.L[s.hd 2]? with
    | none => none
    | some x => testO n k (testStep s x)
open Classical in
noncomputable def PrS.tests (n : Nat) (s : PrS) : PrS := if h : ∃ p : Nat × PrS, testO n p.1 s = some p.2 then h.choose.2 else s
/-! ### The cold hand -/
noncomputable def PrS.turn (n : Nat) (s : PrS) (i : Nat) (x : En) : PrS := (((s.mv 1).drop i).lay { x with ref := false, hot := x.test, test := !x.test }).cool n
def PrS.empty (s : PrS) (f : Nat) : PrS := { s with pg := upd s.pg f 0, on := upd s.on f false }
noncomputable def PrS.send (n : Nat) (s : PrS) (i : Nat) (x : En) : PrS :=
  if x.test then (((s.mv 1).empty x.fr.toNat).put i { x with fr := -1 }).tests n else ((s.mv 1).empty x.fr.toNat).drop i
/-- Does the cold hand leave it alone? -/
def PrS.idle (s : PrS) (x : En) : Bool := x.hot || decide (x.fr < 0) || (!x.ref && !s.on x.fr.toNat)
noncomputable def vicL (n : Nat) : Nat → PrS → PrS × Option Nat
  | 0, s => (s, none)
  | k + 1, s => match s.L[s.hd 1]? with
    | none => (s, none)
    | some x =>
      if s.idle x = true then vicL n k (s.mv 1)
      else if x.ref = true then vicL n k (s.turn n (s.hd 1) x)
      else (s.send n (s.hd 1) x, some x.fr.toNat)
def PrS.ofF (s : PrS) (f : Nat) : Option Nat := s.L.findIdx? (fun e => decide (e.fr = (f : Int)))
def PrS.ofG (s : PrS) (p : Nat) : Option Nat := s.L.findIdx? (fun e => decide (e.fr = -1 ∧ e.pg = p))
def PrS.mayGo (s : PrS) (e : En) : Bool := decide (0 ≤ e.fr) && s.on e.fr.toNat
/-- The first that may go, from the cold hand on. -/
def PrS.first (s : PrS) : Nat := match (s.L.drop (s.hd 1) ++ s.L.take (s.hd 1)).find? s.mayGo with
  | some e => e.fr.toNat
  | none => 0
def PrS.rem (s : PrS) (f : Nat) : PrS := match s.ofF f with
  | some i => (s.empty f).drop i
  | none => s.empty f
noncomputable def PrS.access (n : Nat) (s : PrS) (a id : Nat) : PrS :=
  match s.ofF a with
  | some i => match s.L[i]? with
    | some x => { s with pg := upd s.pg a id }.put i { x with ref := true }
    | none => s
  | none => match s.ofG id with
    | none => { s with pg := upd s.pg a id }.lay ⟨id, a, false, false, true⟩
    | some i => (({ s with pg := upd s.pg a id, goal := min (s.goal + 1) (max (n - 1) 1) }.drop i).lay ⟨id, a, true, false, false⟩).cool n
def PrS.sizeN (n : Nat) (s : PrS) : Nat := (List.range n).countP (fun f => decide (¬ s.pg f = 0) && s.on f)
noncomputable def PrS.vic (n : Nat) (s : PrS) : PrS × Option Nat := vicL n (4 * s.L.length + 4) s
noncomputable def polP (n : Nat) : Pol PrS where
  miss s _ := s
  access s a id := s.access n a id
  set s a v := { s with on := upd s.on a v }
  victim s _ := if s.sizeN n = 0 then none else match s.vic n with
    | (_, some f) => some f
    | (t, none) => some t.first
  gone s _ := match s.vic n with
    | (t, some _) => t
    | (t, none) => t.rem t.first
  remove s a := s.rem a
  size s := s.sizeN n
  ghosts s := s.gh
/-- From the hot hand on. -/
def PrS.ghR (s : PrS) : List Nat := ((s.L.drop (s.hd 0) ++ s.L.take (s.hd 0)).filter (fun e => decide (e.fr < 0))).map (fun e => e.pg)
noncomputable def polC (n : Nat) : Pol PrS := { polP n with ghosts := PrS.ghR }

/-! ### Lists -/
theorem countP_set {p : En → Bool} {l : List En} {i : Nat} {x y : En} (h : l[i]? = some x) : (l.set i y).countP p + (if p x = true then 1 else 0) = l.countP p + (if p y = true then 1 else 0) := by
  induction l generalizing i with
  | nil => simp at h
  | cons a l ih =>
    cases i with
    | zero => simp at h; subst h; simp only [List.set_cons_zero, List.countP_cons]; omega
    | succ i =>
      have := ih (i := i) (by simpa using h)
      simp only [List.set_cons_succ, List.countP_cons]; omega
theorem countP_erase {p : En → Bool} {l : List En} {i : Nat} {x : En} (h : l[i]? = some x) : (l.eraseIdx i).countP p + (if p x = true then 1 else 0) = l.countP p := by
  induction l generalizing i with
  | nil => simp at h
  | cons a l ih =>
    cases i with
    | zero => simp at h; subst h; simp only [List.eraseIdx_cons_zero, List.countP_cons]
    | succ i =>
      have := ih (i := i) (by simpa using h)
      simp only [List.eraseIdx_cons_succ, List.countP_cons]; omega
theorem countP_ins {p : En → Bool} (l : List En) (i : Nat) (x : En) : (insE l i x).countP p = l.countP p + (if p x = true then 1 else 0) := by
  unfold insE
  have e : l.countP p = (l.take i).countP p + (l.drop i).countP p := by rw [← List.countP_append, List.take_append_drop]
  rw [List.countP_append, List.countP_cons, e]; omega
theorem ins_get (l : List En) {i : Nat} (hi : i ≤ l.length) (x : En) (j : Nat) : (insE l i x)[j]? = if j < i then l[j]? else if j = i then some x else l[j - 1]? := by
  unfold insE
  have hl : (l.take i).length = i := by rw [List.length_take]; omega
  by_cases h : j < i
  · rw [if_pos h, List.getElem?_append_left (by omega), List.getElem?_take, if_pos h]
  · rw [if_neg h, List.getElem?_append_right (by omega), hl]
    by_cases e : j = i
    · subst e; simp
    · rw [if_neg e, show j - i = (j - i - 1) + 1 from by omega, List.getElem?_cons_succ, List.getElem?_drop]
      congr 1; omega
theorem ins_mem {l : List En} {i : Nat} {x y : En} : y ∈ insE l i x ↔ y = x ∨ y ∈ l := by
  unfold insE
  rw [List.mem_append, List.mem_cons]
  constructor
  · rintro (h | h | h)
    · exact .inr (List.mem_of_mem_take h)
    · exact .inl h
    · exact .inr (List.mem_of_mem_drop h)
  · rintro (h | h)
    · exact .inr (.inl h)
    · rw [← List.take_append_drop i l, List.mem_append] at h
      exact h.elim .inl (fun h => .inr (.inr h))
theorem ins_len (l : List En) (i : Nat) (x : En) : (insE l i x).length = l.length + 1 := by
  unfold insE
  rw [List.length_append, List.length_cons, List.length_take, List.length_drop]; omega
theorem set_mem {l : List En} {i : Nat} {x y : En} (h : y ∈ l.set i x) : y = x ∨ y ∈ l := (List.mem_or_eq_of_mem_set h).symm
theorem eraseIdx_get (l : List En) (i j : Nat) : (l.eraseIdx i)[j]? = if j < i then l[j]? else l[j + 1]? := List.getElem?_eraseIdx
end Go.Proofs.Ytoainbdkhhblbaa

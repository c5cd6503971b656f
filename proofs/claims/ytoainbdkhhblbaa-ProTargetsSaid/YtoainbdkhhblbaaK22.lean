/-
  twoq's remembered pages in memory: two rows of places, the pages by place, the places by page; their calls.
-/
import Derived.Test.YtoainbdkhhblbaaK20
import Derived.Test.YtoainbdkhhblbaaK21
import Derived.Test.YtoainbdkhhblbaaK08
import Derived.Test.YtoainbdkhhblbaaK06
import Derived.Handy
import Derived.Deep.DeepMust
import Derived.Deep.LoopGhost
namespace Go.Proofs.Ytoainbdkhhblbaa
open Go.RowKit Go.Maps
set_option linter.unusedVariables false

/-! ### Two rows -/
theorem RR.row2 {w : World} {b n : Nat} {l m : List Nat} {F : Nat → Prop} (h : RR w b n 2 [l, m] F) : l.Nodup ∧ m.Nodup ∧ (∀ x ∈ l, x < n) ∧ (∀ x ∈ m, x < n) ∧ ∀ x ∈ l, ¬ x ∈ m := by
  obtain ⟨nb, lb, rw, nx, pv, ls, hc, hi, hF⟩ := h.ex
  refine ⟨hi.nd 0 l rfl, hi.nd 1 m rfl, fun x hx => (hi.mem 0 l rfl x hx).1, fun x hx => (hi.mem 1 m rfl x hx).1, fun x hx hm => ?_⟩
  have h1 := (hi.mem 0 l rfl x hx).2
  have h2 := (hi.mem 1 m rfl x hm).2
  omega
theorem rowIx2 (l m : List Nat) (x : Nat) : rowIx [l, m] x = if x ∈ l then some 0 else if x ∈ m then some 1 else none := by
  by_cases h : x ∈ l
  · simp [rowIx, List.findIdx?_cons, h]
  · by_cases h2 : x ∈ m <;> simp [rowIx, List.findIdx?_cons, h, h2]
theorem awayN_not {l : List Nat} {x : Nat} (h : ¬ x ∈ l) : awayN l x = l := by
  unfold awayN
  rw [List.filter_eq_self]
  intro a ha
  have : ¬ a = x := fun e => h (e ▸ ha)
  simp [this]
theorem outL2 {l m : List Nat} (hd : ∀ x ∈ l, ¬ x ∈ m) (x : Nat) : outL [l, m] x = [awayN l x, awayN m x] := by
  by_cases h : x ∈ l
  · rw [awayN_not (hd x h)]; simp [outL, rowIx2, h, awayN]
  · by_cases h2 : x ∈ m
    · rw [awayN_not h]; simp [outL, rowIx2, h, h2, awayN]
    · rw [awayN_not h, awayN_not h2]; simp [outL, rowIx2, h, h2]
theorem putL2_0 {l m : List Nat} (hd : ∀ x ∈ l, ¬ x ∈ m) (x : Nat) : putL [l, m] 0 x false = [awayN l x ++ [x], awayN m x] := by simp [putL, outL2 hd]
theorem putL2_1 {l m : List Nat} (hd : ∀ x ∈ l, ¬ x ∈ m) (x : Nat) : putL [l, m] 1 x false = [awayN l x, awayN m x ++ [x]] := by simp [putL, outL2 hd]
theorem awayN_len {l : List Nat} (hn : l.Nodup) {x : Nat} (h : x ∈ l) : (awayN l x).length + 1 = l.length := by
  induction l with
  | nil => cases h
  | cons a l ih =>
    have hn' := List.nodup_cons.1 hn
    by_cases e : a = x
    · subst e
      have e2 : awayN (a :: l) a = awayN l a := by simp [awayN]
      rw [e2, awayN_not hn'.1]; rfl
    · have e2 : awayN (a :: l) x = a :: awayN l x := by simp [awayN, e]
      rw [e2]
      have := ih hn'.2 ((List.mem_cons.1 h).resolve_left (fun q => e q.symm))
      simp; omega

/-! ### The remembered pages -/
def isU32 (x : Nat) : Prop := x < 4294967296
theorem isU32.wf {x : Nat} (h : isU32 x) : (Lit.int .u32 (x : Int)).wf = true := WalkArith.wf_u32 ⟨by omega, by unfold isU32 at h; omega⟩
theorem MIg : MI Try.prog 56 34 3 .u32 .i64 := ⟨Try.underlying56, Try.underlying34, Try.underlying3, fun w => by kernel_rfl⟩
/-- The place of a page. -/
def mOf (tk : List Nat) (gp : Nat → Nat) : Int → Option Int := fun z => (tk.find? fun p => decide (((gp p : Nat) : Int) = z)).map fun (p : Nat) => (p : Int)

structure GR (w : World) (gr gpb mb out : Nat) (tk sp : List Nat) (gp : Nat → Nat) (gh : List Nat) (FG : Nat → Prop) : Prop where
  rr : RR w gr out 2 [tk, sp] FG
  pg : Blk w gpb out (uN gp)
  mp : MpN Try.prog 34 3 .u32 .i64 w mb tk.length (mOf tk gp)
  hg : gh = tk.map gp
  nd : gh.Nodup
  tl : tk.length + sp.length = out
  lt : ∀ x ∈ gh, isU32 x
  hn : out ≤ 65535
  d1 : ¬ FG gpb
  d2 : ¬ FG mb
  d3 : ¬ gpb = mb
theorem GR.fr {w w' : World} {gr gpb mb out : Nat} {tk sp : List Nat} {gp : Nat → Nat} {gh : List Nat} {FG G : Nat → Prop} (h : GR w gr gpb mb out tk sp gp gh FG) (f : Fr G w w') (h1 : ∀ i, FG i → ¬ G i) (h2 : ¬ G gpb) (h3 : ¬ G mb) : GR w' gr gpb mb out tk sp gp gh FG :=
  ⟨h.rr.fr f h1, h.pg.fr f h2, h.mp.fr f h3, h.hg, h.nd, h.tl, h.lt, h.hn, h.d1, h.d2, h.d3⟩

theorem mOf_none {tk : List Nat} {gp : Nat → Nat} {x : Nat} (h : ¬ x ∈ tk.map gp) : mOf tk gp (x : Int) = none := by
  unfold mOf
  rw [Option.map_eq_none_iff, List.find?_eq_none]
  intro p hp e
  have e : ((gp p : Nat) : Int) = x := by simpa using e
  exact h (List.mem_map.2 ⟨p, hp, by omega⟩)
theorem gp_inj {tk : List Nat} {gp : Nat → Nat} (hn : (tk.map gp).Nodup) {p q : Nat} (hp : p ∈ tk) (hq : q ∈ tk) (e : gp p = gp q) : p = q := by
  induction tk with
  | nil => cases hp
  | cons a tk ih =>
    have hn' := List.nodup_cons.1 hn
    rcases List.mem_cons.1 hp with e1 | hp1
    · rcases List.mem_cons.1 hq with e2 | hq1
      · rw [e1, e2]
      · exact (hn'.1 (by rw [← e1, e]; exact List.mem_map.2 ⟨q, hq1, rfl⟩)).elim
    · rcases List.mem_cons.1 hq with e2 | hq1
      · exact (hn'.1 (by rw [← e2, ← e]; exact List.mem_map.2 ⟨p, hp1, rfl⟩)).elim
      · exact ih hn'.2 hp1 hq1
theorem mOf_some {tk : List Nat} {gp : Nat → Nat} (hn : (tk.map gp).Nodup) {p : Nat} (hp : p ∈ tk) : mOf tk gp ((gp p : Nat) : Int) = some (p : Int) := by
  unfold mOf
  cases e : tk.find? fun q => decide (((gp q : Nat) : Int) = ((gp p : Nat) : Int)) with
  | none =>
    have := List.find?_eq_none.1 e p hp
    simp at this
  | some q =>
    have h1 := List.find?_some e
    have h2 := List.mem_of_find?_eq_some e
    have h1 : ((gp q : Nat) : Int) = (gp p : Nat) := by simpa using h1
    rw [gp_inj hn h2 hp (by omega)]; rfl
theorem mOf_eq {tk : List Nat} {gp : Nat → Nat} (hn : (tk.map gp).Nodup) {m : Int → Option Int} (h1 : ∀ p ∈ tk, m ((gp p : Nat) : Int) = some (p : Int)) (h2 : ∀ z, (∀ p ∈ tk, ¬ ((gp p : Nat) : Int) = z) → m z = none) : m = mOf tk gp := by
  funext z
  by_cases h : ∃ p ∈ tk, ((gp p : Nat) : Int) = z
  · obtain ⟨p, hp, rfl⟩ := h
    rw [mOf_some hn hp, h1 p hp]
  · have h' : ∀ p ∈ tk, ¬ ((gp p : Nat) : Int) = z := fun p hp e => h ⟨p, hp, e⟩
    rw [h2 z h']
    unfold mOf
    symm
    rw [Option.map_eq_none_iff, List.find?_eq_none]
    intro p hp e
    exact h' p hp (by simpa using e)
theorem map_awayN {tk : List Nat} {gp : Nat → Nat} (hn : (tk.map gp).Nodup) {p : Nat} (hp : p ∈ tk) : (awayN tk p).map gp = awayN (tk.map gp) (gp p) := by
  unfold awayN
  rw [List.filter_map]
  congr 1
  apply List.filter_congr
  intro q hq
  by_cases e : q = p
  · subst e; simp
  · have : ¬ gp q = gp p := fun e2 => e (gp_inj hn hq hp e2)
    simp [e, this]

/-- What may be read of the head. -/
structure GH (w : World) (b gr gpb mb out : Nat) (FG : Nat → Prop) : Prop where
  c5 : w.cell? ⟨b, 5, none⟩ = some (.pointer (some ⟨gr, 0, none⟩))
  c6 : w.cell? ⟨b, 6, none⟩ = some (.slice (some ⟨gpb, 0, none⟩) out out)
  c7 : w.cell? ⟨b, 7, none⟩ = some (.map (some mb))
  lb : b < w.heap.size
  n1 : ¬ FG b
  n2 : ¬ b = gpb
  n3 : ¬ b = mb
theorem GH.fr {w w' : World} {b gr gpb mb out : Nat} {FG G : Nat → Prop} (h : GH w b gr gpb mb out FG) (f : Fr G w w') (hb : ¬ G b) : GH w' b gr gpb mb out FG :=
  ⟨(f.cell (p := ⟨b, 5, none⟩) h.lb hb).trans h.c5, (f.cell (p := ⟨b, 6, none⟩) h.lb hb).trans h.c6, (f.cell (p := ⟨b, 7, none⟩) h.lb hb).trans h.c7, Nat.lt_of_lt_of_le h.lb f.size, h.n1, h.n2, h.n3⟩
/-- The blocks that may change. -/
def FGm (FG : Nat → Prop) (gpb mb : Nat) : Nat → Prop := fun i => FG i ∨ i = gpb ∨ i = mb

section
variable {w w' : World} {b gr gpb mb out : Nat} {tk sp : List Nat} {gp : Nat → Nat} {gh : List Nat} {FG : Nat → Prop}
end
end Go.Proofs.Ytoainbdkhhblbaa

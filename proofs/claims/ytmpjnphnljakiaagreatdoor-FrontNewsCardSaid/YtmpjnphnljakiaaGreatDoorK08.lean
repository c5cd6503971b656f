/-
  Package hatcheckref04: Without, WithoutPage, First, SamePages.
-/
import Derived.Test.YtmpjnphnljakiaaGreatDoorRows
import Derived.Test.YtmpjnphnljakiaaGreatDoorK02
import Derived.Handy
import Derived.Lib.Hide
import Derived.Deep.LoopGhost
import Derived.WalkSpells
namespace Go.Proofs.YtmpjnphnljakiaaGreatDoor
open Go.RowKit
set_option linter.unusedVariables false

theorem info_parts' {P : Program} {e : TypeId} {z : Value} {s b : Nat} (h : (P.info? e).map (fun i => (i.zero, i.size, i.bytes)) = some (some z, s, b)) : ∃ i, P.info? e = some i ∧ i.zero = some z ∧ i.size = s ∧ i.bytes = b := by
  cases hi : P.info? e with
  | none => rw [hi] at h; cases h
  | some i =>
    rw [hi] at h
    simp only [Option.map_some, Option.some.injEq, Prod.mk.injEq] at h
    exact ⟨i, rfl, h⟩
theorem EI.mk' {P : Program} {t e : TypeId} {z : Value} {s b : Nat} (ht : P.underlying t = some (.slice e)) (h : (P.info? e).map (fun i => (i.zero, i.size, i.bytes)) = some (some z, s, b)) (hz : z.cells.size = s) (hs : 0 < s) : EI P t e s b := by
  obtain ⟨i, h1, h2, h3, h4⟩ := info_parts' h
  exact ⟨ht, i, z, h1, h2, h3, h4, hz, hs⟩
theorem EIi : EI Tryz.prog 38 3 1 8 := EI.mk' (z := .int .i64 0) Tryz.underlying38 (by kernel_rfl) rfl (by decide)
theorem EIu : EI Tryz.prog 49 44 1 4 := EI.mk' (z := .int .u32 0) Tryz.underlying49 (by kernel_rfl) rfl (by decide)

/-- A list without a number. -/
def awayN (l : List Nat) (x : Nat) : List Nat := l.filter fun y => !decide (y = x)
theorem awayN_snoc (x : Nat) (l : List Nat) (y : Nat) : awayN (l ++ [y]) x = if y = x then awayN l x else awayN l x ++ [y] := by
  unfold awayN
  rw [List.filter_append]
  split
  · rename_i h; simp [h]
  · rename_i h; simp [h]
theorem awayN_le (x : Nat) (l : List Nat) : (awayN l x).length ≤ l.length := List.length_filter_le _ _
theorem OwK.snoc {k : IntKind} {base : Nat} {e : TypeId} {w : World} {v : Value} {l : List Nat} {y : Nat} (h : w.ownsRow base e 1 v (l.length + 1) ((l.map fun (x : Nat) => Value.int k (x : Int)) ++ [Value.int k (y : Int)])) : OwK k base e w v (l ++ [y]) := by
  unfold OwK; simpa using h
theorem OwK.len {k : IntKind} {base : Nat} {e : TypeId} {w : World} {v : Value} {l : List Nat} (h : OwK k base e w v l) : l.length ≤ maxLen := SlC.len h.sl

/-- The first one that may go, as a number. -/
def fstI (o : Option Nat) : Int := match o with | none => -1 | some k => k

theorem away_perm {a b : List Nat} {x : Nat} (h : (x :: a).Perm b) (hn : b.Nodup) : a.Perm (awayN b x) ∧ (awayN b x).Nodup := by
  have hn' : (x :: a).Nodup := h.nodup_iff.2 hn
  have hx := (List.nodup_cons.1 hn').1
  have h2 := h.filter (fun y => !decide (y = x))
  have e : (x :: a).filter (fun y => !decide (y = x)) = a := by
    rw [List.filter_cons]
    simp only [decide_true, Bool.not_true, Bool.false_eq_true, if_false]
    rw [List.filter_eq_self]
    intro y hy
    have : ¬ y = x := fun e => hx (e ▸ hy)
    simp [this]
  rw [e] at h2
  exact ⟨h2, hn.filter _⟩

end Go.Proofs.YtmpjnphnljakiaaGreatDoor

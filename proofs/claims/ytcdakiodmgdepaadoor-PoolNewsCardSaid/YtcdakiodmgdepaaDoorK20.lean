/-
  disk's accesses as keys of a map.
-/
import Derived.Test.YtcdakiodmgdepaaDoorK19
import Derived.Test.YtcdakiodmgdepaaDoorK08
import Derived.DeepKeys4
namespace Go.Proofs.YtcdakiodmgdepaaDoor
open Go.RowKit Go.Maps
set_option linter.unusedVariables false

def isU32 (x : Nat) : Prop := x < 4294967296
theorem isU32.wf {x : Nat} (h : isU32 x) : (Lit.int .u32 (x : Int)).wf = true := WalkArith.wf_u32 ⟨by omega, by unfold isU32 at h; omega⟩
abbrev Acc := Nat × Bool
def okA (k : Acc) : Prop := isU32 k.1
def kvA (k : Acc) : Value := .agg #[.int .u32 k.1, .bool k.2]
def klA (k : Acc) : Lit := .string (keyBytes [.int .u32 (k.1 : Int), .bool k.2])
theorem laidOutA : laidOutB Tryd.prog = true := by kernel_rfl
theorem lawA : Keyed Tryd.prog 87 := Keyed.of_law (deep_law_laid laidOutA (m := 2) (by omega) (of_decide_eq_true (by kernel_rfl)) (by kernel_rfl) (by kernel_rfl))
theorem cellsU32 : Tryd.prog.cellsOf 33 = 1 := by kernel_rfl
theorem cellsB : Tryd.prog.cellsOf 4 = 1 := by kernel_rfl
theorem cellsAc : Tryd.prog.cellsOf 87 = 2 := by kernel_rfl
theorem litsA (d : Nat) (x : Nat) (b : Bool) (hw : (Lit.int .u32 (x : Int)).wf = true) : Tryd.prog.keyLits (d + 2) 87 [.int .u32 (x : Int), .bool b] = some [.int .u32 (x : Int), .bool b] := by
  have e1 : Tryd.prog.keyLits (d + 1) 33 [.int .u32 (x : Int)] = some [.int .u32 (x : Int)] := by
    unfold Program.keyLits; rw [Tryd.underlying33]; simp [hw]
  have e2 : Tryd.prog.keyLits (d + 1) 4 [.bool b] = some [.bool b] := by
    unfold Program.keyLits; rw [Tryd.underlying4]
  unfold Program.keyLits
  rw [Tryd.underlying87]
  simp [cellsAc, cellsU32, cellsB, e1, e2]
theorem keyA (k : Acc) (h : okA k) : keyOf Tryd.prog 87 (kvA k) = some (klA k) := by
  obtain ⟨x, b⟩ := k
  have hw : (Lit.int .u32 (x : Int)).wf = true := isU32.wf h
  have h1 : Tryd.prog.keyType 87 = true := by kernel_rfl
  have h2 : (Value.agg #[.int .u32 (x : Int), .bool b]).formed Tryd.prog 87 = true := by
    simp [Value.formed, Tryd.underlying87, cellsAc]
  obtain ⟨d, hd⟩ : ∃ d, Tryd.prog.types.size + 1 = d + 2 := ⟨Tryd.prog.types.size - 1, by have : 2 ≤ Tryd.prog.types.size := of_decide_eq_true (by kernel_rfl); omega⟩
  unfold keyOf kvA klA
  rw [Tryd.underlying87]
  simp only [h1, h2, Bool.and_true, if_true, hd]
  show (Tryd.prog.keyLits (d + 2) 87 [.int .u32 (x : Int), .bool b]).map _ = _
  rw [litsA d x b hw]; rfl
theorem injA (x y : Acc) (hx : okA x) (hy : okA y) (e : klA x = klA y) : x = y := by
  have h1 := keyA x hx
  have h2 := keyA y hy
  rw [← e] at h2
  have := lawA.inj h1 h2
  obtain ⟨a, b⟩ := x
  obtain ⟨c, d⟩ := y
  simp [kvA] at this
  have h3 : a = c := by omega
  rw [h3, this.2]
theorem MKA : MK Tryd.prog 47 87 3 .i64 okA kvA klA := ⟨Tryd.underlying47, Tryd.underlying3, fun w => by kernel_rfl, lawA, keyA, injA, fun _ => trivial⟩
end Go.Proofs.YtcdakiodmgdepaaDoor

/-
  disk's accesses as keys of a map.
-/
import Derived.Test.YtnideelidfpicaaGreatDoorK19
import Derived.Test.YtnideelidfpicaaGreatDoorK08
import Derived.DeepKeys4
namespace Go.Proofs.YtnideelidfpicaaGreatDoor
open Go.RowKit Go.Maps
set_option linter.unusedVariables false

def isU32 (x : Nat) : Prop := x < 4294967296
theorem isU32.wf {x : Nat} (h : isU32 x) : (Lit.int .u32 (x : Int)).wf = true := WalkArith.wf_u32 ⟨by omega, by unfold isU32 at h; omega⟩
abbrev Acc := Nat × Bool
def okA (k : Acc) : Prop := isU32 k.1
def kvA (k : Acc) : Value := .agg #[.int .u32 k.1, .bool k.2]
def klA (k : Acc) : Lit := .string (keyBytes [.int .u32 (k.1 : Int), .bool k.2])
theorem laidOutA : laidOutB Tryz.prog = true := by kernel_rfl
theorem lawA : Keyed Tryz.prog 111 := Keyed.of_law (deep_law_laid laidOutA (m := 2) (by omega) (of_decide_eq_true (by kernel_rfl)) (by kernel_rfl) (by kernel_rfl))
theorem cellsU32 : Tryz.prog.cellsOf 43 = 1 := by kernel_rfl
theorem cellsB : Tryz.prog.cellsOf 4 = 1 := by kernel_rfl
theorem cellsAc : Tryz.prog.cellsOf 111 = 2 := by kernel_rfl
theorem litsA (d : Nat) (x : Nat) (b : Bool) (hw : (Lit.int .u32 (x : Int)).wf = true) : Tryz.prog.keyLits (d + 2) 111 [.int .u32 (x : Int), .bool b] = some [.int .u32 (x : Int), .bool b] := by
  have e1 : Tryz.prog.keyLits (d + 1) 43 [.int .u32 (x : Int)] = some [.int .u32 (x : Int)] := by
    unfold Program.keyLits; rw [Tryz.underlying43]; simp [hw]
  have e2 : Tryz.prog.keyLits (d + 1) 4 [.bool b] = some [.bool b] := by
    unfold Program.keyLits; rw [Tryz.underlying4]
  unfold Program.keyLits
  rw [Tryz.underlying111]
  simp [cellsAc, cellsU32, cellsB, e1, e2]
theorem keyA (k : Acc) (h : okA k) : keyOf Tryz.prog 111 (kvA k) = some (klA k) := by
  obtain ⟨x, b⟩ := k
  have hw : (Lit.int .u32 (x : Int)).wf = true := isU32.wf h
  have h1 : Tryz.prog.keyType 111 = true := by kernel_rfl
  have h2 : (Value.agg #[.int .u32 (x : Int), .bool b]).formed Tryz.prog 111 = true := by
    simp [Value.formed, Tryz.underlying111, cellsAc]
  obtain ⟨d, hd⟩ : ∃ d, Tryz.prog.types.size + 1 = d + 2 := ⟨Tryz.prog.types.size - 1, by have : 2 ≤ Tryz.prog.types.size := of_decide_eq_true (by kernel_rfl); omega⟩
  unfold keyOf kvA klA
  rw [Tryz.underlying111]
  simp only [h1, h2, Bool.and_true, if_true, hd]
  show (Tryz.prog.keyLits (d + 2) 111 [.int .u32 (x : Int), .bool b]).map _ = _
  rw [litsA d x b hw]; rfl
theorem injA (x y : Acc) (hx : okA x) (hy : okA y) (e : klA x = klA y) : x = y := by
  have h1 := keyA x hx
  have h2 := keyA y hy
  rw [← e] at h2
  have := lawA.inj h1 h2
  obtain ⟨a, b⟩ := x
  obtain ⟨c, d⟩ := y
  simp [kvA] at this
  have h3 : a = c := by omega
  rw [h3, this.2]
theorem MKA : MK Tryz.prog 55 111 3 .i64 okA kvA klA := ⟨Tryz.underlying55, Tryz.underlying3, fun w => by kernel_rfl, lawA, keyA, injA, fun _ => trivial⟩
end Go.Proofs.YtnideelidfpicaaGreatDoor

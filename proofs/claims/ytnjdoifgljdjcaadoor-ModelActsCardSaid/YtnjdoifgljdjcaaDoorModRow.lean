/-
  What the rows of layer 10 have in common: the library's table, from the row's condition; a world that meets it; an Op by value.
-/
import Derived.Test.YtnjdoifgljdjcaaDoorModG
import Derived.Test.YtnjdoifgljdjcaaDoorTie
import Derived.ProofKit
import Derived.OpenShut
import Derived.ChangeOld
import Derived.Below
import Derived.LaidLaws
import Derived.Handed
import Derived.Lib.LaidTab
import Derived.SevenTiedAt
namespace Go.Proofs.YtnjdoifgljdjcaaDoor
open Go.ChangeShapes Go.WideShapes Go.ChangeAt Go.RowKit
set_option linter.unusedVariables false

/-- The table's numbers. -/
def tabZ : List Int := Lib.deBruijn64tab.map fun (n : Nat) => (n : Int)
theorem tabG : Tryd.prog.globalNamed "math/bits.deBruijn64tab" = some 0 := by kernel_rfl
theorem tabT_of {W : World} (h : laidMet Tryd.prog [("math/bits.deBruijn64tab", Lib.tabData .u8 tabZ)] W) : TabT W := by
  have h1 := Lib.tabIs_of_head (t := 75) (e := 5) (n := 64) tabG (by kernel_rfl) Tryd.underlying75 Tryd.underlying5 (by kernel_rfl) (by kernel_rfl) h
  refine ⟨fun j hj => ?_⟩
  have h2 := h1.cell tabG j (by simpa [tabZ] using hj)
  rw [h2]
  congr 2
  unfold tabZ
  rw [List.getD_eq_getElem?_getD, List.getElem?_map, List.getD_eq_getElem?_getD]
  have : j < Lib.deBruijn64tab.length := hj
  simp [List.getElem?_eq_getElem this]
/-- A world that meets the condition: the settled one, the table laid. -/
noncomputable def tabWorld (os : Os) : World :=
  let w0 := World.holding Tryd.prog os ⟨#[], #[], []⟩
  { w0 with heap := w0.heap.modify 0 fun
      | .cells _ t frozen => .cells (tabZ.map fun z => Value.int .u8 z).toArray t frozen
      | o => o }
theorem tab_met (os : Os) (args : Array Value) : laidMet Tryd.prog [("math/bits.deBruijn64tab", Lib.tabData .u8 tabZ)] ((tabWorld os).forCall (fun _ _ => 0) ⟨#[], args, []⟩).memory :=
  laidMet_of_run' 8 (by kernel_rfl) (by kernel_rfl)
theorem ownM : ownKnob Tryd.prog.godebug = none := by kernel_rfl
theorem laidOutM : laidOutB Tryd.prog = true := by kernel_rfl
theorem list3m {α : Type} (l : List α) (h : (⟨l⟩ : Array α).size = 3) : ∃ a b c, l = [a, b, c] := by
  match l, h with
  | [a, b, c], _ => exact ⟨a, b, c, rfl⟩
theorem cellsOp : Tryd.prog.cellsOf 43 = 3 := by kernel_rfl
theorem cellsIm : Tryd.prog.cellsOf 3 = 1 := by kernel_rfl
theorem cellsUm : Tryd.prog.cellsOf 33 = 1 := by kernel_rfl
theorem cellsVm : Tryd.prog.cellsOf 23 = 1 := by kernel_rfl
theorem trod3m {H : Type} {enc : TypeId × Value → H} {P : Program} {w : World} {base : Nat} {spare : Nat → Bool} {held : Bool} {t : TypeId} {f0 f1 f2 : Field} {fuel : Nat} {cs : List Value} {x : DataW H × List MemPlace} (ht : P.underlying t = some (.struct #[f0, f1, f2])) (h : DataW.trod enc P w base spare held fuel t cs = some x) :
    ∃ y0 y1 y2 n, x = (.agg [y0.1, y1.1, y2.1], y0.2 ++ (y1.2 ++ y2.2)) ∧ DataW.trod enc P w base spare held n f0.type ((cs.drop f0.offset).take (P.cellsOf f0.type)) = some y0 ∧
      DataW.trod enc P w base spare held n f1.type ((cs.drop f1.offset).take (P.cellsOf f1.type)) = some y1 ∧ DataW.trod enc P w base spare held n f2.type ((cs.drop f2.offset).take (P.cellsOf f2.type)) = some y2 := by
  obtain ⟨xs, n, _, rfl, hl, hlen, hf⟩ := DataW.trod_struct ht h
  match xs, hlen with
  | [y0, y1, y2], _ => exact ⟨y0, y1, y2, n, by simp, by simpa using hf 0 f0 rfl, by simpa using hf 1 f1 rfl, by simpa using hf 2 f2 rfl⟩
/-- An Op by value. -/
theorem openOp {H : Type} {enc : TypeId × Value → H} {W : World} {base : Nat} {sp : Nat → Bool} {held : Bool} {v : Value} {d : DataW H} {p : List MemPlace} (hval : Value.okWide Tryd.prog W .any base 43 v) (h : DataW.Trod enc Tryd.prog W 0 sp held 43 v d p) :
    ∃ k id x : Int, v = .agg #[.int .i64 k, .int .u32 id, .int .u64 x] ∧ d = .agg [.lit (.int .i64 k), .lit (.int .u32 id), .lit (.int .u64 x)] ∧ p = [] ∧ (Lit.int .i64 k).wf = true ∧ (Lit.int .u32 id).wf = true ∧ (Lit.int .u64 x).wf = true := by
  obtain ⟨cs, rfl, hsz, _⟩ : ∃ cs, v = .agg cs ∧ cs.size = Tryd.prog.cellsOf 43 ∧ Row.okWide Tryd.prog W .any base 43 cs := by
    simpa [Value.okWide, Tryd.underlying43] using hval
  rw [cellsOp] at hsz
  obtain ⟨l⟩ := cs
  obtain ⟨c0, c1, c2, rfl⟩ := list3m l hsz
  obtain ⟨fuel, hf⟩ := h
  obtain ⟨y0, y1, y2, n, hx, t0, t1, t2⟩ := trod3m Tryd.underlying43 hf
  simp only [cellsIm, cellsUm, cellsVm, Value.cells, List.drop_zero, List.drop_succ_cons, List.take_succ_cons, List.take_zero] at t0 t1 t2
  obtain ⟨k, e0, r0, w0⟩ := DataW.trod_int Tryd.underlying3 t0
  obtain ⟨id, e1, r1, w1⟩ := DataW.trod_int Tryd.underlying33 t1
  obtain ⟨x, e2, r2, w2⟩ := DataW.trod_int Tryd.underlying23 t2
  simp at e0 e1 e2
  subst e0 e1 e2
  simp only [r0, r1, r2, List.append_nil, Prod.mk.injEq] at hx
  obtain ⟨rfl, rfl⟩ := hx
  exact ⟨k, id, x, rfl, rfl, rfl, w0, w1, w2⟩
theorem shutOp {H : Type} {enc : TypeId × Value → H} (W : World) (base : Nat) (sp : Nat → Bool) (held : Bool) {k id x : Int} (w0 : (Lit.int .i64 k).wf = true) (w1 : (Lit.int .u32 id).wf = true) (w2 : (Lit.int .u64 x).wf = true) :
    DataW.Trod enc Tryd.prog W base sp held 43 (.agg #[.int .i64 k, .int .u32 id, .int .u64 x]) (.agg [.lit (.int .i64 k), .lit (.int .u32 id), .lit (.int .u64 x)]) [] :=
  ⟨2, by simp [DataW.trod, Value.cells, Tryd.underlying43, Tryd.underlying3, Tryd.underlying33, Tryd.underlying23, cellsOp, cellsIm, cellsUm, cellsVm, w0, w1, w2, List.range]⟩
end Go.Proofs.YtnjdoifgljdjcaaDoor

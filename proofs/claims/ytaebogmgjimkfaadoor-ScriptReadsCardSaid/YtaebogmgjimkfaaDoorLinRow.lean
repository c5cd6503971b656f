/-
  What the rows of layer 13 have in common: what is read of the variables that they list; a world that meets it.
-/
import Derived.Test.YtaebogmgjimkfaaDoorLinF
import Derived.Test.YtaebogmgjimkfaaDoorTie
import Derived.ProofKit
import Derived.OpenShut
import Derived.ChangeOld
import Derived.Below
import Derived.ChangeMaps5
import Derived.LaidLaws
import Derived.HandedShaped
import Derived.Lib.LaidTab
import Derived.Stop.LaidErr
import Derived.SevenTiedAt
import Derived.Deep.DeepLaidRun
namespace Go.Proofs.YtaebogmgjimkfaaDoor
open Go.ChangeShapes Go.WideShapes Go.ChangeAt Go.RowKit
set_option linter.unusedVariables false
set_option linter.unusedSimpArgs false
set_option maxRecDepth 100000
/-- The wrap that hands on both what a row lists and the world's shape. -/
theorem handed_both {H : Type} {enc : TypeId × Value → H} {a : Assume} {C : Checked} {os : Os} {f : FuncId} {fn : Func} {s : ChangeSpec} {conds : List PathCond} {apart fresh handsOn again : Bool} {X : World → Array Value → Prop}
    (hX : ∀ (w w' : World) (args : Array Value), w.heap = w'.heap → X w args → X w' args) (own : ownKnob C.prog.godebug = none) (started : os.Started) (noInit : C.prog.inits.idxOf? f = none) (hfn : C.prog.funcs[f]? = some fn)
    (witness : ∃ (w : World) (tape : Tape) (i : Input), w.os = os ∧ (w.forCall tape i).Shaped C.prog ∧ i.vars = [] ∧ Input.okWide C.prog (w.forCall tape i) .any w.heap.size f i ∧
      ((s.pre enc C.prog fn conds apart (w.forCall tape i).memory i.args ∧ X (w.forCall tape i).memory i.args) ∧ sizedMet enc C.prog fn (OpenSpec.ofChange s) apart (w.forCall tape i).memory i.args) ∧ a.holds C.prog (lone (Frame.enter C.prog f i.args .normal) [] (w.forCall tape i)))
    (contract : ∀ (W : World) (base : Nat) (args : Array Value) (ds gs : List (DataW H)) (before : List MemPlace),
      (∀ (j : Nat) t v, fn.params[j]? = some t → args[j]? = some v → Value.okWide C.prog W .any base t v) →
      DataW.Whole enc C.prog fn.params.toList s.vars apart W args.toList ds gs before → X W args → W.ShapedOpen C.prog →
      Calls C.prog f args W fun e W' => ∃ v, e = .returned v ∧ s.post enc C.prog fn apart fresh handsOn again W args v W') :
    ReturnsInHanded a C os f .any (fun w args => (s.pre enc C.prog fn conds apart w args ∧ X w args) ∧ sizedMet enc C.prog fn (OpenSpec.ofChange s) apart w args) (s.post enc C.prog fn apart fresh handsOn again) := by
  refine returnsInHanded_of_calls own started noInit witness (fun w tape i _ hsh _ hok hpre _ => ?_)
  obtain ⟨_, _, _, fn', hfn', _, _, _, _, hval⟩ := hok
  obtain rfl : fn' = fn := Option.some.inj (hfn'.symm.trans hfn)
  obtain ⟨⟨⟨ds, gs, before, hw, _⟩, hx⟩, _⟩ := hpre
  refine (contract (w.forCall tape i) w.heap.size i.args ds gs before hval (DataW.Whole.of_heap (w' := w.forCall tape i) (by rfl) hw) (hX _ _ _ (by rfl) hx) hsh).mono fun e W' ⟨v, he, hp⟩ => ?_
  subst he
  exact ChangeSpec.post_blind hp
theorem ownL : ownKnob Tryd.prog.godebug = none := by kernel_rfl
theorem laidOutL : laidOutB Tryd.prog = true := by kernel_rfl
theorem powV {r : List (String × DataW Unit)} {W : World} (h : laidMet Tryd.prog (("internal/strconv.uint64pow10", Rows.laid_internal_strconv_uint64pow10) :: r) W) : TabV W 5 Lib.pow10Tab :=
  TabV.of (P := Tryd.prog) (name := "internal/strconv.uint64pow10") (by kernel_rfl) (Lib.tabIs_of_head (g := 5) (t := 105) (e := 36) (n := 20) (by kernel_rfl) (by kernel_rfl) Tryd.underlying105 Tryd.underlying36 (by kernel_rfl) (by kernel_rfl) h)
theorem rowEs (u : TypeId) (h : Tryd.prog.typeName? 3 u = some "*errors.errorString") : u = 110 :=
  typeName_ptr_named (nm := "errors.errorString") (by rw [show "*" ++ "errors.errorString" = "*errors.errorString" by decide]; kernel_rfl) (by kernel_rfl) (by decide) u (by rw [show "*" ++ "errors.errorString" = "*errors.errorString" by decide]; exact h)
theorem errV {n : String} {g : Nat} {text : List UInt8} {r : List (String × DataW Unit)} {W : World} (hg : Tryd.prog.globalNamed n = some g) (ht : (Tryd.prog.globals[g]?).map (·.type) = some 77) (h : laidMet Tryd.prog ((n, .iface "*errors.errorString" (.ptr (.agg [.lit (.string text)]))) :: r) W) : ∃ te pe, W.cell? ⟨g, 0, none⟩ = some (.iface te pe) := by
  obtain ⟨a, s, hv, _⟩ := laid_sentinel (ti := 77) (tp := 110) (te := 112) (ts := 9) h hg ht Tryd.underlying77 rowEs Tryd.underlying110 Tryd.underlying112 rfl rfl Tryd.underlying9 (by kernel_rfl) (by kernel_rfl)
  have := World.var?_cell hg hv 0
  exact ⟨_, _, by simpa using this⟩
theorem list3m {α : Type} (l : List α) (h : (⟨l⟩ : Array α).size = 3) : ∃ a b c, l = [a, b, c] := by
  match l, h with
  | [a, b, c], _ => exact ⟨a, b, c, rfl⟩
theorem cellsOp : Tryd.prog.cellsOf 40 = 3 := by kernel_rfl
theorem cellsAn : Tryd.prog.cellsOf 43 = 3 := by kernel_rfl
theorem cellsIm : Tryd.prog.cellsOf 3 = 1 := by kernel_rfl
theorem cellsUm : Tryd.prog.cellsOf 35 = 1 := by kernel_rfl
theorem cellsVm : Tryd.prog.cellsOf 36 = 1 := by kernel_rfl
theorem trod3m {H : Type} {enc : TypeId × Value → H} {P : Program} {w : World} {base : Nat} {spare : Nat → Bool} {held : Bool} {t : TypeId} {f0 f1 f2 : Field} {fuel : Nat} {cs : List Value} {x : DataW H × List MemPlace} (ht : P.underlying t = some (.struct #[f0, f1, f2])) (h : DataW.trod enc P w base spare held fuel t cs = some x) :
    ∃ y0 y1 y2 n, x = (.agg [y0.1, y1.1, y2.1], y0.2 ++ (y1.2 ++ y2.2)) ∧ DataW.trod enc P w base spare held n f0.type ((cs.drop f0.offset).take (P.cellsOf f0.type)) = some y0 ∧
      DataW.trod enc P w base spare held n f1.type ((cs.drop f1.offset).take (P.cellsOf f1.type)) = some y1 ∧ DataW.trod enc P w base spare held n f2.type ((cs.drop f2.offset).take (P.cellsOf f2.type)) = some y2 := by
  obtain ⟨xs, n, _, rfl, hl, hlen, hf⟩ := DataW.trod_struct ht h
  match xs, hlen with
  | [y0, y1, y2], _ => exact ⟨y0, y1, y2, n, by simp, by simpa using hf 0 f0 rfl, by simpa using hf 1 f1 rfl, by simpa using hf 2 f2 rfl⟩
theorem cell3 {cs : List Value} {n : Nat} {a b c : Value} (h : (cs.drop (n * 3)).take 3 = [a, b, c]) : cs[n * 3]? = some a ∧ cs[n * 3 + 1]? = some b ∧ cs[n * 3 + 2]? = some c := by
  have h0 : ((cs.drop (n * 3)).take 3)[0]? = some a := by rw [h]; rfl
  have h1 : ((cs.drop (n * 3)).take 3)[1]? = some b := by rw [h]; rfl
  have h2 : ((cs.drop (n * 3)).take 3)[2]? = some c := by rw [h]; rfl
  simp [List.getElem?_take] at h0 h1 h2
  exact ⟨h0, h1, h2⟩
theorem phrase1 {W : World} {fuel : Nat} {cs : List Value} {sp : Nat → Bool} {held : Bool} {s : List UInt8} {a b : Bool} {q : List MemPlace} {enc : TypeId × Value → Unit} (h : DataW.trod enc Tryd.prog W 0 sp held fuel 68 cs = some (.agg [.lit (.string s), .lit (.bool a), .lit (.bool b)], q)) : cs = [.string ⟨s.toArray⟩, .bool a, .bool b] := by
  have hl3 : cs.length = 3 := by
    obtain ⟨_, _, _, _, hlen, _⟩ := DataW.trod_struct Tryd.underlying68 h
    rw [hlen]; kernel_rfl
  obtain ⟨y0, y1, y2, n, hx, t0, t1, t2⟩ := trod3m Tryd.underlying68 h
  match cs, hl3 with
  | [c0, c1, c2], _ =>
    simp only [show Tryd.prog.cellsOf 9 = 1 by kernel_rfl, show Tryd.prog.cellsOf 4 = 1 by kernel_rfl, List.drop_zero, List.drop_succ_cons, List.take_succ_cons, List.take_zero] at t0 t1 t2
    obtain ⟨s0, e0, r0, _⟩ := DataW.trod_string Tryd.underlying9 t0
    obtain ⟨b1, e1, r1⟩ := DataW.trod_bool Tryd.underlying4 t1
    obtain ⟨b2, e2, r2⟩ := DataW.trod_bool Tryd.underlying4 t2
    simp at e0 e1 e2
    subst e0 e1 e2
    simp [r0, r1, r2] at hx
    obtain ⟨⟨rfl, rfl, rfl⟩, _⟩ := hx
    simp
theorem phrG : Tryd.prog.globalNamed "hatcheck/script.phrases" = some 0 := by kernel_rfl
theorem phr_of {r : List (String × DataW Unit)} {W : World} (h : laidMet Tryd.prog (("hatcheck/script.phrases", Rows.laid_hatcheck_script_phrases) :: r) W) : Phr W := by
  obtain ⟨ps, ⟨g', t', cs, fuel, p, q, hg', ht', hvar, hd, _, _⟩, _⟩ := h
  obtain rfl := Option.some.inj (phrG.symm.trans hg')
  obtain rfl := Option.some.inj ((show (Tryd.prog.globals[0]?).map (·.type) = some 69 by kernel_rfl).symm.trans ht')
  obtain ⟨xs, m, _, hx, _, hl, hi⟩ := DataW.trod_array Tryd.underlying69 hd
  have hag : Rows.laid_hatcheck_script_phrases = DataW.agg (xs.map (·.1)) := (Prod.mk.inj hx).1
  have one : ∀ j : Nat, j < 8 → cs.toList[j * 3]? = some (.string (nameZ j)) ∧ cs.toList[j * 3 + 1]? = some (.bool (idZ j)) ∧ cs.toList[j * 3 + 2]? = some (.bool (vZ j)) := by
    intro j hj
    have hj' := hi j hj
    rw [show Tryd.prog.cellsOf 68 = 3 by kernel_rfl] at hj'
    unfold Rows.laid_hatcheck_script_phrases at hag
    match xs, hl with
    | [x0, x1, x2, x3, x4, x5, x6, x7], _ =>
      simp at hag
      obtain ⟨e0, e1, e2, e3, e4, e5, e6, e7⟩ := hag
      have hc : j = 0 ∨ j = 1 ∨ j = 2 ∨ j = 3 ∨ j = 4 ∨ j = 5 ∨ j = 6 ∨ j = 7 := by omega
      obtain ⟨y0, z0⟩ := x0
      obtain ⟨y1, z1⟩ := x1
      obtain ⟨y2, z2⟩ := x2
      obtain ⟨y3, z3⟩ := x3
      obtain ⟨y4, z4⟩ := x4
      obtain ⟨y5, z5⟩ := x5
      obtain ⟨y6, z6⟩ := x6
      obtain ⟨y7, z7⟩ := x7
      simp only at e0 e1 e2 e3 e4 e5 e6 e7
      subst e0 e1 e2 e3 e4 e5 e6 e7
      rcases hc with rfl | rfl | rfl | rfl | rfl | rfl | rfl | rfl
      all_goals exact cell3 (phrase1 hj')
  have cell : ∀ i : Nat, W.cell? ⟨0, i, none⟩ = cs.toList[i]? := fun i => by
    rw [World.var?_cell phrG hvar i]; simp
  exact ⟨fun j hj => (cell _).trans (one j hj).1, fun j hj => (cell _).trans (one j hj).2.1, fun j hj => (cell _).trans (one j hj).2.2⟩
/-- A world that meets the conditions. -/
noncomputable def lowL : Nat := (World.holding Tryd.prog default ⟨#[], #[], []⟩).heap.size
abbrev rangeS : ByteArray := { data := #[118, 97, 108, 117, 101, 32, 111, 117, 116, 32, 111, 102, 32, 114, 97, 110, 103, 101] }
abbrev syntS : ByteArray := { data := #[105, 110, 118, 97, 108, 105, 100, 32, 115, 121, 110, 116, 97, 120] }
noncomputable def layC (w : World) (g : Nat) (cs : Array Value) : World :=
  { w with heap := w.heap.modify g fun
      | .cells _ t frozen => .cells cs t frozen
      | o => o }
def numV (k : IntKind) (l : List Nat) : Array Value := (l.map fun (n : Nat) => Value.int k n).toArray
def litV : DataW Unit → List Value
  | .lit (.int k n) => [.int k n]
  | .lit (.string s) => [.string ⟨s.toArray⟩]
  | .lit (.bool b) => [.bool b]
  | _ => []
def litVs : DataW Unit → List Value
  | .agg l => l.flatMap litV
  | _ => []
def litVss : DataW Unit → List Value
  | .agg l => l.flatMap litVs
  | _ => []
noncomputable def laidW (os : Os) : World :=
  let w0 := World.holding Tryd.prog os ⟨#[.cells #[.string rangeS] 112, .cells #[.string syntS] 112], #[], []⟩
  let w1 := layC w0 6 (litVs Rows.laid_math_bits_deBruijn32tab).toArray
  let w2 := layC w1 7 (litVs Rows.laid_math_bits_deBruijn64tab).toArray
  let w3 := layC w2 5 (litVs Rows.laid_internal_strconv_uint64pow10).toArray
  let w4 := layC w3 4 #[.iface 110 (.pointer (some ⟨lowL, 0, none⟩))]
  let w5 := layC w4 3 #[.iface 110 (.pointer (some ⟨lowL + 1, 0, none⟩))]
  let w6 := layC w5 1 (litVs Rows.laid_hatcheck_script_kinds).toArray
  layC w6 0 (litVss Rows.laid_hatcheck_script_phrases).toArray
/-- An Op by value. -/
theorem openOp {H : Type} {enc : TypeId × Value → H} {W : World} {base : Nat} {sp : Nat → Bool} {held : Bool} {v : Value} {d : DataW H} {p : List MemPlace} (hval : Value.okWide Tryd.prog W .any base 40 v) (h : DataW.Trod enc Tryd.prog W 0 sp held 40 v d p) :
    ∃ k id x : Int, v = .agg #[.int .i64 k, .int .u32 id, .int .u64 x] ∧ d = .agg [.lit (.int .i64 k), .lit (.int .u32 id), .lit (.int .u64 x)] ∧ p = [] ∧ (Lit.int .i64 k).wf = true ∧ (Lit.int .u32 id).wf = true ∧ (Lit.int .u64 x).wf = true := by
  obtain ⟨cs, rfl, hsz, _⟩ : ∃ cs, v = .agg cs ∧ cs.size = Tryd.prog.cellsOf 40 ∧ Row.okWide Tryd.prog W .any base 40 cs := by
    simpa [Value.okWide, Tryd.underlying40] using hval
  rw [cellsOp] at hsz
  obtain ⟨l⟩ := cs
  obtain ⟨c0, c1, c2, rfl⟩ := list3m l hsz
  obtain ⟨fuel, hf⟩ := h
  obtain ⟨y0, y1, y2, n, hx, t0, t1, t2⟩ := trod3m Tryd.underlying40 hf
  simp only [cellsIm, cellsUm, cellsVm, Value.cells, List.drop_zero, List.drop_succ_cons, List.take_succ_cons, List.take_zero] at t0 t1 t2
  obtain ⟨k, e0, r0, w0⟩ := DataW.trod_int Tryd.underlying3 t0
  obtain ⟨id, e1, r1, w1⟩ := DataW.trod_int Tryd.underlying35 t1
  obtain ⟨x, e2, r2, w2⟩ := DataW.trod_int Tryd.underlying36 t2
  simp at e0 e1 e2
  subst e0 e1 e2
  simp only [r0, r1, r2, List.append_nil, Prod.mk.injEq] at hx
  obtain ⟨rfl, rfl⟩ := hx
  exact ⟨k, id, x, rfl, rfl, rfl, w0, w1, w2⟩
theorem shutOp {H : Type} {enc : TypeId × Value → H} (W : World) (base : Nat) (sp : Nat → Bool) (held : Bool) {k id x : Int} (w0 : (Lit.int .i64 k).wf = true) (w1 : (Lit.int .u32 id).wf = true) (w2 : (Lit.int .u64 x).wf = true) :
    DataW.Trod enc Tryd.prog W base sp held 40 (.agg #[.int .i64 k, .int .u32 id, .int .u64 x]) (.agg [.lit (.int .i64 k), .lit (.int .u32 id), .lit (.int .u64 x)]) [] :=
  ⟨2, by simp [DataW.trod, Value.cells, Tryd.underlying40, Tryd.underlying3, Tryd.underlying35, Tryd.underlying36, cellsOp, cellsIm, cellsUm, cellsVm, w0, w1, w2, List.range]⟩
/-- An Answer by value. -/
theorem openAn {H : Type} {enc : TypeId × Value → H} {W : World} {base : Nat} {sp : Nat → Bool} {held : Bool} {v : Value} {d : DataW H} {p : List MemPlace} (hval : Value.okWide Tryd.prog W .any base 43 v) (h : DataW.Trod enc Tryd.prog W 0 sp held 43 v d p) :
    ∃ k id x : Int, v = .agg #[.int .i64 k, .int .u32 id, .int .u64 x] ∧ d = .agg [.lit (.int .i64 k), .lit (.int .u32 id), .lit (.int .u64 x)] ∧ p = [] ∧ (Lit.int .i64 k).wf = true ∧ (Lit.int .u32 id).wf = true ∧ (Lit.int .u64 x).wf = true := by
  obtain ⟨cs, rfl, hsz, _⟩ : ∃ cs, v = .agg cs ∧ cs.size = Tryd.prog.cellsOf 43 ∧ Row.okWide Tryd.prog W .any base 43 cs := by
    simpa [Value.okWide, Tryd.underlying43] using hval
  rw [cellsAn] at hsz
  obtain ⟨l⟩ := cs
  obtain ⟨c0, c1, c2, rfl⟩ := list3m l hsz
  obtain ⟨fuel, hf⟩ := h
  obtain ⟨y0, y1, y2, n, hx, t0, t1, t2⟩ := trod3m Tryd.underlying43 hf
  simp only [cellsIm, cellsUm, cellsVm, Value.cells, List.drop_zero, List.drop_succ_cons, List.take_succ_cons, List.take_zero] at t0 t1 t2
  obtain ⟨k, e0, r0, w0⟩ := DataW.trod_int Tryd.underlying3 t0
  obtain ⟨id, e1, r1, w1⟩ := DataW.trod_int Tryd.underlying35 t1
  obtain ⟨x, e2, r2, w2⟩ := DataW.trod_int Tryd.underlying36 t2
  simp at e0 e1 e2
  subst e0 e1 e2
  simp only [r0, r1, r2, List.append_nil, Prod.mk.injEq] at hx
  obtain ⟨rfl, rfl⟩ := hx
  exact ⟨k, id, x, rfl, rfl, rfl, w0, w1, w2⟩
theorem shutAn {H : Type} {enc : TypeId × Value → H} (W : World) (base : Nat) (sp : Nat → Bool) (held : Bool) {k id x : Int} (w0 : (Lit.int .i64 k).wf = true) (w1 : (Lit.int .u32 id).wf = true) (w2 : (Lit.int .u64 x).wf = true) :
    DataW.Trod enc Tryd.prog W base sp held 43 (.agg #[.int .i64 k, .int .u32 id, .int .u64 x]) (.agg [.lit (.int .i64 k), .lit (.int .u32 id), .lit (.int .u64 x)]) [] :=
  ⟨2, by simp [DataW.trod, Value.cells, Tryd.underlying43, Tryd.underlying3, Tryd.underlying35, Tryd.underlying36, cellsAn, cellsIm, cellsUm, cellsVm, w0, w1, w2, List.range]⟩
theorem laidL_met (os : Os) (args : Array Value) : laidMet Tryd.prog Rows.scriptLinesRow.laid ((laidW os).forCall (fun _ _ => 0) ⟨#[], args, []⟩).memory :=
  laidMet_of_run3 8 (by kernel_rfl) (by kernel_rfl) (by kernel_rfl)
end Go.Proofs.YtaebogmgjimkfaaDoor

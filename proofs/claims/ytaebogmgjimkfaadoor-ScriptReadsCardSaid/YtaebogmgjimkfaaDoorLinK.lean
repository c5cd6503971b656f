/-
  Lines, the program's: Parse.
-/
import Derived.Test.YtaebogmgjimkfaaDoorLinJ
namespace Go.Proofs.YtaebogmgjimkfaaDoor
open Go.RowKit Go.Maps Go.Sort
set_option linter.unusedVariables false
set_option linter.unusedSimpArgs false
set_option maxRecDepth 100000
/-- Results: a struct in a block, and a plain one. -/
theorem results_blk2 {P : Program} {fn : Func} {p u : Tmp} {ty : TypeId} (h : fn.results = #[.cell p ty, .tmp u]) (tmps : Array Value) (w : World) {g N : Nat} {c : Nat → Value} {d : TypeDesc} (hb : Blk w g N c) (hp : tmps.getD p undef = .pointer (some ⟨g, 0, none⟩))
    (hu : P.underlying ty = some d) (hd : (match d with | .struct _ | .array _ _ => true | _ => false) = true) (hi : (P.info? ty).map (·.size) = some N) :
    (results fn tmps).run P w = .ok (.tuple #[.agg ((List.range N).map c).toArray, tmps.getD u undef]) w := by
  obtain ⟨cs, t, hh, hs, hc⟩ := hb
  have e : cs = ((List.range N).map c).toArray := by
    apply Array.ext_getElem?
    intro i
    by_cases hi : i < N
    · rw [hc i hi]; simp [hi]
    · rw [Array.getElem?_eq_none (by omega)]; simp [hi]
  rw [← e]
  have hp' : tmps[p]?.getD undef = .pointer (some ⟨g, 0, none⟩) := by simpa using hp
  simp [results, h, hp', asAddr, run_loadVar_row w g t ty cs (0, 0) d hh hu hd (by rw [hi, hs]), Result.andThen]
theorem cut_calls {w : World} (hT : LT w) {l : List UInt8} (hl : l.length ≤ 1000) :
    Calls Tryd.prog 20 #[.string (bs l), .string ⟨#[32]⟩] w fun e w' => ∃ b : Bool, e = .returned (.tuple #[.string (bs (hd32 l)), .string (bs (tl32 l)), .bool b]) ∧ Fr NoF w w' := by
  obtain ⟨m, hm⟩ := hT.ml
  refine (Any.strings_Cut Tryd.lays145 (bs l) ⟨#[32]⟩ m w (by rw [bs_size]; omega) hm).mono ?_
  rintro e w' ⟨he, n, rfl⟩
  have h := cut_32 l
  refine ⟨(Lib.cut l [32]).2.2, ?_, (Fr.refl _ _).drewN _⟩
  rw [he]
  show Ending.returned (.tuple #[.string ⟨(Lib.cut l [32]).1.toArray⟩, .string ⟨(Lib.cut l [32]).2.1.toArray⟩, _]) = _
  rw [h.1, h.2]
  rfl
theorem hd_len (l : List UInt8) : (hd32 l).length ≤ l.length := by
  have := congrArg List.length (take_hd l)
  rw [List.length_take] at this
  omega
theorem tl_len (l : List UInt8) : (tl32 l).length ≤ l.length := by
  induction l with
  | nil => exact Nat.le_refl _
  | cons c l ih =>
    unfold tl32
    split
    · simp
    · simp; omega
theorem numP_lt (l : List UInt8) : numP 32 l < 4294967296 ∧ numP 64 l < 18446744073709551616 := by
  constructor
  · unfold numP
    cases h : Lib.parseUintB 32 l with
    | ok u => have := Lib.parseUintB_le h; simp only; omega
    | range => decide
    | _ => decide
  · unfold numP
    cases h : Lib.parseUintB 64 l with
    | ok u => have := Lib.parseUintB_le h; simp only; omega
    | range => decide
    | _ => decide
/-- What Parse answers. -/
def ParseR (l : List UInt8) (k : Int) (id v err : Nat) : Prop := id < 4294967296 ∧ v < 18446744073709551616 ∧
  ((err = 0 ∧ ¬ l = [] ∧ lineL k id v = l) ∨ (err = 8 ∧ k = 0 ∧ id = 0 ∧ v = 0 ∧ ∀ (k' : Int) (id' v' : Nat), id' < 4294967296 → v' < 18446744073709551616 → lineL k' id' v' = l → l = []))
theorem parse_none {l : List UInt8} (h : ¬ l = [] → ¬ lineL (kindL (pieceA l)) (numP 32 (pieceB l)) (numP 64 (pieceC l)) = l) : ParseR l 0 0 0 8 :=
  ⟨by decide, by decide, .inr ⟨rfl, rfl, rfl, rfl, fun k' id' v' h1 h2 h3 => by
    by_cases hl : l = []
    · exact hl
    · subst h3
      obtain ⟨a, b, c⟩ := line_back h1 h2 hl
      exact (h hl (by rw [a, b, c])).elim⟩⟩
set_option maxHeartbeats 2000000 in
theorem parse_calls {w : World} (hT : LT w) {l : List UInt8} (hl : l.length ≤ 1000) :
    Calls Tryd.prog 9 #[.string (bs l)] w fun e w' => ∃ (k : Int) (id v err : Nat), e = .returned (.tuple #[.agg #[.int .i64 k, .int .u32 id, .int .u64 v], .int .i64 err]) ∧ ParseR l k id v err ∧ Fr NoF w w' := by
  have l1 := hd_len l
  have l2 := tl_len l
  have l3 := hd_len (tl32 l)
  have l4 := tl_len (tl32 l)
  have HC1 : Hid (∀ W, Fr NoF w W → Calls Tryd.prog 20 #[.string (bs l), .string ⟨#[32]⟩] W fun e w' => ∃ b : Bool, e = .returned (.tuple #[.string (bs (pieceA l)), .string (bs (tl32 l)), .bool b]) ∧ Fr NoF W w') := fun W f => cut_calls (hT.fr f) hl
  have HC2 : Hid (∀ W, Fr NoF w W → Calls Tryd.prog 20 #[.string (bs (tl32 l)), .string ⟨#[32]⟩] W fun e w' => ∃ b : Bool, e = .returned (.tuple #[.string (bs (pieceB l)), .string (bs (pieceC l)), .bool b]) ∧ Fr NoF W w') := fun W f => cut_calls (hT.fr f) (by omega)
  have HK : Hid (∀ W, Fr NoF w W → Calls Tryd.prog 21 #[.string (bs (pieceA l))] W fun e w' => e = .returned (.int .i64 (kindL (pieceA l))) ∧ Fr NoF W w') := fun W f => kindOf_calls (hT.fr f) _
  have HN1 : Hid (∀ W, Fr NoF w W → Calls Tryd.prog 22 #[.string (bs (pieceB l)), .int .i64 32] W fun e w' => e = .returned (.int .u64 (numP 32 (pieceB l) : Nat)) ∧ Fr NoF W w') := fun W f => number_calls (hT.fr f) (by unfold pieceB; omega) (B := 32) (.inl rfl)
  have HN2 : Hid (∀ W, Fr NoF w W → Calls Tryd.prog 22 #[.string (bs (pieceC l)), .int .i64 64] W fun e w' => e = .returned (.int .u64 (numP 64 (pieceC l) : Nat)) ∧ Fr NoF W w') := fun W f => number_calls (hT.fr f) (by unfold pieceC; omega) (B := 64) (.inr rfl)
  have b1 := (numP_lt (pieceB l)).1
  have b2 := (numP_lt (pieceC l)).2
  have HP0 : Hid (∀ (k : Int) (a b : Nat), k = kindL (pieceA l) → a = numP 32 (pieceB l) → b = numP 64 (pieceC l) → (¬ l = [] → ¬ lineL k a b = l) → ParseR l 0 0 0 8) := fun k a b e1 e2 e3 h => parse_none (by subst e1 e2 e3; exact h)
  generalize kindL (pieceA l) = k at *
  generalize numP 32 (pieceB l) = a at *
  generalize numP 64 (pieceC l) = b at *
  generalize bs (pieceA l) = sA at *
  generalize bs (pieceB l) = sB at *
  generalize bs (pieceC l) = sC at *
  generalize bs (tl32 l) = sT at *
  have HL : Hid (∀ W, Fr NoF w W → Calls Tryd.prog 11 #[.agg #[.int .i64 k, .int .u32 a, .int .u64 b]] W fun e w' => e = .returned (.string (bs (lineL k a b))) ∧ Fr NoF W w') := fun W f => line_calls (hT.fr f) k b1 b2
  have HY : Hid (¬ l = [] → lineL k a b = l → ParseR l k a b 0) := fun h1 h2 => ⟨b1, b2, .inl ⟨rfl, h1, h2⟩⟩
  have HNO : Hid ((¬ l = [] → ¬ lineL k a b = l) → ParseR l 0 0 0 8) := fun h => HP0.out k a b rfl rfl rfl h
  have ew : IntKind.u32.wrap (a : Int) = (a : Int) := IntWalk.u32_in _ (by omega)
  have es : (bs l).toList = [] ↔ l = [] := by rw [ByteArray.toList_eq, bs_list]
  have el : ((bs (lineL k a b)).toList == (bs l).toList) = decide (lineL k a b = l) := by rw [eqB]; exact decide_eq_decide.2 bs_inj
  generalize bs (lineL k a b) = sL at *
  generalize bs l = s at *
  generalize hL : lineL k a b = L at *
  have HLL := Lib.hid hL
  have HES := Lib.hid es
  have HEL := Lib.hid el
  clear hT hl l1 l2 l3 l4 b1 b2 HP0 hL es el
  go_enter Tryd.func9, Tryd.ntmps9
  go_wp2_with fail
  refine (HC1.out _ (by repeat (first | exact Fr.refl NoF _ | apply Fr.alloc))).mono ?_
  rintro e w1 ⟨c1, rfl, h1⟩
  have H1 := Lib.hid (Fr.trans (F := NoF) (a := w) (by repeat (first | exact Fr.refl NoF _ | apply Fr.alloc)) h1 (fun _ q => q.elim))
  have hR : Blk w1 w.heap.size 3 (fun i => match i with | 0 => .int .i64 0 | 1 => .int .u32 0 | _ => .int .u64 0) := (Blk.new w _ _ 3 _ _ rfl rfl (fun i hi => by
    match i, hi with
    | 0, _ | 1, _ | 2, _ => rfl)).fr h1 (fun q => q)
  have HR := Lib.hid hR
  clear h1 hR
  go_wp2_with fail
  refine (HC2.out _ H1.out).mono ?_
  rintro e w2 ⟨c2, rfl, h2⟩
  have H2 := Lib.hid (H1.out.trans h2 (fun _ q => q.elim))
  have HR2 := Lib.hid (HR.out.fr h2 (fun q => q))
  clear h2 HR H1
  go_wp2_with fail
  refine (HK.out _ H2.out).mono ?_
  rintro e w3 ⟨rfl, h3⟩
  have H3 := Lib.hid (H2.out.trans h3 (fun _ q => q.elim))
  have HR3 := Lib.hid (HR2.out.fr h3 (fun q => q))
  clear h3 HR2 H2
  go_wp2_with fail
  refine (HN1.out _ H3.out).mono ?_
  rintro e w4 ⟨rfl, h4⟩
  have H4 := Lib.hid (H3.out.trans h4 (fun _ q => q.elim))
  have HR4 := Lib.hid (HR3.out.fr h4 (fun q => q))
  clear h4 HR3 H3
  go_wp2_with fail
  refine (HN2.out _ H4.out).mono ?_
  rintro e w5 ⟨rfl, h5⟩
  have H5 := Lib.hid (H4.out.trans h5 (fun _ q => q.elim))
  have HR5 := Lib.hid (HR4.out.fr h5 (fun q => q))
  have hlt5 := HR5.out.lt
  have c0 := HR5.out.cell (i := 0) (by omega)
  have c1' := HR5.out.cell (i := 1) (by omega)
  have c2' := HR5.out.cell (i := 2) (by omega)
  have f0 := HR5.out.frozen 0
  have f1 := HR5.out.frozen 1
  have f2 := HR5.out.frozen 2
  simp only at c0 c1' c2'
  clear h5 HR4 H4 HC1 HC2 HK HN1 HN2
  have fin : ∀ (W : World), Fr NoF w5 W → Blk W w.heap.size 3 (fun i => match i with | 0 => .int .i64 0 | 1 => .int .u32 0 | _ => .int .u64 0) := fun W f => HR5.out.fr f (fun q => q)
  have FIN := Lib.hid fin
  clear fin
  by_cases hl0 : l = []
  · have q : s.toList = [] := HES.out.2 hl0
    have HX := Lib.hid (HNO.out (fun q => (q hl0).elim))
    have HZ := Lib.hid (((((FIN.out _ (Fr.refl NoF w5)).set 0 (.int .i64 0)).set 1 (.int .u32 0)).set 2 (.int .u64 0)).alloc (.cells #[.int .i64 k, .int .u32 a, .int .u64 b] 38))
    have HF := Lib.hid ((Fr.setCell (Fr.setCell (Fr.setCell H5.out (p := ⟨w.heap.size, 0, none⟩) (.inr (Nat.le_refl _)) (.int .i64 0)) (p := ⟨w.heap.size, 1, none⟩) (.inr (Nat.le_refl _)) (.int .u32 0)) (p := ⟨w.heap.size, 2, none⟩) (.inr (Nat.le_refl _)) (.int .u64 0)).alloc (.cells #[.int .i64 k, .int .u32 a, .int .u64 b] 38))
    clear hl0 HL HNO HY HES HEL HLL FIN HR5 H5
    go_wp2
    (try simp only [Exit.inBlock, Exit.then])
    refine bodyPost_ret (results_blk2 Tryd.results9 _ _ HZ.out rfl Tryd.underlying38 rfl (by kernel_rfl)) rfl ?_
    exact ⟨0, 0, 0, 8, rfl, HX.out, HF.out⟩
  · have q : ¬ s.toList = [] := fun q => hl0 (HES.out.1 q)
    have q2 : s.toList.isEmpty = false := by cases h : s.toList with
      | nil => exact (q h).elim
      | cons => rfl
    have q3 : (s.toList == []) = false := by cases h : s.toList with
      | nil => exact (q h).elim
      | cons => rfl
    go_wp2_with fail
    refine (HL.out _ (H5.out.alloc _)).mono ?_
    rintro e w6 ⟨rfl, h6⟩
    have h56 : Fr NoF w5 w6 := Fr.trans ((Fr.refl NoF w5).alloc _) h6 (fun _ q => q.elim)
    have hR6 := FIN.out w6 h56
    have hO : Blk w6 w5.heap.size 3 (fun i => match i with | 0 => .int .i64 k | 1 => .int .u32 (a : Nat) | _ => .int .u64 (b : Nat)) := (Blk.new w5 _ _ 3 _ _ rfl rfl (fun i hi => by
      match i, hi with
      | 0, _ | 1, _ | 2, _ => rfl)).fr h6 (fun q => q)
    have o0 := hO.cell (i := 0) (by omega)
    have o1 := hO.cell (i := 1) (by omega)
    have o2 := hO.cell (i := 2) (by omega)
    have g0 := hR6.cell (i := 0) (by omega)
    have g1 := hR6.cell (i := 1) (by omega)
    have g2 := hR6.cell (i := 2) (by omega)
    have r0 := hR6.frozen 0
    have r1 := hR6.frozen 1
    have r2 := hR6.frozen 2
    have lO := hO.lt
    have lR := hR6.lt
    simp only at o0 o1 o2 g0 g1 g2
    have H6 := Lib.hid (H5.out.trans h56 (fun _ q => q.elim))
    have HR6 := Lib.hid hR6
    clear c0 c1' c2' f0 f1 f2 h56 hO hR6 h6 H5 HR5 FIN HL
    by_cases e : L = l
    · have el : (sL.toList == s.toList) = true := by rw [HEL.out]; exact decide_eq_true e
      have HX := Lib.hid (HY.out hl0 e)
      have HZ := Lib.hid (((HR6.out.set 0 (.int .i64 k)).set 1 (.int .u32 (a : Nat))).set 2 (.int .u64 (b : Nat)))
      have HF := Lib.hid (Fr.setCell (Fr.setCell (Fr.setCell H6.out (p := ⟨w.heap.size, 0, none⟩) (.inr (Nat.le_refl _)) (.int .i64 k)) (p := ⟨w.heap.size, 1, none⟩) (.inr (Nat.le_refl _)) (.int .u32 (a : Nat))) (p := ⟨w.heap.size, 2, none⟩) (.inr (Nat.le_refl _)) (.int .u64 (b : Nat)))
      clear hl0 HNO HY HES HEL HLL HR6 H6 e
      go_wp2
      (try simp only [Exit.inBlock, Exit.then])
      refine bodyPost_ret (results_blk2 Tryd.results9 _ _ HZ.out rfl Tryd.underlying38 rfl (by kernel_rfl)) rfl ?_
      exact ⟨k, a, b, 0, rfl, HX.out, HF.out⟩
    · have el : (sL.toList == s.toList) = false := by rw [HEL.out]; exact decide_eq_false e
      have HX := Lib.hid (HNO.out (fun _ q => e q))
      have HZ := Lib.hid (((HR6.out.set 0 (.int .i64 0)).set 1 (.int .u32 0)).set 2 (.int .u64 0))
      have HF := Lib.hid (Fr.setCell (Fr.setCell (Fr.setCell H6.out (p := ⟨w.heap.size, 0, none⟩) (.inr (Nat.le_refl _)) (.int .i64 0)) (p := ⟨w.heap.size, 1, none⟩) (.inr (Nat.le_refl _)) (.int .u32 0)) (p := ⟨w.heap.size, 2, none⟩) (.inr (Nat.le_refl _)) (.int .u64 0))
      clear hl0 HNO HY HES HEL HLL HR6 H6 e
      go_wp2
      (try simp only [Exit.inBlock, Exit.then])
      refine bodyPost_ret (results_blk2 Tryd.results9 _ _ HZ.out rfl Tryd.underlying38 rfl (by kernel_rfl)) rfl ?_
      exact ⟨0, 0, 0, 8, rfl, HX.out, HF.out⟩
end Go.Proofs.YtaebogmgjimkfaaDoor

/-
  ScriptLines: the document's Parse and Line, and the code's, agree on every line, op and answer; what is told of the code is told: the row, and its card. No condition of its own; the listed variables are as their initialisers lay them: the card ties them to the program's text.
-/
import Derived.Test.YtkkobohofopgmaaDoorLinW
import Derived.Test.YtkkobohofopgmaaDoorLinRow
import Derived.Test.YtkkobohofopgmaaDoorCards
namespace Go.Proofs.YtkkobohofopgmaaDoor
open Go.ChangeMaps Go.ChangeShapes Go.WideShapes Go.ChangeAt Go.RowKit
set_option linter.unusedVariables false
theorem lt_of {W : World} (h : laidMet Tryd.prog Rows.scriptLinesRow.laid W) (hsh : W.ShapedOpen Tryd.prog) : LT W where
  tb := phr_of (r := []) h.tail.tail.tail.tail.tail
  pw := powV h.tail.tail
  er := errV (by kernel_rfl) (by kernel_rfl) h.tail.tail.tail
  es := errV (by kernel_rfl) (by kernel_rfl) h.tail.tail.tail.tail
  ml := Tryd.laysM145.s1_3 W hsh
namespace scriptLines
theorem lines_calls {w : World} (hT : LT w) {l : List UInt8} (hl : l.length ≤ 9223372036854775807) {k er : Int} {id v aid av : Int} (wi : (Lit.int .u32 id).wf = true) (wv : (Lit.int .u64 v).wf = true) (wai : (Lit.int .u32 aid).wf = true) (wav : (Lit.int .u64 av).wf = true) :
    Calls Tryd.prog 4 #[.agg #[.int .i64 k, .int .u32 id, .int .u64 v], .string (bs l), .agg #[.int .i64 er, .int .u32 aid, .int .u64 av]] w fun e w' => e = .returned (.bool true) ∧ Fr NoF w w' := by
  have b1 : 0 ≤ id ∧ id ≤ 4294967295 := by simpa [Lit.wf, IntKind.min, IntKind.max, IntKind.signed, IntKind.bits] using wi
  have b2 : 0 ≤ v ∧ v ≤ 18446744073709551615 := by simpa [Lit.wf, IntKind.min, IntKind.max, IntKind.signed, IntKind.bits] using wv
  have b3 : 0 ≤ aid ∧ aid ≤ 4294967295 := by simpa [Lit.wf, IntKind.min, IntKind.max, IntKind.signed, IntKind.bits] using wai
  have b4 : 0 ≤ av ∧ av ≤ 18446744073709551615 := by simpa [Lit.wf, IntKind.min, IntKind.max, IntKind.signed, IntKind.bits] using wav
  obtain ⟨id, rfl⟩ := Int.eq_ofNat_of_zero_le b1.1
  obtain ⟨v, rfl⟩ := Int.eq_ofNat_of_zero_le b2.1
  obtain ⟨aid, rfl⟩ := Int.eq_ofNat_of_zero_le b3.1
  obtain ⟨av, rfl⟩ := Int.eq_ofNat_of_zero_le b4.1
  by_cases hfar : 200 < l.length ∨ er < 0 ∨ 8 < er
  · exact lines_far hT hl hfar
  · obtain ⟨e, rfl⟩ := Int.eq_ofNat_of_zero_le (show 0 ≤ er by omega)
    exact lines_near hT (by omega) (by omega) (by omega) (by omega) (by omega) (by omega)
set_option maxRecDepth 100000 in
theorem lifted (os : Os) (started : os.Started) (H : Type) (enc : TypeId × Value → H) :
    ReturnsInHanded {} Tryd.checked os 4 .any (fun w args => (Rows.scriptLinesSpec.pre enc Tryd.prog Tryd.f4 Rows.scriptLinesRow.domain false w args ∧ laidMet Tryd.prog Rows.scriptLinesRow.laid w) ∧ sizedMet enc Tryd.prog Tryd.f4 (OpenSpec.ofChange Rows.scriptLinesSpec) false w args)
      (Rows.scriptLinesSpec.post enc Tryd.prog Tryd.f4 false true false false) := by
  refine handed_both (C := Tryd.checked) (X := fun w _ => laidMet Tryd.prog Rows.scriptLinesRow.laid w) (fun _ _ _ hh h => h.of_heap hh) ownL started (by kernel_rfl) Tryd.func4
    (ChangeSpec.witness_at (enc := enc) (C := Tryd.checked) (os := os) (X := fun w _ => laidMet Tryd.prog Rows.scriptLinesRow.laid w) false (laidW os) #[.agg #[.int .i64 0, .int .u32 0, .int .u64 0], .string ⟨#[]⟩, .agg #[.int .i64 0, .int .u32 0, .int .u64 0]] 8 rfl (by kernel_rfl) (by kernel_rfl) (by kernel_rfl) (by kernel_rfl) (by kernel_rfl) (laidL_met os _)) ?_
  intro W base args ds gs before hval0 hW hL hsh
  have hval : ∀ (j : Nat) t v, Tryd.f4.params[j]? = some t → args[j]? = some v → Value.okWide Tryd.prog W .any base t v := hval0
  have hW' := hW
  obtain ⟨p, q, hA0, hV, rfl, hfz, hnd⟩ := hW
  have hA : DataW.TrodAll enc Tryd.prog W 0 (fun _ => true) true Tryd.f4.params.toList args.toList ds p := hA0
  rw [Tryd.params4] at hA hval
  obtain ⟨v0, vs0, d0, ds0, p0, q0, hargs, rfl, rfl, h0, r0⟩ := trodAll_cons hA
  obtain ⟨v1, vs1, d1, ds1, p1, q1, rfl, rfl, rfl, h1, r1⟩ := trodAll_cons r0
  obtain ⟨v2, vs2, d2, ds2, p2, q2, rfl, rfl, rfl, h2, r2⟩ := trodAll_cons r1
  obtain ⟨rfl, rfl, rfl⟩ := trodAll_nil r2
  obtain rfl : args = #[v0, v1, v2] := by cases args; simp_all
  obtain ⟨rfl, rfl⟩ := trodVars_none hV
  obtain ⟨k, id, x, rfl, rfl, rfl, wk, wi, wx⟩ := openOp (hval 0 40 v0 rfl rfl) h0
  obtain ⟨s, rfl, rfl, rfl, hs⟩ := open_string Tryd.underlying9 (hval 1 9 v1 rfl rfl) h1
  obtain ⟨er, aid, av, rfl, rfl, rfl, ue, ui, ux⟩ := openAn (hval 2 43 v2 rfl rfl) h2
  clear hA0 hval0
  have hT : LT W := lt_of hL hsh
  simp only [List.append_nil] at hW'
  have hlen : s.data.toList.length ≤ 9223372036854775807 := hs
  have hbs : bs s.data.toList = s := by simp [bs]
  have H := lines_calls hT hlen (k := k) (er := er) wi wx ui ux
  rw [hbs] at H
  refine H.mono fun e W' ⟨he, hf⟩ => ?_
  subst he
  exact ⟨_, rfl, _, _, _, [], [], [], hW', trodAll_cons_mk (shut_bool Tryd.underlying4 _) trodAll_mk0, trodAll_cons_mk (shutOp W' _ _ _ wk wi wx) (trodAll_cons_mk (shut_string Tryd.underlying9 hs) (trodAll_cons_mk (shutAn W' _ _ _ ue ui ux) trodAll_mk0)), rfl, hf.below.frame _, fun h => by cases h⟩

/-- The row. -/
theorem said : Rows.ScriptLinesSaid :=
  OpenClaim.holds_of_wide 4 Tryd.f4 rfl rfl rfl rfl rfl rfl rfl ⟨rfl, rfl, rfl, rfl, rfl⟩ rfl rfl rfl rfl rfl (by kernel_rfl) Tryd.func4 (by kernel_rfl)
    (of_decide_eq_true (by kernel_rfl)) (by unfold Func.isWrapper; first | (rw [if_pos (by decide +kernel)]; kernel_rfl) | (rw [if_neg (by decide +kernel)]; exact ⟨rfl, rfl⟩))
    (fun os started H enc _ => lifted os started H enc)
/-- THE STATEMENT. -/
theorem proved : Rows.ScriptLinesCardSaid :=
  Claim7.holds_tied_plain_at .later [] [.data, .data, .data, .sentinel, .sentinel, .data] true (true, "53248f32c6303fdc7e0be2c017d18de2ad2bfbe35260a80953a457a4de3beba8") true
    said (fun _ h => by cases h) (by kernel_rfl) (fun _ h => by cases h) scriptLines_row_tie rfl ⟨rfl, rfl⟩ (by kernel_rfl) rfl
    (fun f fn hf hfn => by
      obtain rfl : f = 4 := Option.some.inj ((show Tryd.prog.funcNamed "hatcheck/hatchecklaw13.ScriptLines" = some 4 by kernel_rfl).symm.trans hf) |>.symm
      obtain rfl : fn = Tryd.f4 := (Option.some.inj (Tryd.func4.symm.trans hfn)).symm
      exact ⟨by kernel_rfl, fun j t ht => by
        rw [Tryd.params4] at ht
        have h3 : t = 40 ∨ t = 9 ∨ t = 43 := by
          rcases j with _ | _ | _ | j
          · left; simpa using ht.symm
          · right; left; simpa using ht.symm
          · right; right; simpa using ht.symm
          · simp at ht
        rcases h3 with rfl | rfl | rfl
        · exact (show Tryd.prog.wantsStandIn 40 = false by kernel_rfl)
        · exact (show Tryd.prog.wantsStandIn 9 = false by kernel_rfl)
        · exact (show Tryd.prog.wantsStandIn 43 = false by kernel_rfl)⟩)
    (by kernel_rfl)
#print axioms proved
end scriptLines
end Go.Proofs.YtkkobohofopgmaaDoor

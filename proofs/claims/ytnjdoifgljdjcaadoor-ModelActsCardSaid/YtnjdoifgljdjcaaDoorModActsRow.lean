/-
  ModelActs: whatever is called, one thing behind the other, is answered as the document says; what all pages hold: the row, and its card. No condition of its own; the library's table of trailing zeros (math/bits.deBruijn64tab) is as its initialiser lays it: the card ties it to the program's text.
-/
import Derived.Test.YtnjdoifgljdjcaaDoorModActs
import Derived.Test.YtnjdoifgljdjcaaDoorModRow
import Derived.Test.YtnjdoifgljdjcaaDoorCards
import Derived.Deep.Slices
import Derived.Deep.Strs
namespace Go.Proofs.YtnjdoifgljdjcaaDoor
open Go.ChangeShapes Go.WideShapes Go.ChangeAt Go.RowKit
set_option linter.unusedVariables false

section
open Go.Deep
theorem nat_ofM {k : IntKind} {z : Int} (h : (Lit.int k z).wf = true) (hm : k.min = 0) : ∃ m : Nat, z = (m : Int) ∧ (m : Int) ≤ k.max := by
  simp only [Lit.wf, Bool.and_eq_true, decide_eq_true_eq] at h
  obtain ⟨m, rfl⟩ := Int.eq_ofNat_of_zero_le (show 0 ≤ z by omega)
  exact ⟨m, rfl, h.2⟩
theorem add_at3m (b off i j : Nat) : ((({ block := b, off := off, spot := none } : Addr).add (i * 3)).add j) = ⟨b, off + i * 3 + j, none⟩ := by
  unfold Addr.add
  by_cases h1 : i * 3 = 0
  · by_cases h2 : j = 0
    · simp [h1, h2]
    · simp [h1, h2]
  · by_cases h2 : j = 0
    · simp [h1, h2]
    · simp [h1, h2]
theorem list3c {α : Type} {cs : List α} (h : cs.length = 3) : ∃ c0 c1 c2, cs = [c0, c1, c2] := by
  match cs, h with
  | [c0, c1, c2], _ => exact ⟨c0, c1, c2, rfl⟩
theorem argM_of {H : Type} {enc : TypeId × Value → H} {W : World} {base fuel : Nat} {held : Bool} {a1 : Option Addr} {len1 cap1 : Nat} {x : DataW H × List MemPlace}
    (h : DataW.trod enc Tryd.prog W base (fun _ => true) held fuel 22 [.slice a1 len1 cap1] = some x) : ∃ zs, ArgM W (.slice a1 len1 cap1) zs := by
  rcases open_slice Tryd.underlying22 h with ⟨hcs, _⟩ | ⟨a, len, cap, m, n, D, Pl, hcs, _, hl, hm, hmm, _, hi⟩
  · simp at hcs
    obtain ⟨rfl, rfl, rfl⟩ := hcs
    exact ⟨[], none, 0, rfl, by simp, by unfold maxLen; omega, fun h => by simp at h, fun z hz => by cases hz⟩
  · simp at hcs
    obtain ⟨rfl, rfl, rfl⟩ := hcs
    simp only [if_true] at hmm
    have each : ∀ i, ∃ z : OpM, (okId z.id ∧ okV z.x) ∧ (i < len1 → W.cell? ((a.add (i * 3)).add 0) = some (.int .i64 z.k) ∧ W.cell? ((a.add (i * 3)).add 1) = some (.int .u32 z.id) ∧ W.cell? ((a.add (i * 3)).add 2) = some (.int .u64 z.x)) := by
      intro i
      by_cases hil : i < len1
      · obtain ⟨cs, hc, ht⟩ := hi i (by omega)
        rw [cellsOp] at hc
        obtain ⟨_, hlen, hat⟩ := World.cells?_some hc
        obtain ⟨y0, y1, y2, n', _, t0, t1, t2⟩ := trod3m Tryd.underlying43 ht
        obtain ⟨v0, v1, v2, rfl⟩ := list3c hlen
        have g0 := hat 0 (by omega)
        have g1 := hat 1 (by omega)
        have g2 := hat 2 (by omega)
        simp only [cellsIm, cellsUm, cellsVm, List.drop_zero, List.drop_succ_cons, List.take_succ_cons, List.take_zero] at t0 t1 t2
        obtain ⟨z0, e0, _, _⟩ := DataW.trod_int Tryd.underlying3 t0
        obtain ⟨z1, e1, _, wf1⟩ := DataW.trod_int Tryd.underlying33 t1
        obtain ⟨z2, e2, _, wf2⟩ := DataW.trod_int Tryd.underlying23 t2
        obtain ⟨m1, rfl, b1⟩ := nat_ofM wf1 rfl
        obtain ⟨m2, rfl, b2⟩ := nat_ofM wf2 rfl
        simp at e0 e1 e2
        subst e0 e1 e2
        exact ⟨⟨z0, m1, m2⟩, ⟨by unfold okId; show m1 < 4294967296; simp [IntKind.max, IntKind.bits, IntKind.signed] at b1; omega, by unfold okV; show m2 < 18446744073709551616; simp [IntKind.max, IntKind.bits, IntKind.signed] at b2; omega⟩, fun _ => ⟨g0, g1, g2⟩⟩
      · exact ⟨⟨0, 0, 0⟩, ⟨by unfold okId; decide, by unfold okV; decide⟩, fun h => (hil h).elim⟩
    obtain ⟨f, hf⟩ := Classical.skolem.1 each
    refine ⟨(List.range len1).map f, some a, cap1, by simp, by simp; exact hl, hm, fun h0 => ?_, fun z hz => ?_⟩
    rotate_left
    · obtain ⟨i, _, rfl⟩ := List.mem_map.1 hz
      exact (hf i).1
    simp only [List.length_map, List.length_range] at h0
    obtain ⟨b, off, spot⟩ := a
    have c0 := ((hf 0).2 h0).1
    have hs : spot = none := by
      cases spot with
      | none => rfl
      | some q =>
        simp only [Nat.zero_mul, Addr.add, World.cell?] at c0
        split at c0 <;> simp at c0
    subst hs
    rw [add_at3m] at c0
    refine ⟨b, off, rfl, by have := World.block_lt_of_cell? (w := W) (a := ⟨b, off + 0 * 3 + 0, none⟩) c0; exact this, fun j z hj => ?_⟩
    rw [List.getElem?_map] at hj
    have hjl : j < len1 := by
      rcases Nat.lt_or_ge j len1 with q | q
      · exact q
      · rw [List.getElem?_eq_none (by simpa using q)] at hj; cases hj
    rw [List.getElem?_range hjl] at hj
    obtain rfl : f j = z := by simpa using hj
    have := (hf j).2 hjl
    rw [add_at3m, add_at3m, add_at3m] at this
    exact this
end

namespace modelActs
set_option maxRecDepth 100000 in
theorem lifted (os : Os) (started : os.Started) (H : Type) (enc : TypeId × Value → H) :
    ReturnsInHanded {} Tryd.checked os 3 .any (fun w args => (Rows.modelActsSpec.pre enc Tryd.prog Tryd.f3 Rows.modelActsRow.domain false w args ∧ laidMet Tryd.prog Rows.modelActsRow.laid w) ∧ sizedMet enc Tryd.prog Tryd.f3 (OpenSpec.ofChange Rows.modelActsSpec) false w args)
      (Rows.modelActsSpec.post enc Tryd.prog Tryd.f3 false true false false) := by
  refine returnsInHanded_of_change_and (C := Tryd.checked) (X := fun w _ => laidMet Tryd.prog Rows.modelActsRow.laid w) (fun _ _ _ hh h => h.of_heap hh) ownM started (by kernel_rfl) Tryd.func3
    (ChangeSpec.witness_at (enc := enc) (C := Tryd.checked) (os := os) (X := fun w _ => laidMet Tryd.prog Rows.modelActsRow.laid w) false (tabWorld os) #[.int .i64 0, .int .i64 0, .slice none 0 0] 8 rfl (by kernel_rfl) (by kernel_rfl) (by kernel_rfl) (by kernel_rfl) (by kernel_rfl) (tab_met os _)) ?_
  intro W base args ds gs before hval0 hW _ _ hL _
  have hval : ∀ (j : Nat) t v, Tryd.f3.params[j]? = some t → args[j]? = some v → Value.okWide Tryd.prog W .any base t v := hval0
  have hW' := hW
  obtain ⟨p, q, hA0, hV, rfl, hfz, hnd⟩ := hW
  have hA : DataW.TrodAll enc Tryd.prog W 0 (fun _ => true) true Tryd.f3.params.toList args.toList ds p := hA0
  rw [Tryd.params3] at hA hval
  obtain ⟨v0, vs0, d0, ds0, p0, q0, hargs, rfl, rfl, h0, r0⟩ := trodAll_cons hA
  obtain ⟨v1, vs1, d1, ds1, p1, q1, rfl, rfl, rfl, h1, r1⟩ := trodAll_cons r0
  obtain ⟨v2, vs2, d2, ds2, p2, q2, rfl, rfl, rfl, h2, r2⟩ := trodAll_cons r1
  obtain ⟨rfl, rfl, rfl⟩ := trodAll_nil r2
  obtain rfl : args = #[v0, v1, v2] := by cases args; simp_all
  obtain ⟨rfl, rfl⟩ := trodVars_none hV
  obtain ⟨a0, rfl, rfl, rfl, w0⟩ := open_int Tryd.underlying3 (hval 0 3 v0 rfl rfl) h0
  obtain ⟨a1, rfl, rfl, rfl, w1⟩ := open_int Tryd.underlying3 (hval 1 3 v1 rfl rfl) h1
  obtain ⟨a2, len2, cap2, rfl⟩ := okWide_slice Tryd.underlying22 (hval 2 22 v2 rfl rfl)
  have k2 := h2
  have lt2 : ∀ x ∈ p2, x.block < W.heap.size := by obtain ⟨m, hm⟩ := k2; exact DataW.trod_lt m _ _ _ hm
  obtain ⟨zs, wz⟩ : ∃ zs, ArgM W (.slice a2 len2 cap2) zs := by
    obtain ⟨fuel, hf⟩ := h2
    exact argM_of hf
  clear hA0 hval0
  have hT : TabT W := tabT_of hL
  simp only [List.append_nil, List.nil_append] at hW'
  refine (acts_walk a0 a1 _ zs W hT wz).mono fun e W' ⟨he, hf⟩ => ?_
  have bel := hf.below
  subst he
  exact ⟨_, rfl, _, _, _, [], _, [], hW', trodAll_mk1 (shut_bool Tryd.underlying4 _), (trodAll_cons_mk (shut_int Tryd.underlying3 w0) (trodAll_cons_mk (shut_int Tryd.underlying3 w1) (trodAll_cons_mk (Below.trod laidOutM (by kernel_rfl) (of_decide_eq_true (by kernel_rfl)) k2 bel lt2) trodAll_mk0))), rfl, bel.frame _, fun h => by cases h⟩

/-- The row. -/
theorem said : Rows.ModelActsSaid :=
  OpenClaim.holds_of_wide 3 Tryd.f3 rfl rfl rfl rfl rfl rfl rfl ⟨rfl, rfl, rfl, rfl, rfl⟩ rfl rfl rfl rfl rfl (by kernel_rfl) Tryd.func3 (by kernel_rfl)
    (of_decide_eq_true (by kernel_rfl)) (by unfold Func.isWrapper; first | (rw [if_pos (by decide +kernel)]; kernel_rfl) | (rw [if_neg (by decide +kernel)]; exact ⟨rfl, rfl⟩))
    (fun os started H enc _ => lifted os started H enc)
/-- THE STATEMENT. -/
theorem proved : Rows.ModelActsCardSaid :=
  Claim7.holds_tied_plain_at .later [] [.data] true (true, "15714306747334dc5c1006de8f0337411bf9d5bc7be35ff9a971d7d325262100") false
    said (fun _ h => by cases h) (by kernel_rfl) (fun _ h => by cases h) modelActs_row_tie rfl ⟨rfl, rfl⟩ (by kernel_rfl) rfl
    (fun f fn hf hfn => by
      obtain rfl : f = 3 := Option.some.inj ((show Tryd.prog.funcNamed "hatcheck/hatchecklaw10.ModelActs" = some 3 by kernel_rfl).symm.trans hf) |>.symm
      obtain rfl : fn = Tryd.f3 := (Option.some.inj (Tryd.func3.symm.trans hfn)).symm
      exact ⟨by kernel_rfl, fun j t ht => by
        rw [Tryd.params3] at ht
        have h3 : t = 3 ∨ t = 22 := by
          rcases j with _ | _ | _ | j
          · left; simpa using ht.symm
          · left; simpa using ht.symm
          · right; simpa using ht.symm
          · simp at ht
        rcases h3 with rfl | rfl
        · exact (show Tryd.prog.wantsStandIn 3 = false by kernel_rfl)
        · exact (show Tryd.prog.wantsStandIn 22 = false by kernel_rfl)⟩)
    (by kernel_rfl)
#print axioms proved
end modelActs
end Go.Proofs.YtnjdoifgljdjcaaDoor

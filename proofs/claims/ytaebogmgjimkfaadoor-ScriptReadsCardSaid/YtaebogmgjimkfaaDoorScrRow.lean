/-
  ScriptReads: of all bytes the program's Read tells what the document's Read tells: frames, room, policy, the calls of each client, the picks; the bytes stay as they were. No condition of its own; the listed variables are as their initialisers lay them: the card ties them to the program's text.
-/
import Derived.Test.YtaebogmgjimkfaaDoorScrW
import Derived.Test.YtaebogmgjimkfaaDoorLinRow
import Derived.Test.YtaebogmgjimkfaaDoorCards
import Derived.Deep.Slices
namespace Go.Proofs.YtaebogmgjimkfaaDoor
open Go.ChangeMaps Go.ChangeShapes Go.WideShapes Go.ChangeAt Go.RowKit
set_option linter.unusedVariables false
set_option linter.unusedSimpArgs false
set_option maxRecDepth 100000
section
open Go.Deep
theorem tabs_of {W : World} (h : laidMet Tryd.prog Rows.scriptReadsRow.laid W) : Tabs W := by
  have hp : Phr W := phr_of (r := []) h.tail.tail.tail.tail.tail.tail
  have hk : Lib.TabIs Tryd.prog W "hatcheck/script.kinds" .i64 [0, 1, 1, 1, 2, 2, 2, 3, 4, 4, 5, 6, 7, 0, 1, 2] := Lib.tabIs_of_head (g := 1) (t := 75) (e := 3) (n := 16) (by kernel_rfl) (by kernel_rfl) Tryd.underlying75 Tryd.underlying3 (by kernel_rfl) (by kernel_rfl) h.tail.tail.tail.tail.tail
  refine ⟨fun j hj => ?_, hp.pn, hp.pi, hp.pv⟩
  rw [World.var?_cell (show Tryd.prog.globalNamed "hatcheck/script.kinds" = some 1 by kernel_rfl) hk j]
  have q : j = 0 ∨ j = 1 ∨ j = 2 ∨ j = 3 ∨ j = 4 ∨ j = 5 ∨ j = 6 ∨ j = 7 ∨ j = 8 ∨ j = 9 ∨ j = 10 ∨ j = 11 ∨ j = 12 ∨ j = 13 ∨ j = 14 ∨ j = 15 := by omega
  rcases q with rfl | rfl | rfl | rfl | rfl | rfl | rfl | rfl | rfl | rfl | rfl | rfl | rfl | rfl | rfl | rfl <;> rfl
theorem ltr_of {W : World} (h : laidMet Tryd.prog Rows.scriptReadsRow.laid W) (hsh : W.ShapedOpen Tryd.prog) : LT W where
  tb := phr_of (r := []) h.tail.tail.tail.tail.tail.tail
  pw := powV h.tail.tail
  er := errV (by kernel_rfl) (by kernel_rfl) h.tail.tail.tail
  es := errV (by kernel_rfl) (by kernel_rfl) h.tail.tail.tail.tail
  ml := Tryd.laysM145.s1_3 W hsh
theorem cellsBy : Tryd.prog.cellsOf 5 = 1 := by kernel_rfl
theorem laidR_met (os : Os) (args : Array Value) : laidMet Tryd.prog Rows.scriptReadsRow.laid ((laidW os).forCall (fun _ _ => 0) ⟨#[], args, []⟩).memory :=
  laidMet_of_run3 8 (by kernel_rfl) (by kernel_rfl) (by kernel_rfl)
theorem has_slice {W : World} {base : Nat} {a : Addr} {len1 cap1 : Nat} (h : Value.okWide Tryd.prog W .any base 22 (.slice (some a) len1 cap1)) : a.spot = none ∧ a.block < W.heap.size := by
  simp only [Value.okWide, Tryd.underlying22, Cell.okWide, Cell.ok] at h
  obtain ⟨_, _, _, h2, row, cells, h3, _⟩ := h
  refine ⟨h2, ?_⟩
  unfold World.shape? at h3
  rcases Nat.lt_or_ge a.block W.heap.size with q | q
  · exact q
  · rw [Array.getElem?_eq_none q] at h3; cases h3
set_option maxRecDepth 100000 in
theorem argB_of {H : Type} {enc : TypeId × Value → H} {W : World} {base fuel : Nat} {held : Bool} {a1 : Option Addr} {len1 cap1 : Nat} {x : DataW H × List MemPlace}
    (hv : ∀ a, a1 = some a → a.spot = none ∧ a.block < W.heap.size) (h : DataW.trod enc Tryd.prog W base (fun _ => true) held fuel 22 [.slice a1 len1 cap1] = some x) : ∃ l : List Nat, SlK .u8 W (.slice a1 len1 cap1) l ∧ ∀ x ∈ l, x < 256 := by
  rcases open_slice Tryd.underlying22 h with ⟨hcs, _⟩ | ⟨a, len, cap, m, n, D, Pl, hcs, _, hl, hm, hmm, _, hi⟩
  · simp at hcs
    obtain ⟨rfl, rfl, rfl⟩ := hcs
    exact ⟨[], SlC.nil _ _, fun x h => (by cases h)⟩
  · simp at hcs
    obtain ⟨rfl, rfl, rfl⟩ := hcs
    simp only [if_true] at hmm
    have each : ∀ i, ∃ z : Nat, i < len1 → W.cell? ((a.add (i * 1)).add 0) = some (.int .u8 z) ∧ z < 256 := by
      intro i
      by_cases hil : i < len1
      · obtain ⟨cs, hc, ht⟩ := hi i (by omega)
        rw [cellsBy] at hc
        obtain ⟨_, hlen, hat⟩ := World.cells?_some hc
        match cs, hlen with
        | [v0], _ =>
          have g0 := hat 0 (by omega)
          obtain ⟨z0, e0, _, wz⟩ := DataW.trod_int Tryd.underlying5 ht
          simp at e0
          subst e0
          obtain ⟨z1, rfl, hz1⟩ : ∃ z1 : Nat, z0 = (z1 : Int) ∧ z1 < 256 := by
            have b1 : 0 ≤ z0 ∧ z0 ≤ 255 := by simpa [Lit.wf, IntKind.min, IntKind.max, IntKind.signed, IntKind.bits] using wz
            obtain ⟨z1, rfl⟩ := Int.eq_ofNat_of_zero_le b1.1
            exact ⟨z1, rfl, by omega⟩
          exact ⟨z1, fun _ => ⟨g0, hz1⟩⟩
      · exact ⟨0, fun h => (hil h).elim⟩
    obtain ⟨f, hf⟩ := Classical.skolem.1 each
    have hzl : ((List.range len1).map f).length = len1 := by simp
    refine ⟨(List.range len1).map f, ?_, fun x hx => by
      obtain ⟨j, hj, rfl⟩ := List.mem_map.1 hx
      exact (hf j (List.mem_range.1 hj)).2⟩
    unfold SlK
    rw [hzl]
    by_cases h0 : 0 < len1
    · obtain ⟨b, off, spot⟩ := a
      have c0 := (hf 0 h0).1
      have hs : spot = none := by
        cases spot with
        | none => rfl
        | some q =>
          simp only [Nat.zero_mul, Addr.add, World.cell?] at c0
          split at c0 <;> simp at c0
      subst hs
      have ad : ∀ i, ((({ block := b, off := off, spot := none } : Addr).add (i * 1)).add 0) = ⟨b, off + i, none⟩ := by
        intro i
        unfold Addr.add
        by_cases h1 : i = 0 <;> simp [h1]
      rw [ad] at c0
      refine ⟨_, cap1, rfl, by simp, fun u hu => ?_, hl, hm, .inr ⟨b, off, rfl, World.block_lt_of_cell? (w := W) (a := ⟨b, off + 0, none⟩) c0, fun j u hj => ?_⟩⟩
      · obtain ⟨z, _, rfl⟩ := List.mem_map.1 hu; rfl
      · rw [List.map_map, List.getElem?_map] at hj
        have hjl : j < len1 := by
          rcases Nat.lt_or_ge j len1 with q | q
          · exact q
          · rw [List.getElem?_eq_none (by simpa using q)] at hj; cases hj
        rw [List.getElem?_range hjl] at hj
        obtain rfl : Value.int .u8 (f j : Nat) = u := by simpa using hj
        have := (hf j hjl).1
        rw [ad] at this
        exact this
    · obtain rfl : len1 = 0 := by omega
      obtain ⟨e1, e2⟩ := hv _ rfl
      obtain ⟨b, off, spot⟩ := a
      simp only at e1 e2
      subst e1
      exact ⟨_, cap1, rfl, by simp, fun u hu => by simp at hu, hl, hm, .inr ⟨b, off, rfl, e2, fun j u hj => by simp at hj⟩⟩
end
namespace scriptReads
set_option maxRecDepth 100000 in
theorem lifted (os : Os) (started : os.Started) (H : Type) (enc : TypeId × Value → H) :
    ReturnsInHanded {} Tryd.checked os 3 .any (fun w args => (Rows.scriptReadsSpec.pre enc Tryd.prog Tryd.f3 Rows.scriptReadsRow.domain false w args ∧ laidMet Tryd.prog Rows.scriptReadsRow.laid w) ∧ sizedMet enc Tryd.prog Tryd.f3 (OpenSpec.ofChange Rows.scriptReadsSpec) false w args)
      (Rows.scriptReadsSpec.post enc Tryd.prog Tryd.f3 false true false false) := by
  refine handed_both (C := Tryd.checked) (X := fun w _ => laidMet Tryd.prog Rows.scriptReadsRow.laid w) (fun _ _ _ hh h => h.of_heap hh) ownL started (by kernel_rfl) Tryd.func3
    (ChangeSpec.witness_at (enc := enc) (C := Tryd.checked) (os := os) (X := fun w _ => laidMet Tryd.prog Rows.scriptReadsRow.laid w) false (laidW os) #[.slice none 0 0] 8 rfl (by kernel_rfl) (by kernel_rfl) (by kernel_rfl) (by kernel_rfl) (by kernel_rfl) (laidR_met os _)) ?_
  intro W base args ds gs before hval0 hW hL hsh
  have hval : ∀ (j : Nat) t v, Tryd.f3.params[j]? = some t → args[j]? = some v → Value.okWide Tryd.prog W .any base t v := hval0
  have hW' := hW
  obtain ⟨p, q, hA0, hV, rfl, hfz, hnd⟩ := hW
  have hA : DataW.TrodAll enc Tryd.prog W 0 (fun _ => true) true Tryd.f3.params.toList args.toList ds p := hA0
  rw [Tryd.params3] at hA hval
  obtain ⟨v0, vs0, d0, ds0, p0, q0, hargs, rfl, rfl, h0, r0⟩ := trodAll_cons hA
  obtain ⟨rfl, rfl, rfl⟩ := trodAll_nil r0
  obtain rfl : args = #[v0] := by cases args; simp_all
  obtain ⟨rfl, rfl⟩ := trodVars_none hV
  obtain ⟨a1, len1, cap1, rfl⟩ := okWide_slice Tryd.underlying22 (hval 0 22 v0 rfl rfl)
  have hv1 : ∀ a, a1 = some a → a.spot = none ∧ a.block < W.heap.size := fun a e => by subst e; exact has_slice (hval 0 22 _ rfl rfl)
  have k1 := h0
  have lt1 : ∀ x ∈ p0, x.block < W.heap.size := by obtain ⟨m, hm⟩ := k1; exact DataW.trod_lt m _ _ _ hm
  obtain ⟨l, wl, wb⟩ : ∃ l : List Nat, SlK .u8 W (.slice a1 len1 cap1) l ∧ ∀ x ∈ l, x < 256 := by
    obtain ⟨fuel, hf⟩ := h0
    exact argB_of hv1 hf
  clear hA0 hval0
  simp only [List.append_nil] at hW'
  refine (reads_calls (ltr_of hL hsh) (tabs_of hL) wl wb).mono fun e W' ⟨he, hf⟩ => ?_
  have bel := hf.below
  subst he
  exact ⟨_, rfl, _, _, _, [], _, [], hW', trodAll_mk1 (shut_bool Tryd.underlying4 _), trodAll_cons_mk (Below.trod laidOutL (by kernel_rfl) (of_decide_eq_true (by kernel_rfl)) k1 bel lt1) trodAll_mk0, rfl, bel.frame _, fun h => by cases h⟩
/-- The row. -/
theorem said : Rows.ScriptReadsSaid :=
  OpenClaim.holds_of_wide 3 Tryd.f3 rfl rfl rfl rfl rfl rfl rfl ⟨rfl, rfl, rfl, rfl, rfl⟩ rfl rfl rfl rfl rfl (by kernel_rfl) Tryd.func3 (by kernel_rfl)
    (of_decide_eq_true (by kernel_rfl)) (by unfold Func.isWrapper; first | (rw [if_pos (by decide +kernel)]; kernel_rfl) | (rw [if_neg (by decide +kernel)]; exact ⟨rfl, rfl⟩))
    (fun os started H enc _ => lifted os started H enc)
/-- THE STATEMENT. -/
theorem proved : Rows.ScriptReadsCardSaid :=
  Claim7.holds_tied_plain_at .later [] [.data, .data, .data, .sentinel, .sentinel, .data, .data] true (true, "53248f32c6303fdc7e0be2c017d18de2ad2bfbe35260a80953a457a4de3beba8") true
    said (fun _ h => by cases h) (by kernel_rfl) (fun _ h => by cases h) scriptReads_row_tie rfl ⟨rfl, rfl⟩ (by kernel_rfl) rfl
    (fun f fn hf hfn => by
      obtain rfl : f = 3 := Option.some.inj ((show Tryd.prog.funcNamed "hatcheck/hatchecklaw13.ScriptReads" = some 3 by kernel_rfl).symm.trans hf) |>.symm
      obtain rfl : fn = Tryd.f3 := (Option.some.inj (Tryd.func3.symm.trans hfn)).symm
      exact ⟨by kernel_rfl, fun j t ht => by
        rw [Tryd.params3] at ht
        have h3 : t = 22 := by
          rcases j with _ | j
          · simpa using ht.symm
          · simp at ht
        subst h3
        exact (show Tryd.prog.wantsStandIn 22 = false by kernel_rfl)⟩)
    (by kernel_rfl)
#print axioms proved
end scriptReads
end Go.Proofs.YtaebogmgjimkfaaDoor

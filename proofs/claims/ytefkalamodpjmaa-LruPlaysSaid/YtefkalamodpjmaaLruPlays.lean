/-
  LruPlays: whatever happens to pages, of however many frames, the one that goes is told. The walk.
-/
import Derived.Test.YtefkalamodpjmaaLruSim
import Derived.Test.YtefkalamodpjmaaLruD
import Derived.Test.YtefkalamodpjmaaFix
namespace Go.Proofs.Ytefkalamodpjmaa
open Go.RowKit
set_option linter.unusedVariables false

set_option maxHeartbeats 1000000 in
theorem ls_new (n : Nat) (w : World) (hn : n < 1000) :
    Calls Try.prog 8 #[.int .i64 n] w fun e w' => ∃ pb F D, e = .returned (.pointer (some ⟨pb, 0, none⟩)) ∧ PRL pb n w' ⟨List.replicate n 0, fun _ => false, []⟩ F D ∧ (∀ i, D i → w.heap.size ≤ i) ∧ Fr NoF w w' := by
  obtain ⟨i0, hi0, hz0, hz1, hz2⟩ := info_parts' (P := Try.prog) (e := 45) (z := .int .u32 0) (s := 1) (b := 4) (by kernel_rfl)
  obtain ⟨i1, hi1, hy0, hy1, hy2⟩ := info_parts' (P := Try.prog) (e := 4) (z := .bool false) (s := 1) (b := 1) (by kernel_rfl)
  have mk1 : ∀ w : World, (Instr.makeSlice 51 (.int .i64 (n : Int)) (.int .i64 (n : Int))).run Try.prog w =
      .ok (.slice (some ⟨w.heap.size, 0, none⟩) n n) (w.alloc (.cells (madeCells #[.int .u32 0] n) 45)) := by
    intro w
    have := run_make (P := Try.prog) w 51 45 i0 _ Try.underlying51 hi0 hz0 .i64 .i64 (n : Int) (n : Int) (by omega) (Int.le_refl _) (by rw [hz2]; omega) (by omega)
    rw [show ((n : Int)).toNat = n from by omega, hz1, Nat.mul_one] at this
    exact this
  have mk2 : ∀ w : World, (Instr.makeSlice 41 (.int .i64 (n : Int)) (.int .i64 (n : Int))).run Try.prog w =
      .ok (.slice (some ⟨w.heap.size, 0, none⟩) n n) (w.alloc (.cells (madeCells #[.bool false] n) 4)) := by
    intro w
    have := run_make (P := Try.prog) w 41 4 i1 _ Try.underlying41 hi1 hy0 .i64 .i64 (n : Int) (n : Int) (by omega) (Int.le_refl _) (by rw [hy2]; omega) (by omega)
    rw [show ((n : Int)).toNat = n from by omega, hy1, Nat.mul_one] at this
    exact this
  have KEY : Hid (∀ (wz : World) (gb ob pb : Nat), wz.heap[gb]? = some (.cells (madeCells #[.int .u32 0] n) 45 (0, 0)) → wz.heap[ob]? = some (.cells (madeCells #[.bool false] n) 4 (0, 0)) →
      wz.heap[pb]? = some (.cells #[.int .i64 n, .slice (some ⟨gb, 0, none⟩) n n, .slice (some ⟨ob, 0, none⟩) n n, .slice none 0 0] 55 (0, 0)) → ¬ pb = gb → ¬ pb = ob → ¬ gb = ob → PL wz pb gb ob n ⟨List.replicate n 0, fun _ => false, []⟩ (.slice none 0 0)) := by
    intro wz gb ob pb h1 h2 h3 d1 d2 d3
    refine ⟨⟨_, _, h3, rfl, fun i hi => ?_⟩, ⟨_, _, h1, by simp [size_madeCells], fun i hi => ?_⟩, ⟨_, _, h2, by simp [size_madeCells], fun i hi => ?_⟩, SlK.nil _ _, d1, d2, d3, fun b hb => (by cases hb), by simp, List.nodup_nil, fun x hx => (by cases hx), hn⟩
    · match i, hi with
      | 0, _ => rfl
      | 1, _ => rfl
      | 2, _ => rfl
      | 3, _ => rfl
    · rw [made_at hi, show (#[Value.int .u32 0] : Array Value).size = 1 from rfl, Nat.mod_one]
      simp [uF, hi]
    · rw [made_at hi, show (#[Value.bool false] : Array Value).size = 1 from rfl, Nat.mod_one]; rfl
  clear hi0 hz0 hz1 hz2 hi1 hy0 hy1 hy2
  go_enter Try.func8, Try.ntmps8
  go_wp2
  go_region
  · go_wp2
    go_returns
    have P := KEY.out (((w.alloc (.cells (madeCells #[.int .u32 0] n) 45)).alloc (.cells (madeCells #[.bool false] n) 4)).alloc (.cells #[.int .i64 n, .slice (some ⟨w.heap.size, 0, none⟩) n n, .slice (some ⟨w.heap.size + 1, 0, none⟩) n n, .slice none 0 0] 55)) w.heap.size (w.heap.size + 1) (w.heap.size + 2)
      (heap_step _ _ _ _ (heap_step _ _ _ _ (heap_alloc_new _ _ _ rfl))) (heap_step _ _ _ _ (heap_alloc_new _ _ _ (by simp))) (heap_alloc_new _ _ _ (by simp)) (by omega) (by omega) (by omega)
    refine ⟨w.heap.size + 2, _, _, rfl, ⟨w.heap.size, w.heap.size + 1, _, P.fr ((Fr.refl NoF _).drew) (fun q => q) (fun q => q) (fun q => q) (fun _ _ q => q), fun _ => Iff.rfl, fun _ => Iff.rfl⟩, fun i hi => ?_, (((((Fr.refl NoF w).alloc _).alloc _).alloc _).drew)⟩
    rcases hi with (rfl | rfl | rfl) | q
    · omega
    · omega
    · omega
    · cases q
  · go_wp2
    go_returns
    have P := KEY.out (((w.alloc (.cells (madeCells #[.bool false] n) 4)).alloc (.cells (madeCells #[.int .u32 0] n) 45)).alloc (.cells #[.int .i64 n, .slice (some ⟨w.heap.size + 1, 0, none⟩) n n, .slice (some ⟨w.heap.size, 0, none⟩) n n, .slice none 0 0] 55)) (w.heap.size + 1) w.heap.size (w.heap.size + 2)
      (heap_step _ _ _ _ (heap_alloc_new _ _ _ (by simp))) (heap_step _ _ _ _ (heap_step _ _ _ _ (heap_alloc_new _ _ _ rfl))) (heap_alloc_new _ _ _ (by simp)) (by omega) (by omega) (by omega)
    refine ⟨w.heap.size + 2, _, _, rfl, ⟨w.heap.size + 1, w.heap.size, _, P.fr ((Fr.refl NoF _).drew) (fun q => q) (fun q => q) (fun q => q) (fun _ _ q => q), fun _ => Iff.rfl, fun _ => Iff.rfl⟩, fun i hi => ?_, (((((Fr.refl NoF w).alloc _).alloc _).alloc _).drew)⟩
    rcases hi with (rfl | rfl | rfl) | q
    · omega
    · omega
    · omega
    · cases q

theorem rep_getD (n f : Nat) : (List.replicate n 0).getD f 0 = 0 := by
  rw [List.getD_eq_getElem?_getD, List.getElem?_replicate]
  split <;> rfl
theorem CRep.inside {w : World} {v : Value} {cs : List Cl} {X : Nat → Prop} (h : CRep w v cs X) : CRep w v cs (fun i => X i ∧ i < w.heap.size) := by
  obtain ⟨gs, h1, h2, h3, h4⟩ := h
  exact ⟨gs, h1, h2, fun i c g e1 e2 => ⟨(h3 i c g e1 e2).1, fun b hb => ⟨(h3 i c g e1 e2).2 b hb, (h3 i c g e1 e2).1.lt b hb⟩⟩, fun b hb => ⟨h4 b hb, h2.lt b hb⟩⟩

set_option maxRecDepth 100000 in
set_option maxHeartbeats 4000000 in
theorem plays_walk (a0 a2 : Int) (v : Value) (zs : List (Int × Int)) (w : World) (hv : ArgQ w v zs) :
    Calls Try.prog 3 #[.int .i64 a0, v, .int .i64 a2] w fun e w' => e = .returned (.bool true) ∧ Fr NoF w w' := by
  obtain ⟨n, hn1, hn2, en⟩ := modk1 a0 (k := 7) (by decide) (by decide)
  obtain ⟨m, hm1, hm2, em⟩ := modk1 a2 (k := 12) (by decide) (by decide)
  obtain ⟨sa, sc, rfl, _, _⟩ := hv.1
  have HV := Lib.hid hv
  have EN := Lib.hid en
  have EM := Lib.hid em
  have N := Lib.hid (lru_new_yes n w (by omega) (by omega))
  clear en em hv
  go_enter Try.func3, Try.ntmps3
  go_wp2_with fail
  rw [EN.out, EM.out]
  refine N.out.mono ?_
  clear N
  rintro e w1 ⟨b, F, rfl, hR1, hF, hf1⟩
  have HF := Lib.hid hF
  have HR1 := Lib.hid hR1
  have HF1 := Lib.hid hf1
  clear hF hR1 hf1
  go_wp2_with fail
  refine (told_calls _).mono ?_
  rintro e w2 ⟨rfl, hf2⟩
  have HR2 := Lib.hid (HR1.out.fr hf2 (fun _ _ q => q))
  have HF2 := Lib.hid (HF1.out.trans hf2 (fun _ q => q.elim))
  clear hf2 HR1 HF1
  have HN := Lib.hid (ls_new n w2 (by omega))
  go_wp2_with fail
  refine HN.out.mono ?_
  clear HN
  rintro e w3 ⟨pb, Fp, Dp, rfl, hP3, hD3, hf3⟩
  have HR3 := Lib.hid (HR2.out.fr hf3 (fun _ _ q => q))
  have HF3 := Lib.hid (HF2.out.trans hf3 (fun _ q => q.elim))
  have HP3 := Lib.hid hP3
  have HD3 := Lib.hid hD3
  have HFb := Lib.hid (fun i hi => HR2.out.lt i hi)
  have HSZ := Lib.hid (And.intro HF2.out.size hf3.size)
  clear hf3 hP3 hD3 HR2 HF2
  have HV3 : Hid (ArgQ w3 (.slice sa zs.length sc) zs) := HV.out.keep HF3.out
  have HX := Lib.hid (Fix_walk HV3.out hm1 (by omega))
  go_wp2_with fail
  refine HX.out.mono ?_
  clear HX
  rintro e w4 ⟨out, rfl, l, hl, hlo, hA, hob, hf4⟩
  have HR4 := Lib.hid (HR3.out.fr hf4 (fun _ _ q => q))
  have HF4 := Lib.hid (HF3.out.trans hf4 (fun _ q => q.elim))
  have HP4 := Lib.hid (PRL_fr.fr HP3.out hf4 (fun _ _ q => q))
  have HDl := Lib.hid (PRL_fr.lt HP3.out)
  have HS4 := Lib.hid hf4.size
  have HO := Lib.hid hob
  have HL := Lib.hid hlo
  have HA := Lib.hid hA
  have hops : ∀ o ∈ l, o.1 < 4 ∧ 1 ≤ o.2 ∧ o.2 < 4294967296 := fun o ho => by have := hlo o ho; exact ⟨this.1, this.2.1, by omega⟩
  have HOPS := Lib.hid hops
  have hco : lsCo n ⟨List.replicate n 0, fun _ => false, []⟩ (List.replicate n 0) := ⟨rfl, by simp, fun f => ⟨fun q => (by cases q), fun q => (q.2 (rep_getD n f)).elim⟩, fun f hf => (by cases hf)⟩
  have HRUN := Lib.hid (Run_walk (ls_sys (pb := pb) (show n < 1000 by omega)) HP4.out hco (by omega) HA.out (fun b hb hd => by have := HO.out b hb; have := HDl.out b hd; omega) (by omega) HOPS.out)
  have hsim := (lru_sim n).run (ops := l) (s := ⟨List.replicate n 0, fun _ => false, []⟩) (t := ([], fun _ => false)) (fr := List.replicate n 0) ⟨hco, List.nodup_nil, rfl, by omega⟩ HOPS.out
  have hlen := lsPol.run_len ⟨List.replicate n 0, fun _ => false, []⟩ (List.replicate n 0) l
  obtain ⟨oa, oc, rfl, _, _⟩ := hA.shape
  have HSIM := Lib.hid hsim
  clear hf4 HR3 HF3 HP3 hob hlo hA hops hsim hco HV3
  go_wp2_with fail
  refine HRUN.out.mono ?_
  clear HRUN
  rintro e w5 ⟨out, rfl, fb, hb, fr, hd, hst⟩
  have hff : Fr Dp w4 w5 := by obtain ⟨_, _, _, h⟩ := hst; exact h.ff
  have hFD : ∀ i, F i → ¬ Dp i := fun i hi hd => by have := HFb.out i hi; have := HD3.out i hd; omega
  have HR5 := Lib.hid (HR4.out.fr hff hFD)
  have HF5 := Lib.hid (HF4.out.trans hff (fun i hi => .inr (by have := HD3.out i hi; have := HSZ.out; omega)))
  have HCR := Lib.hid (CRep.of hst).inside
  have h45 := hff.size
  have HDX : Hid (∀ i, ((Dp i ∨ w4.heap.size ≤ i) ∧ i < w5.heap.size) → ¬ F i) := fun i hi hfi => by
    have h1 := HFb.out i hfi
    have h2 := HSZ.out
    have h3 := HS4.out
    rcases hi.1 with q | q
    · have := HD3.out i q; omega
    · omega
  have hcl : (lsPol.run ⟨List.replicate n 0, fun _ => false, []⟩ (List.replicate n 0) l).2.2.length < 1000000 := by omega
  have HNO := Lib.hid (Nones_walk HCR.out hcl HSIM.out.2.1.at)
  have HCL := Lib.hid hcl
  clear hst hff hFD HR4 HF4 h45 hcl hlen
  go_wp2_with fail
  refine HNO.out.mono ?_
  clear HNO
  rintro e w6 ⟨rfl, hf6⟩
  have HR6 : Hid (lruCR b n w6 ([], fun _ => false) F) := HR5.out.fr hf6 (fun _ _ q => q)
  have HC6 := Lib.hid (HCR.out.fr hf6 (fun _ _ q => q))
  have HF6 := Lib.hid (HF5.out.trans hf6 (fun _ q => q.elim))
  have HRE := Lib.hid (Replay_walk (lru_cod b n) HR6.out HC6.out HDX.out (fun i hi => Nat.lt_of_lt_of_le hi.2 hf6.size) HCL.out HSIM.out.1)
  clear hf6 HR5 HF5 HCR
  go_wp2_with fail
  refine HRE.out.mono ?_
  clear HRE
  rintro e w7 ⟨rfl, F', _, hf7, _⟩
  have HF7 := Lib.hid (HF6.out.trans hf7 (fun i hi => .inr (HF.out i hi)))
  clear hf7
  go_wp2
  go_returns
  exact ⟨rfl, HF7.out⟩
end Go.Proofs.Ytefkalamodpjmaa

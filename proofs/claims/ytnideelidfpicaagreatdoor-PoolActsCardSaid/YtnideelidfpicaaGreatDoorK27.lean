/-
  A Disk in memory: Pages.
-/
import Derived.Test.YtnideelidfpicaaGreatDoorK26
namespace Go.Proofs.YtnideelidfpicaaGreatDoor
open Go.RowKit Go.Maps
set_option linter.unusedVariables false

/-- The ids of the pages among the first k. -/
def idsL (pg : Nat → Bool × Nat) (k : Nat) : List Nat := ((List.range k).filter fun i => (pg i).1).map (· + 1)
theorem idsL_zero (pg : Nat → Bool × Nat) : idsL pg 0 = [] := rfl
theorem idsL_succ (pg : Nat → Bool × Nat) (k : Nat) : idsL pg (k + 1) = if (pg k).1 = true then idsL pg k ++ [k + 1] else idsL pg k := by
  unfold idsL
  rw [List.range_succ, List.filter_append, List.map_append]
  by_cases h : (pg k).1 = true
  · simp [h]
  · simp [h]
theorem idsL_len (pg : Nat → Bool × Nat) (k : Nat) : (idsL pg k).length ≤ k := by
  unfold idsL
  rw [List.length_map]
  exact Nat.le_trans (List.length_filter_le _ _) (by rw [List.length_range]; exact Nat.le_refl _)
theorem OwK.made {w w0 : World} (hf : w0.heap.size ≤ w.heap.size) (k : IntKind) (e : TypeId) (cs : Array Value) (g c : Nat) (hg : g = w.heap.size) (hs : cs.size = c) (hm : c ≤ maxLen) : OwK k w0.heap.size e (w.alloc (.cells cs e)) (.slice (some ⟨g, 0, none⟩) 0 c) [] := by
  subst hg
  exact ⟨rfl, .inr ⟨w.heap.size, c, cs, rfl, hf, heap_alloc_new _ _ _ rfl, Nat.zero_le _, hm, by rw [hs, Nat.mul_one], by simp⟩⟩
theorem OwK.fr {k : IntKind} {base : Nat} {e : TypeId} {w w' : World} {v : Value} {l : List Nat} (h : OwK k base e w v l) (f : Fr NoF w w') : OwK k base e w' v l := own_keep h f (fun _ _ q => q)
section
variable {w w' : World} {db c mb nf : Nat} {s : DS} {pv fv : Value} {fh : Nat → Nat} {F : Nat → Prop}
set_option maxHeartbeats 2000000 in
theorem dk_pages (h : DC w db s c pv fv mb fh nf) : Calls Tryz.prog 24 #[.pointer (some ⟨db, 0, none⟩)] w fun e w' => ∃ v, e = .returned v ∧ OwK .u32 w.heap.size 43 w' v (idsL s.pg s.np) ∧ Fr NoF w w' := by
  have c1 : w.cell? ⟨db, 1, none⟩ = some pv := h.ce 1 (by omega)
  have c2 : w.cell? ⟨db, 2, none⟩ = some fv := h.ce 2 (by omega)
  have lb := h.hd.lt
  have hnn := h.nn
  have hnr := h.r2
  have hrr := h.r1
  obtain ⟨fa, fc, rfl, _, _⟩ := h.fo.shape
  obtain ⟨va, vc, rfl, v1, v2⟩ := h.po.shape
  unfold maxLen at v2
  obtain ⟨i0, hi0, hz0, hz1, hz2⟩ := info_parts' (P := Tryz.prog) (e := 43) (z := .int .u32 0) (s := 1) (b := 4) (by kernel_rfl)
  have mk1 : ∀ w : World, (Instr.makeSlice 57 (.int .i64 0) (.int .i64 ((s.np : Int) - (nf : Int)))).run Tryz.prog w =
      .ok (.slice (some ⟨w.heap.size, 0, none⟩) 0 (s.np - nf)) (w.alloc (.cells (madeCells #[.int .u32 0] (s.np - nf)) 43)) := by
    intro w
    have := run_make (P := Tryz.prog) w 57 43 i0 _ Tryz.underlying57 hi0 hz0 .i64 .i64 (0 : Int) ((s.np : Int) - (nf : Int)) (by omega) (by omega) (by rw [hz2]; omega) (by omega)
    rw [show ((s.np : Int) - (nf : Int)).toNat = s.np - nf from by omega, hz1, Nat.mul_one] at this
    exact this
  have hwr : IntKind.i64.wrap ((s.np : Int) - (nf : Int)) = (s.np : Int) - (nf : Int) := IntWalk.i64_in _ (by omega)
  have HP := Lib.hid h.po
  have HMD : Hid (∀ d, OwK .u32 w.heap.size 43 ((w.alloc (.cells (madeCells #[.int .u32 0] (s.np - nf)) 43)).drewN d) (.slice (some ⟨w.heap.size, 0, none⟩) 0 (s.np - nf)) (idsL s.pg 0)) := by
    intro d
    exact (OwK.made (Nat.le_refl _) .u32 43 _ _ _ rfl (by simp [size_madeCells]) (by unfold maxLen; omega)).fr ((Fr.refl NoF _).drewN d)
  clear h hi0 hz0 hz1 hz2
  go_enter Tryz.func24, Tryz.ntmps24
  go_wp2
  go_region
  go_wp2
  go_loopw [3, 25] (fun o i wr => ∃ k : Nat, k ≤ s.np ∧ i = .int .i64 k ∧ OwK .u32 w.heap.size 43 wr o (idsL s.pg k) ∧ Fr NoF w wr) (fun _ i _ => s.np - (intOf i).toNat)
  case atStart =>
    refine ⟨0, Nat.zero_le _, rfl, ?_, ((Fr.refl NoF w).alloc _).drew⟩
    exact (OwK.made (Nat.le_refl _) .u32 43 _ _ _ rfl (by simp [size_madeCells]) (by unfold maxLen; omega)).fr ((Fr.refl NoF _).drew)
  case round =>
    obtain ⟨k, hk, rfl, ho, hf⟩ := hrel
    have HO := Lib.hid ho
    have HF := Lib.hid hf
    have hsz := hf.size
    by_cases hlt : k < s.np
    · obtain ⟨g, cap, ev, q1, q2, q3, q4, q5⟩ := (HP.out.fr0 hf).at (by omega)
      simp only [Value.slice.injEq] at ev
      obtain ⟨rfl, _, rfl⟩ := ev
      have cy0 := q5 (k * 2) (by omega)
      have cy1 := q5 (k * 2 + 1) (by omega)
      rw [pgF_0] at cy0
      rw [pgF_1] at cy1
      have hS := idsL_succ s.pg k
      have hL := idsL_len s.pg k
      have hcw : IntKind.u32.wrap ((k : Int) + 1) = (k : Int) + 1 := IntWalk.u32_in _ (by omega)
      clear q5
      cases hb : (s.pg k).1 with
      | false =>
        rw [hb] at cy0 hS
        have HS := Lib.hid hS
        clear hS hb ho hf hL
        generalize (s.pg k).2 = val at *
        go_wp2
        go_roundw
        case rel => exact ⟨k + 1, by omega, by go_num, by rw [HS.out, if_neg (by simp)]; exact HO.out.fr (by repeat (first | exact Fr.refl NoF _ | apply Fr.alloc | (refine Fr.setCell ?_ (.inr (by simp)) _))), HF.out.trans (G := NoF) (by repeat (first | exact Fr.refl NoF _ | apply Fr.alloc | (refine Fr.setCell ?_ (.inr (by simp)) _))) (fun _ q => q.elim)⟩
        case measure => simp [intOf]; omega
      | true =>
        rw [hb] at cy0 hS
        rw [if_pos rfl] at hS
        have HS := Lib.hid hS
        clear hS hb ho hf
        generalize (s.pg k).2 = val at *
        have f2 : Fr NoF wr ((wr.alloc (.cells #[.bool true, .int .u64 (val : Nat)] 104)).alloc (.cells #[.int .u32 ((k : Int) + 1)] 43)) := ((Fr.refl NoF wr).alloc _).alloc _
        have FF2 := Lib.hid f2
        clear f2
        go_wp2_with (at_builtin; go_must (refine appLB (base := w.heap.size) EIu rfl _ _ rfl (by rfl) (by rfl) (by simp; omega) (own_keep HO.out FF2.out (fun _ _ q => q)) (SlC.ofOwn (own_new (w0 := wr) (by simp) #[.int .u32 ((k : Int) + 1)] 43 1 1 _ (by simp) rfl (by unfold maxLen; omega)) (by simp [Value.oneCell'])) (by unfold maxLen; omega) (by omega) ?_); intro v' w2 hown' hf' _; have HF' := Lib.hid hf'; have HO' := Lib.hid hown'; clear cy0 cy1 hf' hown')
        go_roundw
        case rel =>
          refine ⟨k + 1, by omega, by go_num, ?_, ?_⟩
          · rw [HS.out]; exact OwK.snoc HO'.out
          · refine (HF.out.trans FF2.out (fun _ q => q.elim)).trans HF'.out (fun i hi => .inr ?_)
            exact HO.out.base i hi
        case measure => simp [intOf]; omega
    · obtain rfl : k = s.np := by omega
      clear ho hf
      go_wp2
      go_returns
      exact ⟨_, rfl, HO.out, HF.out⟩
end
end Go.Proofs.YtnideelidfpicaaGreatDoor

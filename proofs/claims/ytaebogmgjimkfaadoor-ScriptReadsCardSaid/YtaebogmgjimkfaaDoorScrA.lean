/-
  Script's bytes: one of them, all of them as picks.
-/
import Derived.Test.YtaebogmgjimkfaaDoorSl
import Derived.Test.YtaebogmgjimkfaaDoorR4A
import Derived.Handy
import Derived.Deep.QuietTactic
namespace Go.Proofs.YtaebogmgjimkfaaDoor
open Go.RowKit Go.Maps
set_option linter.unusedVariables false
set_option linter.unusedSimpArgs false
theorem scr_at {w : World} {v : Value} {l : List Nat} (h : SlK .u8 w v l) (hb : ∀ x ∈ l, x < 256) (i : Nat) (hi : i < 1000000) :
    Calls Tryd.prog 16 #[v, .int .i64 i] w fun e w' => e = .returned (.int .i64 (l.getD i 0 : Nat)) ∧ w = w' := by
  obtain ⟨a, c, rfl, h1, h2⟩ := h.shape
  unfold maxLen at h2
  have H := Lib.hid h
  have HB := Lib.hid hb
  clear h hb
  go_enter Tryd.func16, Tryd.ntmps16
  by_cases hl : i < l.length
  · obtain ⟨b, o, c', e1, _, _, h3, h4⟩ := H.out.at hl
    simp only [Value.slice.injEq] at e1
    obtain ⟨rfl, _, rfl⟩ := e1
    have hx : Hid (l.getD i 0 = l[i] ∧ l[i] < 256) := ⟨by simp [List.getD, hl], HB.out _ (List.getElem_mem hl)⟩
    rw [hx.out.1]
    go_wp2
    go_returns
    have hx2 := hx.out.2
    exact ⟨congrArg (fun z => Ending.returned (Value.int .i64 z)) (by unfold wrap64; omega), rfl⟩
  · rw [show l.getD i 0 = 0 from by simp [List.getD, List.getElem?_eq_none (Nat.le_of_not_lt hl)]]
    go_wp2
    go_returns
    exact ⟨rfl, rfl⟩
theorem Blk.slk {w : World} {b : Nat} {k : IntKind} {l : List Nat} {c : Nat → Value} (h : Blk w b l.length c) (hm : l.length ≤ maxLen) (hc : ∀ i (hi : i < l.length), c i = .int k (l[i] : Nat)) : SlK k w (.slice (some ⟨b, 0, none⟩) l.length l.length) l := by
  refine ⟨_, l.length, rfl, by simp, by intro u hu; obtain ⟨z, _, rfl⟩ := List.mem_map.1 hu; rfl, Nat.le_refl _, hm, .inr ⟨b, 0, rfl, h.lt, fun j u hj => ?_⟩⟩
  rw [List.getElem?_map] at hj
  cases e : l[j]? with
  | none => rw [e] at hj; cases hj
  | some y =>
    rw [e] at hj
    obtain ⟨q, e2⟩ := List.getElem?_eq_some_iff.1 e
    simp only [Option.map_some, Option.some.injEq] at hj
    rw [Nat.zero_add, h.cell q, hc j q, e2, hj]
/-- Picks as cells, the first k of which are laid. -/
def pkC (l : List Nat) (k : Nat) : Nat → Value := fun i => .int .i64 (if i < k then (l.getD i 0 : Nat) else 0 : Nat)
theorem pkC_set (l : List Nat) (k : Nat) : upd (pkC l k) k (.int .i64 (l.getD k 0 : Nat)) = pkC l (k + 1) := by
  funext i
  unfold pkC
  by_cases e : i = k
  · subst e
    rw [upd_same, if_pos (Nat.lt_succ_self i)]
  · rw [upd_other _ _ e]
    congr 2
    by_cases h : i < k
    · rw [if_pos h, if_pos (by omega)]
    · rw [if_neg h, if_neg (by omega)]
set_option maxHeartbeats 1000000 in
/-- The bytes as numbers. -/
theorem scr_picks {w : World} {v : Value} {l : List Nat} (h : SlK .u8 w v l) (hb : ∀ x ∈ l, x < 256) (hl : l.length ≤ 400) :
    Calls Tryd.prog 18 #[v] w fun e w' => ∃ v', e = .returned v' ∧ SlK .i64 w' v' l ∧ (∀ b, v'.ownBlock = some b → w.heap.size ≤ b) ∧ Fr NoF w w' := by
  obtain ⟨a, c, rfl, h1, h2⟩ := h.shape
  unfold maxLen at h2
  obtain ⟨i0, hi0, hz0, hz1, hz2⟩ := info_parts' (P := Tryd.prog) (e := 3) (z := .int .i64 0) (s := 1) (b := 8) (by kernel_rfl)
  have mk1 : ∀ w : World, (Instr.makeSlice 24 (.int .i64 (l.length : Int)) (.int .i64 (l.length : Int))).run Tryd.prog w =
      .ok (.slice (some ⟨w.heap.size, 0, none⟩) l.length l.length) (w.alloc (.cells (madeCells #[.int .i64 0] l.length) 3)) := by
    intro w
    have := run_make (P := Tryd.prog) w 24 3 i0 _ Tryd.underlying24 hi0 hz0 .i64 .i64 (l.length : Int) (l.length : Int) (by omega) (Int.le_refl _) (by rw [hz2]; omega) (by omega)
    rw [show ((l.length : Int)).toNat = l.length from by omega, hz1, Nat.mul_one] at this
    exact this
  have hB0 : Blk (w.alloc (.cells (madeCells #[.int .i64 0] l.length) 3)) w.heap.size l.length (pkC l 0) :=
    Blk.new _ _ _ _ _ _ rfl (by simp [madeCells]) (fun i hi => by rw [made_at hi]; unfold pkC; simp [Nat.mod_one])
  have H := Lib.hid h
  have HB := Lib.hid hb
  have HB0 := Lib.hid hB0
  have HF0 : Hid (Fr NoF w (w.alloc (.cells (madeCells #[.int .i64 0] l.length) 3))) := (Fr.refl NoF w).alloc _
  clear h hb hi0 hz0 hz1 hz2 hB0
  go_enter Tryd.func18, Tryd.ntmps18
  go_wp2
  go_loopw [11] (fun i wr => ∃ k : Nat, k ≤ l.length ∧ i = .int .i64 k ∧ Blk wr w.heap.size l.length (pkC l k) ∧ Fr NoF w wr) (fun i _ => l.length - (intOf i).toNat)
  case atStart => exact ⟨0, Nat.zero_le _, rfl, HB0.out, HF0.out⟩
  case round =>
    obtain ⟨k, hk, rfl, hB, hf⟩ := hrel
    by_cases hlt : k < l.length
    · obtain ⟨b, o, c', e1, _, _, h3, h4⟩ := H.out.at hlt
      simp only [Value.slice.injEq] at e1
      obtain ⟨rfl, _, rfl⟩ := e1
      rw [← hf.cell (p := ⟨b, o + k, none⟩) h3 id] at h4
      have hx : Hid (l.getD k 0 = l[k] ∧ l[k] < 256) := ⟨by simp [List.getD, hlt], HB.out _ (List.getElem_mem hlt)⟩
      have ew : wrap64 ((l[k] : Nat) : Int) = (l[k] : Nat) := by have := hx.out.2; unfold wrap64; omega
      have HS := Lib.hid (hB.set k (.int .i64 (l.getD k 0 : Nat)))
      rw [pkC_set, hx.out.1] at HS
      have HS2 : Hid (Fr NoF w (wr.setCell ⟨w.heap.size, k, none⟩ (.int .i64 (l[k] : Nat)))) := hf.setCell (.inr (Nat.le_refl _)) _
      have c1 := hB.cell hlt
      have c2 := hB.frozen k
      have c3 := hB.lt
      generalize l[k] = y at *
      clear hf hB hx HB0 HF0 HB
      go_wp2
      go_roundw
      case rel => exact ⟨k + 1, by omega, by go_num, HS.out, HS2.out⟩
      case measure => simp [intOf]; omega
    · obtain rfl : k = l.length := by omega
      have HX := Lib.hid hB
      have HF := Lib.hid hf
      clear hB hf
      go_wp2
      go_returns
      refine ⟨_, rfl, ?_, fun b q => ?_, HF.out⟩
      · refine HX.out.slk (by unfold maxLen; omega) (fun i hi => ?_)
        unfold pkC
        rw [if_pos hi]
        simp [List.getD, hi]
      · simp [Value.ownBlock] at q; omega
end Go.Proofs.YtaebogmgjimkfaaDoor

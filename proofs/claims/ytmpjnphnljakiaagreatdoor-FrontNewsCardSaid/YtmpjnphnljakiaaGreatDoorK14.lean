/-
  disk's heap of ids in memory, as container/heap is told of it.
-/
import Derived.Test.YtmpjnphnljakiaaGreatDoorK12
import Derived.Test.YtmpjnphnljakiaaGreatDoorK13
import Derived.Test.YtmpjnphnljakiaaGreatDoorK06
import Derived.Test.YtmpjnphnljakiaaGreatDoorK08
import Derived.RegionTactic
import Derived.Deep.RegionLaw
import Derived.Deep.QuietTactic
import Derived.BigQuiet
namespace Go.Proofs.YtmpjnphnljakiaaGreatDoor
open Go.RowKit
set_option linter.unusedVariables false

def ltN (x y : Nat) : Bool := decide (x < y)
theorem ltN_ord : Ord ltN := ⟨fun x y h => by unfold ltN at *; simp at *; omega, fun x y z h1 h2 => by unfold ltN at *; simp at *; omega⟩
def encU (x : Nat) : Value := .iface 44 (.int .u32 (x : Nat))
def HRd (db : Nat) (hc : Nat → Value) : World → (Nat → Nat) → Nat → (Nat → Prop) → Prop := fun w a n F => ∃ fv, Blk w db 8 (upd hc 2 fv) ∧ SlF w 44 1 fv n (uN a) ∧ (∀ b, fv.ownBlock = some b → ¬ b = db) ∧ n < 1000000 ∧ ∀ i, F i ↔ i = db ∨ fv.ownBlock = some i
section
variable {w w' : World} {db n : Nat} {hc : Nat → Value} {a : Nat → Nat} {F : Nat → Prop}
theorem swap_uN (a : Nat → Nat) (i j : Nat) : upd (upd (uN a) i (.int .u32 (a j : Nat))) j (.int .u32 (a i : Nat)) = uN (swp a i j) := by
  funext k
  by_cases e1 : k = j
  · subst e1; rw [upd_same]; unfold uN swp; by_cases e2 : k = i
    · rw [if_pos e2, e2]
    · rw [if_neg e2, if_pos rfl]
  · rw [upd_other _ _ e1]
    by_cases e2 : k = i
    · subst e2; rw [upd_same]; unfold uN swp; rw [if_pos rfl]
    · rw [upd_other _ _ e2]; unfold uN swp; rw [if_neg e2, if_neg e1]
theorem id_len (v : Value) (ad : Option Addr) (c : Nat) (hv : v = .slice ad n c) : Calls Tryz.prog 125 #[v] w fun e w' => e = .returned (.int .i64 (n : Nat)) ∧ w = w' := by
  subst hv
  go_enter Tryz.func125, Tryz.ntmps125
  go_wp2
  go_returns
  exact ⟨rfl, rfl⟩
theorem id_less {v : Value} (h : SlF w 44 1 v n (uN a)) (hn : n < 1000000) {i j : Nat} (hi : i < n) (hj : j < n) : Calls Tryz.prog 126 #[v, .int .i64 i, .int .i64 j] w fun e w' => e = .returned (.bool (ltN (a i) (a j))) ∧ ∃ d, w.drewN d = w' := by
  obtain ⟨g, cap, rfl, h1, h2, h3, h4, h5⟩ := h.at (by omega)
  have ci : w.cell? ⟨g, i, none⟩ = some (.int .u32 (a i : Nat)) := h5 i (by omega)
  have cj : w.cell? ⟨g, j, none⟩ = some (.int .u32 (a j : Nat)) := h5 j (by omega)
  have HL : Hid (ltN (a i) (a j) = decide (a i < a j)) := rfl
  rw [HL.out]
  generalize a i = x at *
  generalize a j = y at *
  clear h h4 h5 HL
  go_enter Tryz.func126, Tryz.ntmps126
  go_wp2
  go_quiet (fail)
  go_wp2
  go_returns
  exact ⟨by simp, _, rfl⟩
set_option maxHeartbeats 1000000 in
theorem id_swap {g cap : Nat} (h : SlF w 44 1 (.slice (some ⟨g, 0, none⟩) n cap) n (uN a)) (hn : n < 1000000) {i j : Nat} (hi : i < n) (hj : j < n) : Calls Tryz.prog 127 #[.slice (some ⟨g, 0, none⟩) n cap, .int .i64 i, .int .i64 j] w fun e w' => e = .returned (.tuple #[]) ∧ SlF w' 44 1 (.slice (some ⟨g, 0, none⟩) n cap) n (uN (swp a i j)) ∧ Fr (fun k => k = g) w w' := by
  obtain ⟨g', cap', e, h1, h2, h3, h4, h5⟩ := h.at (by omega)
  simp only [Value.slice.injEq, Option.some.injEq, Addr.mk.injEq] at e
  obtain ⟨⟨rfl, _⟩, _, rfl⟩ := e
  have ci : w.cell? ⟨g, i, none⟩ = some (.int .u32 (a i : Nat)) := h5 i (by omega)
  have cj : w.cell? ⟨g, j, none⟩ = some (.int .u32 (a j : Nat)) := h5 j (by omega)
  have KEY : Hid (SlF (((w.setCell ⟨g, i, none⟩ (.int .u32 (a j : Nat))).setCell ⟨g, j, none⟩ (.int .u32 (a i : Nat))).drew) 44 1 (.slice (some ⟨g, 0, none⟩) n cap) n (uN (swp a i j)) ∧ Fr (fun k => k = g) w (((w.setCell ⟨g, i, none⟩ (.int .u32 (a j : Nat))).setCell ⟨g, j, none⟩ (.int .u32 (a i : Nat))).drew)) := by
    refine ⟨?_, (((Fr.refl (fun k => k = g) w).setCell (p := ⟨g, i, none⟩) (.inl rfl) _).setCell (p := ⟨g, j, none⟩) (.inl rfl) _).drew⟩
    rw [← swap_uN a i j]
    exact ((h.set (by omega) _).set (by omega) _).fr0 ((Fr.refl NoF _).drew)
  have f4 := h4
  by_cases hij : i = j
  · subst hij
    generalize a i = x at *
    clear h h4 h5 cj
    go_enter Tryz.func127, Tryz.ntmps127
    go_wp2
    go_region
    go_wp2
    go_returns
    exact ⟨rfl, KEY.out⟩
  · have hji : ¬ j = i := fun e => hij e.symm
    generalize a i = x at *
    generalize a j = y at *
    clear h h4 h5
    go_enter Tryz.func127, Tryz.ntmps127
    go_wp2
    go_region
    go_wp2
    go_returns
    exact ⟨rfl, KEY.out⟩
theorem EIh : EI Tryz.prog 50 44 1 4 := EI.mk' (z := .int .u32 0) Tryz.underlying50 (by kernel_rfl) rfl (by decide)
def okU (a : Nat → Nat) (n t : Nat) : Prop := n < 900000
set_option maxHeartbeats 1000000 in
theorem id_push {fv : Value} (hb : Blk w db 8 (upd hc 2 fv)) (hs : SlF w 44 1 fv n (uN a)) (hd : ∀ b, fv.ownBlock = some b → ¬ b = db) (hn : n < 900000) (t : Nat) : Calls Tryz.prog 136 #[.pointer (some ⟨db, 2, none⟩), encU t] w fun e w' => e = .returned (.tuple #[]) ∧
    ∃ fv', Blk w' db 8 (upd hc 2 fv') ∧ SlF w' 44 1 fv' (n + 1) (uN (upd a n t)) ∧ (∀ b, fv'.ownBlock = some b → ¬ b = db ∧ (fv.ownBlock = some b ∨ w.heap.size ≤ b)) ∧ Fr (fun i => i = db ∨ fv.ownBlock = some i) w w' := by
  have c2 : w.cell? ⟨db, 2, none⟩ = some fv := by have := hb.cell (i := 2) (by omega); rw [upd_same] at this; exact this
  have f2 := hb.frozen 2
  have lb := hb.lt
  obtain ⟨va, vc, rfl, v1, v2⟩ := hs.shape
  have HB := Lib.hid hb
  have HS := Lib.hid hs
  have HD := Lib.hid hd
  unfold encU
  have hta : ∀ W : World, (Instr.typeAssert (.iface 44 (.int .u32 (t : Nat))) 20 44 false).run Tryz.prog W = .ok (.int .u32 (t : Nat)) W := fun W => by kernel_rfl
  clear hb hs hd
  go_enter Tryz.func136, Tryz.ntmps136
  go_wp2
  go_region_law (first
    | (refine appSB (base := 0) EIh rfl (.tmp 7) (.tmp 10) rfl (by rfl) (by rfl) (Nat.zero_le _) (own_keep HS.out (by repeat (first | exact Fr.refl NoF _ | apply Fr.drew | apply Fr.alloc)) (fun _ _ q => q)) (sl_heap (size := 1) (n := 1) (cs := #[.int .u32 (t : Nat)]) (by (try rw [heap_drew]); refine heap_alloc_new _ _ _ ?_; simp) (by rfl) (by unfold maxLen; omega) (by simp [Value.oneCell'])) (by unfold maxLen; omega) (by omega) ?_; intro v' w2 hown' hf' hob'; obtain ⟨a8, c8, rfl, _, _⟩ := (SlF.snoc1 hown').shape; have hfw := Fr.trans (F := fun b => (Value.slice va n vc).ownBlock = some b) (a := w) (Fr.none (by repeat (first | exact Fr.refl NoF _ | apply Fr.drew | apply Fr.alloc))) hf' (fun i hi => .inl hi); have hb2 := HB.out.fr hfw (fun e => HD.out db e rfl); have g2 : w2.cell? ⟨db, 2, none⟩ = some (.slice va n vc) := (by have := hb2.cell (i := 2) (by omega); rw [upd_same] at this; exact this); have gf := hb2.frozen 2; have gl := hb2.lt; have HO' := Lib.hid hown'; have HF' := Lib.hid hfw; have HOB := Lib.hid hob'; have HB2 := Lib.hid hb2; clear hown' hf' hob' hfw hb2))
  all_goals
    go_wp2
    go_returns
    refine ⟨rfl, .slice a8 (n + 1) c8, ?_, ?_, fun b hb => ⟨fun e => ?_, ?_⟩, HF'.out.mono (fun i q => .inr q) |>.setCell (p := ⟨db, 2, none⟩) (.inl (.inl rfl)) _⟩
    · have h1 := HB2.out.set 2 (.slice a8 (n + 1) c8)
      have e2 : upd (upd hc 2 (.slice va n vc)) 2 (.slice a8 (n + 1) c8) = upd hc 2 (.slice a8 (n + 1) c8) := by funext i; unfold upd; split <;> rfl
      rw [e2] at h1; exact h1
    · have h1 := SlF.snoc1 HO'.out
      have e2 : upd (uN a) n (.int .u32 (t : Nat)) = uN (upd a n t) := uN_set a n t
      rw [e2] at h1
      refine h1.fr ((Fr.refl (fun i => i = db) w2).setCell (p := ⟨db, 2, none⟩) (.inl rfl) _) (fun b hb e => ?_)
      rcases HOB.out b hb with q | q
      · exact HD.out b q e
      · have := HB.out.lt; simp at q; omega
    · rcases HOB.out b hb with q | q
      · exact HD.out b q e
      · have := HB.out.lt; simp at q; omega
    · rcases HOB.out b hb with q | q
      · exact .inl q
      · right; simp at q; omega
set_option maxHeartbeats 1000000 in
theorem id_pop {fv : Value} (hb : Blk w db 8 (upd hc 2 fv)) (hs : SlF w 44 1 fv (n + 1) (uN a)) (hd : ∀ b, fv.ownBlock = some b → ¬ b = db) (hn : n + 1 < 1000000) : Calls Tryz.prog 135 #[.pointer (some ⟨db, 2, none⟩)] w fun e w' => e = .returned (encU (a n)) ∧
    ∃ fv', Blk w' db 8 (upd hc 2 fv') ∧ SlF w' 44 1 fv' n (uN a) ∧ (∀ b, fv'.ownBlock = some b ↔ fv.ownBlock = some b) ∧ Fr (fun i => i = db) w w' := by
  have c2 : w.cell? ⟨db, 2, none⟩ = some fv := by have := hb.cell (i := 2) (by omega); rw [upd_same] at this; exact this
  have f2 := hb.frozen 2
  have lb := hb.lt
  obtain ⟨g, cap, rfl, h1, h2, h3, h4, h5⟩ := hs.at (by omega)
  have cn : w.cell? ⟨g, n, none⟩ = some (.int .u32 (a n : Nat)) := h5 n (by omega)
  unfold maxLen at h2
  have R : Hid (∃ fv', (fv' = .slice (some ⟨g, 0, none⟩) n cap) ∧ Blk (w.setCell ⟨db, 2, none⟩ (.slice (some ⟨g, 0, none⟩) n cap)) db 8 (upd hc 2 fv') ∧ SlF (w.setCell ⟨db, 2, none⟩ (.slice (some ⟨g, 0, none⟩) n cap)) 44 1 fv' n (uN a) ∧ (∀ b, fv'.ownBlock = some b ↔ (Value.slice (some ⟨g, 0, none⟩) (n + 1) cap).ownBlock = some b) ∧ Fr (fun i => i = db) w (w.setCell ⟨db, 2, none⟩ (.slice (some ⟨g, 0, none⟩) n cap))) := by
    have f : Fr (fun i => i = db) w (w.setCell ⟨db, 2, none⟩ (.slice (some ⟨g, 0, none⟩) n cap)) := (Fr.refl (fun i => i = db) w).setCell (p := ⟨db, 2, none⟩) (.inl rfl) _
    refine ⟨_, rfl, ?_, (hs.cut (m := n) (by omega)).fr f (fun b hb => hd b hb), fun b => Iff.rfl, f⟩
    have h1 := hb.set 2 (.slice (some ⟨g, 0, none⟩) n cap)
    have e2 : upd (upd hc 2 (.slice (some ⟨g, 0, none⟩) (n + 1) cap)) 2 (.slice (some ⟨g, 0, none⟩) n cap) = upd hc 2 (.slice (some ⟨g, 0, none⟩) n cap) := by funext i; unfold upd; split <;> rfl
    rw [e2] at h1; exact h1
  unfold encU
  generalize a n = x at *
  clear hb hs hd h4 h5
  go_enter Tryz.func135, Tryz.ntmps135
  go_wp2
  go_returns
  obtain ⟨fv', rfl, r⟩ := R.out
  exact ⟨rfl, _, r⟩

theorem idh_sys (db : Nat) (hc : Nat → Value) : HeapSys ltN (HRd db hc) ⟨db, 2, none⟩ encU okU where
  fr := by
    rintro w w' a n F G ⟨fv, hb, hs, hd, hn, hF⟩ f hG
    exact ⟨fv, hb.fr f (hG db ((hF db).2 (.inl rfl))), hs.fr f (fun b q => hG b ((hF b).2 (.inr q))), hd, hn, hF⟩
  bd := by
    rintro w a n F ⟨fv, hb, hs, hd, hn, hF⟩ i hi
    rcases (hF i).1 hi with rfl | q
    · exact hb.lt
    · exact hs.lt i q
  small := by
    rintro w a n F ⟨fv, hb, hs, hd, hn, hF⟩
    exact hn
  len := by
    rintro w a n F ⟨fv, hb, hs, hd, hn, hF⟩
    obtain ⟨i, hi, hm⟩ := method_of (P := Tryz.prog) (t := 116) (name := "Len") (f := 125) (b := false) (by kernel_rfl)
    have c2 : w.cell? ⟨db, 2, none⟩ = some fv := by have := hb.cell (i := 2) (by omega); rw [upd_same] at this; exact this
    obtain ⟨va, vc, e, _, _⟩ := hs.shape
    exact ⟨fv, method_value hi hm Tryz.underlying116 (by kernel_rfl) c2, (id_len fv va vc e).mono fun e w' ⟨he, hw⟩ => ⟨he, hw ▸ Fr.refl _ _⟩⟩
  less := by
    rintro w a n F i j ⟨fv, hb, hs, hd, hn, hF⟩ hi hj
    obtain ⟨ti, hti, hm⟩ := method_of (P := Tryz.prog) (t := 116) (name := "Less") (f := 126) (b := false) (by kernel_rfl)
    have c2 : w.cell? ⟨db, 2, none⟩ = some fv := by have := hb.cell (i := 2) (by omega); rw [upd_same] at this; exact this
    exact ⟨fv, method_value hti hm Tryz.underlying116 (by kernel_rfl) c2, (id_less hs hn hi hj).mono fun e w' ⟨he, d, hw⟩ => ⟨he, hw ▸ (Fr.refl NoF w).drewN d⟩⟩
  swap := by
    rintro w a n F i j ⟨fv, hb, hs, hd, hn, hF⟩ hi hj
    obtain ⟨ti, hti, hm⟩ := method_of (P := Tryz.prog) (t := 116) (name := "Swap") (f := 127) (b := false) (by kernel_rfl)
    have c2 : w.cell? ⟨db, 2, none⟩ = some fv := by have := hb.cell (i := 2) (by omega); rw [upd_same] at this; exact this
    obtain ⟨g, cap, rfl, _, _, _, _, _⟩ := hs.at (by omega)
    refine ⟨_, method_value hti hm Tryz.underlying116 (by kernel_rfl) c2, (id_swap hs hn hi hj).mono fun e w' ⟨he, h1, h2⟩ => ⟨he, ⟨_, hb.fr h2 (fun e => hd g rfl e.symm), h1, hd, hn, hF⟩, h2.mono (fun k q => (hF k).2 (.inr (by rw [q]; rfl)))⟩⟩
  push := by
    rintro w a n F t ⟨fv, hb, hs, hd, hn, hF⟩ ht
    obtain ⟨ti, hti, hm⟩ := method_of (P := Tryz.prog) (t := 116) (name := "Push") (f := 136) (b := true) (by kernel_rfl)
    have ht : n < 900000 := ht
    refine ⟨_, method_ptr hti hm Tryz.underlying116, (id_push hb hs hd ht t).mono fun e w' ⟨he, fv', h1, h2, h3, h4⟩ => ⟨he, fun i => i = db ∨ fv'.ownBlock = some i, ⟨fv', h1, h2, fun b q => (h3 b q).1, by omega, fun i => Iff.rfl⟩, h4.mono (fun k q => (hF k).2 q), fun i q => ?_⟩⟩
    rcases q with q | q
    · exact .inl ((hF i).2 (.inl q))
    · exact (h3 i q).2.imp (fun q => (hF i).2 (.inr q)) (fun q => q)
  pop := by
    rintro w a n F ⟨fv, hb, hs, hd, hn, hF⟩
    obtain ⟨ti, hti, hm⟩ := method_of (P := Tryz.prog) (t := 116) (name := "Pop") (f := 135) (b := true) (by kernel_rfl)
    exact ⟨_, method_ptr hti hm Tryz.underlying116, (id_pop hb hs hd hn).mono fun e w' ⟨he, fv', h1, h2, h3, h4⟩ => ⟨he, ⟨fv', h1, h2, fun b q => hd b ((h3 b).1 q), by omega, fun i => by rw [hF, h3]⟩, h4.mono (fun k q => (hF k).2 (.inl q))⟩⟩
end
end Go.Proofs.YtmpjnphnljakiaaGreatDoor

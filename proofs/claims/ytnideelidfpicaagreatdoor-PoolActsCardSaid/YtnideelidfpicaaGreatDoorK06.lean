/-
  least's Set in memory: Add, Drop.
-/
import Derived.Test.YtnideelidfpicaaGreatDoorK05
namespace Go.Proofs.YtnideelidfpicaaGreatDoor
open Go.RowKit
set_option linter.unusedVariables false

/-- The levels below k are of S', the others of S. -/
def mixT (S S' : Nat → Bool) (k : Nat) : Nat → Nat → Bool := fun i => if i < k then lev S' i else lev S i
theorem mixT_0 (S S' : Nat → Bool) : mixT S S' 0 = lev S := by funext i; unfold mixT; rw [if_neg (by omega)]
theorem mixT_at (S S' : Nat → Bool) (k : Nat) : mixT S S' k k = lev S k := by unfold mixT; rw [if_neg (by omega)]
theorem mixT_step (S S' : Nat → Bool) (k : Nat) : updT (mixT S S' k) k (lev S' k) = mixT S S' (k + 1) := by
  funext i
  unfold updT mixT
  by_cases e : i = k
  · subst e; rw [if_pos rfl, if_pos (by omega)]
  · rw [if_neg e]
    by_cases q : i < k
    · rw [if_pos q, if_pos (by omega)]
    · rw [if_neg q, if_neg (by omega)]
theorem word_pow (y : Nat) : IntKind.u64.wrap (2 ^ (y % 64)) = ((2 ^ (y % 64) : Nat) : Int) := by
  have hp : 2 ^ (y % 64) < 2 ^ 64 := Nat.pow_lt_pow_right (by omega) (Nat.mod_lt _ (by omega))
  rw [IntKind.wrap_u64]
  have : ((2 : Int) ^ (y % 64)) = ((2 ^ (y % 64) : Nat) : Int) := by simp
  rw [this]
  clear this
  generalize 2 ^ (y % 64) = p at *
  have hp' : p < 18446744073709551616 := hp
  omega
theorem word_or {W : Nat} (hW : W < 18446744073709551616) (y : Nat) : bits BinOp.or IntKind.u64 (W : Int) (IntKind.u64.wrap (2 ^ (y % 64))) = ((W ||| 2 ^ (y % 64) : Nat) : Int) := by
  have hp : 2 ^ (y % 64) < 2 ^ 64 := Nat.pow_lt_pow_right (by omega) (Nat.mod_lt _ (by omega))
  rw [word_pow, u64_or_nat _ _ hW (by omega)]
theorem word_andNot {W : Nat} (hW : W < 18446744073709551616) (y : Nat) : bits BinOp.andNot IntKind.u64 (W : Int) (IntKind.u64.wrap (2 ^ (y % 64))) = ((W &&& (18446744073709551615 - 2 ^ (y % 64)) : Nat) : Int) := by
  have hp : 2 ^ (y % 64) < 2 ^ 64 := Nat.pow_lt_pow_right (by omega) (Nat.mod_lt _ (by omega))
  rw [word_pow, u64_andNot_nat _ _ hW (by omega)]
section
variable {w w' : World} {b off N bound L : Nat} {c : Nat → Value} {S : Nat → Bool} {v : Value} {h : Nat → Nat} {T : Nat → Nat → Bool}
/-- What may change: the block in which the Set lies, and its levels'. -/
def SF (b : Nat) (v : Value) (h : Nat → Nat) (L : Nat) : Nat → Prop := fun k => k = b ∨ LF v h L k
theorem add_dom (H : LC w b off N c bound S v h L) {x : Nat} (hx : x < bound) : ∀ y, updB S x true y = true → y < bound := by
  intro y hy
  by_cases e : y = x
  · omega
  · rw [updB_other _ _ e] at hy; exact H.ls.dom y hy
theorem drop_dom (H : LC w b off N c bound S v h L) (x : Nat) : ∀ y, updB S x false y = true → y < bound := by
  intro y hy
  by_cases e : y = x
  · subst e; rw [updB_same] at hy; cases hy
  · rw [updB_other _ _ e] at hy; exact H.ls.dom y hy
set_option maxHeartbeats 2000000 in
theorem add_in (H : LC w b off N c bound S v h L) {x : Nat} (hx : x < bound) (hS : S x = false) : Calls Tryz.prog 55 #[.pointer (some ⟨b, off, none⟩), .int .i64 x] w fun e w' => e = .returned (.tuple #[]) ∧ LC w' b off N (upd c (off + 1) (.int .i64 ((cntB S bound : Nat) + 1 : Int))) bound (updB S x true) v h L ∧ Fr (SF b v h L) w w' := by
  have hHas := Lib.hid (has_in H hx)
  rw [hS] at hHas
  have q0 := H.cell0
  have q1 := H.cell1
  have q2 := H.cell2
  have lb := H.blk.lt
  have fb := H.blk.frozen (off + 1)
  have hL := H.ls.r.one
  have hL4 := H.ls.r.small
  have hhi := H.ls.r.hi
  have hcnt := cntB_le S bound
  have HD := Lib.hid (add_dom H hx)
  have HNB := Lib.hid H.nb
  have HC := Lib.hid (And.intro H.c0 H.c2)
  have hinb := H.inb
  have HCN := Lib.hid (cntB_add S hS bound hx)
  have HDV := Lib.hid (fun k => dv_lt hx k)
  have f1 : Fr (fun k => k = b) w (w.setCell ⟨b, off + 1, none⟩ (.int .i64 ((cntB S bound : Nat) + 1 : Int))) := (Fr.refl (fun k => k = b) w).setCell (p := ⟨b, off + 1, none⟩) (.inl rfl) _
  have HR0 := Lib.hid (H.ls.r.fr f1 (fun k hk e => H.nb (e ▸ hk)))
  have HB0 := Lib.hid (H.blk.set (off + 1) (.int .i64 ((cntB S bound : Nat) + 1 : Int)))
  have HF0 := Lib.hid f1
  obtain ⟨g, cap, rfl, g1, g2⟩ := H.ls.r.shape
  have hx0 : decide ((x : Int) < 0) = false := by simp
  have hx1 : decide ((bound : Int) ≤ (x : Int)) = false := by simpa using hx
  have hwc : IntKind.i64.wrap ((cntB S bound : Nat) + 1 : Int) = ((cntB S bound + 1 : Nat) : Int) := IntWalk.i64_in _ (by omega)
  generalize cntB S bound = cn at *
  clear H hS f1
  go_enter Tryz.func55, Tryz.ntmps55
  go_wp2_with fail
  refine hHas.out.mono ?_
  rintro e w0 ⟨rfl, rfl⟩
  clear hHas
  go_wp2
  go_loopw [1, 33] (fun xv iv wr => ∃ k : Nat, k ≤ L ∧ iv = .int .i64 k ∧ xv = .int .i64 (dv x k : Nat) ∧ Hid (LR wr bound (.slice (some ⟨g, 0, none⟩) L cap) h L (mixT S (updB S x true) k)) ∧ Hid (Blk wr b N (upd c (off + 1) (.int .i64 ((cn : Nat) + 1 : Int)))) ∧ Hid (Fr (SF b (.slice (some ⟨g, 0, none⟩) L cap) h L) w wr)) (fun _ iv _ => L - (intOf iv).toNat)
  case atStart => exact ⟨0, Nat.zero_le _, rfl, rfl, by rw [mixT_0]; exact HR0.out, HB0.out, HF0.out.mono (fun i q => .inl q)⟩
  case round =>
    obtain ⟨k, hk, rfl, rfl, HR, HB, HF⟩ := hrel
    by_cases hlt : k < L
    · obtain ⟨r0, r1, r2, r3, r6, r4, r5⟩ := HR.out.at hlt (HDV.out k)
      rw [mixT_at] at r3
      have HST : Hid (LR (wr.setCell ⟨h k, dv x k / 64, none⟩ (.int .u64 ((wordOf (lev S k) (dv x k / 64) ||| 2 ^ (dv x k % 64) : Nat) : Int))) bound (.slice (some ⟨g, 0, none⟩) L cap) h L (mixT S (updB S x true) (k + 1))) := by
        have := HR.out.set hlt (x := dv x k) true
        rw [mixT_at, wordOf_add, ← lev_add, mixT_step] at this
        exact this
      have fst : Fr (SF b (.slice (some ⟨g, 0, none⟩) L cap) h L) w (wr.setCell ⟨h k, dv x k / 64, none⟩ (.int .u64 ((wordOf (lev S k) (dv x k / 64) ||| 2 ^ (dv x k % 64) : Nat) : Int))) := HF.out.setCell (p := ⟨h k, dv x k / 64, none⟩) (.inl (.inr (.inr ⟨k, hlt, rfl⟩))) _
      have HFS := Lib.hid fst
      have HBS : Hid (Blk (wr.setCell ⟨h k, dv x k / 64, none⟩ (.int .u64 ((wordOf (lev S k) (dv x k / 64) ||| 2 ^ (dv x k % 64) : Nat) : Int))) b N (upd c (off + 1) (.int .i64 ((cn : Nat) + 1 : Int)))) := HB.out.other (fun e => HNB.out (.inr ⟨k, hlt, e.symm⟩)) _
      have hW := wordOf_lt (lev S k) (dv x k / 64)
      clear HR HB HF fst
      generalize wordOf (lev S k) (dv x k / 64) = W at *
      generalize h k = hb at *
      have HY : Hid (dv x (k + 1) = dv x k / 64) := rfl
      have hyb : dv x k ≤ 65535 := by have := dv_le x k; omega
      generalize dv x k = y at *
      have hw1 : IntKind.i64.wrap ((y : Int) / 64) = (y : Int) / 64 := IntWalk.i64_in _ (by omega)
      have hi0 : 0 ≤ (y : Int) / 64 := by omega
      have hi1 : (y : Int) / 64 < (szs bound k : Nat) := by omega
      have hi2 : ((y : Int) / 64).toNat = y / 64 := by omega
      have key : bits BinOp.or IntKind.u64 (W : Int) (IntKind.u64.wrap (2 ^ (y % 64))) = ((W ||| 2 ^ (y % 64) : Nat) : Int) := word_or hW y
      go_wp2
      go_region
      go_wp2
      go_roundw
      case rel => exact ⟨k + 1, by omega, by go_num, by rw [HY.out]; go_num, HST.out.fr ((Fr.refl NoF _).drew) (fun _ _ q => q), HBS.out.drew, HFS.out.drew⟩
      case measure => simp [intOf]; omega
    · obtain rfl : k = L := by omega
      clear hlt
      go_wp2
      go_returns
      exact ⟨rfl, ⟨HB.out, hinb, by rw [upd_other _ _ (by omega)]; exact HC.out.1, by rw [upd_same, HCN.out]; rfl, by rw [upd_other _ _ (by omega)]; exact HC.out.2, ⟨HR.out.congr (fun i hi => by unfold mixT; rw [if_pos hi]), HD.out⟩, HNB.out⟩, HF.out⟩
/-- Drop: what isn't there doesn't go. -/
theorem drop_no (H : LC w b off N c bound S v h L) {x : Int} (hS : hasZ S x = false) : Calls Tryz.prog 83 #[.pointer (some ⟨b, off, none⟩), .int .i64 x] w fun e w' => e = .returned (.tuple #[]) ∧ w = w' := by
  have hHas := Lib.hid (has_calls H x)
  rw [hS] at hHas
  clear H hS
  go_enter Tryz.func83, Tryz.ntmps83
  go_wp2_with fail
  refine hHas.out.mono ?_
  rintro e w0 ⟨rfl, rfl⟩
  go_wp2
  go_returns
  exact ⟨rfl, rfl⟩
theorem lev_same {S S' : Nat → Bool} {k : Nat} (e : lev S' k = lev S k) : ∀ i, k ≤ i → lev S' i = lev S i := by
  intro i hi
  induction i with
  | zero => obtain rfl : k = 0 := by omega
            exact e
  | succ i ih =>
    by_cases q : k = i + 1
    · subst q; exact e
    · show up (lev S' i) = up (lev S i)
      rw [ih (by omega)]
set_option maxHeartbeats 2000000 in
theorem drop_in (H : LC w b off N c bound S v h L) {x : Nat} (hS : S x = true) : Calls Tryz.prog 83 #[.pointer (some ⟨b, off, none⟩), .int .i64 x] w fun e w' => e = .returned (.tuple #[]) ∧ LC w' b off N (upd c (off + 1) (.int .i64 ((cntB S bound : Nat) - 1 : Int))) bound (updB S x false) v h L ∧ Fr (SF b v h L) w w' := by
  have hx : x < bound := H.ls.dom x hS
  have hHas := Lib.hid (has_in H hx)
  rw [hS] at hHas
  have q1 := H.cell1
  have q2 := H.cell2
  have lb := H.blk.lt
  have fb := H.blk.frozen (off + 1)
  have hL := H.ls.r.one
  have hL4 := H.ls.r.small
  have hhi := H.ls.r.hi
  have hcnt := cntB_le S bound
  have HD := Lib.hid (drop_dom H x)
  have HNB := Lib.hid H.nb
  have HC := Lib.hid (And.intro H.c0 H.c2)
  have hinb := H.inb
  have hcn := cntB_drop S hS bound hx
  have HCN := Lib.hid hcn
  have HDV := Lib.hid (fun k => dv_lt hx k)
  have f1 : Fr (fun k => k = b) w (w.setCell ⟨b, off + 1, none⟩ (.int .i64 ((cntB S bound : Nat) - 1 : Int))) := (Fr.refl (fun k => k = b) w).setCell (p := ⟨b, off + 1, none⟩) (.inl rfl) _
  have HR0 := Lib.hid (H.ls.r.fr f1 (fun k hk e => H.nb (e ▸ hk)))
  have HB0 := Lib.hid (H.blk.set (off + 1) (.int .i64 ((cntB S bound : Nat) - 1 : Int)))
  have HF0 := Lib.hid f1
  obtain ⟨g, cap, rfl, g1, g2⟩ := H.ls.r.shape
  have hc1 : 1 ≤ cntB S bound := by omega
  clear hcn
  generalize cntB S bound = cn at *
  have hwc : IntKind.i64.wrap ((cn : Int) - 1) = (cn : Int) - 1 := IntWalk.i64_in _ (by omega)
  clear H hS f1
  go_enter Tryz.func83, Tryz.ntmps83
  go_wp2_with fail
  refine hHas.out.mono ?_
  rintro e w0 ⟨rfl, rfl⟩
  clear hHas
  go_wp2
  go_loopw [1, 22] (fun xv iv wr => ∃ k : Nat, k ≤ L ∧ iv = .int .i64 k ∧ xv = .int .i64 (dv x k : Nat) ∧ Hid (lev (updB S x false) k = updB (lev S k) (dv x k) false) ∧ Hid (LR wr bound (.slice (some ⟨g, 0, none⟩) L cap) h L (mixT S (updB S x false) k)) ∧ Hid (Blk wr b N (upd c (off + 1) (.int .i64 ((cn : Nat) - 1 : Int)))) ∧ Hid (Fr (SF b (.slice (some ⟨g, 0, none⟩) L cap) h L) w wr)) (fun _ iv _ => L - (intOf iv).toNat)
  case atStart => exact ⟨0, Nat.zero_le _, rfl, rfl, rfl, by rw [mixT_0]; exact HR0.out, HB0.out, HF0.out.mono (fun i q => .inl q)⟩
  case round =>
    obtain ⟨k, hk, rfl, rfl, HLV, HR, HB, HF⟩ := hrel
    by_cases hlt : k < L
    · obtain ⟨r0, r1, r2, r3, r6, r4, r5⟩ := HR.out.at hlt (HDV.out k)
      rw [mixT_at] at r3
      have HST : Hid (LR (wr.setCell ⟨h k, dv x k / 64, none⟩ (.int .u64 ((wordOf (updB (lev S k) (dv x k) false) (dv x k / 64) : Nat) : Int))) bound (.slice (some ⟨g, 0, none⟩) L cap) h L (mixT S (updB S x false) (k + 1))) := by
        have := HR.out.set hlt (x := dv x k) false
        rw [mixT_at, ← HLV.out, mixT_step, HLV.out] at this
        exact this
      have fst : Fr (SF b (.slice (some ⟨g, 0, none⟩) L cap) h L) w (wr.setCell ⟨h k, dv x k / 64, none⟩ (.int .u64 ((wordOf (updB (lev S k) (dv x k) false) (dv x k / 64) : Nat) : Int))) := HF.out.setCell (p := ⟨h k, dv x k / 64, none⟩) (.inl (.inr (.inr ⟨k, hlt, rfl⟩))) _
      have HFS := Lib.hid fst
      have HBS : Hid (Blk (wr.setCell ⟨h k, dv x k / 64, none⟩ (.int .u64 ((wordOf (updB (lev S k) (dv x k) false) (dv x k / 64) : Nat) : Int))) b N (upd c (off + 1) (.int .i64 ((cn : Nat) - 1 : Int)))) := HB.out.other (fun e => HNB.out (.inr ⟨k, hlt, e.symm⟩)) _
      have hW := wordOf_lt (lev S k) (dv x k / 64)
      have key := word_andNot hW (dv x k)
      rw [← wordOf_drop] at key
      have HU0 : Hid (wordOf (updB (lev S k) (dv x k) false) (dv x k / 64) = 0 → lev (updB S x false) (k + 1) = updB (lev S (k + 1)) (dv x (k + 1)) false) := fun q => by show up (lev (updB S x false) k) = _; rw [HLV.out, up_drop0 _ _ q]; rfl
      have HU1 : Hid (¬ wordOf (updB (lev S k) (dv x k) false) (dv x k / 64) = 0 → ∀ i, k + 1 ≤ i → lev (updB S x false) i = lev S i) := fun q => lev_same (by show up (lev (updB S x false) k) = up (lev S k); rw [HLV.out, up_drop1 _ _ q])
      clear HR HB HF fst HLV
      have HY : Hid (dv x (k + 1) = dv x k / 64) := rfl
      have hyb : dv x k ≤ 65535 := by have := dv_le x k; omega
      generalize wordOf (updB (lev S k) (dv x k) false) (dv x k / 64) = W2 at *
      generalize wordOf (lev S k) (dv x k / 64) = W at *
      have HHB : Hid (h k = h k) := rfl
      generalize h k = hb at *
      generalize dv x k = y at *
      have hw1 : IntKind.i64.wrap ((y : Int) / 64) = (y : Int) / 64 := IntWalk.i64_in _ (by omega)
      have hi0 : 0 ≤ (y : Int) / 64 := by omega
      have hi1 : (y : Int) / 64 < (szs bound k : Nat) := by omega
      have hi2 : ((y : Int) / 64).toNat = y / 64 := by omega
      go_wp2
      go_region
      by_cases h0 : W2 = 0
      · have HH0 := Lib.hid (HU0.out h0)
        have hz : ((W2 : Int) != 0) = false := by simp [h0]
        clear h0 HU0 HU1
        go_wp2
        go_roundw
        case rel => exact ⟨k + 1, by omega, by go_num, by rw [HY.out]; go_num, HH0.out, HST.out.fr ((Fr.refl NoF _).drew) (fun _ _ q => q), HBS.out.drew, HFS.out.drew⟩
        case measure => simp [intOf]; omega
      · have HH1 := Lib.hid (HU1.out h0)
        have hz : ((W2 : Int) != 0) = true := by simp [h0]
        clear h0 HU0 HU1
        go_wp2
        go_returns
        exact ⟨rfl, ⟨HBS.out.drew, hinb, by rw [upd_other _ _ (by omega)]; exact HC.out.1, by rw [upd_same]; have := HCN.out; congr 1; omega, by rw [upd_other _ _ (by omega)]; exact HC.out.2, ⟨(HST.out.fr ((Fr.refl NoF _).drew) (fun _ _ q => q)).congr (fun i hi => by
          unfold mixT
          by_cases q : i < k + 1
          · rw [if_pos q]
          · rw [if_neg q]; exact (HH1.out i (by omega)).symm), HD.out⟩, HNB.out⟩, HFS.out.drew⟩
    · obtain rfl : k = L := by omega
      clear hlt
      go_wp2
      go_returns
      exact ⟨rfl, ⟨HB.out, hinb, by rw [upd_other _ _ (by omega)]; exact HC.out.1, by rw [upd_same]; have := HCN.out; congr 1; omega, by rw [upd_other _ _ (by omega)]; exact HC.out.2, ⟨HR.out.congr (fun i hi => by unfold mixT; rw [if_pos hi]), HD.out⟩, HNB.out⟩, HF.out⟩
end
end Go.Proofs.YtnideelidfpicaaGreatDoor

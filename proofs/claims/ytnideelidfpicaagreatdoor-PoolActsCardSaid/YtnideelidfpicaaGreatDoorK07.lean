/-
  least's Set in memory: First, Len.
-/
import Derived.Test.YtnideelidfpicaaGreatDoorK06
namespace Go.Proofs.YtnideelidfpicaaGreatDoor
open Go.RowKit
set_option linter.unusedVariables false

section
variable {w w' : World} {b off N bound L : Nat} {c : Nat → Value} {S : Nat → Bool} {v : Value} {h : Nat → Nat} {T : Nat → Nat → Bool}
theorem len_calls (H : LC w b off N c bound S v h L) : Calls Tryz.prog 73 #[.pointer (some ⟨b, off, none⟩)] w fun e w' => e = .returned (.int .i64 (cntB S bound : Nat)) ∧ w = w' := by
  have q1 := H.cell1
  have lb := H.blk.lt
  clear H
  go_enter Tryz.func73, Tryz.ntmps73
  go_wp2
  go_returns
  exact ⟨rfl, rfl⟩
theorem first_none (H : LC w b off N c bound S v h L) (h0 : cntB S bound = 0) : Calls Tryz.prog 76 #[.pointer (some ⟨b, off, none⟩)] w fun e w' => e = .returned (.int .i64 (-1)) ∧ w = w' := by
  have q1 := H.cell1
  rw [h0] at q1
  have lb := H.blk.lt
  clear H h0
  go_enter Tryz.func76, Tryz.ntmps76
  go_wp2
  go_returns
  exact ⟨rfl, rfl⟩
theorem lev_top (H : LC w b off N c bound S v h L) {x : Nat} (hx : S x = true) : IsLeast (lev S L) 0 := by
  refine ⟨?_, fun y hy => by omega⟩
  have h1 := lev_some hx L
  obtain ⟨l, rfl⟩ : ∃ l, L = l + 1 := ⟨L - 1, by have := H.ls.r.one; omega⟩
  have h2 := lev_dom H.ls.dom l _ h1
  have h3 := H.ls.r.top
  rw [show l + 1 - 1 = l from rfl] at h3
  have : dv x (l + 1) = 0 := by omega
  rw [this] at h1
  exact h1
set_option maxHeartbeats 2000000 in
theorem first_some (hT : TabT w) (H : LC w b off N c bound S v h L) {x : Nat} (hx : IsLeast S x) : Calls Tryz.prog 76 #[.pointer (some ⟨b, off, none⟩)] w fun e w' => e = .returned (.int .i64 x) ∧ w = w' := by
  have HTOP := Lib.hid (lev_top H hx.1)
  have HX := Lib.hid hx
  have q1 := H.cell1
  have q2 := H.cell2
  have lb := H.blk.lt
  have hL := H.ls.r.one
  have hL4 := H.ls.r.small
  have hhi := H.ls.r.hi
  have hcz : ¬ cntB S bound = 0 := fun q => by have := cntB_zero q x (H.ls.dom x hx.1); rw [hx.1] at this; cases this
  have HR := Lib.hid H.ls.r
  have HDM := Lib.hid (lev_dom H.ls.dom)
  have HT := Lib.hid hT
  obtain ⟨g, cap, rfl, g1, g2⟩ := H.ls.r.shape
  generalize cntB S bound = cn at *
  have hcq : ((cn : Int) == 0) = false := by simp; omega
  have hlw : IntKind.i64.wrap ((L : Int) - 1) = (L : Int) - 1 := IntWalk.i64_in _ (by omega)
  clear H hx hT hcz
  go_enter Tryz.func76, Tryz.ntmps76
  go_wp2
  go_loopw [3, 4] (fun xv iv wr => ∃ k y : Nat, k ≤ L ∧ iv = .int .i64 ((k : Int) - 1) ∧ xv = .int .i64 (y : Nat) ∧ Hid (IsLeast (lev S k) y) ∧ w = wr) (fun _ iv _ => (intOf iv + 1).toNat)
  case atStart => exact ⟨L, 0, Nat.le_refl _, rfl, rfl, HTOP.out, rfl⟩
  case round =>
    obtain ⟨k, y, hk, rfl, rfl, HY, rfl⟩ := hrel
    cases k with
    | zero =>
      have e : y = x := HY.out.unique HX.out
      subst e
      go_wp2
      go_returns
      exact ⟨rfl, rfl⟩
    | succ k =>
      have hys : y < szs bound k := HDM.out k y HY.out.1
      obtain ⟨d1, d2⟩ := IsLeast.down HY.out
      have HY2 := Lib.hid d2
      obtain ⟨r0, r1, r2, r3, r6, r4, r5⟩ := HR.out.at (k := k) (by omega) hys
      have HTZ := Lib.hid (tz_calls HT.out (wordOf_lt (lev S k) y) d1)
      obtain ⟨z1, _, _⟩ := ctz_first d1 (wordOf_lt (lev S k) y)
      clear d1 d2 HY
      generalize Lib.ctz 64 (wordOf (lev S k) y) = z at *
      generalize wordOf (lev S k) y = W at *
      generalize h k = hb at *
      have hkk : ((k + 1 : Nat) : Int) - 1 = (k : Int) := by omega
      rw [hkk]
      have hwm : IntKind.i64.wrap ((y : Int) * 64) = (y : Int) * 64 := IntWalk.i64_in _ (by omega)
      have hwa : IntKind.i64.wrap ((y : Int) * 64 + (z : Int)) = (y : Int) * 64 + (z : Int) := IntWalk.i64_in _ (by omega)
      go_wp2_with fail
      refine HTZ.out.mono ?_
      rintro e w' ⟨rfl, rfl⟩
      go_wp2
      go_roundw
      case rel => exact ⟨k, y * 64 + z, by omega, by go_num, by go_num, HY2.out, by first | rfl | trivial⟩
      case measure => simp [intOf] <;> omega
/-- The least one: a number that is there, or there is none. -/
theorem first_calls (hT : TabT w) (H : LC w b off N c bound S v h L) : Calls Tryz.prog 76 #[.pointer (some ⟨b, off, none⟩)] w fun e w' => w = w' ∧ ((cntB S bound = 0 ∧ (∀ x, S x = false) ∧ e = .returned (.int .i64 (-1))) ∨ ∃ x, x < bound ∧ IsLeast S x ∧ e = .returned (.int .i64 (x : Nat))) := by
  by_cases h0 : cntB S bound = 0
  · refine (first_none H h0).mono ?_
    rintro e w' ⟨rfl, rfl⟩
    exact ⟨rfl, .inl ⟨h0, fun x => by
      by_cases hx : x < bound
      · exact cntB_zero h0 x hx
      · cases e : S x with
        | false => rfl
        | true => exact absurd (H.ls.dom x e) hx, rfl⟩⟩
  · obtain ⟨x, hx, hl⟩ := least_ex (cntB_some h0)
    refine (first_some hT H hl).mono ?_
    rintro e w' ⟨rfl, rfl⟩
    exact ⟨rfl, .inr ⟨x, hx, hl, rfl⟩⟩
end
end Go.Proofs.YtnideelidfpicaaGreatDoor

/-
  The calls of package ring that only read, and Out, and place: each by its walk.
-/
import Derived.Test.YtoainbdkhhblbaaRows
import Derived.Test.YtoainbdkhhblbaaK12
import Derived.WalkSpells
import Derived.Lib.Hide
import Derived.Deep.QuietTactic
import Derived.BigQuiet
namespace Go.Proofs.Ytoainbdkhhblbaa
open Go.RowKit
set_option linter.unusedVariables false

abbrev P0 (b : Nat) : Value := .pointer (some ⟨b, 0, none⟩)
def ixI (o : Option Nat) : Int := match o with | none => -1 | some k => k

section
variable {w : World} {b nb lb n m : Nat} {rw nx pv ls : Nat → Nat}

theorem isThing_yes (h : RC w b nb lb n m rw nx pv ls) {x : Int} (h0 : 0 ≤ x) (hx : x < n) :
    Calls Try.prog 56 #[.pointer (some ⟨b, 0, none⟩), .int .i64 x] w fun e w' => e = .returned (.bool true) ∧ w = w' := by
  have c0 := h.c0
  go_enter Try.func56, Try.ntmps56
  go_wp2
  go_ret
  exact ⟨rfl, rfl⟩
theorem isThing_no (h : RC w b nb lb n m rw nx pv ls) {x : Int} (hx : x < 0 ∨ (n : Int) ≤ x) :
    Calls Try.prog 56 #[.pointer (some ⟨b, 0, none⟩), .int .i64 x] w fun e w' => e = .returned (.bool false) ∧ w = w' := by
  have c0 := h.c0
  by_cases h0 : x < 0
  · have hd : decide (0 ≤ x) = false := by simp; omega
    clear hx
    go_enter Try.func56, Try.ntmps56
    go_wp2
    go_ret
    exact ⟨rfl, rfl⟩
  · have h1 : 0 ≤ x := by omega
    have h2 : ¬ x < n := by omega
    clear hx h0
    go_enter Try.func56, Try.ntmps56
    go_wp2
    go_ret
    exact ⟨rfl, rfl⟩
theorem isRow_yes (h : RC w b nb lb n m rw nx pv ls) {k : Int} (h0 : 0 ≤ k) (hk : k < m) :
    Calls Try.prog 55 #[.pointer (some ⟨b, 0, none⟩), .int .i64 k] w fun e w' => e = .returned (.bool true) ∧ w = w' := by
  have c2 := h.c2
  have hm := h.hm
  go_enter Try.func55, Try.ntmps55
  go_wp2
  go_ret
  exact ⟨rfl, rfl⟩
theorem isRow_no (h : RC w b nb lb n m rw nx pv ls) {k : Int} (hk : k < 0 ∨ (m : Int) ≤ k) :
    Calls Try.prog 55 #[.pointer (some ⟨b, 0, none⟩), .int .i64 k] w fun e w' => e = .returned (.bool false) ∧ w = w' := by
  have c2 := h.c2
  have hm := h.hm
  by_cases h0 : k < 0
  · have hd : decide (0 ≤ k) = false := by simp; omega
    clear hk
    go_enter Try.func55, Try.ntmps55
    go_wp2
    go_ret
    exact ⟨rfl, rfl⟩
  · have h1 : 0 ≤ k := by omega
    have h2 : ¬ k < m := by omega
    clear hk h0
    go_enter Try.func55, Try.ntmps55
    go_wp2
    go_ret
    exact ⟨rfl, rfl⟩
theorem closing_any (h : RC w b nb lb n m rw nx pv ls) {k : Int} (h0 : 0 ≤ k) (hk : k < 1000) :
    Calls Try.prog 54 #[.pointer (some ⟨b, 0, none⟩), .int .i64 k] w fun e w' => e = .returned (.int .i64 (n + k)) ∧ w = w' := by
  have c0 := h.c0
  have hn := h.hn
  go_enter Try.func54, Try.ntmps54
  go_wp2
  go_ret
  exact ⟨rfl, rfl⟩
/-- In, of a thing: its row by the node, less one. -/
theorem in_thing (h : RC w b nb lb n m rw nx pv ls) {x : Int} (h0 : 0 ≤ x) (hx : x < n) {r : Int} (hr : r = (rw x.toNat : Int)) (hr1 : r < 1000) :
    Calls Try.prog 72 #[.pointer (some ⟨b, 0, none⟩), .int .i64 x] w fun e w' => e = .returned (.int .i64 (r - 1)) ∧ w = w' := by
  obtain ⟨x, rfl⟩ := Int.eq_ofNat_of_zero_le h0
  have ht := isThing_yes h h0 hx
  have c1 := h.c1
  have hn := h.hn
  have hm := h.hm
  have r0 : 0 ≤ r := by omega
  have c3 : w.cell? ⟨nb, x * 3, none⟩ = some (.int .i64 r) := by
    rw [h.row (by omega), hr]; simp
  clear hr
  have HT := Lib.hid ht; clear ht
  go_enter Try.func72, Try.ntmps72
  go_wp2_with (go_at_call 56; refine HT.out.mono ?_; rintro e w' ⟨rfl, rfl⟩)
  go_ret
  exact ⟨rfl, rfl⟩
theorem in_not (h : RC w b nb lb n m rw nx pv ls) {x : Int} (hx : x < 0 ∨ (n : Int) ≤ x) :
    Calls Try.prog 72 #[.pointer (some ⟨b, 0, none⟩), .int .i64 x] w fun e w' => e = .returned (.int .i64 (-1)) ∧ w = w' := by
  have HT := Lib.hid (isThing_no h hx)
  clear hx
  go_enter Try.func72, Try.ntmps72
  go_wp2_with (go_at_call 56; refine HT.out.mono ?_; rintro e w' ⟨rfl, rfl⟩)
  go_ret
  exact ⟨rfl, rfl⟩
theorem thing_any (h : RC w b nb lb n m rw nx pv ls) {x : Nat} :
    Calls Try.prog 73 #[.pointer (some ⟨b, 0, none⟩), .int .i64 x] w fun e w' => e = .returned (.int .i64 (if x < n then (x : Int) else -1)) ∧ w = w' := by
  by_cases hx : x < n
  · have HT := Lib.hid (isThing_yes h (x := x) (by omega) (by omega))
    rw [if_pos hx]
    go_enter Try.func73, Try.ntmps73
    go_wp2_with (go_at_call 56; refine HT.out.mono ?_; rintro e w' ⟨rfl, rfl⟩)
    go_ret
    exact ⟨rfl, rfl⟩
  · have HT := Lib.hid (isThing_no h (x := x) (by omega))
    rw [if_neg hx]
    go_enter Try.func73, Try.ntmps73
    go_wp2_with (go_at_call 56; refine HT.out.mono ?_; rintro e w' ⟨rfl, rfl⟩)
    go_ret
    exact ⟨rfl, rfl⟩

/-- In, by the lists. -/
theorem In_calls {L : List (List Nat)} (h : RC w b nb lb n m rw nx pv ls) (hi : RInv n m rw nx pv ls L) (x : Nat) :
    Calls Try.prog 72 #[.pointer (some ⟨b, 0, none⟩), .int .i64 x] w fun e w' => e = .returned (.int .i64 (ixI (rowIx L x))) ∧ w = w' := by
  by_cases hx : x < n
  · cases e : rowIx L x with
    | none =>
      have h0 := hi.row_none hx e
      exact (in_thing h (x := x) (by omega) (by omega) (r := 0) (by simp [h0]) (by omega)).mono fun e w' ⟨he, hw⟩ => ⟨by rw [he]; rfl, hw⟩
    | some k =>
      have h0 := hi.rowIx_row e
      have hm := h.hm
      exact (in_thing h (x := x) (by omega) (by omega) (r := k + 1) (by simp [h0.2.1]) (by omega)).mono fun e w' ⟨he, hw⟩ => ⟨by rw [he]; simp [ixI], hw⟩
  · have e : rowIx L x = none := by
      cases e : rowIx L x with
      | none => rfl
      | some k => exact (hx (hi.rowIx_row e).1).elim
    rw [e]
    exact in_not h (by omega)
end
end Go.Proofs.Ytoainbdkhhblbaa

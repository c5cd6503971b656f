/-
  Front, Back, Before, by the lists that they stand for.
-/
import Derived.Test.YtoainbdkhhblbaaK15
namespace Go.Proofs.Ytoainbdkhhblbaa
open Go.RowKit
set_option linter.unusedVariables false

section
variable {w : World} {b n m : Nat} {L : List (List Nat)} {F : Nat → Prop}

theorem RInv.get_out {rw nx pv ls : Nat → Nat} (h : RInv n m rw nx pv ls L) {k : Nat} (hk : k < m) : ∃ l, L[k]? = some l ∧ L[k]?.getD [] = l := by
  have : k < L.length := by have := h.len; omega
  exact ⟨L[k], List.getElem?_eq_getElem this, by simp [this]⟩

set_option maxHeartbeats 400000 in
theorem back_yes (h : RR w b n m L F) (k x : Nat) (hk : k < m) (hx : x < n) :
    Calls Try.prog 32 #[.pointer (some ⟨b, 0, none⟩), .int .i64 k, .int .i64 x] w fun e w' => e = .returned (.bool true) ∧ RR w' b n m (putL L k x false) F ∧ Fr F w w' := by
  obtain ⟨nb, lb, rw, nx, pv, ls, hc, hi, hF⟩ := h.ex
  have hF' : Hid (∀ i, i = nb ∨ i = lb → F i) := fun i q => (hF i).2 (.inr q)
  have HF : Hid (∀ i, F i ↔ i = b ∨ i = nb ∨ i = lb) := hF
  have HX := Lib.hid (hi.rowIx_out x)
  have hm := hc.hm
  clear hF h
  go_enter Try.func32, Try.ntmps32
  go_wp2_with (first
    | (go_at_call 55; refine (isRow_yes hc (by omega) (by omega)).mono ?_; rintro e w' ⟨rfl, rfl⟩)
    | (go_at_call 56; refine (isThing_yes hc (by omega) (by omega)).mono ?_; rintro e w' ⟨rfl, rfl⟩)
    | (go_at_call 57; refine (out_any hc hi x hF'.out).mono ?_; rintro e w1 ⟨rfl, ⟨rw1, nx1, pv1, ls1, h1, hi1⟩, f1⟩; clear hc)
    | (go_at_call 54; refine (closing_any h1 (by omega) (by omega)).mono ?_; rintro e w' ⟨rfl, rfl⟩)
    | fail)
  obtain ⟨l, hl, hl'⟩ := hi1.get_out hk
  have hrx := hi1.row_none hx HX.out
  rw [show (n : Int) + k = ((n + k : Nat) : Int) from rfl]
  refine (place_any h1 hi1 (l1 := l) (l2 := []) (k := k) (t := n + k) (by simpa using hl) hx hrx rfl hF'.out).mono ?_
  rintro e w2 ⟨rfl, ⟨rw2, nx2, pv2, ls2, h2, hi2⟩, f2⟩
  have hR : RR w2 b n m (putL L k x false) F := ⟨nb, lb, rw2, nx2, pv2, ls2, h2, by simpa [putL, hl'] using hi2, HF.out⟩
  have hf : Fr F w w2 := f1.trans f2 (fun i q => .inl q)
  clear hrx hl hl' hi2 h2 hi1 h1 f1 f2 hi
  go_wp2
  go_ret
  exact ⟨rfl, hR, hf⟩

theorem back_no (h : RR w b n m L F) (k x : Int) (hno : (k < 0 ∨ (m : Int) ≤ k) ∨ (x < 0 ∨ (n : Int) ≤ x)) :
    Calls Try.prog 32 #[.pointer (some ⟨b, 0, none⟩), .int .i64 k, .int .i64 x] w fun e w' => e = .returned (.bool false) ∧ w = w' := by
  obtain ⟨nb, lb, rw, nx, pv, ls, hc, hi, hF⟩ := h.ex
  clear hF h hi
  by_cases hk : k < 0 ∨ (m : Int) ≤ k
  · have H1 := Lib.hid (isRow_no hc hk)
    clear hno hk
    go_enter Try.func32, Try.ntmps32
    go_wp2_with (go_at_call 55; refine H1.out.mono ?_; rintro e w' ⟨rfl, rfl⟩)
    go_ret
    exact ⟨rfl, rfl⟩
  · have H1 := Lib.hid (isRow_yes hc (k := k) (by omega) (by omega))
    have H2 := Lib.hid (isThing_no hc (x := x) (by omega))
    clear hno hk
    go_enter Try.func32, Try.ntmps32
    go_wp2_with (first
      | (go_at_call 55; refine H1.out.mono ?_; rintro e w' ⟨rfl, rfl⟩)
      | (go_at_call 56; refine H2.out.mono ?_; rintro e w' ⟨rfl, rfl⟩))
    go_ret
    exact ⟨rfl, rfl⟩

/-- Out, of whatever. -/
def ixZ (L : List (List Nat)) (x : Int) : Option Nat := if 0 ≤ x then rowIx L x.toNat else none
def outZ (L : List (List Nat)) (x : Int) : List (List Nat) := if 0 ≤ x then outL L x.toNat else L
theorem ixZ_nat (x : Nat) : ixZ L x = rowIx L x := by simp [ixZ]
theorem ixZ_lt (h : RR w b n m L F) {x : Int} {k : Nat} (e : ixZ L x = some k) : 0 ≤ x ∧ x < n ∧ k < m := by
  obtain ⟨nb, lb, rw, nx, pv, ls, hc, hi, hF⟩ := h.ex
  unfold ixZ at e
  split at e
  · have := hi.rowIx_row e
    omega
  · cases e
theorem In_all (h : RR w b n m L F) (x : Int) :
    Calls Try.prog 72 #[.pointer (some ⟨b, 0, none⟩), .int .i64 x] w fun e w' => e = .returned (.int .i64 (ixI (ixZ L x))) ∧ w = w' := by
  obtain ⟨nb, lb, rw, nx, pv, ls, hc, hi, hF⟩ := h.ex
  by_cases h0 : 0 ≤ x
  · obtain ⟨x, rfl⟩ := Int.eq_ofNat_of_zero_le h0
    rw [show ixZ L (x : Int) = rowIx L x from ixZ_nat x]
    exact In_calls hc hi x
  · rw [show ixZ L x = none from if_neg h0]
    exact in_not hc (by omega)
theorem Out_all (h : RR w b n m L F) (x : Int) :
    Calls Try.prog 57 #[.pointer (some ⟨b, 0, none⟩), .int .i64 x] w fun e w' => e = .returned (.bool (ixZ L x).isSome) ∧ RR w' b n m (outZ L x) F ∧ Fr F w w' := by
  obtain ⟨nb, lb, rw, nx, pv, ls, hc, hi, hF⟩ := h.ex
  have hF' : ∀ i, i = nb ∨ i = lb → F i := fun i q => (hF i).2 (.inr q)
  by_cases h0 : 0 ≤ x
  · obtain ⟨x, rfl⟩ := Int.eq_ofNat_of_zero_le h0
    rw [show ixZ L (x : Int) = rowIx L x from ixZ_nat x]
    refine (out_any hc hi x hF').mono ?_
    rintro e w1 ⟨rfl, ⟨rw1, nx1, pv1, ls1, h1, hi1⟩, f1⟩
    exact ⟨rfl, ⟨nb, lb, rw1, nx1, pv1, ls1, h1, by simpa [outZ] using hi1, hF⟩, f1⟩
  · rw [show ixZ L x = none from if_neg h0, show outZ L x = L from if_neg h0]
    refine (out_none x (in_not hc (by omega))).mono ?_
    rintro e w1 ⟨rfl, rfl⟩
    exact ⟨rfl, h, Fr.refl _ _⟩

theorem befL_row {rw nx pv ls : Nat → Nat} (h : RInv n m rw nx pv ls L) {x o k : Nat} (e : rowIx L o = some k) (hxo : ¬ x = o) :
    ∃ l1 l2, (outL L x)[k]? = some (l1 ++ o :: l2) ∧ (¬ o ∈ l1) ∧ befL L x o = (outL L x).set k (l1 ++ x :: o :: l2) := by
  have key : ∃ l1 l2, (outL L x)[k]? = some (l1 ++ o :: l2) ∧ ¬ o ∈ l1 := by
    cases ex : rowIx L x with
    | none =>
      obtain ⟨l1, l2, hl⟩ := h.split e
      exact ⟨l1, l2, by simp [outL, ex, hl], (h.split_not hl).1⟩
    | some j =>
      obtain ⟨a1, a2, ha⟩ := h.split ex
      rw [h.outL_eq ha]
      by_cases ejk : k = j
      · subst ejk
        obtain ⟨l, hl, hm⟩ := rowIx_some e
        rw [ha] at hl
        obtain rfl := Option.some.inj hl
        have hm' : o ∈ a1 ++ a2 := by
          simp only [List.mem_append, List.mem_cons] at hm ⊢
          rcases hm with q | q | q
          · exact .inl q
          · exact (hxo q.symm).elim
          · exact .inr q
        have hnd : (a1 ++ a2).Nodup := by
          have := h.nd k _ ha
          rw [List.nodup_append] at this ⊢
          exact ⟨this.1, (List.nodup_cons.1 this.2.1).2, fun p hp q hq => this.2.2 p hp q (List.mem_cons_of_mem _ hq)⟩
        obtain ⟨l1, l2, hll⟩ := List.append_of_mem hm'
        refine ⟨l1, l2, ?_, ?_⟩
        · rw [List.getElem?_set, if_pos rfl, if_pos (List.getElem?_eq_some_iff.1 ha).1, hll]
        · rw [hll, List.nodup_append] at hnd
          exact fun q => hnd.2.2 o q o (by simp) rfl
      · obtain ⟨l1, l2, hl⟩ := h.split e
        exact ⟨l1, l2, by rw [List.getElem?_set, if_neg (fun q => ejk q.symm)]; exact hl, (h.split_not hl).1⟩
  obtain ⟨l1, l2, h1, h2⟩ := key
  exact ⟨l1, l2, h1, h2, by simp [befL, e, h1, insL_eq h2]⟩

set_option maxHeartbeats 400000 in
theorem before_yes (h : RR w b n m L F) (x o k : Nat) (hx : x < n) (e : rowIx L o = some k) (hxo : ¬ x = o) :
    Calls Try.prog 74 #[.pointer (some ⟨b, 0, none⟩), .int .i64 x, .int .i64 o] w fun e w' => e = .returned (.bool true) ∧ RR w' b n m (befL L x o) F ∧ Fr F w w' := by
  obtain ⟨nb, lb, rw, nx, pv, ls, hc, hi, hF⟩ := h.ex
  have hF' : Hid (∀ i, i = nb ∨ i = lb → F i) := fun i q => (hF i).2 (.inr q)
  have HF : Hid (∀ i, F i ↔ i = b ∨ i = nb ∨ i = lb) := hF
  have HX := Lib.hid (hi.rowIx_out x)
  have HB := Lib.hid (befL_row hi e hxo)
  have HI := In_calls hc hi o
  rw [e] at HI
  have HI' := Lib.hid HI
  have hne : ((x : Int) == (o : Int)) = false := by simp; omega
  clear hF h e HI hxo
  simp only [ixI] at HI'
  go_enter Try.func74, Try.ntmps74
  go_wp2_with (first
    | (go_at_call 56; refine (isThing_yes hc (by omega) (by omega)).mono ?_; rintro e w' ⟨rfl, rfl⟩)
    | (go_at_call 72; refine HI'.out.mono ?_; rintro e w' ⟨rfl, rfl⟩)
    | (go_at_call 57; refine (out_any hc hi x hF'.out).mono ?_; rintro e w1 ⟨rfl, ⟨rw1, nx1, pv1, ls1, h1, hi1⟩, f1⟩; clear hc)
    | fail)
  obtain ⟨l1, l2, hl, _, hB⟩ := HB.out
  have hrx := hi1.row_none hx HX.out
  refine (place_any h1 hi1 (l1 := l1) (l2 := o :: l2) (k := k) (t := o) hl hx hrx rfl hF'.out).mono ?_
  rintro e w2 ⟨rfl, ⟨rw2, nx2, pv2, ls2, h2, hi2⟩, f2⟩
  have hR : RR w2 b n m (befL L x o) F := ⟨nb, lb, rw2, nx2, pv2, ls2, h2, by rw [hB]; exact hi2, HF.out⟩
  have hf : Fr F w w2 := f1.trans f2 (fun i q => .inl q)
  clear hrx hl hB hi2 h2 hi1 h1 f1 f2 hi
  go_wp2
  go_ret
  exact ⟨rfl, hR, hf⟩
theorem before_no (h : RR w b n m L F) (x o : Int) (hno : (x < 0 ∨ (n : Int) ≤ x) ∨ ixZ L o = none ∨ x = o) :
    Calls Try.prog 74 #[.pointer (some ⟨b, 0, none⟩), .int .i64 x, .int .i64 o] w fun e w' => e = .returned (.bool false) ∧ w = w' := by
  have HI := In_all h o
  obtain ⟨nb, lb, rw, nx, pv, ls, hc, hi, hF⟩ := h.ex
  clear hF hi
  by_cases hx : x < 0 ∨ (n : Int) ≤ x
  · have H1 := Lib.hid (isThing_no hc hx)
    clear hno hx HI
    go_enter Try.func74, Try.ntmps74
    go_wp2_with (go_at_call 56; refine H1.out.mono ?_; rintro e w' ⟨rfl, rfl⟩)
    go_ret
    exact ⟨rfl, rfl⟩
  · have H1 := Lib.hid (isThing_yes hc (x := x) (by omega) (by omega))
    have hno' : ixZ L o = none ∨ x = o := by rcases hno with q | q; exact (hx q).elim; exact q
    clear hno hx
    cases e : ixZ L o with
    | none =>
      rw [e] at HI
      have HI' := Lib.hid HI
      simp only [ixI] at HI'
      clear HI hno' e h
      go_enter Try.func74, Try.ntmps74
      go_wp2_with (first
        | (go_at_call 56; refine H1.out.mono ?_; rintro e w' ⟨rfl, rfl⟩)
        | (go_at_call 72; refine HI'.out.mono ?_; rintro e w' ⟨rfl, rfl⟩))
      go_ret
      exact ⟨rfl, rfl⟩
    | some k =>
      have hxo : x = o := by rcases hno' with q | q; rw [e] at q; cases q; exact q
      subst hxo
      rw [e] at HI
      have HI' := Lib.hid HI
      simp only [ixI] at HI'
      clear HI hno' e h
      go_enter Try.func74, Try.ntmps74
      go_wp2_with (first
        | (go_at_call 56; refine H1.out.mono ?_; rintro e w' ⟨rfl, rfl⟩)
        | (go_at_call 72; refine HI'.out.mono ?_; rintro e w' ⟨rfl, rfl⟩))
      go_ret
      exact ⟨rfl, rfl⟩
end
end Go.Proofs.Ytoainbdkhhblbaa

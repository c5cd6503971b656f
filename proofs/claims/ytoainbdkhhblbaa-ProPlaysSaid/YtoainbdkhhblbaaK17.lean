/-
  First, Last, Next, Prev, Len: what rows are read as.
-/
import Derived.Test.YtoainbdkhhblbaaK16
namespace Go.Proofs.Ytoainbdkhhblbaa
open Go.RowKit
set_option linter.unusedVariables false

def rowZ (L : List (List Nat)) (k : Int) : List Nat := if 0 ≤ k then L[k.toNat]?.getD [] else []
def nextZ (L : List (List Nat)) (x : Int) : Option Nat := match ixZ L x with
  | none => none
  | some k => (L[k]?.getD [])[(L[k]?.getD []).idxOf x.toNat + 1]?
def prevZ (L : List (List Nat)) (x : Int) : Option Nat := match ixZ L x with
  | none => none
  | some k => match (L[k]?.getD []).idxOf x.toNat with
    | 0 => none
    | i + 1 => (L[k]?.getD [])[i]?

theorem idxOf_mid {l1 l2 : List Nat} {x : Nat} (h : ¬ x ∈ l1) : (l1 ++ x :: l2).idxOf x = l1.length := by
  rw [List.idxOf_append, if_neg h]; simp
theorem nextZ_eq {n m : Nat} {rw nx pv ls : Nat → Nat} {L : List (List Nat)} (h : RInv n m rw nx pv ls L) {k x : Nat} {l1 l2 : List Nat} (hl : L[k]? = some (l1 ++ x :: l2)) : nextZ L x = l2.head? := by
  have e := h.rowIx_of hl (x := x) (by simp)
  have q := (h.split_not hl).1
  simp [nextZ, ixZ_nat, e, hl, idxOf_mid q, List.getElem?_append_right, List.head?_eq_getElem?]
theorem prevZ_eq {n m : Nat} {rw nx pv ls : Nat → Nat} {L : List (List Nat)} (h : RInv n m rw nx pv ls L) {k x : Nat} {l1 l2 : List Nat} (hl : L[k]? = some (l1 ++ x :: l2)) : prevZ L x = l1.getLast? := by
  have e := h.rowIx_of hl (x := x) (by simp)
  have q := (h.split_not hl).1
  simp only [prevZ, ixZ_nat, e, hl, Option.getD_some, Int.toNat_natCast, idxOf_mid q]
  rcases List.eq_nil_or_concat l1 with rfl | ⟨l, y, rfl⟩
  · rfl
  · simp

section
variable {w : World} {b nb lb n m : Nat} {rw nx pv ls : Nat → Nat}
theorem RC.drewN (h : RC w b nb lb n m rw nx pv ls) (d : Nat) : RC (w.drewN d) b nb lb n m rw nx pv ls :=
  ⟨h.hd.drewN d, h.nd.drewN d, h.ln.drewN d, h.d1, h.d2, h.d3, h.hn, h.hm⟩

set_option maxHeartbeats 400000 in
theorem first_core (h : RC w b nb lb n m rw nx pv ls) (k t : Nat) (r : Int) (hk : k < m) (ht : w.cell? ⟨nb, (n + k) * 3 + 1, none⟩ = some (.int .i64 t)) (hr : Hid ((if t < n then (t : Int) else -1) = r)) :
    Calls Try.prog 59 #[.pointer (some ⟨b, 0, none⟩), .int .i64 k] w fun e w' => e = .returned (.int .i64 r) ∧ ∃ d, w.drewN d = w' := by
  have c1 := h.c1
  have hm := h.hm
  have hn := h.hn
  have ht' : w.cell? ⟨nb, (n + k) * 3 + 1, none⟩ = some (.int .i64 t) := ht
  have HT : ∀ d, Calls Try.prog 73 #[.pointer (some ⟨b, 0, none⟩), .int .i64 t] (w.drewN d) fun e w' => e = .returned (.int .i64 r) ∧ w.drewN d = w' := by
    intro d; rw [← hr.out]; exact thing_any (h.drewN d)
  have HT' := Lib.hid HT
  have e1 : ((n : Int) + k).toNat = n + k := by omega
  clear HT ht
  go_enter Try.func59, Try.ntmps59
  go_wp2_with (go_at_call 55; refine (isRow_yes h (by omega) (by omega)).mono ?_; rintro e w' ⟨rfl, rfl⟩)
  go_quiet ((first | (go_at_call 54; exact qs (closing_any (h.drewN _) (by omega) (by omega))) | (go_at_call 73; exact qs (HT'.out _))))
  go_wp2
  go_ret
  exact ⟨rfl, _, rfl⟩
theorem next_core (h : RC w b nb lb n m rw nx pv ls) (x t k : Nat) (r : Int) (hx : x < n) (ht : w.cell? ⟨nb, x * 3 + 1, none⟩ = some (.int .i64 t)) (hr : Hid ((if t < n then (t : Int) else -1) = r))
    (HI : Hid (Calls Try.prog 72 #[.pointer (some ⟨b, 0, none⟩), .int .i64 x] w fun e w' => e = .returned (.int .i64 k) ∧ w = w')) :
    Calls Try.prog 68 #[.pointer (some ⟨b, 0, none⟩), .int .i64 x] w fun e w' => e = .returned (.int .i64 r) ∧ w = w' := by
  have c1 := h.c1
  have hm := h.hm
  have hn := h.hn
  have HT : Hid (Calls Try.prog 73 #[.pointer (some ⟨b, 0, none⟩), .int .i64 t] w fun e w' => e = .returned (.int .i64 r) ∧ w = w') := by
    unfold Hid; rw [← hr.out]; exact thing_any h
  go_enter Try.func68, Try.ntmps68
  go_wp2_with (first
    | (go_at_call 72; refine HI.out.mono ?_; rintro e w' ⟨rfl, rfl⟩)
    | (go_at_call 73; refine HT.out.mono ?_; rintro e w' ⟨rfl, rfl⟩))
  go_ret
  exact ⟨rfl, rfl⟩
theorem next_none (x : Int)
    (HI : Hid (Calls Try.prog 72 #[.pointer (some ⟨b, 0, none⟩), .int .i64 x] w fun e w' => e = .returned (.int .i64 (-1)) ∧ w = w')) :
    Calls Try.prog 68 #[.pointer (some ⟨b, 0, none⟩), .int .i64 x] w fun e w' => e = .returned (.int .i64 (-1)) ∧ w = w' := by
  go_enter Try.func68, Try.ntmps68
  go_wp2_with (go_at_call 72; refine HI.out.mono ?_; rintro e w' ⟨rfl, rfl⟩)
  go_ret
  exact ⟨rfl, rfl⟩
theorem first_not (h : RC w b nb lb n m rw nx pv ls) (k : Int) (hk : k < 0 ∨ (m : Int) ≤ k) :
    Calls Try.prog 59 #[.pointer (some ⟨b, 0, none⟩), .int .i64 k] w fun e w' => e = .returned (.int .i64 (-1)) ∧ w = w' := by
  have H1 := Lib.hid (isRow_no h hk)
  clear hk
  go_enter Try.func59, Try.ntmps59
  go_wp2_with (go_at_call 55; refine H1.out.mono ?_; rintro e w' ⟨rfl, rfl⟩)
  go_ret
  exact ⟨rfl, rfl⟩
theorem len_not (h : RC w b nb lb n m rw nx pv ls) (k : Int) (hk : k < 0 ∨ (m : Int) ≤ k) :
    Calls Try.prog 63 #[.pointer (some ⟨b, 0, none⟩), .int .i64 k] w fun e w' => e = .returned (.int .i64 (0)) ∧ w = w' := by
  have H1 := Lib.hid (isRow_no h hk)
  clear hk
  go_enter Try.func63, Try.ntmps63
  go_wp2_with (go_at_call 55; refine H1.out.mono ?_; rintro e w' ⟨rfl, rfl⟩)
  go_ret
  exact ⟨rfl, rfl⟩
theorem len_row (h : RC w b nb lb n m rw nx pv ls) (k : Nat) (hk : k < m) :
    Calls Try.prog 63 #[.pointer (some ⟨b, 0, none⟩), .int .i64 k] w fun e w' => e = .returned (.int .i64 (ls k : Nat)) ∧ w = w' := by
  have c2 := h.c2
  have hm := h.hm
  have c3 := h.len hk
  go_enter Try.func63, Try.ntmps63
  go_wp2_with (go_at_call 55; refine (isRow_yes h (by omega) (by omega)).mono ?_; rintro e w' ⟨rfl, rfl⟩)
  go_ret
  exact ⟨rfl, rfl⟩
end

section
variable {w : World} {b n m : Nat} {L : List (List Nat)} {F : Nat → Prop}
theorem getD_thing {l : List Nat} {o : Option Nat} {n k : Nat} (ho : ∀ x, o = some x → x < n) : (if o.getD (n + k) < n then ((o.getD (n + k) : Nat) : Int) else -1) = ixI o := by
  cases o with
  | none => simp [ixI]; omega
  | some x => simp [ixI, ho x rfl]
theorem First_all (h : RR w b n m L F) (k : Int) :
    Calls Try.prog 59 #[.pointer (some ⟨b, 0, none⟩), .int .i64 k] w fun e w' => e = .returned (.int .i64 (ixI (rowZ L k).head?)) ∧ ∃ d, w.drewN d = w' := by
  obtain ⟨nb, lb, rw, nx, pv, ls, hc, hi, hF⟩ := h.ex
  by_cases hk : 0 ≤ k ∧ k < m
  · obtain ⟨k, rfl⟩ := Int.eq_ofNat_of_zero_le hk.1
    have hk' : k < m := by omega
    obtain ⟨l, hl, hl'⟩ := hi.get_out hk'
    rw [show rowZ L (k : Int) = l from by simp [rowZ, hl']]
    refine first_core hc k (nx (n + k)) _ hk' (hc.next (by omega)) ?_
    unfold Hid
    rw [(hi.lk k l hl).first]
    exact getD_thing (l := l) (fun x hx => (hi.mem k l hl x (List.mem_of_mem_head? hx)).1)
  · have hl := hi.len
    have e : rowZ L k = [] := by
      unfold rowZ
      split
      · rw [List.getElem?_eq_none (by omega)]; rfl
      · rfl
    rw [e]
    exact (first_not hc k (by omega)).mono fun e w' ⟨he, hw⟩ => ⟨he, 0, hw⟩
theorem Len_all (h : RR w b n m L F) (k : Int) :
    Calls Try.prog 63 #[.pointer (some ⟨b, 0, none⟩), .int .i64 k] w fun e w' => e = .returned (.int .i64 ((rowZ L k).length : Nat)) ∧ w = w' := by
  obtain ⟨nb, lb, rw, nx, pv, ls, hc, hi, hF⟩ := h.ex
  by_cases hk : 0 ≤ k ∧ k < m
  · obtain ⟨k, rfl⟩ := Int.eq_ofNat_of_zero_le hk.1
    have hk' : k < m := by omega
    obtain ⟨l, hl, hl'⟩ := hi.get_out hk'
    rw [show rowZ L (k : Int) = l from by simp [rowZ, hl'], ← hi.lsz k l hl]
    exact len_row hc k hk'
  · have hl := hi.len
    have e : rowZ L k = [] := by
      unfold rowZ
      split
      · rw [List.getElem?_eq_none (by omega)]; rfl
      · rfl
    rw [e]
    exact len_not hc k (by omega)
theorem Next_all (h : RR w b n m L F) (x : Int) :
    Calls Try.prog 68 #[.pointer (some ⟨b, 0, none⟩), .int .i64 x] w fun e w' => e = .returned (.int .i64 (ixI (nextZ L x))) ∧ w = w' := by
  have HI := In_all h x
  obtain ⟨nb, lb, rw, nx, pv, ls, hc, hi, hF⟩ := h.ex
  cases e : ixZ L x with
  | none =>
    rw [e] at HI
    rw [show nextZ L x = none from by simp [nextZ, e]]
    exact next_none x HI
  | some k =>
    have hb := ixZ_lt h e
    obtain ⟨x, rfl⟩ := Int.eq_ofNat_of_zero_le hb.1
    rw [e] at HI
    rw [show ixZ L (x : Int) = rowIx L x from ixZ_nat x] at e
    obtain ⟨l1, l2, hl⟩ := hi.split e
    rw [show nextZ L (x : Int) = l2.head? from nextZ_eq hi hl]
    refine next_core hc x (nx x) k _ (by omega) (hc.next (by omega)) ?_ HI
    unfold Hid
    rw [(hi.lk k _ hl).at.2]
    exact getD_thing (l := l2) (fun y hy => (hi.mem k _ hl y (by simp [List.mem_of_mem_head? hy])).1)
end
end Go.Proofs.Ytoainbdkhhblbaa

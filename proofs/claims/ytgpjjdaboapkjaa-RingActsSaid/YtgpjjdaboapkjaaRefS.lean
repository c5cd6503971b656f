/-
  Package hatcheckref02: Put and Before where there is no such row or thing; Beside.
-/
import Derived.Test.YtgpjjdaboapkjaaRefQ
namespace Go.Proofs.Ytgpjjdaboapkjaa
open Go.RowKit
set_option linter.unusedVariables false

theorem put_no {w : World} {r N m : Nat} {L : List (List Nat)} {F : Nat → Prop} (h : RefR w r N m L F) (k x : Int) (fr : Bool) (hno : (k < 0 ∨ (m : Int) ≤ k) ∨ (x < 0 ∨ (N : Int) ≤ x)) :
    Calls Try.prog 9 #[.pointer (some ⟨r, 0, none⟩), .int .i64 k, .int .i64 x, .bool fr] w fun e w' => e = .returned (.bool false) ∧ w = w' := by
  obtain ⟨lb0, vs0, h0⟩ := h
  have HT := thing_ref h0 h0.hN x
  have HR := row_ref h0 k
  by_cases hx : x < 0 ∨ (N : Int) ≤ x
  · rw [show decide (0 ≤ x ∧ x < N) = false from by simp; omega] at HT
    have HT' := Lib.hid HT
    clear HT HR h0 hno hx
    go_enter Try.func9, Try.ntmps9
    go_wp2_with (go_at_call 28; refine HT'.out.mono ?_; rintro e w' ⟨rfl, rfl⟩)
    go_ret
    exact ⟨rfl, rfl⟩
  · rw [show decide (0 ≤ x ∧ x < N) = true from by simp; omega] at HT
    rw [show decide (0 ≤ k ∧ k < m) = false from by simp; omega] at HR
    have HT' := Lib.hid HT
    have HR' := Lib.hid HR
    clear HT HR h0 hno hx
    go_enter Try.func9, Try.ntmps9
    go_wp2_with (first
      | (go_at_call 28; refine HT'.out.mono ?_; rintro e w' ⟨rfl, rfl⟩)
      | (go_at_call 29; refine HR'.out.mono ?_; rintro e w' ⟨rfl, rfl⟩))
    go_ret
    exact ⟨rfl, rfl⟩
theorem bef_no {w : World} {r N m : Nat} {L : List (List Nat)} {F : Nat → Prop} (h : RefR w r N m L F) (x o : Int) (hno : (x < 0 ∨ (N : Int) ≤ x) ∨ ixZ L o = none ∨ x = o) :
    Calls Try.prog 12 #[.pointer (some ⟨r, 0, none⟩), .int .i64 x, .int .i64 o] w fun e w' => e = .returned (.bool false) ∧ w = w' := by
  obtain ⟨lb0, vs0, h0⟩ := h
  have HT := thing_ref h0 h0.hN x
  have HA := Lib.hid (At_calls h0 o)
  by_cases hx : x < 0 ∨ (N : Int) ≤ x
  · rw [show decide (0 ≤ x ∧ x < N) = false from by simp; omega] at HT
    have HT' := Lib.hid HT
    clear HT h0 hno hx
    generalize ixI (ixZ L o) = q1 at *
    generalize posZ L o = q2 at *
    go_enter Try.func12, Try.ntmps12
    go_wp2_with (first
      | (go_at_call 30; refine HA.out.mono ?_; rintro e w' ⟨rfl, rfl⟩)
      | (go_at_call 28; refine HT'.out.mono ?_; rintro e w' ⟨rfl, rfl⟩))
    go_ret
    exact ⟨rfl, rfl⟩
  · rw [show decide (0 ≤ x ∧ x < N) = true from by simp; omega] at HT
    have HT' := Lib.hid HT
    have hno' : ixZ L o = none ∨ x = o := by rcases hno with q | q; exact (hx q).elim; exact q
    clear HT hno hx
    by_cases hxo : x = o
    · subst hxo
      have he : (x == x) = true := by simp
      clear hno' h0
      generalize ixI (ixZ L x) = q1 at *
      generalize posZ L x = q2 at *
      go_enter Try.func12, Try.ntmps12
      go_wp2_with (first
        | (go_at_call 30; refine HA.out.mono ?_; rintro e w' ⟨rfl, rfl⟩)
        | (go_at_call 28; refine HT'.out.mono ?_; rintro e w' ⟨rfl, rfl⟩))
      go_ret
      exact ⟨rfl, rfl⟩
    · have e : ixZ L o = none := by rcases hno' with q | q; exact q; exact (hxo q).elim
      have he : (x == o) = false := by simp [hxo]
      rw [e, show ixI none = -1 from rfl] at HA
      clear hno' hxo e h0
      generalize posZ L o = q2 at *
      go_enter Try.func12, Try.ntmps12
      go_wp2_with (first
        | (go_at_call 30; refine HA.out.mono ?_; rintro e w' ⟨rfl, rfl⟩)
        | (go_at_call 28; refine HT'.out.mono ?_; rintro e w' ⟨rfl, rfl⟩))
      go_ret
      exact ⟨rfl, rfl⟩

/-- What stands so far behind a thing. -/
def besZ (L : List (List Nat)) (x d : Int) : Int := match ixZ L x with
  | none => -1
  | some k => if 0 ≤ posZ L x + d then ixI (L[k]?.getD [])[(posZ L x + d).toNat]? else -1
theorem besZ_next (L : List (List Nat)) (x : Int) : besZ L x 1 = ixI (nextZ L x) := by
  unfold besZ nextZ
  cases e : ixZ L x with
  | none => rfl
  | some k =>
    simp only [posZ, e]
    rw [if_pos (by omega)]
    congr 2
theorem besZ_prev (L : List (List Nat)) (x : Int) : besZ L x (-1) = ixI (prevZ L x) := by
  unfold besZ prevZ
  cases e : ixZ L x with
  | none => rfl
  | some k =>
    simp only [posZ, e]
    cases h : (L[k]?.getD []).idxOf x.toNat with
    | zero => simp [ixI]
    | succ i =>
      rw [if_pos (by omega)]
      simp only
      congr 2
      omega

set_option maxHeartbeats 1000000 in
theorem bes_calls {w : World} {r N m : Nat} {L : List (List Nat)} {F : Nat → Prop} (h : RefR w r N m L F) (x d : Int) (hd : d = 1 ∨ d = -1) :
    Calls Try.prog 32 #[.pointer (some ⟨r, 0, none⟩), .int .i64 x, .int .i64 d] w fun e w' => e = .returned (.int .i64 (besZ L x d)) ∧ w = w' := by
  obtain ⟨lb, vs, h0⟩ := h
  have HA := Lib.hid (At_calls h0 x)
  cases e : ixZ L x with
  | none =>
    rw [show besZ L x d = -1 from by simp [besZ, e]]
    rw [e, show ixI none = -1 from rfl] at HA
    clear e hd h0
    generalize posZ L x = q2 at *
    go_enter Try.func32, Try.ntmps32
    go_wp2_with (go_at_call 30; refine HA.out.mono ?_; rintro e w' ⟨rfl, rfl⟩)
    go_ret
    exact ⟨rfl, rfl⟩
  | some k =>
    have hk : k < m := by
      unfold ixZ at e
      split at e
      · obtain ⟨l, hl, _⟩ := rowIx_some e
        have := (List.getElem?_eq_some_iff.1 hl).1
        have := h0.ix.lenL; omega
      · cases e
    obtain ⟨l, hl, hl'⟩ := h0.get hk
    rw [show besZ L x d = if 0 ≤ posZ L x + d then ixI l[(posZ L x + d).toNat]? else -1 from by simp [besZ, e, hl']]
    rw [e, show ixI (some k) = (k : Int) from rfl] at HA
    have hp0 : 0 ≤ posZ L x := by simp only [posZ, e]; omega
    have hp1 : posZ L x < 1000000 := by
      have h1 := h0.ix.len k l hl
      have h2 := h0.hN
      have h3 : posZ L x ≤ l.length := by
        simp only [posZ, e, hl']
        have := List.idxOf_le_length (a := x.toNat) (l := l)
        omega
      omega
    have hlen := h0.ix.len k l hl
    have hN := h0.hN
    generalize posZ L x = p at *
    have c1 := h0.c1
    have ck := h0.row hk
    have hS := (h0.sl k l hl).1
    have hm := h0.lt
    obtain ⟨sa, sc, hv, q1, q2, _⟩ := id hS
    rw [show (nums l).length = l.length from by simp [nums]] at hv q1
    rw [hv] at ck hS
    have HS := Lib.hid hS
    unfold maxLen at q2
    have hd1 : -1 ≤ d := by omega
    have hd2 : d ≤ 1 := by omega
    clear hl hl' e h0 hS hv hd
    by_cases h0 : 0 ≤ p + d
    · rw [if_pos h0]
      obtain ⟨j, hj⟩ := Int.eq_ofNat_of_zero_le h0
      by_cases hjl : j < l.length
      · obtain ⟨b, off, c, ev, _, _, _, hcell⟩ := HS.out.at (k := j) (by simp [nums]; exact hjl)
        simp only [Value.slice.injEq] at ev
        obtain ⟨rfl, _, rfl⟩ := ev
        have HR : Hid (ixI l[(p + d).toNat]? = (l[j] : Nat)) := by
          unfold Hid; rw [hj]; simp [hjl, ixI]
        have cz : w.cell? ⟨b, off + j, none⟩ = some (.int .i64 (l[j] : Nat)) := hcell j _ (by simp [nums, hjl])
        generalize l[j] = y at cz HR
        rw [HR.out]
        have t1 : (p + d).toNat = j := by omega
        have t2 : p + d < (l.length : Int) := by omega
        clear hcell hj HR
        go_enter Try.func32, Try.ntmps32
        go_wp2_with (go_at_call 30; refine HA.out.mono ?_; rintro e w' ⟨rfl, rfl⟩)
        go_ret
        exact ⟨rfl, rfl⟩
      · rw [show ixI l[(p + d).toNat]? = -1 from by rw [hj, Int.toNat_natCast, List.getElem?_eq_none (by omega)]; rfl]
        have t2 : decide ((l.length : Int) ≤ p + d) = true := by simp; omega
        clear hj
        go_enter Try.func32, Try.ntmps32
        go_wp2_with (go_at_call 30; refine HA.out.mono ?_; rintro e w' ⟨rfl, rfl⟩)
        go_ret
        exact ⟨rfl, rfl⟩
    · rw [if_neg h0]
      have t2 : decide (p + d < 0) = true := by simp; omega
      go_enter Try.func32, Try.ntmps32
      go_wp2_with (go_at_call 30; refine HA.out.mono ?_; rintro e w' ⟨rfl, rfl⟩)
      go_ret
      exact ⟨rfl, rfl⟩
end Go.Proofs.Ytgpjjdaboapkjaa

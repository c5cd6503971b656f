/-
  hatchecklaw02's same: all rows are read alike.
-/
import Derived.Test.YtgpjjdaboapkjaaRefS
namespace Go.Proofs.Ytgpjjdaboapkjaa
open Go.RowKit
set_option linter.unusedVariables false

theorem same_true {w : World} {va vb : Value} {zs : List Int} (ha : SlI w va zs) (hb : SlI w vb zs) :
    Calls Try.prog 23 #[va, vb] w fun e w' => e = .returned (.bool true) ∧ ∃ d, w.drewN d = w' :=
  (same_calls ha hb).mono fun _ _ ⟨he, hw⟩ => ⟨by rw [he]; simp, hw⟩
theorem rowZ_nat {L : List (List Nat)} {k : Nat} {l : List Nat} (h : L[k]? = some l) : rowZ L (k : Int) = l := by simp [rowZ, h]
theorem rowZ_out {L : List (List Nat)} {k : Int} (h : k < 0 ∨ (L.length : Int) ≤ k) : rowZ L k = [] := by
  unfold rowZ
  split
  · rw [List.getElem?_eq_none (by omega)]; rfl
  · rfl

set_option maxRecDepth 100000 in
set_option maxHeartbeats 4000000 in
theorem same_walk {w : World} {b r n m : Nat} {L : List (List Nat)} {F G : Nat → Prop} (hR : RR w b n m L F) (hM : RefR w r n m L G) :
    Calls Try.prog 15 #[.pointer (some ⟨b, 0, none⟩), .pointer (some ⟨r, 0, none⟩)] w fun e w' => e = .returned (.bool true) ∧ Fr NoF w w' := by
  obtain ⟨lb, vs, hC⟩ := hM
  have HR := Lib.hid hR
  have HC := Lib.hid hC
  have hm := hC.lt
  have hN := hC.hN
  have HLL := Lib.hid hC.ix.lenL
  clear hR hC
  go_enter Try.func15, Try.ntmps15
  go_wp2
  go_loopw [5] (fun i wr => ∃ k : Nat, k ≤ m ∧ i = .int .i64 k ∧ Fr NoF w wr) (fun i _ => m - (intOf i).toNat)
  case atStart => exact ⟨0, Nat.zero_le _, rfl, Fr.refl _ _⟩
  case round =>
    obtain ⟨k, hk, rfl, hf⟩ := hrel
    have HF := Lib.hid hf
    have HR1 := Lib.hid (HR.out.fr hf (fun _ _ q => q))
    have hC1 := HC.out.fr hf (fun _ _ q => q)
    have c1 := hC1.c1
    by_cases hlt : k < m
    · obtain ⟨l, hl, _⟩ := hC1.get hlt
      have ck := hC1.row hlt
      have hS := (hC1.sl k l hl).1
      have hlen := hC1.ix.len k l hl
      obtain ⟨sa, sc, hv, q1, q2, _⟩ := id hS
      rw [show (nums l).length = l.length from by simp [nums]] at hv q1
      rw [hv] at ck hS
      have HS := Lib.hid hS
      have HL := Lib.hid hl
      clear hf hC1 hl hS hv
      unfold maxLen at q2
      cases l with
      | nil =>
        simp only [List.length_nil] at ck q1 hlen HS
        go_wp2_with fail
        have A := Lib.hid (All_all HR1.out k)
        rw [rowZ_nat HL.out] at A
        refine A.out.mono ?_
        clear A
        rintro e w2 ⟨va, rfl, ho, hR2, hf2⟩
        rw [ints_nums] at ho
        have hS2 := HS.out.fr hf2 (fun _ _ q => q)
        have SM := Lib.hid (same_true (SlI.ofOwn ho).1 hS2)
        have HR2 := Lib.hid hR2
        have HF2 := Lib.hid (HF.out.trans hf2 (fun _ q => .inl q))
        obtain ⟨sva, svc, hva, _⟩ := id (SlI.ofOwn ho).1
        subst hva
        clear ho hR2 hf2 hS2
        go_wp2_with fail
        refine SM.out.mono ?_
        clear SM
        rintro e w3 ⟨rfl, d3, rfl⟩
        have HR3 := Lib.hid (HR2.out.fr ((Fr.refl NoF w2).drewN d3) (fun _ _ q => q))
        have HF3 := Lib.hid (HF2.out.drewN d3)
        clear HR2 HF2
        generalize w2.drewN d3 = w3 at *
        have LN := Lib.hid (Len_all HR3.out k)
        rw [rowZ_nat HL.out] at LN
        go_wp2_with fail
        refine LN.out.mono ?_
        clear LN
        rintro e w4 ⟨rfl, rfl⟩
        have FI := Lib.hid (First_all HR3.out k)
        rw [rowZ_nat HL.out, show ixI ([] : List Nat).head? = (-1 : Int) from rfl] at FI
        go_wp2_with fail
        refine FI.out.mono ?_
        clear FI
        rintro e w5 ⟨rfl, d5, rfl⟩
        have HR5 := Lib.hid (HR3.out.fr ((Fr.refl NoF w3).drewN d5) (fun _ _ q => q))
        have HF5 := Lib.hid (HF3.out.drewN d5)
        clear HR3 HF3
        generalize w3.drewN d5 = w5 at *
        have LA := Lib.hid (Last_all HR5.out k)
        rw [rowZ_nat HL.out, show ixI ([] : List Nat).getLast? = (-1 : Int) from rfl] at LA
        go_wp2_with fail
        refine LA.out.mono ?_
        clear LA
        rintro e w6 ⟨rfl, d6, rfl⟩
        have HF6 := Lib.hid (HF5.out.drewN d6)
        clear HR5 HF5
        go_wp2
        go_roundw
        case rel => exact ⟨k + 1, by omega, by go_num, HF6.out⟩
        case measure => simp [intOf]; omega
      | cons y l' =>
        obtain ⟨b1, off, c, ev, _, _, _, hcell⟩ := HS.out.at (k := 0) (by simp [nums])
        rw [show (nums (y :: l')).length = (y :: l').length from by simp [nums]] at ev
        simp only [Value.slice.injEq] at ev
        obtain ⟨rfl, _, rfl⟩ := ev
        have cf : wr.cell? ⟨b1, off, none⟩ = some (.int .i64 (y : Nat)) := hcell 0 _ (by simp [nums])
        obtain ⟨z, hz⟩ : ∃ z, (y :: l').getLast? = some z := by
          rcases List.eq_nil_or_concat (y :: l') with h | ⟨p, z, h⟩
          · cases h
          · exact ⟨z, by rw [h]; simp⟩
        have HZ := Lib.hid hz
        have cl : wr.cell? ⟨b1, off + l'.length, none⟩ = some (.int .i64 (z : Nat)) := hcell _ _ (by
          have h2 := HZ.out
          rw [List.getLast?_eq_getElem?, List.length_cons, Nat.add_sub_cancel] at h2
          show (nums (y :: l'))[l'.length]? = some ((z : Nat) : Int)
          unfold nums
          rw [List.getElem?_map, h2]; rfl)
        simp only [List.length_cons] at ck q1 hlen HS
        clear hcell hz
        have hp : (0 : Int) < (l'.length : Int) + 1 := by omega
        go_wp2_with fail
        go_quiet (fail)
        go_wp2_with fail
        replace HR1 := Lib.hid (HR1.out.fr ((Fr.refl NoF wr).drewN nq) (fun _ _ q => q))
        replace HF := Lib.hid (HF.out.drewN nq)
        replace HS := Lib.hid (HS.out.drewN nq)
        clear c1 ck cf cl
        generalize wr.drewN nq = wr at *
        have A := Lib.hid (All_all HR1.out k)
        rw [rowZ_nat HL.out] at A
        refine A.out.mono ?_
        clear A
        rintro e w2 ⟨va, rfl, ho, hR2, hf2⟩
        rw [ints_nums] at ho
        have hS2 := HS.out.fr hf2 (fun _ _ q => q)
        have SM := Lib.hid (same_true (SlI.ofOwn ho).1 hS2)
        have HR2 := Lib.hid hR2
        have HF2 := Lib.hid (HF.out.trans hf2 (fun _ q => .inl q))
        obtain ⟨sva, svc, hva, _⟩ := id (SlI.ofOwn ho).1
        subst hva
        clear ho hR2 hf2 hS2
        go_wp2_with fail
        refine SM.out.mono ?_
        clear SM
        rintro e w3 ⟨rfl, d3, rfl⟩
        have HR3 := Lib.hid (HR2.out.fr ((Fr.refl NoF w2).drewN d3) (fun _ _ q => q))
        have HF3 := Lib.hid (HF2.out.drewN d3)
        clear HR2 HF2
        generalize w2.drewN d3 = w3 at *
        have LN := Lib.hid (Len_all HR3.out k)
        rw [rowZ_nat HL.out] at LN
        go_wp2_with fail
        refine LN.out.mono ?_
        clear LN
        rintro e w4 ⟨rfl, rfl⟩
        have FI := Lib.hid (First_all HR3.out k)
        rw [rowZ_nat HL.out, show ixI (y :: l').head? = (y : Int) from rfl] at FI
        go_wp2_with fail
        refine FI.out.mono ?_
        clear FI
        rintro e w5 ⟨rfl, d5, rfl⟩
        have HR5 := Lib.hid (HR3.out.fr ((Fr.refl NoF w3).drewN d5) (fun _ _ q => q))
        have HF5 := Lib.hid (HF3.out.drewN d5)
        clear HR3 HF3
        generalize w3.drewN d5 = w5 at *
        have LA := Lib.hid (Last_all HR5.out k)
        rw [rowZ_nat HL.out, show ixI (y :: l').getLast? = (z : Int) from (by rw [HZ.out]; rfl)] at LA
        go_wp2_with fail
        refine LA.out.mono ?_
        clear LA
        rintro e w6 ⟨rfl, d6, rfl⟩
        have HF6 := Lib.hid (HF5.out.drewN d6)
        clear HR5 HF5
        go_wp2
        go_roundw
        case rel => exact ⟨k + 1, by omega, by go_num, HF6.out⟩
        case measure => simp [intOf]; omega
    · obtain rfl : k = m := by omega
      have HFm := Lib.hid hf
      have hb : k < 1000 := hm
      clear hf hC1
      go_wp2_with fail
      clear c1
      go_loopw [9] (fun i wr => ∃ x : Int, -1 ≤ x ∧ x ≤ (n : Int) + 1 ∧ i = .int .i64 x ∧ Fr NoF w wr) (fun i _ => ((n : Int) + 1 - intOf i).toNat)
      case atStart => exact ⟨-1, by omega, by omega, rfl, HFm.out⟩
      case round =>
        obtain ⟨x, hx1, hx2, rfl, hf⟩ := hrel
        have HF := Lib.hid hf
        have HR1 := Lib.hid (HR.out.fr hf (fun _ _ q => q))
        have hC1 := HC.out.fr hf (fun _ _ q => q)
        have c0 := hC1.c0
        have c1 := hC1.c1
        have HC1 := Lib.hid hC1
        clear hf hC1 HFm
        by_cases hlt : x ≤ (n : Int)
        · have A := Lib.hid (At_calls HC1.out x)
          have I := Lib.hid (In_all HR1.out x)
          have NX := Lib.hid (Next_all HR1.out x)
          have PV := Lib.hid (Prev_all HR1.out x)
          have B1 := Lib.hid (bes_calls ⟨lb, vs, HC1.out⟩ x 1 (.inl rfl))
          have B2 := Lib.hid (bes_calls ⟨lb, vs, HC1.out⟩ x (-1) (.inr rfl))
          rw [besZ_next] at B1
          rw [besZ_prev] at B2
          generalize ixI (ixZ L x) = z1 at *
          generalize posZ L x = z2 at *
          generalize ixI (nextZ L x) = z3 at *
          generalize ixI (prevZ L x) = z4 at *
          have y1 : (z1 != z1) = false := by simp
          have y3 : (z3 != z3) = false := by simp
          have y4 : (z4 != z4) = false := by simp
          go_wp2_with fail
          refine A.out.mono ?_
          rintro e w' ⟨rfl, rfl⟩
          go_wp2_with fail
          refine I.out.mono ?_
          rintro e w' ⟨rfl, rfl⟩
          go_wp2_with fail
          refine NX.out.mono ?_
          rintro e w' ⟨rfl, rfl⟩
          go_wp2_with fail
          refine B1.out.mono ?_
          rintro e w' ⟨rfl, rfl⟩
          go_wp2_with fail
          refine PV.out.mono ?_
          rintro e w' ⟨rfl, rfl⟩
          go_wp2_with fail
          refine B2.out.mono ?_
          rintro e w' ⟨rfl, rfl⟩
          go_wp2
          go_roundw
          case rel => exact ⟨x + 1, by omega, by omega, by go_num, HF.out⟩
          case measure => simp [intOf]; omega
        · have F1 := Lib.hid (First_all HR1.out (-1))
          rw [rowZ_out (by omega), show ixI ([] : List Nat).head? = -1 from rfl] at F1
          have hl2 := HLL.out
          go_wp2_with fail
          refine F1.out.mono ?_
          clear F1
          rintro e w2 ⟨rfl, d2, rfl⟩
          have HR2 := Lib.hid (HR1.out.fr ((Fr.refl NoF wr).drewN d2) (fun _ _ q => q))
          have HF2 := Lib.hid (HF.out.drewN d2)
          have c2 : (wr.drewN d2).cell? ⟨r, 1, none⟩ = some (.slice (some ⟨lb, 0, none⟩) k k) := c1
          clear HR1 HF c1 c0 HC1
          generalize wr.drewN d2 = w2 at *
          have L1 := Lib.hid (Last_all HR2.out k)
          rw [rowZ_out (.inr (by rw [hl2]; omega)), show ixI ([] : List Nat).getLast? = -1 from rfl] at L1
          go_wp2_with fail
          refine L1.out.mono ?_
          clear L1
          rintro e w3 ⟨rfl, d3, rfl⟩
          have HR3 := Lib.hid (HR2.out.fr ((Fr.refl NoF w2).drewN d3) (fun _ _ q => q))
          have HF3 := Lib.hid (HF2.out.drewN d3)
          have c3 : (w2.drewN d3).cell? ⟨r, 1, none⟩ = some (.slice (some ⟨lb, 0, none⟩) k k) := c2
          clear HR2 HF2 c2
          generalize w2.drewN d3 = w3 at *
          have N1 := Lib.hid (Len_all HR3.out (-1))
          rw [rowZ_out (by omega), show ([] : List Nat).length = 0 from rfl] at N1
          go_wp2_with fail
          refine N1.out.mono ?_
          clear N1
          rintro e w4 ⟨rfl, rfl⟩
          have A1 := Lib.hid (All_all HR3.out k)
          rw [rowZ_out (.inr (by rw [hl2]; omega))] at A1
          go_wp2_with fail
          refine A1.out.mono ?_
          clear A1
          rintro e w5 ⟨v, rfl, ho, _, hf5⟩
          rw [ints_nums] at ho
          obtain ⟨sva, svc, hva, _⟩ := id (SlI.ofOwn ho).1
          subst hva
          have HF5 := Lib.hid (HF3.out.trans hf5 (fun _ q => q.elim))
          clear ho hf5
          go_wp2
          go_ret
          exact ⟨rfl, HF5.out⟩
end Go.Proofs.Ytgpjjdaboapkjaa

/-
  RingActs: whatever is done, one thing behind the other, all rows are as the document says. No condition.
-/
import Derived.Test.YtgpjjdaboapkjaaRingOps
import Derived.Test.YtgpjjdaboapkjaaRingT
namespace Go.Proofs.Ytgpjjdaboapkjaa
open Go.RowKit
set_option linter.unusedVariables false

theorem u64_range (z : Int) : 0 ≤ IntKind.u64.wrap z ∧ IntKind.u64.wrap z < 18446744073709551616 := by
  simp only [IntKind.wrap, IntKind.signed, IntKind.bits]
  simp
  omega
theorem w64_small {z : Int} (h0 : 0 ≤ z) (h1 : z < 1000000) : wrap64 z = z := by
  have := IntKind.wrap_i64 z
  unfold wrap64
  omega
theorem modu (z : Int) {k : Int} (h0 : 0 < k) (h1 : k < 1000) : ∃ r : Nat, (r : Int) < k ∧ wrap64 ((IntKind.u64.wrap z).tmod k) = r := by
  obtain ⟨a, b⟩ := u64_range z
  have h2 : (IntKind.u64.wrap z).tmod k = (IntKind.u64.wrap z) % k := Int.tmod_eq_emod_of_nonneg a
  have h3 : 0 ≤ (IntKind.u64.wrap z) % k := Int.emod_nonneg _ (by omega)
  have h4 : (IntKind.u64.wrap z) % k < k := Int.emod_lt_of_pos _ h0
  refine ⟨((IntKind.u64.wrap z) % k).toNat, by omega, ?_⟩
  rw [h2, w64_small h3 (by omega)]; omega
theorem rows_of (z : Int) : ∃ m : Nat, 1 ≤ m ∧ m < 5 ∧ wrap64 (1 + wrap64 ((IntKind.u64.wrap z).tmod 4)) = (m : Int) := by
  obtain ⟨r, h1, h2⟩ := modu z (k := 4) (by decide) (by decide)
  exact ⟨r + 1, by omega, by omega, by rw [h2, w64_small (by omega) (by omega)]; omega⟩

theorem infoSl : (Try.prog.info? 41).map (fun i => (i.zero, i.size, i.bytes)) = some (some (.slice none 0 0), 1, 24) := by kernel_rfl
theorem made_at {z : Array Value} {N i : Nat} (hi : i < N) : (madeCells z N)[i]? = some z[i % z.size]! := by
  unfold madeCells
  rw [Array.getElem?_map, Array.getElem?_range, if_pos hi]; rfl
theorem ref_made {W : World} {n m : Nat} (hE : RE n m (List.replicate m [])) (hn : n < 1000000) (hm : m < 1000) :
    RefR ((W.alloc (.cells (madeCells #[.slice none 0 0] m) 41)).alloc (.cells #[.int .i64 n, .slice (some ⟨W.heap.size, 0, none⟩) m m] 32)) (W.heap.size + 1) n m (List.replicate m []) (fun i => i = W.heap.size + 1 ∨ i = W.heap.size) := by
  refine ⟨W.heap.size, fun i => .slice none 0 0, ?_, ?_, by omega, hm, ⟨.inl rfl, .inr rfl, ?_⟩, ?_, hE, hn⟩
  · exact Blk.new _ _ _ 2 _ _ (by simp) rfl (fun i hi => by
      match i, hi with
      | 0, _ => rfl
      | 1, _ => rfl)
  · exact (Blk.new W _ _ m _ _ rfl (by simp [size_madeCells]) (fun i hi => by
      rw [made_at hi, show (#[Value.slice none 0 0] : Array Value).size = 1 from rfl, Nat.mod_one]; rfl)).alloc _
  · intro i hi
    simp only [World.size_alloc]
    rcases hi with rfl | rfl <;> omega
  · intro k l' hl
    rw [List.getElem?_replicate] at hl
    split at hl
    · obtain rfl : [] = l' := Option.some.inj hl
      exact ⟨SlI.nil _, fun b hb => by cases hb⟩
    · cases hl

/-- A slice of three numbers each, that came in. -/
def ArgO (w : World) (v : Value) (zs : List (Int × Int × Int)) : Prop :=
  ∃ a c, v = .slice a zs.length c ∧ zs.length ≤ c ∧ c ≤ maxLen ∧ (0 < zs.length → ∃ b off, a = some ⟨b, off, none⟩ ∧ b < w.heap.size ∧ ∀ (j : Nat) (z : Int × Int × Int), zs[j]? = some z →
    w.cell? ⟨b, off + j * 3, none⟩ = some (.int .i64 z.1) ∧ w.cell? ⟨b, off + j * 3 + 1, none⟩ = some (.int .i64 z.2.1) ∧ w.cell? ⟨b, off + j * 3 + 2, none⟩ = some (.int .i64 z.2.2))

theorem RefR.fr {w w' : World} {r n m : Nat} {L : List (List Nat)} {F G : Nat → Prop} (h : RefR w r n m L F) (f : Fr G w w') (hd : ∀ i, F i → ¬ G i) : RefR w' r n m L F := by
  obtain ⟨lb, vs, hC⟩ := h
  exact ⟨lb, vs, hC.fr f hd⟩

theorem ref_lt {w : World} {r n m : Nat} {L : List (List Nat)} {F : Nat → Prop} (h : RefR w r n m L F) : ∀ i, F i → i < w.heap.size := by
  obtain ⟨lb, vs, hC⟩ := h
  exact hC.Fr.2.2
/-- Both sides stand for the same lists, apart from one another. -/
def Both (w0 wr : World) (b r n m : Nat) : Prop := ∃ L F G, RR wr b n m L F ∧ RefR wr r n m L G ∧ (∀ i, F i → ¬ G i) ∧ (∀ i, F i → w0.heap.size ≤ i) ∧ (∀ i, G i → w0.heap.size ≤ i) ∧ (∀ i, G i → i < wr.heap.size)

set_option maxRecDepth 100000 in
set_option maxHeartbeats 4000000 in
theorem acts_walk (a0 a1 : Int) (v : Value) (zs : List (Int × Int × Int)) (w : World) (hv : ArgO w v zs) :
    Calls Try.prog 3 #[.int .i64 a0, .int .i64 a1, v] w fun e w' => e = .returned (.bool true) ∧ Fr NoF w w' := by
  obtain ⟨i1, hi, hz0, hz1, hz2⟩ := info_parts infoSl
  obtain ⟨sa, sc, ev, q1, q2, hcells⟩ := hv
  subst ev
  unfold maxLen at q2
  have HCE := Lib.hid hcells
  clear hcells
  obtain ⟨n, hn, en⟩ := modu a0 (k := 12) (by decide) (by decide)
  obtain ⟨m, hm1, hm2, em⟩ := rows_of a1
  have EN := Lib.hid en
  have EM := Lib.hid em
  clear en em
  have mk : ∀ w : World, (Instr.makeSlice 30 (.int .i64 (m : Int)) (.int .i64 (m : Int))).run Try.prog w =
      .ok (.slice (some ⟨w.heap.size, 0, none⟩) m m) (w.alloc (.cells (madeCells #[.slice none 0 0] m) 41)) := by
    intro w
    have := run_make (P := Try.prog) w 30 41 i1 _ Try.underlying30 hi hz0 .i64 .i64 (m : Int) (m : Int) (by omega) (Int.le_refl _) (by rw [hz2]; omega) (by omega)
    rw [show ((m : Int)).toNat = m from by omega, hz1, Nat.mul_one] at this
    exact this
  have MK := Lib.hid mk
  clear mk hi hz0 hz1 hz2
  go_enter Try.func3, Try.ntmps3
  go_wp2_with fail
  rw [EN.out, EM.out]
  have N := Lib.hid (new_yes n m w (by omega) (by omega) (by omega))
  refine N.out.mono ?_
  clear N
  rintro e w1 ⟨b, F, rfl, hR1, hF, hf1⟩
  have HF := Lib.hid hF
  clear hF
  go_wp2_with fail
  refine (told_calls _).mono ?_
  rintro e w2 ⟨rfl, hf2⟩
  have HR2 := Lib.hid (hR1.fr hf2 (fun _ _ q => q))
  have HF2 := Lib.hid (hf1.trans hf2 (fun _ q => .inl q))
  have HREF := Lib.hid (ref_made (W := w2) HR2.out.re (by omega) (by omega))
  have HFB := Lib.hid (((Fr.refl NoF w2).alloc (.cells (madeCells #[.slice none 0 0] m) 41)).alloc (.cells #[.int .i64 n, .slice (some ⟨w2.heap.size, 0, none⟩) m m] 32))
  have hB0 : Both w ((w2.alloc (.cells (madeCells #[.slice none 0 0] m) 41)).alloc (.cells #[.int .i64 n, .slice (some ⟨w2.heap.size, 0, none⟩) m m] 32)) b (w2.heap.size + 1) n m :=
    ⟨_, F, _, HR2.out.fr HFB.out (fun _ _ q => q), HREF.out, fun i hi => by have := HR2.out.lt i hi; omega, HF.out, fun i hi => by have := HF2.out.size; omega, fun i hi => by simp only [World.size_alloc]; omega⟩
  have HBOTH := Lib.hid hB0
  have HF3 := Lib.hid (HF2.out.trans HFB.out (fun _ q => q.elim))
  have mk := MK.out w2
  clear hf1 hf2 hR1 hB0 HREF HFB HR2 HF2 HF
  go_wp2_with fail
  generalize (w2.alloc (.cells (madeCells #[.slice none 0 0] m) 41)).alloc (.cells #[.int .i64 n, .slice (some ⟨w2.heap.size, 0, none⟩) m m] 32) = w3 at *
  generalize w2.heap.size + 1 = r at *
  clear mk MK
  go_loopw [12] (fun i wr => ∃ j : Nat, j ≤ zs.length ∧ i = .int .i64 j ∧ Both w wr b r n m ∧ Fr NoF w wr) (fun i _ => zs.length - (intOf i).toNat)
  case atStart => exact ⟨0, Nat.zero_le _, rfl, HBOTH.out, HF3.out⟩
  case round =>
    obtain ⟨j, hj, rfl, hb, hf⟩ := hrel
    have HBo := Lib.hid hb
    have HF0 := Lib.hid hf
    clear hb hf HBOTH HF3
    by_cases hlt : j < zs.length
    · by_cases h150 : j < 150
      · obtain ⟨xb, xo, rfl, hxb, hcell⟩ := HCE.out (by omega)
        obtain ⟨cz0, cz1, cz2⟩ := hcell j zs[j] (List.getElem?_eq_getElem hlt)
        rw [← HF0.out.cell (p := ⟨xb, xo + j * 3, none⟩) hxb id] at cz0
        rw [← HF0.out.cell (p := ⟨xb, xo + j * 3 + 1, none⟩) hxb id] at cz1
        rw [← HF0.out.cell (p := ⟨xb, xo + j * 3 + 2, none⟩) hxb id] at cz2
        generalize zs[j] = z at cz0 cz1 cz2
        obtain ⟨z0, z1, z2⟩ := z
        simp only at cz0 cz1 cz2
        clear hcell
        obtain ⟨q, hq, ek⟩ := modu z0 (k := 4) (by decide) (by decide)
        obtain ⟨L, F', G, hR, hM, hFG, hFw, hGw, hGl⟩ := HBo.out
        have hFl := hR.lt
        have hsz := HF0.out.size
        have fW : Fr NoF wr ((wr.alloc (.cells #[.int .i64 z0, .int .i64 z1, .int .i64 z2] 34)).drew) := ((Fr.refl NoF wr).alloc _).drew
        have HRW := Lib.hid (hR.fr fW (fun _ _ q => q))
        have HMW := Lib.hid (hM.fr fW (fun _ _ q => q))
        have HFW := Lib.hid (HF0.out.trans fW (fun _ q => q.elim))
        have HNF : Hid ((¬ F' wr.heap.size) ∧ ¬ G wr.heap.size) := ⟨fun h => by have := hFl _ h; omega, fun h => by have := hGl _ h; omega⟩
        have HSEP := Lib.hid (And.intro hFG (And.intro hFw (And.intro hGw (And.intro hGl hFl))))
        have hszW : wr.heap.size < ((wr.alloc (.cells #[.int .i64 z0, .int .i64 z1, .int .i64 z2] 34)).drew).heap.size := by simp
        have cW1 : ((wr.alloc (.cells #[.int .i64 z0, .int .i64 z1, .int .i64 z2] 34)).drew).cell? ⟨wr.heap.size, 1, none⟩ = some (.int .i64 z1) := by simp
        have cW2 : ((wr.alloc (.cells #[.int .i64 z0, .int .i64 z1, .int .i64 z2] 34)).drew).cell? ⟨wr.heap.size, 2, none⟩ = some (.int .i64 z2) := by simp
        have HW := Lib.hid (And.intro hszW (And.intro cW1 cW2))
        clear hR hM hFG hFw hGw hGl hFl fW hszW cW1 cW2
        match q, hq, ek with
        | 0, _, ek =>
          have ek' : wrap64 ((IntKind.u64.wrap z0).tmod 4) = 0 := ek
          have CI := Lib.hid (front_any HRW.out z1 z2)
          clear ek
          go_wp2_with fail
          have cW1 := HW.out.2.1
          have cW2 := HW.out.2.2
          have hszW := HW.out.1
          go_region_held3 (fun w' => w'.cell? ⟨wr.heap.size, 1, none⟩ = some (.int .i64 z1) ∧ w'.cell? ⟨wr.heap.size, 2, none⟩ = some (.int .i64 z2))
            (first | exact ⟨cW1, cW2⟩ | exact ⟨c51, c52⟩ | exact ⟨c41, c42⟩)
            (first
              | (go_at_call 8; refine CI.out.mono ?_; rintro e w4 ⟨rfl, hR4, hf4⟩; have HR4 := Lib.hid hR4; have HF4 := Lib.hid hf4; have c41 := (hf4.cell (p := ⟨wr.heap.size, 1, none⟩) hszW HNF.out.1).trans cW1; have c42 := (hf4.cell (p := ⟨wr.heap.size, 2, none⟩) hszW HNF.out.1).trans cW2; have hsz4 := Nat.lt_of_lt_of_le hszW hf4.size; clear hR4 hf4)
              | (go_at_call 9; refine (putr_any (HMW.out.fr HF4.out (fun i hG hFi => HSEP.out.1 i hFi hG)) z1 z2 true).mono ?_; rintro e w5 ⟨rfl, G', hM5, hf5, hG5⟩; have HM5 := Lib.hid hM5; have HF5 := Lib.hid hf5; have HG5 := Lib.hid hG5; have c51 := (hf5.cell (p := ⟨wr.heap.size, 1, none⟩) hsz4 HNF.out.2).trans c41; have c52 := (hf5.cell (p := ⟨wr.heap.size, 2, none⟩) hsz4 HNF.out.2).trans c42; clear hM5 hf5 hG5))
          have HR5 := Lib.hid (HR4.out.fr HF5.out (fun i hi => HSEP.out.1 i hi))
          have HF05 := Lib.hid ((HFW.out.trans HF4.out (fun i q => .inr (HSEP.out.2.1 i q))).trans HF5.out (fun i q => .inr (HSEP.out.2.2.1 i q)))
          have SM := Lib.hid (same_walk HR5.out HM5.out)
          have hsz4' := HF4.out.size
          have hszW' : wr.heap.size + 1 ≤ w4.heap.size := hsz4
          clear cW1 cW2 c41 c42 c51 c52
          go_wp2_with fail
          refine SM.out.mono ?_
          clear SM
          rintro e w6 ⟨rfl, hf6⟩
          have HB6 : Hid (Both w w6 b r n m) := ⟨_, F', G', HR5.out.fr hf6 (fun _ _ q => q), HM5.out.fr hf6 (fun _ _ q => q), fun i hi hG => (HG5.out i hG).elim (HSEP.out.1 i hi) (fun q => by have := HSEP.out.2.2.2.2 i hi; omega), HSEP.out.2.1, fun i hG => (HG5.out i hG).elim (HSEP.out.2.2.1 i) (fun q => by omega), fun i hG => Nat.lt_of_lt_of_le (ref_lt HM5.out i hG) hf6.size⟩
          have HF6 := Lib.hid (HF05.out.trans hf6 (fun _ q => q.elim))
          clear hf6
          go_wp2
          go_roundw
          case rel => exact ⟨j + 1, by omega, by go_num, HB6.out, HF6.out⟩
          case measure => simp [intOf]; omega
        | 1, _, ek =>
          have ek' : wrap64 ((IntKind.u64.wrap z0).tmod 4) = 1 := ek
          have CI := Lib.hid (back_any HRW.out z1 z2)
          clear ek
          go_wp2_with fail
          have cW1 := HW.out.2.1
          have cW2 := HW.out.2.2
          have hszW := HW.out.1
          go_region_held3 (fun w' => w'.cell? ⟨wr.heap.size, 1, none⟩ = some (.int .i64 z1) ∧ w'.cell? ⟨wr.heap.size, 2, none⟩ = some (.int .i64 z2))
            (first | exact ⟨cW1, cW2⟩ | exact ⟨c51, c52⟩ | exact ⟨c41, c42⟩)
            (first
              | (go_at_call 10; refine CI.out.mono ?_; rintro e w4 ⟨rfl, hR4, hf4⟩; have HR4 := Lib.hid hR4; have HF4 := Lib.hid hf4; have c41 := (hf4.cell (p := ⟨wr.heap.size, 1, none⟩) hszW HNF.out.1).trans cW1; have c42 := (hf4.cell (p := ⟨wr.heap.size, 2, none⟩) hszW HNF.out.1).trans cW2; have hsz4 := Nat.lt_of_lt_of_le hszW hf4.size; clear hR4 hf4)
              | (go_at_call 9; refine (putr_any (HMW.out.fr HF4.out (fun i hG hFi => HSEP.out.1 i hFi hG)) z1 z2 false).mono ?_; rintro e w5 ⟨rfl, G', hM5, hf5, hG5⟩; have HM5 := Lib.hid hM5; have HF5 := Lib.hid hf5; have HG5 := Lib.hid hG5; have c51 := (hf5.cell (p := ⟨wr.heap.size, 1, none⟩) hsz4 HNF.out.2).trans c41; have c52 := (hf5.cell (p := ⟨wr.heap.size, 2, none⟩) hsz4 HNF.out.2).trans c42; clear hM5 hf5 hG5))
          have HR5 := Lib.hid (HR4.out.fr HF5.out (fun i hi => HSEP.out.1 i hi))
          have HF05 := Lib.hid ((HFW.out.trans HF4.out (fun i q => .inr (HSEP.out.2.1 i q))).trans HF5.out (fun i q => .inr (HSEP.out.2.2.1 i q)))
          have SM := Lib.hid (same_walk HR5.out HM5.out)
          have hsz4' := HF4.out.size
          have hszW' : wr.heap.size + 1 ≤ w4.heap.size := hsz4
          clear cW1 cW2 c41 c42 c51 c52
          go_wp2_with fail
          refine SM.out.mono ?_
          clear SM
          rintro e w6 ⟨rfl, hf6⟩
          have HB6 : Hid (Both w w6 b r n m) := ⟨_, F', G', HR5.out.fr hf6 (fun _ _ q => q), HM5.out.fr hf6 (fun _ _ q => q), fun i hi hG => (HG5.out i hG).elim (HSEP.out.1 i hi) (fun q => by have := HSEP.out.2.2.2.2 i hi; omega), HSEP.out.2.1, fun i hG => (HG5.out i hG).elim (HSEP.out.2.2.1 i) (fun q => by omega), fun i hG => Nat.lt_of_lt_of_le (ref_lt HM5.out i hG) hf6.size⟩
          have HF6 := Lib.hid (HF05.out.trans hf6 (fun _ q => q.elim))
          clear hf6
          go_wp2
          go_roundw
          case rel => exact ⟨j + 1, by omega, by go_num, HB6.out, HF6.out⟩
          case measure => simp [intOf]; omega
        | 2, _, ek =>
          have ek' : wrap64 ((IntKind.u64.wrap z0).tmod 4) = 2 := ek
          have CI := Lib.hid (before_any HRW.out z2 z1)
          clear ek
          go_wp2_with fail
          have cW1 := HW.out.2.1
          have cW2 := HW.out.2.2
          have hszW := HW.out.1
          go_region_held3 (fun w' => w'.cell? ⟨wr.heap.size, 1, none⟩ = some (.int .i64 z1) ∧ w'.cell? ⟨wr.heap.size, 2, none⟩ = some (.int .i64 z2))
            (first | exact ⟨cW1, cW2⟩ | exact ⟨c51, c52⟩ | exact ⟨c41, c42⟩)
            (first
              | (go_at_call 11; refine CI.out.mono ?_; rintro e w4 ⟨rfl, hR4, hf4⟩; have HR4 := Lib.hid hR4; have HF4 := Lib.hid hf4; have c41 := (hf4.cell (p := ⟨wr.heap.size, 1, none⟩) hszW HNF.out.1).trans cW1; have c42 := (hf4.cell (p := ⟨wr.heap.size, 2, none⟩) hszW HNF.out.1).trans cW2; have hsz4 := Nat.lt_of_lt_of_le hszW hf4.size; clear hR4 hf4)
              | (go_at_call 12; refine (befr_any (HMW.out.fr HF4.out (fun i hG hFi => HSEP.out.1 i hFi hG)) z2 z1).mono ?_; rintro e w5 ⟨rfl, G', hM5, hf5, hG5⟩; have HM5 := Lib.hid hM5; have HF5 := Lib.hid hf5; have HG5 := Lib.hid hG5; have c51 := (hf5.cell (p := ⟨wr.heap.size, 1, none⟩) hsz4 HNF.out.2).trans c41; have c52 := (hf5.cell (p := ⟨wr.heap.size, 2, none⟩) hsz4 HNF.out.2).trans c42; clear hM5 hf5 hG5))
          have HR5 := Lib.hid (HR4.out.fr HF5.out (fun i hi => HSEP.out.1 i hi))
          have HF05 := Lib.hid ((HFW.out.trans HF4.out (fun i q => .inr (HSEP.out.2.1 i q))).trans HF5.out (fun i q => .inr (HSEP.out.2.2.1 i q)))
          have SM := Lib.hid (same_walk HR5.out HM5.out)
          have hsz4' := HF4.out.size
          have hszW' : wr.heap.size + 1 ≤ w4.heap.size := hsz4
          clear cW1 cW2 c41 c42 c51 c52
          go_wp2_with fail
          refine SM.out.mono ?_
          clear SM
          rintro e w6 ⟨rfl, hf6⟩
          have HB6 : Hid (Both w w6 b r n m) := ⟨_, F', G', HR5.out.fr hf6 (fun _ _ q => q), HM5.out.fr hf6 (fun _ _ q => q), fun i hi hG => (HG5.out i hG).elim (HSEP.out.1 i hi) (fun q => by have := HSEP.out.2.2.2.2 i hi; omega), HSEP.out.2.1, fun i hG => (HG5.out i hG).elim (HSEP.out.2.2.1 i) (fun q => by omega), fun i hG => Nat.lt_of_lt_of_le (ref_lt HM5.out i hG) hf6.size⟩
          have HF6 := Lib.hid (HF05.out.trans hf6 (fun _ q => q.elim))
          clear hf6
          go_wp2
          go_roundw
          case rel => exact ⟨j + 1, by omega, by go_num, HB6.out, HF6.out⟩
          case measure => simp [intOf]; omega
        | 3, _, ek =>
          have ek' : wrap64 ((IntKind.u64.wrap z0).tmod 4) = 3 := ek
          have CI := Lib.hid (Out_all HRW.out z2)
          clear ek
          go_wp2_with fail
          have cW1 := HW.out.2.1
          have cW2 := HW.out.2.2
          have hszW := HW.out.1
          go_region_held3 (fun w' => w'.cell? ⟨wr.heap.size, 1, none⟩ = some (.int .i64 z1) ∧ w'.cell? ⟨wr.heap.size, 2, none⟩ = some (.int .i64 z2))
            (first | exact ⟨cW1, cW2⟩ | exact ⟨c51, c52⟩ | exact ⟨c41, c42⟩)
            (first
              | (go_at_call 13; refine CI.out.mono ?_; rintro e w4 ⟨rfl, hR4, hf4⟩; have HR4 := Lib.hid hR4; have HF4 := Lib.hid hf4; have c41 := (hf4.cell (p := ⟨wr.heap.size, 1, none⟩) hszW HNF.out.1).trans cW1; have c42 := (hf4.cell (p := ⟨wr.heap.size, 2, none⟩) hszW HNF.out.1).trans cW2; have hsz4 := Nat.lt_of_lt_of_le hszW hf4.size; clear hR4 hf4)
              | (go_at_call 14; refine (out_ref (HMW.out.fr HF4.out (fun i hG hFi => HSEP.out.1 i hFi hG)) z2).mono ?_; rintro e w5 ⟨rfl, G', hM5, hf5, hG5⟩; have HM5 := Lib.hid hM5; have HF5 := Lib.hid hf5; have HG5 := Lib.hid hG5; have c51 := (hf5.cell (p := ⟨wr.heap.size, 1, none⟩) hsz4 HNF.out.2).trans c41; have c52 := (hf5.cell (p := ⟨wr.heap.size, 2, none⟩) hsz4 HNF.out.2).trans c42; clear hM5 hf5 hG5))
          have HR5 := Lib.hid (HR4.out.fr HF5.out (fun i hi => HSEP.out.1 i hi))
          have HF05 := Lib.hid ((HFW.out.trans HF4.out (fun i q => .inr (HSEP.out.2.1 i q))).trans HF5.out (fun i q => .inr (HSEP.out.2.2.1 i q)))
          have SM := Lib.hid (same_walk HR5.out HM5.out)
          have hsz4' := HF4.out.size
          have hszW' : wr.heap.size + 1 ≤ w4.heap.size := hsz4
          clear cW1 cW2 c41 c42 c51 c52
          go_wp2_with fail
          refine SM.out.mono ?_
          clear SM
          rintro e w6 ⟨rfl, hf6⟩
          have HB6 : Hid (Both w w6 b r n m) := ⟨_, F', G', HR5.out.fr hf6 (fun _ _ q => q), HM5.out.fr hf6 (fun _ _ q => q), fun i hi hG => (HG5.out i hG).elim (HSEP.out.1 i hi) (fun q => by have := HSEP.out.2.2.2.2 i hi; omega), HSEP.out.2.1, fun i hG => (HG5.out i hG).elim (HSEP.out.2.2.1 i) (fun q => by omega), fun i hG => Nat.lt_of_lt_of_le (ref_lt HM5.out i hG) hf6.size⟩
          have HF6 := Lib.hid (HF05.out.trans hf6 (fun _ q => q.elim))
          clear hf6
          go_wp2
          go_roundw
          case rel => exact ⟨j + 1, by omega, by go_num, HB6.out, HF6.out⟩
          case measure => simp [intOf]; omega
        | q + 4, hq, _ => omega
      · have hd : decide ((j : Int) < 150) = false := by simp; omega
        have hd1 : (j : Int) < (zs.length : Int) := by omega
        go_wp2
        go_ret
        exact ⟨rfl, HF0.out⟩
    · have hd : decide ((j : Int) < (zs.length : Int)) = false := by simp; omega
      go_wp2
      go_ret
      exact ⟨rfl, HF0.out⟩
end Go.Proofs.Ytgpjjdaboapkjaa

/-
  RingMoves: whatever is moved, a thing stands as it is to, all others stay in their order. No condition.
-/
import Derived.Test.YtgpjjdaboapkjaaRefB
import Derived.Test.YtgpjjdaboapkjaaRingT
import Derived.ProofKit
import Derived.OpenShut
import Derived.ChangeOld
import Derived.Below
namespace Go.Proofs.Ytgpjjdaboapkjaa
open Go.ChangeShapes Go.WideShapes Go.ChangeAt Go.RowKit
set_option linter.unusedVariables false

theorem u64_range (z : Int) : 0 ≤ IntKind.u64.wrap z ∧ IntKind.u64.wrap z < 18446744073709551616 := by
  simp only [IntKind.wrap, IntKind.signed, IntKind.bits]
  simp
  omega
theorem w64_small {z : Int} (h0 : 0 ≤ z) (h1 : z < 1000000) : wrap64 z = z := by
  have := IntKind.wrap_i64 z
  unfold wrap64
  omega
theorem modu (z : Int) {k : Int} (h0 : 0 < k) (h1 : k < 1000) : ∃ r : Nat, (r : Int) < k ∧ wrap64 ((IntKind.u64.wrap z).tmod k) = r := by
  obtain ⟨a, b⟩ := u64_range z
  have h2 : (IntKind.u64.wrap z).tmod k = (IntKind.u64.wrap z) % k := Int.tmod_eq_emod_of_nonneg a
  have h3 : 0 ≤ (IntKind.u64.wrap z) % k := Int.emod_nonneg _ (by omega)
  have h4 : (IntKind.u64.wrap z) % k < k := Int.emod_lt_of_pos _ h0
  refine ⟨((IntKind.u64.wrap z) % k).toNat, by omega, ?_⟩
  rw [h2, w64_small h3 (by omega)]; omega
theorem len_of (a0 : Int) : ∃ n : Nat, 2 ≤ n ∧ n < 12 ∧ wrap64 (2 + wrap64 ((IntKind.u64.wrap a0).tmod 10)) = (n : Int) := by
  obtain ⟨r, h1, h2⟩ := modu a0 (k := 10) (by decide) (by decide)
  exact ⟨r + 2, by omega, by omega, by rw [h2, w64_small (by omega) (by omega)]; omega⟩

theorem put_range (i : Nat) : putL [List.range i, []] 0 i false = [List.range (i + 1), []] := by
  have h : rowIx [List.range i, []] i = none := by
    unfold rowIx
    rw [List.findIdx?_eq_none_iff]
    intro l hl
    simp at hl
    rcases hl with rfl | rfl <;> simp
  simp [putL, outL, h, List.range_succ]

/-- All things are in row 0. -/
def MS (wr : World) (b n : Nat) (F : Nat → Prop) : Prop := ∃ l, RR wr b n 2 [l, []] F ∧ l.length = n ∧ ∀ x, x < n → x ∈ l

theorem ms_split {wr : World} {b n : Nat} {F : Nat → Prop} {l : List Nat} (h : RR wr b n 2 [l, []] F) {x : Nat} (hx : x ∈ l) :
    ∃ l1 l2, l = l1 ++ x :: l2 ∧ (¬ x ∈ l1) ∧ (¬ x ∈ l2) ∧ nextZ [l, []] x = l2.head? ∧ outL [l, []] x = [l1 ++ l2, []] ∧ rowIx [l, []] x = some 0 := by
  obtain ⟨nb, lb, rw, nx, pv, ls, hc, hi, hF⟩ := h.ex
  obtain ⟨l1, l2, rfl⟩ := List.append_of_mem hx
  have hl : [l1 ++ x :: l2, ([] : List Nat)][0]? = some (l1 ++ x :: l2) := rfl
  have hs := hi.split_not hl
  exact ⟨l1, l2, rfl, hs.1, hs.2, nextZ_eq hi hl, by rw [hi.outL_eq hl]; rfl, hi.rowIx_of hl (by simp)⟩

theorem same_true {w : World} {va vb : Value} {zs : List Int} (ha : SlI w va zs) (hb : SlI w vb zs) :
    Calls Try.prog 23 #[va, vb] w fun e w' => e = .returned (.bool true) ∧ ∃ d, w.drewN d = w' :=
  (same_calls ha hb).mono fun _ _ ⟨he, hw⟩ => ⟨by rw [he]; simp, hw⟩
theorem ms_out {wr : World} {b n : Nat} {F : Nat → Prop} {p q : List Nat} {x : Nat} (h : RR wr b n 2 [p ++ x :: q, []] F) : outL [p ++ x :: q, []] x = [p ++ q, []] := by
  obtain ⟨nb, lb, rw, nx, pv, ls, hc, hi, hF⟩ := h.ex
  have hl : [p ++ x :: q, ([] : List Nat)][0]? = some (p ++ x :: q) := rfl
  rw [hi.outL_eq hl]; rfl
theorem ms_before {wr : World} {b n : Nat} {F : Nat → Prop} {p q : List Nat} {x y : Nat} (h : RR wr b n 2 [p ++ x :: y :: q, []] F) :
    rowIx [p ++ x :: y :: q, []] y = some 0 ∧ (¬ x = y) ∧ befL [p ++ x :: y :: q, []] x y = [p ++ x :: y :: q, []] := by
  have ho := ms_out h
  obtain ⟨nb, lb, rw, nx, pv, ls, hc, hi, hF⟩ := h.ex
  have hl : [p ++ x :: y :: q, ([] : List Nat)][0]? = some ((p ++ [x]) ++ y :: q) := by simp
  have hs := hi.split_not hl
  have e := hi.rowIx_of hl (x := y) (by simp)
  have hy : ¬ y ∈ p := fun m => hs.1 (by simp [m])
  refine ⟨e, fun q => hs.1 (by simp [q]), ?_⟩
  simp [befL, e, ho, insL_eq hy]
theorem SlI.tail {w : World} {b off n c : Nat} {z : Int} {zs : List Int} (h : SlI w (.slice (some ⟨b, off, none⟩) n c) (z :: zs)) : SlI w (.slice (some ⟨b, off + 1, none⟩) (n - 1) (c - 1)) zs := by
  obtain ⟨a, c', e, h1, h2, h3⟩ := h
  simp only [Value.slice.injEq, List.length_cons] at e h1
  obtain ⟨rfl, rfl, rfl⟩ := e
  rcases h3 with ⟨e, _⟩ | ⟨b', off', e, hb, hc⟩
  · cases e
  · simp only [Option.some.injEq, Addr.mk.injEq] at e
    obtain ⟨rfl, rfl, _⟩ := e
    refine ⟨_, _, rfl, by omega, by omega, .inr ⟨_, _, rfl, hb, fun j u hj => ?_⟩⟩
    have := hc (j + 1) u (by simpa using hj)
    rwa [Nat.add_comm j 1, ← Nat.add_assoc] at this
/-- The model's Rows as the law lays them: two new blocks. -/
theorem ref_new {W : World} {n : Nat} {va : Value} {l : List Nat} (hv : SlI W va (nums l)) (hE : RE n 2 [l, []]) (hn : n < 1000000) :
    RefR ((W.alloc (.cells #[va, .slice none 0 0] 41)).alloc (.cells #[.int .i64 n, .slice (some ⟨W.heap.size, 0, none⟩) 2 2] 32)) (W.heap.size + 1) n 2 [l, []] (fun i => i = W.heap.size + 1 ∨ i = W.heap.size ∨ va.ownBlock = some i) := by
  have hlt : ∀ b, va.ownBlock = some b → b < W.heap.size := hv.toC.lt
  refine ⟨W.heap.size, fun i => if i = 0 then va else .slice none 0 0, ?_, ?_, by omega, by omega, ⟨.inl rfl, .inr (.inl rfl), ?_⟩, ?_, hE, hn⟩
  · exact Blk.new _ _ _ 2 _ _ (by simp) rfl (fun i hi => by
      match i, hi with
      | 0, _ => rfl
      | 1, _ => rfl)
  · exact (Blk.new W _ _ 2 _ _ rfl rfl (fun i hi => by
      match i, hi with
      | 0, _ => rfl
      | 1, _ => rfl)).alloc _
  · intro i hi
    simp only [World.size_alloc]
    rcases hi with rfl | rfl | hi
    · omega
    · omega
    · have := hlt i hi; omega
  · intro k l' hl
    match k, hl with
    | 0, hl =>
      obtain rfl : l = l' := by simpa using hl
      exact ⟨hv.fr (((Fr.refl NoF W).alloc _).alloc _) (fun _ _ q => q), fun b hb => ⟨.inr (.inr hb), by have := hlt b hb; omega, by have := hlt b hb; omega⟩⟩
    | 1, hl =>
      obtain rfl : [] = l' := by simpa using hl
      exact ⟨SlI.nil _, fun b hb => by cases hb⟩
    | k + 2, hl => simp at hl

set_option maxRecDepth 100000 in
set_option maxHeartbeats 4000000 in
theorem moves_walk (a0 : Int) (v : Value) (zs : List Int) (w : World) (hv : ArgI w v zs) :
    Calls Try.prog 5 #[.int .i64 a0, v] w fun e w' => e = .returned (.bool true) ∧ Fr NoF w w' := by
  have hzl := hv.len
  unfold maxLen at hzl
  obtain ⟨sa, sc, ev, q1, q2, _⟩ := id hv
  subst ev
  have HV := Lib.hid hv
  clear hv
  obtain ⟨n, hn1, hn2, en⟩ := len_of a0
  have EN := Lib.hid en
  clear en
  go_enter Try.func5, Try.ntmps5
  go_wp2_with fail
  rw [EN.out]
  have N := Lib.hid (new_yes n 2 w (by omega) (by omega) (by omega))
  refine N.out.mono ?_
  clear N
  rintro e w1 ⟨b, F, rfl, hR1, hF, hf1⟩
  rw [show List.replicate 2 ([] : List Nat) = [List.range 0, []] from rfl] at hR1
  have HF := Lib.hid hF
  clear hF
  go_wp2_with fail
  refine (told_calls _).mono ?_
  rintro e w2 ⟨rfl, hf2⟩
  have hR2 := hR1.fr hf2 (fun _ _ q => q)
  have hf12 : Fr NoF w w2 := hf1.trans hf2 (fun _ q => .inl q)
  clear hf1 hf2 hR1
  go_wp2_with fail
  go_loopw [8] (fun i wr => ∃ k : Nat, k ≤ n ∧ i = .int .i64 k ∧ RR wr b n 2 [List.range k, []] F ∧ Fr NoF w wr) (fun i _ => n - (intOf i).toNat)
  case atStart => exact ⟨0, Nat.zero_le _, rfl, hR2, hf12⟩
  case round =>
    obtain ⟨k, hk, rfl, hR, hf⟩ := hrel
    clear hR2 hf12
    by_cases hlt : k < n
    · have B := Lib.hid (back_yes hR 0 k (by omega) hlt)
      rw [put_range] at B
      have HFr := Lib.hid hf
      clear hR hf
      go_wp2_with (go_at_call 10; refine B.out.mono ?_; rintro e w3 ⟨rfl, hR3, hf3⟩)
      have HR3 := Lib.hid hR3
      have HF3 := Lib.hid (HFr.out.trans hf3 (fun i q => .inr (HF.out i q)))
      clear hR3 hf3
      go_roundw
      case rel => exact ⟨k + 1, by omega, by go_num, HR3.out, HF3.out⟩
      case measure => simp [intOf]; omega
    · obtain rfl : k = n := by omega
      have hM : MS wr b k F := ⟨List.range k, hR, by simp, fun x hx => List.mem_range.2 hx⟩
      have HM := Lib.hid hM
      have HFr := Lib.hid hf
      clear hR hf hM
      go_wp2_with fail
      go_loopw [9] (fun i wr => ∃ j : Nat, j ≤ zs.length ∧ i = .int .i64 j ∧ MS wr b k F ∧ Fr NoF w wr) (fun i _ => zs.length - (intOf i).toNat)
      case atStart => exact ⟨0, Nat.zero_le _, rfl, HM.out, HFr.out⟩
      case round =>
        obtain ⟨j, hj, rfl, hms, hf⟩ := hrel
        have HMS := Lib.hid hms
        have HF0 := Lib.hid hf
        clear hms hf HM HFr
        by_cases hlt : j < zs.length
        · by_cases h60 : j < 60
          · obtain ⟨xb, xo, xc, ev', _, _, hxb, hcell⟩ := HV.out.at hlt
            simp only [Value.slice.injEq] at ev'
            obtain ⟨rfl, _, rfl⟩ := ev'
            have cz : wr.cell? ⟨xb, xo + j, none⟩ = some (.int .i64 zs[j]) := by
              rw [HF0.out.cell (p := ⟨xb, xo + j, none⟩) hxb id]; exact hcell j _ (List.getElem?_eq_getElem hlt)
            generalize zs[j] = z at cz
            clear hcell
            obtain ⟨x, hx, ex⟩ := modu z (k := k) (by omega) (by omega)
            have EX := Lib.hid ex
            clear ex
            obtain ⟨l, hR, hl, hall⟩ := HMS.out
            have hxl : x ∈ l := hall x (by omega)
            have HALL := Lib.hid hall
            have HLEN := Lib.hid hl
            have HXL := Lib.hid hxl
            clear hall hl hxl
            have A1 := Lib.hid (All_all hR 0)
            have HR0 := Lib.hid hR
            clear hR
            go_wp2_with fail
            rw [EX.out]
            refine A1.out.mono ?_
            clear A1
            rintro e w3 ⟨va, rfl, ho3, hR3, hf3⟩
            rw [show rowZ [l, []] 0 = l from rfl, ints_nums] at ho3
            have hob := ownBlock_own ho3
            have hf03 : Fr NoF w w3 := HF0.out.trans hf3 (fun _ q => q.elim)
            have hsz : w.heap.size ≤ wr.heap.size := HF0.out.size
            have HVA := Lib.hid (And.intro (SlI.ofOwn ho3).1 hob)
            have HF3 := Lib.hid hf03
            have HR3 := Lib.hid hR3
            clear ho3 hob hf3 hf03 hR3
            obtain ⟨l1, l2, rfl, hx1, hx2, hnx, hout, hix⟩ := ms_split HR3.out HXL.out
            have NX := Lib.hid (Next_all HR3.out x)
            rw [hnx] at NX
            have HXX := Lib.hid (And.intro hx1 (And.intro hx2 (And.intro hout hix)))
            clear hx1 hx2 hnx hout hix
            obtain ⟨sva, svc, hva, _⟩ := id HVA.out.1
            subst hva
            have HVF := Lib.hid (show ∀ bb, (Value.slice sva (nums (l1 ++ x :: l2)).length svc).ownBlock = some bb → ¬ F bb from fun bb hb hF => by
              have h1 := HR0.out.lt bb hF
              have h2 := HVA.out.2 bb hb
              omega)
            have HRE := Lib.hid HR3.out.re
            cases l2 with
            | nil =>
              -- it is the row's last one
              rw [show ixI ([] : List Nat).head? = -1 from rfl] at NX
              go_wp2_with fail
              refine NX.out.mono ?_
              clear NX
              rintro e w5 ⟨rfl, rfl⟩
              have HOUT : Hid (outL [l1 ++ [x], []] x = [l1, []]) := by
                have h := HXX.out.2.2.1
                unfold Hid; simpa using h
              have HR5 := HR3
              have HF5 := HF3
              have HV5 := Lib.hid HVA.out.1
              go_wp2_with fail
              -- here: w5, HR5 : RR w5 .. [l1 ++ x :: l2, []], HF5 : Fr NoF w w5, HV5 : SlI w5 va
              have B1 := Lib.hid (back_yes HR5.out 0 x (by omega) (by omega))
              rw [show putL [l1 ++ [x], []] 0 x false = [l1 ++ [x], []] from by simp [putL, HOUT.out]] at B1
              refine B1.out.mono ?_
              clear B1
              rintro e w6 ⟨rfl, hR6, hf6⟩
              have HR6 := Lib.hid hR6
              have HF6 := Lib.hid (HF5.out.trans hf6 (fun i q => .inr (HF.out i q)))
              have HV6 := Lib.hid (HV5.out.fr hf6 HVF.out)
              clear hR6 hf6
              have L1 := Lib.hid (Last_all HR6.out 0)
              rw [show ixI (rowZ [l1 ++ [x], []] 0).getLast? = (x : Int) from by rw [show rowZ [l1 ++ [x], []] 0 = l1 ++ [x] from rfl, List.getLast?_concat]; rfl] at L1
              go_wp2_with fail
              refine L1.out.mono ?_
              clear L1
              rintro e w7 ⟨rfl, d7, rfl⟩
              have HR7 := Lib.hid (HR6.out.fr ((Fr.refl NoF w6).drewN d7) (fun _ _ q => q))
              have HF7 := Lib.hid (HF6.out.drewN d7)
              have HV7 := Lib.hid (HV6.out.drewN d7)
              clear HR6 HF6 HV6
              generalize w6.drewN d7 = w7 at *
              have B2 := Lib.hid (front_yes HR7.out 0 x (by omega) (by omega))
              rw [show putL [l1 ++ [x], []] 0 x true = [x :: l1, []] from by
                have this : outL [l1 ++ [x], []] x = [l1, []] := by
                  have h := ms_out (p := l1) (q := []) HR7.out
                  rw [List.append_nil l1] at h
                  exact h
                show (outL [l1 ++ [x], []] x).set 0 (x :: (outL [l1 ++ [x], []] x).getD 0 []) = _
                rw [this]; rfl] at B2
              go_wp2_with fail
              refine B2.out.mono ?_
              clear B2
              rintro e w8 ⟨rfl, hR8, hf8⟩
              have HR8 := Lib.hid hR8
              have HF8 := Lib.hid (HF7.out.trans hf8 (fun i q => .inr (HF.out i q)))
              have HV8 := Lib.hid (HV7.out.fr hf8 HVF.out)
              clear hR8 hf8 HR7 HF7 HV7
              have F1 := Lib.hid (First_all HR8.out 0)
              rw [show ixI (rowZ [x :: l1, []] 0).head? = (x : Int) from rfl] at F1
              go_wp2_with fail
              refine F1.out.mono ?_
              clear F1
              rintro e w9 ⟨rfl, d9, rfl⟩
              have HR9 := Lib.hid (HR8.out.fr ((Fr.refl NoF w8).drewN d9) (fun _ _ q => q))
              have HF9 := Lib.hid (HF8.out.drewN d9)
              have HV9 := Lib.hid (HV8.out.drewN d9)
              clear HR8 HF8 HV8
              generalize w8.drewN d9 = w9 at *
              have LL := Lib.hid (Len_all HR9.out 0)
              rw [show (rowZ [x :: l1, []] 0).length = k from by have := HLEN.out; simp [rowZ] at this ⊢; omega] at LL
              go_wp2_with fail
              refine LL.out.mono ?_
              clear LL
              rintro e w10 ⟨rfl, rfl⟩
              -- the model's rows are laid
              have HREF := Lib.hid (ref_new (n := k) HV9.out HRE.out (by omega))
              have HFB := Lib.hid (((Fr.refl NoF w9).alloc (.cells #[.slice sva (nums (l1 ++ [x])).length svc, .slice none 0 0] 41)).alloc (.cells #[.int .i64 k, .slice (some ⟨w9.heap.size, 0, none⟩) 2 2] 32))
              have HLT := Lib.hid HR9.out.lt
              go_wp2_with fail
              generalize hW : (w9.alloc (.cells #[.slice sva (nums (l1 ++ [x])).length svc, .slice none 0 0] 41)).alloc (.cells #[.int .i64 k, .slice (some ⟨w9.heap.size, 0, none⟩) 2 2] 32) = wA at *
              clear hW
              have O1 := Lib.hid (out_ref HREF.out x)
              rw [show outZ [l1 ++ [x], []] (x : Int) = [l1, []] from by simp [outZ, HOUT.out]] at O1
              refine O1.out.mono ?_
              clear O1
              rintro e wB ⟨rfl, FB, ⟨lb, vs, hC⟩, hfB, hFB⟩
              have HRB := Lib.hid ((HR9.out.fr HFB.out (fun _ _ q => q)).fr hfB (fun i hi => by
                have h1 := HLT.out i hi
                rintro (q | q | q)
                · omega
                · omega
                · exact HVF.out i q hi))
              have HF0B := Lib.hid ((HF9.out.trans HFB.out (fun _ q => q.elim)).trans hfB (fun i q => .inr (by
                have h1 := HF9.out.size
                rcases q with q | q | q
                · omega
                · omega
                · have h2 := HVA.out.2 i q; have h3 := HF0.out.size; omega)))
              have c1 := hC.c1
              have c2 := hC.row (k := 0) (by omega)
              have h0 := hC.sl 0 l1 rfl
              obtain ⟨sv0, sc0, hv0, _⟩ := id h0.1
              rw [hv0] at h0 c2
              have HS0 := Lib.hid h0.1
              have hlt1 := hC.hd.lt
              have hlt2 := hC.rows.lt
              have A2 : Hid (∀ d, Calls Try.prog 22 #[.pointer (some ⟨b, 0, none⟩), .int .i64 0] (wB.drewN d) fun e w' => ∃ vv, e = .returned vv ∧ w'.ownsRow wB.heap.size 3 1 vv k (ints (x :: l1)) ∧ RR w' b k 2 [x :: l1, []] F ∧ Fr NoF wB w') := fun d =>
                (All_all (HRB.out.fr ((Fr.refl NoF wB).drewN d) (fun _ _ q => q)) 0).mono fun e w' ⟨vv, h1, h2, h3, h4⟩ => ⟨vv, h1, by rw [show rowZ [x :: l1, []] 0 = x :: l1 from rfl, show (x :: l1).length = k from by have := HLEN.out; simp at this ⊢; omega] at h2; exact h2, h3, ((Fr.refl NoF wB).drewN d).trans h4 (fun _ q => q.elim)⟩
              clear hfB hFB hC h0 hv0
              go_wp2_with fail
              go_region_held3 (fun w' => w'.cell? ⟨w9.heap.size + 1, 1, none⟩ = some (.slice (some ⟨lb, 0, none⟩) 2 2) ∧ w'.cell? ⟨lb, 0, none⟩ = some (.slice sv0 (nums l1).length sc0))
                (first | exact ⟨c1, c2⟩ | exact ⟨(hfC.cell (p := ⟨w9.heap.size + 1, 1, none⟩) hlt1 id).trans c1, (hfC.cell (p := ⟨lb, 0, none⟩) hlt2 id).trans c2⟩)
                (first
                  | (go_at_call 23; refine (same_true (zs := nums l1) (SlI.tail (z := x) (SlI.ofOwn HOC.out).1) (HS0.out.fr hfC (fun _ _ q => q))).mono ?_; rintro e wD ⟨rfl, dD, rfl⟩)
                  | (go_at_call 22; go_must (refine (A2.out 1).mono ?_); rintro e wC ⟨vv, rfl, hoC, hRC, hfC⟩; rw [ints_nums] at hoC; obtain ⟨gC, capC, hvC, hcapC⟩ := own_some hoC (by omega); subst hvC; have hk1 : (1 : Int) ≤ (k : Int) := (by omega); have hk2 : (k : Int) ≤ (capC : Int) := (by omega); have hk3 : ¬ capC = 1 := (by omega); have HOC := Lib.hid hoC; have HRC := Lib.hid hRC; clear hoC hRC))
              have HMS' := Lib.hid (show MS (wC.drewN dD) b k F from ⟨_, HRC.out.fr ((Fr.refl NoF wC).drewN dD) (fun _ _ q => q), by have := HLEN.out; simp at this ⊢; omega, fun y' hy' => by
                have := HALL.out y' hy'
                simp at this ⊢
                rcases this with q | q <;> simp [q]⟩)
              have HFD := Lib.hid ((HF0B.out.trans hfC (fun _ q => q.elim)).drewN dD)
              clear hfC
              go_wp2
              go_roundw
              case rel => exact ⟨j + 1, by omega, by go_num, HMS'.out, HFD.out⟩
              case measure => simp [intOf]; omega
            | cons y l3 =>
              -- there is one behind it
              rw [show ixI (y :: l3).head? = (y : Int) from rfl] at NX
              go_wp2_with fail
              refine NX.out.mono ?_
              clear NX
              rintro e w4 ⟨rfl, rfl⟩
              have HOUT := Lib.hid HXX.out.2.2.1
              obtain ⟨hy0, hxy, hbf⟩ := ms_before HR3.out
              have BF := Lib.hid (before_yes HR3.out x y 0 (by omega) hy0 hxy)
              rw [hbf] at BF
              clear hy0 hxy hbf
              go_wp2_with fail
              refine BF.out.mono ?_
              clear BF
              rintro e w4 ⟨rfl, hR4, hf4⟩
              have HR4 := Lib.hid hR4
              have HF4 := Lib.hid (HF3.out.trans hf4 (fun i q => .inr (HF.out i q)))
              have HV4 := Lib.hid (HVA.out.1.fr hf4 HVF.out)
              clear hR4 hf4
              have A3 := Lib.hid (All_all HR4.out 0)
              go_wp2_with fail
              refine A3.out.mono ?_
              clear A3
              rintro e w45 ⟨vq, rfl, hoq, hRq, hfq⟩
              rw [show rowZ [l1 ++ x :: y :: l3, []] 0 = l1 ++ x :: y :: l3 from rfl, ints_nums] at hoq
              have S3 := Lib.hid (same_calls (SlI.ofOwn hoq).1 (HV4.out.fr hfq (fun _ _ q => q)))
              rw [show decide (nums (l1 ++ x :: y :: l3) = nums (l1 ++ x :: y :: l3)) = true from by simp] at S3
              have HFq := Lib.hid (HF4.out.trans hfq (fun _ q => q.elim))
              have HRq := Lib.hid hRq
              have HVq := Lib.hid (HV4.out.fr hfq (fun _ _ q => q))
              clear hoq hRq hfq
              go_wp2_with fail
              refine S3.out.mono ?_
              clear S3
              rintro e w5 ⟨rfl, d5, rfl⟩
              have HR5 := Lib.hid (HRq.out.fr ((Fr.refl NoF w45).drewN d5) (fun _ _ q => q))
              have HF5 := Lib.hid (HFq.out.drewN d5)
              have HV5 := Lib.hid (HVq.out.drewN d5)
              clear HRq HFq HVq HR4 HF4 HV4
              generalize w45.drewN d5 = w5 at *
              go_wp2_with fail
              -- here: w5, HR5 : RR w5 .. [l1 ++ x :: l2, []], HF5 : Fr NoF w w5, HV5 : SlI w5 va
              have B1 := Lib.hid (back_yes HR5.out 0 x (by omega) (by omega))
              rw [show putL [l1 ++ x :: y :: l3, []] 0 x false = [l1 ++ (y :: l3) ++ [x], []] from by simp [putL, HOUT.out]] at B1
              refine B1.out.mono ?_
              clear B1
              rintro e w6 ⟨rfl, hR6, hf6⟩
              have HR6 := Lib.hid hR6
              have HF6 := Lib.hid (HF5.out.trans hf6 (fun i q => .inr (HF.out i q)))
              have HV6 := Lib.hid (HV5.out.fr hf6 HVF.out)
              clear hR6 hf6
              have L1 := Lib.hid (Last_all HR6.out 0)
              rw [show ixI (rowZ [l1 ++ (y :: l3) ++ [x], []] 0).getLast? = (x : Int) from by rw [show rowZ [l1 ++ (y :: l3) ++ [x], []] 0 = (l1 ++ (y :: l3)) ++ [x] from rfl, List.getLast?_concat]; rfl] at L1
              go_wp2_with fail
              refine L1.out.mono ?_
              clear L1
              rintro e w7 ⟨rfl, d7, rfl⟩
              have HR7 := Lib.hid (HR6.out.fr ((Fr.refl NoF w6).drewN d7) (fun _ _ q => q))
              have HF7 := Lib.hid (HF6.out.drewN d7)
              have HV7 := Lib.hid (HV6.out.drewN d7)
              clear HR6 HF6 HV6
              generalize w6.drewN d7 = w7 at *
              have B2 := Lib.hid (front_yes HR7.out 0 x (by omega) (by omega))
              rw [show putL [l1 ++ (y :: l3) ++ [x], []] 0 x true = [x :: (l1 ++ (y :: l3)), []] from by
                have this : outL [l1 ++ (y :: l3) ++ [x], []] x = [l1 ++ (y :: l3), []] := by
                  have h := ms_out (p := l1 ++ (y :: l3)) (q := []) HR7.out
                  rw [List.append_nil (l1 ++ (y :: l3))] at h
                  exact h
                show (outL [l1 ++ (y :: l3) ++ [x], []] x).set 0 (x :: (outL [l1 ++ (y :: l3) ++ [x], []] x).getD 0 []) = _
                rw [this]; rfl] at B2
              go_wp2_with fail
              refine B2.out.mono ?_
              clear B2
              rintro e w8 ⟨rfl, hR8, hf8⟩
              have HR8 := Lib.hid hR8
              have HF8 := Lib.hid (HF7.out.trans hf8 (fun i q => .inr (HF.out i q)))
              have HV8 := Lib.hid (HV7.out.fr hf8 HVF.out)
              clear hR8 hf8 HR7 HF7 HV7
              have F1 := Lib.hid (First_all HR8.out 0)
              rw [show ixI (rowZ [x :: (l1 ++ (y :: l3)), []] 0).head? = (x : Int) from rfl] at F1
              go_wp2_with fail
              refine F1.out.mono ?_
              clear F1
              rintro e w9 ⟨rfl, d9, rfl⟩
              have HR9 := Lib.hid (HR8.out.fr ((Fr.refl NoF w8).drewN d9) (fun _ _ q => q))
              have HF9 := Lib.hid (HF8.out.drewN d9)
              have HV9 := Lib.hid (HV8.out.drewN d9)
              clear HR8 HF8 HV8
              generalize w8.drewN d9 = w9 at *
              have LL := Lib.hid (Len_all HR9.out 0)
              rw [show (rowZ [x :: (l1 ++ (y :: l3)), []] 0).length = k from by have := HLEN.out; simp [rowZ] at this ⊢; omega] at LL
              go_wp2_with fail
              refine LL.out.mono ?_
              clear LL
              rintro e w10 ⟨rfl, rfl⟩
              -- the model's rows are laid
              have HREF := Lib.hid (ref_new (n := k) HV9.out HRE.out (by omega))
              have HFB := Lib.hid (((Fr.refl NoF w9).alloc (.cells #[.slice sva (nums (l1 ++ x :: y :: l3)).length svc, .slice none 0 0] 41)).alloc (.cells #[.int .i64 k, .slice (some ⟨w9.heap.size, 0, none⟩) 2 2] 32))
              have HLT := Lib.hid HR9.out.lt
              go_wp2_with fail
              generalize hW : (w9.alloc (.cells #[.slice sva (nums (l1 ++ x :: y :: l3)).length svc, .slice none 0 0] 41)).alloc (.cells #[.int .i64 k, .slice (some ⟨w9.heap.size, 0, none⟩) 2 2] 32) = wA at *
              clear hW
              have O1 := Lib.hid (out_ref HREF.out x)
              rw [show outZ [l1 ++ x :: y :: l3, []] (x : Int) = [l1 ++ (y :: l3), []] from by simp [outZ, HOUT.out]] at O1
              refine O1.out.mono ?_
              clear O1
              rintro e wB ⟨rfl, FB, ⟨lb, vs, hC⟩, hfB, hFB⟩
              have HRB := Lib.hid ((HR9.out.fr HFB.out (fun _ _ q => q)).fr hfB (fun i hi => by
                have h1 := HLT.out i hi
                rintro (q | q | q)
                · omega
                · omega
                · exact HVF.out i q hi))
              have HF0B := Lib.hid ((HF9.out.trans HFB.out (fun _ q => q.elim)).trans hfB (fun i q => .inr (by
                have h1 := HF9.out.size
                rcases q with q | q | q
                · omega
                · omega
                · have h2 := HVA.out.2 i q; have h3 := HF0.out.size; omega)))
              have c1 := hC.c1
              have c2 := hC.row (k := 0) (by omega)
              have h0 := hC.sl 0 (l1 ++ (y :: l3)) rfl
              obtain ⟨sv0, sc0, hv0, _⟩ := id h0.1
              rw [hv0] at h0 c2
              have HS0 := Lib.hid h0.1
              have hlt1 := hC.hd.lt
              have hlt2 := hC.rows.lt
              have A2 : Hid (∀ d, Calls Try.prog 22 #[.pointer (some ⟨b, 0, none⟩), .int .i64 0] (wB.drewN d) fun e w' => ∃ vv, e = .returned vv ∧ w'.ownsRow wB.heap.size 3 1 vv k (ints (x :: (l1 ++ (y :: l3)))) ∧ RR w' b k 2 [x :: (l1 ++ (y :: l3)), []] F ∧ Fr NoF wB w') := fun d =>
                (All_all (HRB.out.fr ((Fr.refl NoF wB).drewN d) (fun _ _ q => q)) 0).mono fun e w' ⟨vv, h1, h2, h3, h4⟩ => ⟨vv, h1, by rw [show rowZ [x :: (l1 ++ (y :: l3)), []] 0 = x :: (l1 ++ (y :: l3)) from rfl, show (x :: (l1 ++ (y :: l3))).length = k from by have := HLEN.out; simp at this ⊢; omega] at h2; exact h2, h3, ((Fr.refl NoF wB).drewN d).trans h4 (fun _ q => q.elim)⟩
              clear hfB hFB hC h0 hv0
              go_wp2_with fail
              go_region_held3 (fun w' => w'.cell? ⟨w9.heap.size + 1, 1, none⟩ = some (.slice (some ⟨lb, 0, none⟩) 2 2) ∧ w'.cell? ⟨lb, 0, none⟩ = some (.slice sv0 (nums (l1 ++ (y :: l3))).length sc0))
                (first | exact ⟨c1, c2⟩ | exact ⟨(hfC.cell (p := ⟨w9.heap.size + 1, 1, none⟩) hlt1 id).trans c1, (hfC.cell (p := ⟨lb, 0, none⟩) hlt2 id).trans c2⟩)
                (first
                  | (go_at_call 23; refine (same_true (zs := nums (l1 ++ (y :: l3))) (SlI.tail (z := x) (SlI.ofOwn HOC.out).1) (HS0.out.fr hfC (fun _ _ q => q))).mono ?_; rintro e wD ⟨rfl, dD, rfl⟩)
                  | (go_at_call 22; go_must (refine (A2.out 1).mono ?_); rintro e wC ⟨vv, rfl, hoC, hRC, hfC⟩; rw [ints_nums] at hoC; obtain ⟨gC, capC, hvC, hcapC⟩ := own_some hoC (by omega); subst hvC; have hk1 : (1 : Int) ≤ (k : Int) := (by omega); have hk2 : (k : Int) ≤ (capC : Int) := (by omega); have hk3 : ¬ capC = 1 := (by omega); have HOC := Lib.hid hoC; have HRC := Lib.hid hRC; clear hoC hRC))
              have HMS' := Lib.hid (show MS (wC.drewN dD) b k F from ⟨_, HRC.out.fr ((Fr.refl NoF wC).drewN dD) (fun _ _ q => q), by have := HLEN.out; simp at this ⊢; omega, fun y' hy' => by
                have := HALL.out y' hy'
                simp at this ⊢
                rcases this with q | q | q | q <;> simp [q]⟩)
              have HFD := Lib.hid ((HF0B.out.trans hfC (fun _ q => q.elim)).drewN dD)
              clear hfC
              go_wp2
              go_roundw
              case rel => exact ⟨j + 1, by omega, by go_num, HMS'.out, HFD.out⟩
              case measure => simp [intOf]; omega
          · have hd : decide ((j : Int) < 60) = false := by simp; omega
            have hd1 : (j : Int) < (zs.length : Int) := by omega
            go_wp2
            go_ret
            exact ⟨rfl, HF0.out⟩
        · have hd : decide ((j : Int) < (zs.length : Int)) = false := by simp; omega
          go_wp2
          go_ret
          exact ⟨rfl, HF0.out⟩

namespace ringMoves
theorem own : ownKnob Try.prog.godebug = none := by kernel_rfl
theorem laidOut : laidOutB Try.prog = true := by kernel_rfl

set_option maxRecDepth 100000 in
theorem lifted (os : Os) (started : os.Started) (H : Type) (enc : TypeId × Value → H) :
    ReturnsInHanded {} Try.checked os 5 .any (Rows.ringMovesSpec.pre6 enc Try.prog Try.f5 Rows.ringMovesRow.domain false) (Rows.ringMovesSpec.post enc Try.prog Try.f5 false true false false) := by
  refine returnsInHanded_of_change (C := Try.checked) own started (by kernel_rfl) Try.func5
    (ChangeSpec.witness6 (enc := enc) (C := Try.checked) false ⟨#[], #[.int .i64 0, .slice none 0 0], []⟩ 8 (by kernel_rfl) (by kernel_rfl) (by kernel_rfl) (by kernel_rfl)) ?_
  intro W base args ds gs before hval0 hW hcnd _
  have hval : ∀ (j : Nat) t v, Try.f5.params[j]? = some t → args[j]? = some v → Value.okWide Try.prog W .any base t v := hval0
  have hW' := hW
  obtain ⟨p, q, hA0, hV, rfl, hfz, hnd⟩ := hW
  have hA : DataW.TrodAll enc Try.prog W 0 (fun _ => true) true Try.f5.params.toList args.toList ds p := hA0
  rw [Try.params5] at hA hval
  obtain ⟨v0, vs0, d0, ds0, p0, q0, hargs, rfl, rfl, h0, r0⟩ := trodAll_cons hA
  obtain ⟨v1, vs1, d1, ds1, p1, q1, rfl, rfl, rfl, h1, r1⟩ := trodAll_cons r0
  obtain ⟨rfl, rfl, rfl⟩ := trodAll_nil r1
  obtain rfl : args = #[v0, v1] := by cases args; simp_all
  obtain ⟨rfl, rfl⟩ := trodVars_none hV
  obtain ⟨a0, rfl, rfl, rfl, w0⟩ := open_int Try.underlying3 (hval 0 3 v0 rfl rfl) h0
  obtain ⟨a1, len1, cap1, rfl⟩ := okWide_slice Try.underlying41 (hval 1 41 v1 rfl rfl)
  have k1 := h1
  have lt1 : ∀ x ∈ p1, x.block < W.heap.size := by obtain ⟨m, hm⟩ := k1; exact DataW.trod_lt m _ _ _ hm
  obtain ⟨z1, w1⟩ : ∃ zs, ArgI W (.slice a1 len1 cap1) zs := by
    obtain ⟨fuel, hf⟩ := h1
    rcases open_ints Try.underlying41 Try.underlying3 (by kernel_rfl) hf with ⟨hcs, _⟩ | ⟨x, l, c, zs, hcs, _, hl, hm, hz, _, hcell, hwz⟩
    · simp [Value.cells] at hcs
      obtain ⟨rfl, rfl, rfl⟩ := hcs
      exact ⟨[], none, 0, rfl, by simp, by unfold maxLen; omega, fun h => by simp at h⟩
    · simp [Value.cells] at hcs
      obtain ⟨rfl, rfl, rfl⟩ := hcs
      simp only [if_true] at hz
      exact ⟨_, ArgI.ofRow hl hm (by omega) hcell⟩
  clear hA0 hval0
  refine (moves_walk a0 _ z1 W w1).mono fun e W' ⟨he, hf⟩ => ?_
  have bel := hf.below
  subst he
  exact ⟨_, rfl, _, _, _, [], _, [], hW', trodAll_mk1 (shut_bool Try.underlying4 _), (trodAll_cons_mk (shut_int Try.underlying3 w0) (trodAll_cons_mk (Below.trod laidOut (by kernel_rfl) (of_decide_eq_true (by kernel_rfl)) k1 bel lt1) trodAll_mk0)), rfl, bel.frame _, fun h => by cases h⟩

/-- THE STATEMENT. -/
theorem proved : Rows.RingMovesSaid :=
  OpenClaim.holds_of_wide 5 Try.f5 rfl rfl rfl rfl rfl rfl rfl ⟨rfl, rfl, rfl, rfl, rfl⟩ rfl rfl rfl rfl rfl (by kernel_rfl) Try.func5 (by kernel_rfl)
    (of_decide_eq_true (by kernel_rfl)) (by unfold Func.isWrapper; first | (rw [if_pos (by decide +kernel)]; kernel_rfl) | (rw [if_neg (by decide +kernel)]; exact ⟨rfl, rfl⟩))
    (fun os started H enc _ => lifted os started H enc)
#print axioms proved
end ringMoves
end Go.Proofs.Ytgpjjdaboapkjaa

/-
  Lines, the document's: Parse.
-/
import Derived.Test.YtaebogmgjimkfaaDoorLinT
namespace Go.Proofs.YtaebogmgjimkfaaDoor
open Go.RowKit Go.Maps Go.Sort
set_option linter.unusedVariables false
set_option linter.unusedSimpArgs false
set_option maxRecDepth 100000
/-- The id and v that a line's words tell. -/
def idW (ws : List (List UInt8)) : Nat := if 1 < ws.length then numD (ws.getD 1 []) % 4294967296 else 0
def vW (ws : List (List UInt8)) : Nat := if 2 < ws.length then numD (ws.getD 2 []) else 0
theorem numD_lt (l : List UInt8) : numD l < 18446744073709551616 := by rw [numD_K]; exact numK_lt _ _
theorem idW_lt (ws : List (List UInt8)) : idW ws < 4294967296 := by
  unfold idW
  split
  · exact Nat.mod_lt _ (by decide)
  · decide
theorem vW_lt (ws : List (List UInt8)) : vW ws < 18446744073709551616 := by
  unfold vW
  split
  · exact numD_lt _
  · decide
theorem words_ne (l : List UInt8) : 0 < (wordsL l).length := by
  unfold wordsL
  have : ∀ (l cur : List UInt8), 0 < (wordsA cur l).length := by
    intro l
    induction l with
    | nil => intro cur; exact Nat.one_pos
    | cons c l ih =>
      intro cur
      unfold wordsA
      split
      · exact Nat.succ_pos _
      · exact ih _
  exact this l []
theorem words_short {l : List UInt8} (hl : l.length ≤ 1000) : ∀ x ∈ wordsL l, x.length ≤ 1000 := by
  have : ∀ (l cur : List UInt8), ∀ x ∈ wordsA cur l, x.length ≤ cur.length + l.length := by
    intro l
    induction l with
    | nil =>
      intro cur x hx
      simp only [wordsA, List.mem_singleton] at hx
      subst hx; simp
    | cons c l ih =>
      intro cur x hx
      unfold wordsA at hx
      split at hx
      · rcases List.mem_cons.1 hx with rfl | q
        · simp
        · have := ih [] x q; simp at this; simp; omega
      · have := ih _ x hx
        simp at this; simp; omega
  intro x hx
  have := this l [] x hx
  simp at this; omega
theorem line_W {k : Int} {id v : Nat} (hid : id < 4294967296) (hv : v < 18446744073709551616) (h : ¬ lineL k id v = []) : 0 ≤ k ∧ k < 8 ∧ (wordsL (lineL k id v)).getD 0 [] = nmL k.toNat ∧ idW (wordsL (lineL k id v)) = id ∧ vW (wordsL (lineL k id v)) = v := by
  obtain ⟨h0, h7, _, hB, hC⟩ := line_pieces h
  have hw := line_words h
  rw [hw]
  refine ⟨h0, by omega, rfl, ?_, ?_⟩
  · rcases hB with ⟨e, z, _⟩ | ⟨e, _⟩
    · have k4 : ¬ k = 4 := fun q => by subst q; cases e
      rw [if_pos e, if_neg k4, z]; rfl
    · rw [if_neg (by rw [e]; decide)]
      unfold idW
      rw [if_pos (by simp)]
      show numD (Lib.decDigits id) % 4294967296 = id
      rw [numD_dd (by omega), Nat.mod_eq_of_lt hid]
  · rcases hC with ⟨e, z, _⟩ | ⟨e, _⟩
    · rw [if_neg e, z]
      unfold vW
      rw [if_neg]
      cases plainK k.toNat <;> simp
    · subst e
      exact numD_dd hv
theorem rparse_none {l : List UInt8} (h : ∀ j, j < 8 → nmL j = (wordsL l).getD 0 [] → ¬ lineL (j : Nat) (idW (wordsL l)) (vW (wordsL l)) = l) : ParseR l 0 0 0 8 :=
  ⟨by decide, by decide, .inr ⟨rfl, rfl, rfl, rfl, fun k' id' v' h1 h2 h3 => by
    by_cases hl : l = []
    · exact hl
    · subst h3
      obtain ⟨a0, a1, a2, a3, a4⟩ := line_W h1 h2 hl
      have := h k'.toNat (by omega) a2.symm
      rw [a3, a4, show ((k'.toNat : Nat) : Int) = k' by omega] at this
      exact (this rfl).elim⟩⟩
theorem rparse_some {l : List UInt8} {k : Nat} (hk : k < 8) (h0 : nmL k = (wordsL l).getD 0 []) (h : lineL (k : Nat) (idW (wordsL l)) (vW (wordsL l)) = l) : ParseR l k (idW (wordsL l)) (vW (wordsL l)) 0 :=
  ⟨idW_lt _, vW_lt _, .inl ⟨rfl, fun e => by
    subst e
    exact nm_ne k hk h0, h⟩⟩
theorem str_at {w : World} {v : Value} {ws : List (List UInt8)} (h : SlC w 1 v ws.length (strC ws)) (h0 : 0 < ws.length) : ∃ b o c, v = .slice (some ⟨b, o, none⟩) ws.length c ∧ b < w.heap.size ∧ ∀ i, i < ws.length → w.cell? ⟨b, o + i, none⟩ = some (.string (bs (ws.getD i []))) := by
  obtain ⟨a, c, e, l1, l2, l3, l4, l5⟩ := h
  rcases l5 with ⟨_, q⟩ | ⟨b, off, rfl, hb, hc⟩
  · omega
  · refine ⟨b, off, c, e, hb, fun i hi => hc i _ ?_⟩
    unfold strC
    rw [List.getElem?_map, List.getElem?_eq_getElem hi, List.getD_eq_getElem?_getD, List.getElem?_eq_getElem hi]
    rfl
set_option maxHeartbeats 8000000 in
theorem rparse_calls {w : World} {l : List UInt8} (hl : l.length ≤ 1000) :
    Calls Tryd.prog 10 #[.string (bs l)] w fun e w' => ∃ (k : Int) (id v : Nat) (ok : Bool), e = .returned (.tuple #[.agg #[.int .i64 k, .int .u32 id, .int .u64 v], .bool ok]) ∧ ParseR l k id v (if ok = true then 0 else 8) ∧ Fr NoF w w' := by
  have HW : Hid (∀ W, Calls Tryd.prog 23 #[.string (bs l)] W fun e w' => ∃ v, e = .returned v ∧ SlC w' 1 v (wordsL l).length (strC (wordsL l)) ∧ Fr NoF W w') := fun W => (words_calls hl).mono fun e w' ⟨v, he, ho, hf⟩ => ⟨v, he, SlC.ofOwn ho (strC_one _), hf⟩
  have HNM : Hid (∀ W, Calls Tryd.prog 24 #[] W fun e w' => e = .returned (.slice (some ⟨W.heap.size, 0, none⟩) 8 8) ∧ Blk w' W.heap.size 8 (fun i => .string (bs (nmL i))) ∧ Fr NoF W w') := fun W => names_calls W
  have hLW : (∀ x ∈ wordsL l, x.length ≤ 1000) ∧ 0 < (wordsL l).length ∧ (wordsL l).length ≤ 1001 := ⟨words_short hl, words_ne l, Nat.le_trans (wordsA_len _ _) (by omega)⟩
  have HNO : Hid ((∀ j, j < 8 → nmL j = (wordsL l).getD 0 [] → ¬ lineL (j : Nat) (idW (wordsL l)) (vW (wordsL l)) = l) → ParseR l 0 0 0 8) := rparse_none
  have HYES : Hid (∀ k : Nat, k < 8 → nmL k = (wordsL l).getD 0 [] → lineL (k : Nat) (idW (wordsL l)) (vW (wordsL l)) = l → ParseR l k (idW (wordsL l)) (vW (wordsL l)) 0) := fun k h1 h2 h3 => rparse_some h1 h2 h3
  generalize wordsL l = ws at *
  have HL : Hid (∀ (k : Nat) W, Calls Tryd.prog 12 #[.agg #[.int .i64 (k : Nat), .int .u32 (idW ws : Nat), .int .u64 (vW ws : Nat)]] W fun e w' => e = .returned (.string (bs (lineL (k : Nat) (idW ws) (vW ws)))) ∧ Fr NoF W w') := fun k W => rline_calls _ (idW_lt _) (vW_lt _)
  have HEQ : Hid (∀ k : Nat, ((bs (lineL (k : Nat) (idW ws) (vW ws))).toList == (bs l).toList) = decide (lineL (k : Nat) (idW ws) (vW ws) = l)) := fun k => by rw [eqB]; exact decide_eq_decide.2 bs_inj
  have HNE : Hid (∀ k : Nat, ((bs (nmL k)).toList == (bs (ws.getD 0 [])).toList) = decide (nmL k = ws.getD 0 [])) := fun k => by rw [eqB]; exact decide_eq_decide.2 bs_inj
  have hnu : ∀ i, i < ws.length → ∀ W, Calls Tryd.prog 25 #[.string (bs (ws.getD i []))] W fun e w' => e = .returned (.int .u64 (numD (ws.getD i []) : Nat)) ∧ W = w' := fun i hi W => num_calls (hLW.1 _ (by
    rw [List.getD_eq_getElem?_getD, List.getElem?_eq_getElem hi]
    exact List.getElem_mem hi))
  have HNU1 : Hid (1 < ws.length → ∀ W, Calls Tryd.prog 25 #[.string (bs (ws.getD 1 []))] W fun e w' => e = .returned (.int .u64 (numD (ws.getD 1 []) : Nat)) ∧ W = w') := hnu 1
  have HNU2 : Hid (2 < ws.length → ∀ W, Calls Tryd.prog 25 #[.string (bs (ws.getD 2 []))] W fun e w' => e = .returned (.int .u64 (numD (ws.getD 2 []) : Nat)) ∧ W = w') := hnu 2
  have HAB : Hid ((ws.length = 1 → idW ws = 0 ∧ vW ws = 0) ∧ (1 < ws.length → IntKind.u32.wrap (numD (ws.getD 1 []) : Nat) = (idW ws : Nat)) ∧ (¬ 2 < ws.length → vW ws = 0) ∧ (2 < ws.length → vW ws = numD (ws.getD 2 []))) := by
    unfold Hid idW vW
    refine ⟨fun h => by rw [if_neg (by omega), if_neg (by omega)]; exact ⟨rfl, rfl⟩, fun h => ?_, fun h => by rw [if_neg h], fun h => by rw [if_pos h]⟩
    rw [if_pos h, IntKind.wrap_u32]; omega
  have HSA : Hid (∀ (w1 : World) (v1 : Value), SlC w1 1 v1 ws.length (strC ws) → ∃ wb wo wc, v1 = .slice (some ⟨wb, wo, none⟩) ws.length wc ∧ wb < w1.heap.size ∧ w1.cell? ⟨wb, wo, none⟩ = some (.string (bs (ws.getD 0 []))) ∧ (1 < ws.length → w1.cell? ⟨wb, wo + 1, none⟩ = some (.string (bs (ws.getD 1 [])))) ∧ (2 < ws.length → w1.cell? ⟨wb, wo + 2, none⟩ = some (.string (bs (ws.getD 2 []))))) := fun w1 v1 h => by
    obtain ⟨wb, wo, wc, e, hb, hc⟩ := str_at h hLW.2.1
    exact ⟨wb, wo, wc, e, hb, hc 0 hLW.2.1, hc 1, hc 2⟩
  have h0n := hLW.2.1
  have h1n := hLW.2.2
  clear hl hnu hLW
  generalize strC ws = cs at *
  generalize ws.length = n at *
  generalize idW ws = a at *
  generalize vW ws = b at *
  generalize numD (ws.getD 1 []) = m1 at *
  generalize numD (ws.getD 2 []) = m2 at *
  generalize ws.getD 0 [] = w0 at *
  generalize bs w0 = s0 at *
  generalize bs (ws.getD 1 []) = s1 at *
  generalize bs (ws.getD 2 []) = s2 at *
  generalize bs l = sl at *
  go_enter Tryd.func10, Tryd.ntmps10
  go_wp2_with fail
  refine (HW.out _).mono ?_
  rintro e w1 ⟨v1, rfl, hS, h1⟩
  have hR : Blk w1 w.heap.size 3 (fun i => match i with | 0 => .int .i64 0 | 1 => .int .u32 0 | _ => .int .u64 0) := (Blk.new w _ _ 3 _ _ rfl rfl (fun i hi => by
    match i, hi with
    | 0, _ | 1, _ | 2, _ => rfl)).fr h1 (fun q => q)
  obtain ⟨wb, wo, wc, rfl, hwb, hc0, hc1, hc2⟩ := HSA.out _ _ hS
  have HC0 := Lib.hid hc0
  have HC1 : Hid (1 < n → w1.cell? ⟨wb, wo + 1, none⟩ = some (.string s1)) := hc1
  have HC2 : Hid (2 < n → w1.cell? ⟨wb, wo + 2, none⟩ = some (.string s2)) := hc2
  have HF1 := Lib.hid (Fr.trans ((Fr.refl NoF w).alloc _) h1 (fun _ q => q.elim))
  have HR := Lib.hid hR
  clear hS h1 hR hc0 hc1 hc2 HW HSA
  go_wp2
  go_loopw [5] (fun i wr => ∃ k : Nat, k ≤ 8 ∧ i = .int .i64 k ∧ Hid (∀ j, j < k → nmL j = w0 → ¬ lineL (j : Nat) a b = l) ∧ Fr NoF w1 wr) (fun i _ => 8 - (intOf i).toNat)
  case atStart => exact ⟨0, Nat.zero_le _, rfl, fun j hj => by omega, Fr.refl _ _⟩
  case round =>
    obtain ⟨k, hk, rfl, hN, hf⟩ := hrel
    by_cases hlt : k < 8
    · have hwb2 : wb < wr.heap.size := Nat.lt_of_lt_of_le hwb hf.size
      have KS : Hid (∀ W, Fr NoF wr W → W.cell? ⟨wb, wo, none⟩ = some (.string s0)) := fun W f => ((hf.trans f (fun _ q => q.elim)).cell (p := ⟨wb, wo, none⟩) hwb (fun q => q)).trans HC0.out
      have KS1 : Hid (1 < n → ∀ W, Fr NoF wr W → W.cell? ⟨wb, wo + 1, none⟩ = some (.string s1)) := fun h W f => ((hf.trans f (fun _ q => q.elim)).cell (p := ⟨wb, wo + 1, none⟩) hwb (fun q => q)).trans (HC1.out h)
      have KS2 : Hid (2 < n → ∀ W, Fr NoF wr W → W.cell? ⟨wb, wo + 2, none⟩ = some (.string s2)) := fun h W f => ((hf.trans f (fun _ q => q.elim)).cell (p := ⟨wb, wo + 2, none⟩) hwb (fun q => q)).trans (HC2.out h)
      have hne := HNE.out k
      have hw0 := KS.out wr (Fr.refl _ _)
      have HF := Lib.hid hf
      have HR2 := Lib.hid (HR.out.fr hf (fun q => q))
      clear hf
      go_wp2_with fail
      by_cases hnm : nmL k = w0
      · rw [decide_eq_true hnm] at hne
        have HNM2 := Lib.hid hnm
        clear hnm
        by_cases n1 : n = 1
        · subst n1
          obtain ⟨rfl, rfl⟩ := HAB.out.1 rfl
          clear KS1 KS2 HNU1 HNU2 HAB
          go_region_with ((go_at_call 24; (with_reducible refine (HNM.out _).mono ?_); rintro e w3 ⟨rfl, h3, f3⟩; have h4 := nm_blk h3 (n := wr.heap.size) (by simp); have nk := h4.cell (i := k) (by omega); have lk := h4.lt; clear h4; have F3 := Lib.hid (Fr.trans (F := NoF) (a := wr) (by repeat (first | exact Fr.refl NoF _ | apply Fr.drew | apply Fr.drewN)) f3 (fun _ q => q.elim)); have ks := KS.out w3 F3.out; clear h3 f3))
          all_goals
            have hwb3 : wb < w3.heap.size := Nat.lt_of_lt_of_le hwb2 F3.out.size
            have hO0 : Blk (w3.alloc (.cells #[.int .i64 (k : Nat), .int .u32 ((0 : Nat) : Int), .int .u64 ((0 : Nat) : Int)] 40)) w3.heap.size 3 (fun i => match i with | 0 => .int .i64 (k : Nat) | 1 => .int .u32 ((0 : Nat) : Int) | _ => .int .u64 ((0 : Nat) : Int)) := Blk.new w3 _ _ 3 _ _ rfl rfl (fun i hi => by
              match i, hi with
              | 0, _ | 1, _ | 2, _ => rfl)
            have HO0 := Lib.hid hO0
            have HR3 := Lib.hid (HR2.out.fr F3.out (fun q => q))
            clear hO0 hw0
            go_wp2_with fail
            refine (HL.out k _).mono ?_
            rintro e w6 ⟨rfl, h6⟩
            have hO6 := Blk.fr (F := NoF) HO0.out h6 (fun q => q)
            have g6 : Fr NoF wr w6 := Fr.trans (F := NoF) (F3.out.alloc (.cells #[.int .i64 (k : Nat), .int .u32 ((0 : Nat) : Int), .int .u64 ((0 : Nat) : Int)] 40)) h6 (fun _ q => q.elim)
            have hR6 := Blk.fr (F := NoF) HR3.out (Fr.trans (F := NoF) ((Fr.refl NoF w3).alloc (.cells #[.int .i64 (k : Nat), .int .u32 ((0 : Nat) : Int), .int .u64 ((0 : Nat) : Int)] 40)) h6 (fun _ q => q.elim)) (fun q => q)
            clear HO0 HR3 h6
            have r0 := hR6.cell (i := 0) (by omega)
            have r1 := hR6.cell (i := 1) (by omega)
            have r2 := hR6.cell (i := 2) (by omega)
            have z0 := hR6.frozen 0
            have z1 := hR6.frozen 1
            have z2 := hR6.frozen 2
            have o0 : w6.cell? ⟨w3.heap.size, 0, none⟩ = some (.int .i64 (k : Nat)) := hO6.cell (i := 0) (by omega)
            have o1 : w6.cell? ⟨w3.heap.size, 1, none⟩ = some (.int .u32 ((0 : Nat) : Int)) := hO6.cell (i := 1) (by omega)
            have o2 : w6.cell? ⟨w3.heap.size, 2, none⟩ = some (.int .u64 ((0 : Nat) : Int)) := hO6.cell (i := 2) (by omega)
            have lR := hR6.lt
            have lO := hO6.lt
            simp only at r0 r1 r2
            have heq := HEQ.out k
            by_cases hfl : lineL (k : Nat) 0 0 = l
            · rw [decide_eq_true hfl] at heq
              have HX := Lib.hid (HYES.out k hlt HNM2.out hfl)
              have HZ := Lib.hid (((hR6.set 0 (.int .i64 (k : Nat))).set 1 (.int .u32 ((0 : Nat) : Int))).set 2 (.int .u64 ((0 : Nat) : Int)))
              have HFF := Lib.hid (Fr.setCell (Fr.setCell (Fr.setCell (Fr.trans (F := NoF) (HF1.out.trans HF.out (fun _ q => q.elim)) g6 (fun _ q => q.elim)) (p := ⟨w.heap.size, 0, none⟩) (.inr (Nat.le_refl _)) (.int .i64 (k : Nat))) (p := ⟨w.heap.size, 1, none⟩) (.inr (Nat.le_refl _)) (.int .u32 ((0 : Nat) : Int))) (p := ⟨w.heap.size, 2, none⟩) (.inr (Nat.le_refl _)) (.int .u64 ((0 : Nat) : Int)))
              clear hR6 hO6 g6 hfl HYES HNO HEQ HL
              generalize bs (lineL (k : Nat) 0 0) = sL at *
              go_wp2
              (try simp only [Exit.inBlock, Exit.then])
              refine bodyPost_ret (results_blk2 Tryd.results10 _ _ HZ.out rfl Tryd.underlying40 rfl (by kernel_rfl)) rfl ?_
              exact ⟨k, 0, 0, true, rfl, HX.out, HFF.out⟩
            · rw [decide_eq_false hfl] at heq
              have HN2 : Hid (∀ j, j < k + 1 → nmL j = w0 → ¬ lineL (j : Nat) 0 0 = l) := fun j hj q => by
                rcases Nat.lt_succ_iff_lt_or_eq.1 hj with z | rfl
                · exact hN.out j z q
                · exact hfl
              have HFF := Lib.hid (Fr.trans (F := NoF) HF.out g6 (fun _ q => q.elim))
              clear hR6 hO6 g6 hfl HYES HNO HEQ HL hN
              generalize bs (lineL (k : Nat) 0 0) = sL at *
              go_wp2
              go_roundw
              case rel => exact ⟨k + 1, by omega, by go_num, HN2, HFF.out⟩
              case measure => first | (simp [intOf]; done) | (simp [intOf]; omega)
        · by_cases n2 : n = 2
          · subst n2
            obtain rfl := HAB.out.2.2.1 (by omega)
            clear KS2 HNU2
            go_region_with ((go_at_call 24; (with_reducible refine (HNM.out _).mono ?_); rintro e w3 ⟨rfl, h3, f3⟩; have h4 := nm_blk h3 (n := wr.heap.size) (by simp); have nk := h4.cell (i := k) (by omega); have lk := h4.lt; clear h4; have F3 := Lib.hid (Fr.trans (F := NoF) (a := wr) (by repeat (first | exact Fr.refl NoF _ | apply Fr.drew | apply Fr.drewN)) f3 (fun _ q => q.elim)); have ks := KS.out w3 F3.out; clear h3 f3))
            all_goals
              have hwb3 : wb < w3.heap.size := Nat.lt_of_lt_of_le hwb2 F3.out.size
              have hO0 : Blk (w3.alloc (.cells #[.int .i64 (k : Nat), .int .u32 (a : Nat), .int .u64 ((0 : Nat) : Int)] 40)) w3.heap.size 3 (fun i => match i with | 0 => .int .i64 (k : Nat) | 1 => .int .u32 (a : Nat) | _ => .int .u64 ((0 : Nat) : Int)) := Blk.new w3 _ _ 3 _ _ rfl rfl (fun i hi => by
                match i, hi with
                | 0, _ | 1, _ | 2, _ => rfl)
              have HO0 := Lib.hid hO0
              have HR3 := Lib.hid (HR2.out.fr F3.out (fun q => q))
              clear hO0 hw0
              have k1 := KS1.out (by omega) w3 F3.out
              have ew := HAB.out.2.1 (by omega)
              go_wp2_with fail
              refine (HNU1.out (by omega) _).mono ?_
              rintro e w4 ⟨rfl, rfl⟩
              go_wp2_with fail
              refine (HL.out k _).mono ?_
              rintro e w6 ⟨rfl, h6⟩
              have hO6 := Blk.fr (F := NoF) HO0.out h6 (fun q => q)
              have g6 : Fr NoF wr w6 := Fr.trans (F := NoF) (F3.out.alloc (.cells #[.int .i64 (k : Nat), .int .u32 (a : Nat), .int .u64 ((0 : Nat) : Int)] 40)) h6 (fun _ q => q.elim)
              have hR6 := Blk.fr (F := NoF) HR3.out (Fr.trans (F := NoF) ((Fr.refl NoF w3).alloc (.cells #[.int .i64 (k : Nat), .int .u32 (a : Nat), .int .u64 ((0 : Nat) : Int)] 40)) h6 (fun _ q => q.elim)) (fun q => q)
              clear HO0 HR3 h6
              have r0 := hR6.cell (i := 0) (by omega)
              have r1 := hR6.cell (i := 1) (by omega)
              have r2 := hR6.cell (i := 2) (by omega)
              have z0 := hR6.frozen 0
              have z1 := hR6.frozen 1
              have z2 := hR6.frozen 2
              have o0 : w6.cell? ⟨w3.heap.size, 0, none⟩ = some (.int .i64 (k : Nat)) := hO6.cell (i := 0) (by omega)
              have o1 : w6.cell? ⟨w3.heap.size, 1, none⟩ = some (.int .u32 (a : Nat)) := hO6.cell (i := 1) (by omega)
              have o2 : w6.cell? ⟨w3.heap.size, 2, none⟩ = some (.int .u64 ((0 : Nat) : Int)) := hO6.cell (i := 2) (by omega)
              have lR := hR6.lt
              have lO := hO6.lt
              simp only at r0 r1 r2
              have heq := HEQ.out k
              by_cases hfl : lineL (k : Nat) a 0 = l
              · rw [decide_eq_true hfl] at heq
                have HX := Lib.hid (HYES.out k hlt HNM2.out hfl)
                have HZ := Lib.hid (((hR6.set 0 (.int .i64 (k : Nat))).set 1 (.int .u32 (a : Nat))).set 2 (.int .u64 ((0 : Nat) : Int)))
                have HFF := Lib.hid (Fr.setCell (Fr.setCell (Fr.setCell (Fr.trans (F := NoF) (HF1.out.trans HF.out (fun _ q => q.elim)) g6 (fun _ q => q.elim)) (p := ⟨w.heap.size, 0, none⟩) (.inr (Nat.le_refl _)) (.int .i64 (k : Nat))) (p := ⟨w.heap.size, 1, none⟩) (.inr (Nat.le_refl _)) (.int .u32 (a : Nat))) (p := ⟨w.heap.size, 2, none⟩) (.inr (Nat.le_refl _)) (.int .u64 ((0 : Nat) : Int)))
                clear hR6 hO6 g6 hfl HYES HNO HEQ HL
                generalize bs (lineL (k : Nat) a 0) = sL at *
                go_wp2
                (try simp only [Exit.inBlock, Exit.then])
                refine bodyPost_ret (results_blk2 Tryd.results10 _ _ HZ.out rfl Tryd.underlying40 rfl (by kernel_rfl)) rfl ?_
                exact ⟨k, a, 0, true, rfl, HX.out, HFF.out⟩
              · rw [decide_eq_false hfl] at heq
                have HN2 : Hid (∀ j, j < k + 1 → nmL j = w0 → ¬ lineL (j : Nat) a 0 = l) := fun j hj q => by
                  rcases Nat.lt_succ_iff_lt_or_eq.1 hj with z | rfl
                  · exact hN.out j z q
                  · exact hfl
                have HFF := Lib.hid (Fr.trans (F := NoF) HF.out g6 (fun _ q => q.elim))
                clear hR6 hO6 g6 hfl HYES HNO HEQ HL hN
                generalize bs (lineL (k : Nat) a 0) = sL at *
                go_wp2
                go_roundw
                case rel => exact ⟨k + 1, by omega, by go_num, HN2, HFF.out⟩
                case measure => first | (simp [intOf]; done) | (simp [intOf]; omega)
          · have n3 : 2 < n := by omega
            have hbm := HAB.out.2.2.2 n3
            subst hbm
            go_region_with ((go_at_call 24; (with_reducible refine (HNM.out _).mono ?_); rintro e w3 ⟨rfl, h3, f3⟩; have h4 := nm_blk h3 (n := wr.heap.size) (by simp); have nk := h4.cell (i := k) (by omega); have lk := h4.lt; clear h4; have F3 := Lib.hid (Fr.trans (F := NoF) (a := wr) (by repeat (first | exact Fr.refl NoF _ | apply Fr.drew | apply Fr.drewN)) f3 (fun _ q => q.elim)); have ks := KS.out w3 F3.out; clear h3 f3))
            all_goals
              have hwb3 : wb < w3.heap.size := Nat.lt_of_lt_of_le hwb2 F3.out.size
              have hO0 : Blk (w3.alloc (.cells #[.int .i64 (k : Nat), .int .u32 (a : Nat), .int .u64 (b : Nat)] 40)) w3.heap.size 3 (fun i => match i with | 0 => .int .i64 (k : Nat) | 1 => .int .u32 (a : Nat) | _ => .int .u64 (b : Nat)) := Blk.new w3 _ _ 3 _ _ rfl rfl (fun i hi => by
                match i, hi with
                | 0, _ | 1, _ | 2, _ => rfl)
              have HO0 := Lib.hid hO0
              have HR3 := Lib.hid (HR2.out.fr F3.out (fun q => q))
              clear hO0 hw0
              have k1 := KS1.out (by omega) w3 F3.out
              have ew := HAB.out.2.1 (by omega)
              have k2 := KS2.out (by omega) w3 F3.out
              go_wp2_with fail
              refine (HNU1.out (by omega) _).mono ?_
              rintro e w4 ⟨rfl, rfl⟩
              go_wp2_with fail
              refine (HNU2.out (by omega) _).mono ?_
              rintro e w4 ⟨rfl, rfl⟩
              go_wp2_with fail
              refine (HL.out k _).mono ?_
              rintro e w6 ⟨rfl, h6⟩
              have hO6 := Blk.fr (F := NoF) HO0.out h6 (fun q => q)
              have g6 : Fr NoF wr w6 := Fr.trans (F := NoF) (F3.out.alloc (.cells #[.int .i64 (k : Nat), .int .u32 (a : Nat), .int .u64 (b : Nat)] 40)) h6 (fun _ q => q.elim)
              have hR6 := Blk.fr (F := NoF) HR3.out (Fr.trans (F := NoF) ((Fr.refl NoF w3).alloc (.cells #[.int .i64 (k : Nat), .int .u32 (a : Nat), .int .u64 (b : Nat)] 40)) h6 (fun _ q => q.elim)) (fun q => q)
              clear HO0 HR3 h6
              have r0 := hR6.cell (i := 0) (by omega)
              have r1 := hR6.cell (i := 1) (by omega)
              have r2 := hR6.cell (i := 2) (by omega)
              have z0 := hR6.frozen 0
              have z1 := hR6.frozen 1
              have z2 := hR6.frozen 2
              have o0 : w6.cell? ⟨w3.heap.size, 0, none⟩ = some (.int .i64 (k : Nat)) := hO6.cell (i := 0) (by omega)
              have o1 : w6.cell? ⟨w3.heap.size, 1, none⟩ = some (.int .u32 (a : Nat)) := hO6.cell (i := 1) (by omega)
              have o2 : w6.cell? ⟨w3.heap.size, 2, none⟩ = some (.int .u64 (b : Nat)) := hO6.cell (i := 2) (by omega)
              have lR := hR6.lt
              have lO := hO6.lt
              simp only at r0 r1 r2
              have heq := HEQ.out k
              by_cases hfl : lineL (k : Nat) a b = l
              · rw [decide_eq_true hfl] at heq
                have HX := Lib.hid (HYES.out k hlt HNM2.out hfl)
                have HZ := Lib.hid (((hR6.set 0 (.int .i64 (k : Nat))).set 1 (.int .u32 (a : Nat))).set 2 (.int .u64 (b : Nat)))
                have HFF := Lib.hid (Fr.setCell (Fr.setCell (Fr.setCell (Fr.trans (F := NoF) (HF1.out.trans HF.out (fun _ q => q.elim)) g6 (fun _ q => q.elim)) (p := ⟨w.heap.size, 0, none⟩) (.inr (Nat.le_refl _)) (.int .i64 (k : Nat))) (p := ⟨w.heap.size, 1, none⟩) (.inr (Nat.le_refl _)) (.int .u32 (a : Nat))) (p := ⟨w.heap.size, 2, none⟩) (.inr (Nat.le_refl _)) (.int .u64 (b : Nat)))
                clear hR6 hO6 g6 hfl HYES HNO HEQ HL
                generalize bs (lineL (k : Nat) a b) = sL at *
                go_wp2
                (try simp only [Exit.inBlock, Exit.then])
                refine bodyPost_ret (results_blk2 Tryd.results10 _ _ HZ.out rfl Tryd.underlying40 rfl (by kernel_rfl)) rfl ?_
                exact ⟨k, a, b, true, rfl, HX.out, HFF.out⟩
              · rw [decide_eq_false hfl] at heq
                have HN2 : Hid (∀ j, j < k + 1 → nmL j = w0 → ¬ lineL (j : Nat) a b = l) := fun j hj q => by
                  rcases Nat.lt_succ_iff_lt_or_eq.1 hj with z | rfl
                  · exact hN.out j z q
                  · exact hfl
                have HFF := Lib.hid (Fr.trans (F := NoF) HF.out g6 (fun _ q => q.elim))
                clear hR6 hO6 g6 hfl HYES HNO HEQ HL hN
                generalize bs (lineL (k : Nat) a b) = sL at *
                go_wp2
                go_roundw
                case rel => exact ⟨k + 1, by omega, by go_num, HN2, HFF.out⟩
                case measure => first | (simp [intOf]; done) | (simp [intOf]; omega)
      · rw [decide_eq_false hnm] at hne
        have HN2 : Hid (∀ j, j < k + 1 → nmL j = w0 → ¬ lineL (j : Nat) a b = l) := fun j hj q => by
          rcases Nat.lt_succ_iff_lt_or_eq.1 hj with z | rfl
          · exact hN.out j z q
          · exact (hnm q).elim
        clear hnm hN
        go_region_with ((go_at_call 24; (with_reducible refine (HNM.out _).mono ?_); rintro e w3 ⟨rfl, h3, f3⟩; have h4 := nm_blk h3 (n := wr.heap.size) (by simp); have nk := h4.cell (i := k) (by omega); have lk := h4.lt; clear h4; have F3 := Lib.hid (Fr.trans (F := NoF) (a := wr) (by repeat (first | exact Fr.refl NoF _ | apply Fr.drew | apply Fr.drewN)) f3 (fun _ q => q.elim)); have ks := KS.out w3 F3.out; clear h3 f3))
        all_goals
          go_wp2
          go_roundw
          case rel => exact ⟨k + 1, by omega, by go_num, HN2, Fr.trans (G := NoF) HF.out (by repeat (first | exact F3.out | apply Fr.drew | apply Fr.drewN)) (fun _ q => .inl q)⟩
          case measure => first | (simp [intOf]; done) | (simp [intOf]; omega)
    · obtain rfl : k = 8 := by omega
      have HX := Lib.hid (HNO.out hN.out)
      have hr2 := HR.out.fr hf (fun q => q)
      have r0 := hr2.cell (i := 0) (by omega)
      have r1 := hr2.cell (i := 1) (by omega)
      have r2 := hr2.cell (i := 2) (by omega)
      have z0 := hr2.frozen 0
      have z1 := hr2.frozen 1
      have z2 := hr2.frozen 2
      simp only at r0 r1 r2
      have HZ := Lib.hid (((hr2.set 0 (.int .i64 0)).set 1 (.int .u32 0)).set 2 (.int .u64 0))
      have HF := Lib.hid (Fr.setCell (Fr.setCell (Fr.setCell (HF1.out.trans hf (fun _ q => q.elim)) (p := ⟨w.heap.size, 0, none⟩) (.inr (Nat.le_refl _)) (.int .i64 0)) (p := ⟨w.heap.size, 1, none⟩) (.inr (Nat.le_refl _)) (.int .u32 0)) (p := ⟨w.heap.size, 2, none⟩) (.inr (Nat.le_refl _)) (.int .u64 0))
      clear hr2 hf hN HNO
      go_wp2
      (try simp only [Exit.inBlock, Exit.then])
      refine bodyPost_ret (results_blk2 Tryd.results10 _ _ HZ.out rfl Tryd.underlying40 rfl (by kernel_rfl)) rfl ?_
      exact ⟨0, 0, 0, false, rfl, HX.out, HF.out⟩
end Go.Proofs.YtaebogmgjimkfaaDoor

/-
  Lines, the document's: Told, Words.
-/
import Derived.Test.YtaebogmgjimkfaaDoorLinS
namespace Go.Proofs.YtaebogmgjimkfaaDoor
open Go.RowKit Go.Maps Go.Sort
set_option linter.unusedVariables false
set_option linter.unusedSimpArgs false
set_option maxRecDepth 100000
set_option maxHeartbeats 2000000 in
theorem rtold_calls {w : World} (k : Int) {oi ov e id v : Nat} (he : e < 9) (hid : id < 4294967296) (hv : v < 18446744073709551616) :
    Calls Tryd.prog 14 #[.agg #[.int .i64 k, .int .u32 oi, .int .u64 ov], .agg #[.int .i64 e, .int .u32 id, .int .u64 v]] w fun e' w' => e' = .returned (.string (bs (toldL k e id v))) ∧ Fr NoF w w' := by
  have HB := Lib.hid (fun (u : Nat) (W : World) (hu : u < 18446744073709551616) => big_calls u W hu)
  have HW : Hid (∀ W, Calls Tryd.prog 29 #[.int .i64 (e : Nat)] W fun e' w' => e' = .returned (.string (bs (wordL e))) ∧ Fr NoF W w') := fun W => rword_calls he
  have ew : IntKind.u64.wrap (id : Int) = (id : Int) := IntWalk.u64_in _ (by omega)
  have hid2 : id < 18446744073709551616 := by omega
  unfold toldL
  by_cases z : e = 0
  · subst z
    rw [if_neg (by simp)]
    by_cases k0 : k = 0
    · subst k0
      have HI := Lib.hid hid2
      obtain ⟨A1, A2⟩ := concat_runs (P := Tryd.prog) (wordL 0) id (by decide) hid2
      rw [if_pos rfl]
      generalize bs (wordL 0 ++ 32 :: Lib.decDigits id) = s2 at *
      generalize bs (wordL 0 ++ [32]) = s1 at *
      generalize bs (wordL 0) = s0 at *
      clear he hid hv hid2
      go_enter Tryd.func14, Tryd.ntmps14
      go_wp2_with fail
      refine (HW.out _).mono ?_
      rintro e w1 ⟨rfl, h1⟩
      have hb1 : Blk w1 w.heap.size 3 (fun i => match i with | 0 => .int .i64 (0) | 1 => .int .u32 (oi : Nat) | _ => .int .u64 (ov : Nat)) := ((Blk.new w _ _ 3 _ _ rfl rfl (fun i hi => by
        match i, hi with
        | 0, _ | 1, _ | 2, _ => rfl)).alloc _).fr h1 (fun q => q)
      have hb2 : Blk w1 (w.heap.size + 1) 3 (fun i => match i with | 0 => .int .i64 (0 : Nat) | 1 => .int .u32 (id : Nat) | _ => .int .u64 (v : Nat)) := (Blk.new _ _ _ 3 _ _ (World.size_alloc ..).symm rfl (fun i hi => by
        match i, hi with
        | 0, _ | 1, _ | 2, _ => rfl)).fr h1 (fun q => q)
      have d0 := hb1.cell (i := 0) (by omega)
      have e0 := hb2.cell (i := 0) (by omega)
      have e1 := hb2.cell (i := 1) (by omega)
      have e2 := hb2.cell (i := 2) (by omega)
      simp only at d0 e0 e1 e2
      have H1 := Lib.hid (Fr.trans (((Fr.refl NoF w).alloc _).alloc _) h1 (fun _ q => q.elim))
      clear h1 hb1 hb2
      go_wp2_with fail
      refine (HB.out id _ HI.out).mono ?_
      rintro e w2 ⟨rfl, d2', rfl⟩
      go_wp2
      go_returns
      exact ⟨rfl, H1.out.drewN _⟩
    · by_cases k3 : k = 3
      · subst k3
        have HI := Lib.hid hv
        obtain ⟨A1, A2⟩ := concat_runs (P := Tryd.prog) (wordL 0) v (by decide) hv
        rw [if_neg (by decide), if_pos rfl]
        generalize bs (wordL 0 ++ 32 :: Lib.decDigits v) = s2 at *
        generalize bs (wordL 0 ++ [32]) = s1 at *
        generalize bs (wordL 0) = s0 at *
        clear he hid hv hid2 k0 ew
        go_enter Tryd.func14, Tryd.ntmps14
        go_wp2_with fail
        refine (HW.out _).mono ?_
        rintro e w1 ⟨rfl, h1⟩
        have hb1 : Blk w1 w.heap.size 3 (fun i => match i with | 0 => .int .i64 (3) | 1 => .int .u32 (oi : Nat) | _ => .int .u64 (ov : Nat)) := ((Blk.new w _ _ 3 _ _ rfl rfl (fun i hi => by
          match i, hi with
          | 0, _ | 1, _ | 2, _ => rfl)).alloc _).fr h1 (fun q => q)
        have hb2 : Blk w1 (w.heap.size + 1) 3 (fun i => match i with | 0 => .int .i64 (0 : Nat) | 1 => .int .u32 (id : Nat) | _ => .int .u64 (v : Nat)) := (Blk.new _ _ _ 3 _ _ (World.size_alloc ..).symm rfl (fun i hi => by
          match i, hi with
          | 0, _ | 1, _ | 2, _ => rfl)).fr h1 (fun q => q)
        have d0 := hb1.cell (i := 0) (by omega)
        have e0 := hb2.cell (i := 0) (by omega)
        have e1 := hb2.cell (i := 1) (by omega)
        have e2 := hb2.cell (i := 2) (by omega)
        simp only at d0 e0 e1 e2
        have H1 := Lib.hid (Fr.trans (((Fr.refl NoF w).alloc _).alloc _) h1 (fun _ q => q.elim))
        clear h1 hb1 hb2
        go_wp2_with fail
        refine (HB.out v _ HI.out).mono ?_
        rintro e w2 ⟨rfl, d2', rfl⟩
        go_wp2
        go_returns
        exact ⟨rfl, H1.out.drewN _⟩
      · rw [if_neg k0, if_neg k3]
        have q1 : (k == 0) = false := by simpa using k0
        have q2 : (k == 3) = false := by simpa using k3
        clear he hid hv hid2 ew HB k0 k3
        go_enter Tryd.func14, Tryd.ntmps14
        go_wp2_with fail
        refine (HW.out _).mono ?_
        rintro e w1 ⟨rfl, h1⟩
        have hb1 : Blk w1 w.heap.size 3 (fun i => match i with | 0 => .int .i64 (k) | 1 => .int .u32 (oi : Nat) | _ => .int .u64 (ov : Nat)) := ((Blk.new w _ _ 3 _ _ rfl rfl (fun i hi => by
          match i, hi with
          | 0, _ | 1, _ | 2, _ => rfl)).alloc _).fr h1 (fun q => q)
        have hb2 : Blk w1 (w.heap.size + 1) 3 (fun i => match i with | 0 => .int .i64 (0 : Nat) | 1 => .int .u32 (id : Nat) | _ => .int .u64 (v : Nat)) := (Blk.new _ _ _ 3 _ _ (World.size_alloc ..).symm rfl (fun i hi => by
          match i, hi with
          | 0, _ | 1, _ | 2, _ => rfl)).fr h1 (fun q => q)
        have d0 := hb1.cell (i := 0) (by omega)
        have e0 := hb2.cell (i := 0) (by omega)
        have e1 := hb2.cell (i := 1) (by omega)
        have e2 := hb2.cell (i := 2) (by omega)
        simp only at d0 e0 e1 e2
        have H1 := Lib.hid (Fr.trans (((Fr.refl NoF w).alloc _).alloc _) h1 (fun _ q => q.elim))
        clear h1 hb1 hb2
        go_wp2
        go_returns
        exact ⟨rfl, H1.out⟩
  · rw [if_pos z]
    have q1 : ((e : Int) != 0) = true := by simp; omega
    have q2 : ((e : Int) == 0) = false := by simp; omega
    clear he hid hv hid2 ew HB z
    go_enter Tryd.func14, Tryd.ntmps14
    go_wp2_with fail
    refine (HW.out _).mono ?_
    rintro e w1 ⟨rfl, h1⟩
    have hb1 : Blk w1 w.heap.size 3 (fun i => match i with | 0 => .int .i64 (k) | 1 => .int .u32 (oi : Nat) | _ => .int .u64 (ov : Nat)) := ((Blk.new w _ _ 3 _ _ rfl rfl (fun i hi => by
      match i, hi with
      | 0, _ | 1, _ | 2, _ => rfl)).alloc _).fr h1 (fun q => q)
    have hb2 : Blk w1 (w.heap.size + 1) 3 (fun i => match i with | 0 => .int .i64 (e : Nat) | 1 => .int .u32 (id : Nat) | _ => .int .u64 (v : Nat)) := (Blk.new _ _ _ 3 _ _ (World.size_alloc ..).symm rfl (fun i hi => by
      match i, hi with
      | 0, _ | 1, _ | 2, _ => rfl)).fr h1 (fun q => q)
    have d0 := hb1.cell (i := 0) (by omega)
    have e0 := hb2.cell (i := 0) (by omega)
    have e1 := hb2.cell (i := 1) (by omega)
    have e2 := hb2.cell (i := 2) (by omega)
    simp only at d0 e0 e1 e2
    have H1 := Lib.hid (Fr.trans (((Fr.refl NoF w).alloc _).alloc _) h1 (fun _ q => q.elim))
    clear h1 hb1 hb2
    go_wp2
    go_returns
    exact ⟨rfl, H1.out⟩
/-- Texts as cells. -/
def strC (l : List (List UInt8)) : List Value := l.map fun x => .string (bs x)
theorem EIst : EI Tryd.prog 56 9 1 16 := EI.mk' (z := .string ⟨#[]⟩) Tryd.underlying56 (by kernel_rfl) rfl (by decide)
theorem slice_bs {P : Program} (t : TypeId) (hu : P.underlying t = some .string) (l : List UInt8) {i j : Nat} (h1 : i ≤ j) (h2 : j ≤ l.length) (W : World) : (Instr.slice t (.string (bs l)) (some (.int .i64 (i : Nat))) (some (.int .i64 (j : Nat))) none).run P W = .ok (.string (bs ((l.take j).drop i))) W := by
  rw [run_slice_string W t (bs l) .i64 .i64 (i : Nat) (j : Nat) hu (by omega) (by omega) (by rw [bs_size]; omega)]
  have e : (bs l).extract ((i : Int)).toNat ((j : Int)).toNat = bs ((l.take j).drop i) := by
    apply ByteArray.ext
    rw [ByteArray.data_extract]
    show l.toArray.extract i j = _
    rw [List.extract_toArray]
    simp [bs, List.extract_eq_take_drop, List.drop_take]
  rw [e]
/-- Words, as far as they have come. -/
def WRel (l : List UInt8) (os : List (List UInt8)) (from_ i : Nat) : Prop := (i ≤ l.length ∧ from_ ≤ i ∧ wordsL l = os ++ wordsA ((l.take i).drop from_) (l.drop i)) ∨ (i = l.length + 1 ∧ wordsL l = os)
theorem WRel.start (l : List UInt8) : WRel l [] 0 0 := .inl ⟨Nat.zero_le _, Nat.le_refl _, rfl⟩
theorem drop_getD (l : List UInt8) {i : Nat} (h : i < l.length) : l.drop i = l.getD i 0 :: l.drop (i + 1) := by
  rw [List.drop_eq_getElem_cons h, List.getD_eq_getElem?_getD, List.getElem?_eq_getElem h]
  rfl
theorem WRel.last {l : List UInt8} {os : List (List UInt8)} {f : Nat} (h : WRel l os f l.length) : WRel l (os ++ [(l.take l.length).drop f]) (l.length + 1) (l.length + 1) := by
  rcases h with ⟨_, _, h⟩ | ⟨h, _⟩
  · rw [List.drop_length] at h
    exact .inr ⟨rfl, h⟩
  · omega
theorem WRel.blank {l : List UInt8} {os : List (List UInt8)} {f i : Nat} (h : WRel l os f i) (hi : i < l.length) (hc : l.getD i 0 = 32) : WRel l (os ++ [(l.take i).drop f]) (i + 1) (i + 1) := by
  rcases h with ⟨_, _, h⟩ | ⟨h, _⟩
  · refine .inl ⟨hi, Nat.le_refl _, ?_⟩
    have e : (l.take (i + 1)).drop (i + 1) = [] := List.drop_eq_nil_of_le (by rw [List.length_take]; omega)
    rw [h, drop_getD l hi, hc, wordsA, if_pos rfl, List.append_assoc, e]
    rfl
  · omega
theorem WRel.more {l : List UInt8} {os : List (List UInt8)} {f i : Nat} (h : WRel l os f i) (hi : i < l.length) (hc : ¬ l.getD i 0 = 32) : WRel l os f (i + 1) := by
  rcases h with ⟨_, hf, h⟩ | ⟨h, _⟩
  · refine .inl ⟨hi, by omega, ?_⟩
    rw [h, drop_getD l hi, wordsA, if_neg hc, take_snocD l hi, List.drop_append_of_le_length (by rw [List.length_take]; omega)]
  · omega
theorem wordsA_len (cur l : List UInt8) : (wordsA cur l).length ≤ l.length + 1 := by
  induction l generalizing cur with
  | nil => exact Nat.le_refl _
  | cons c l ih =>
    unfold wordsA
    split
    · have := ih []; simp; omega
    · have := ih (cur ++ [c]); simp; omega
theorem strC_one (l : List (List UInt8)) : ∀ u ∈ strC l, u.oneCell' = true := by
  intro u hu
  obtain ⟨z, _, rfl⟩ := List.mem_map.1 hu
  rfl
set_option maxHeartbeats 2000000 in
theorem words_calls {w : World} {l : List UInt8} (hl : l.length ≤ 1000) :
    Calls Tryd.prog 23 #[.string (bs l)] w fun e w' => ∃ v, e = .returned v ∧ w'.ownsRow w.heap.size 9 1 v (wordsL l).length (strC (wordsL l)) ∧ Fr NoF w w' := by
  have HI := Lib.hid (fun i h W => @idx_bs Tryd.prog _ Tryd.underlying9 l i h W)
  have HSL := Lib.hid (fun i j h1 h2 W => @slice_bs Tryd.prog 9 Tryd.underlying9 l i j h1 h2 W)
  have hz : (bs l).size = l.length := bs_size l
  have HWS := Lib.hid (WRel.start l)
  go_enter Tryd.func23, Tryd.ntmps23
  go_wp2
  go_loopw [3, 4, 5] (fun v f i wr => ∃ (os : List (List UInt8)) (a b : Nat), b ≤ l.length + 1 ∧ a ≤ b ∧ os.length ≤ b ∧ f = .int .i64 a ∧ i = .int .i64 b ∧ Hid (WRel l os a b) ∧ wr.ownsRow w.heap.size 9 1 v os.length (strC os) ∧ Fr NoF w wr) (fun _ _ i _ => l.length + 1 - (intOf i).toNat)
  case atStart => exact ⟨[], 0, 0, Nat.zero_le _, Nat.le_refl _, Nat.le_refl _, rfl, rfl, HWS, World.ownsRow_nil _ _ _ _, Fr.refl _ _⟩
  case round =>
    obtain ⟨os, a, b, hb, hab, hos, rfl, rfl, hR, hO, hf⟩ := hrel
    have HO := Lib.hid hO
    have HF := Lib.hid hf
    clear hO hf HWS
    by_cases hlt : b < l.length
    · have hi := HI.out b hlt
      have hs := HSL.out a b hab (by omega)
      have hc256 : (l.getD b 0).toNat < 256 := UInt8.toNat_lt _
      by_cases hc : l.getD b 0 = 32
      · have HX := Lib.hid (hR.out.blank hlt hc)
        rw [hc, show (32 : UInt8).toNat = 32 from rfl] at hi
        generalize (l.take b).drop a = wd at *
        clear hR hc
        go_wp2_with (at_builtin; go_must (refine appL (w0 := w) EIst rfl _ _ rfl (by rfl) (by rfl) (HF.out.alloc _) (own_keep HO.out ((Fr.refl NoF _).alloc _) (fun _ _ q => q)) (SlC.ofOwn (own_new (w0 := wr) (Nat.le_refl _) #[.string (bs wd)] 9 1 1 _ rfl rfl (by unfold maxLen; omega)) (by simp [Value.oneCell'])) (by unfold maxLen; omega) (by omega) ?_); intro v' w2 hown' hf' hre; have HO2 := Lib.hid hown'; have HF2 := Lib.hid hf'; clear hown' hf' hre)
        go_roundw
        case rel => exact ⟨os ++ [wd], b + 1, b + 1, by omega, Nat.le_refl _, by simp; omega, by go_num, by go_num, HX, by (have q := HO2.out; simpa [strC] using q), HF2.out⟩
        case measure => first | (simp [intOf]; done) | (simp [intOf]; omega)
      · have HX := Lib.hid (hR.out.more hlt hc)
        have hn : ¬ (l.getD b 0).toNat = 32 := fun q => hc (UInt8.toNat_inj.1 q)
        generalize (l.getD b 0).toNat = c at *
        have q1 : ((c : Int) == 32) = false := by simp; omega
        clear hR hc hs
        go_wp2
        go_roundw
        case rel => exact ⟨os, a, b + 1, by omega, by omega, by omega, rfl, by go_num, HX, HO.out, HF.out⟩
        case measure => first | (simp [intOf]; done) | (simp [intOf]; omega)
    · by_cases he : b = l.length
      · have hs := HSL.out a b hab (by omega)
        have HX : Hid (WRel l (os ++ [(l.take b).drop a]) (b + 1) (b + 1)) := by subst he; exact hR.out.last
        generalize (l.take b).drop a = wd at *
        subst he
        clear hR
        go_wp2_with (at_builtin; go_must (refine appL (w0 := w) EIst rfl _ _ rfl (by rfl) (by rfl) (HF.out.alloc _) (own_keep HO.out ((Fr.refl NoF _).alloc _) (fun _ _ q => q)) (SlC.ofOwn (own_new (w0 := wr) (Nat.le_refl _) #[.string (bs wd)] 9 1 1 _ rfl rfl (by unfold maxLen; omega)) (by simp [Value.oneCell'])) (by unfold maxLen; omega) (by omega) ?_); intro v' w2 hown' hf' hre; have HO2 := Lib.hid hown'; have HF2 := Lib.hid hf'; clear hown' hf' hre)
        go_roundw
        case rel => exact ⟨os ++ [wd], l.length + 1, l.length + 1, by omega, Nat.le_refl _, by simp; omega, by go_num, by go_num, HX, by (have q := HO2.out; simpa [strC] using q), HF2.out⟩
        case measure => first | (simp [intOf]; done) | (simp [intOf]; omega)
      · obtain rfl : b = l.length + 1 := by omega
        have hW : wordsL l = os := by
          rcases hR.out with ⟨q, _⟩ | ⟨_, q⟩
          · omega
          · exact q
        have HWW := Lib.hid hW
        clear hW hR
        have hbI : ((l.length + 1 : Nat) : Int) = (l.length : Int) + 1 := by omega
        go_wp2
        go_returns
        exact ⟨_, rfl, by rw [HWW.out]; exact HO.out, HF.out⟩
end Go.Proofs.YtaebogmgjimkfaaDoor

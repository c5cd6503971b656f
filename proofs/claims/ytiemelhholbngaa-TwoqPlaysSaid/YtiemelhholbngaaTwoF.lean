/-
  2Q: New, and the law's own told.
-/
import Derived.Test.YtiemelhholbngaaTwoE
namespace Go.Proofs.Ytiemelhholbngaa
open Go.RowKit Go.Maps
set_option linter.unusedVariables false

theorem range_putL (k : Nat) : putL [[], List.range k] 1 k false = [[], List.range (k + 1)] := by
  rw [putL2_1 (by simp)]
  rw [awayN_not (l := List.range k) (fun q => by have := List.mem_range.1 q; omega), List.range_succ]
  rfl

set_option maxHeartbeats 1000000 in
theorem newGhosts_calls (n : Nat) (w : World) (hn : n ≤ 65535) :
    Calls Try.prog 13 #[.int .i64 n] w fun e w' => ∃ gr gpb mb FG, e = .returned (.tuple #[.agg #[.pointer (some ⟨gr, 0, none⟩), .slice (some ⟨gpb, 0, none⟩) n n, .map (some mb)], .int .i64 0]) ∧
      GR w' gr gpb mb n [] (List.range n) (fun _ => 0) [] FG ∧ (∀ i, FGm FG gpb mb i → w.heap.size ≤ i) ∧ Fr NoF w w' := by
  obtain ⟨i0, hi0, hz0, hz1, hz2⟩ := info_parts' (P := Try.prog) (e := 35) (z := .int .u32 0) (s := 1) (b := 4) (by kernel_rfl)
  have mk1 : ∀ w : World, (Instr.makeSlice 36 (.int .i64 (n : Int)) (.int .i64 (n : Int))).run Try.prog w =
      .ok (.slice (some ⟨w.heap.size, 0, none⟩) n n) (w.alloc (.cells (madeCells #[.int .u32 0] n) 35)) := by
    intro w
    have := run_make (P := Try.prog) w 36 35 i0 _ Try.underlying36 hi0 hz0 .i64 .i64 (n : Int) (n : Int) (by omega) (Int.le_refl _) (by rw [hz2]; omega) (by omega)
    rw [show ((n : Int)).toNat = n from by omega, hz1, Nat.mul_one] at this
    exact this
  have HN : Hid (∀ w : World, Calls Try.prog 12 #[.int .i64 n, .int .i64 2] w fun e w' => ∃ b F, e = .returned (.tuple #[.pointer (some ⟨b, 0, none⟩), .int .i64 0]) ∧ RR w' b n 2 (List.replicate 2 []) F ∧ (∀ i, F i → w.heap.size ≤ i) ∧ Fr NoF w w') := fun w => new_yes n 2 w (by omega) (by omega) (by omega)
  have hmm := @run_makeMap Try.prog
  clear hi0 hz0 hz1 hz2
  go_enter Try.func13, Try.ntmps13
  go_wp2_with fail
  refine (HN.out _).mono ?_
  clear HN
  rintro e w1 ⟨gr, FG, rfl, hR, hFG, hf⟩
  have hw0 : ¬ FG w.heap.size := fun q => by have := hFG _ q; simp at this; omega
  have hgs := hR.lt
  have hsz := hf.size
  simp only [World.size_alloc] at hsz
  have lw : w.heap.size < w1.heap.size := by omega
  have HFG := Lib.hid hFG
  have HF := Lib.hid hf
  have HR := Lib.hid hR
  have HW0 := Lib.hid hw0
  clear hR hFG hf hw0 hgs
  go_wp2
  go_loopw [6, 17] (fun _ i wr => ∃ k : Nat, k ≤ n ∧ i = .int .i64 k ∧ RR wr gr n 2 [[], List.range k] FG ∧ Fr FG w1 wr) (fun _ i _ => n - (intOf i).toNat)
  case atStart => exact ⟨0, Nat.zero_le _, rfl, HR.out, Fr.refl _ _⟩
  case round =>
    obtain ⟨k, hk, rfl, hR, hf⟩ := hrel
    by_cases hlt : k < n
    · have HB := back_yes hR 1 k (by omega) hlt
      rw [range_putL] at HB
      have HB := Lib.hid HB
      have HF2 := Lib.hid hf
      clear hR hf
      go_wp2_with fail
      refine HB.out.mono ?_
      rintro e w2 ⟨rfl, hR2, f2⟩
      have KEY := Lib.hid (And.intro hR2 (HF2.out.trans f2 (fun _ q => .inl q)))
      clear hR2 f2 HB HF2
      go_wp2
      go_roundw
      case rel => exact ⟨k + 1, hlt, by go_num, KEY.out⟩
      case measure => first | (simp [intOf]; done) | (simp [intOf]; omega)
    · obtain rfl : k = n := by omega
      have hB0 : Blk (w.alloc (.cells #[.pointer none, .slice none 0 0, .map none] 48)) w.heap.size 3 (fun i => (#[.pointer none, .slice none 0 0, .map none] : Array Value).getD i undef) := Blk.new _ _ _ 3 _ _ rfl rfl (fun i hi => by
        match i, hi with
        | 0, _ => rfl
        | 1, _ => rfl
        | 2, _ => rfl)
      have hB := (hB0.fr HF.out id).fr hf HW0.out
      have r0 : wr.cell? ⟨w.heap.size, 0, none⟩ = some (.pointer none) := hB.cell (i := 0) (by omega)
      have r1 : wr.cell? ⟨w.heap.size, 1, none⟩ = some (.slice none 0 0) := hB.cell (i := 1) (by omega)
      have r2 : wr.cell? ⟨w.heap.size, 2, none⟩ = some (.map none) := hB.cell (i := 2) (by omega)
      have rf : ∀ i, wr.frozen? ⟨w.heap.size, i, none⟩ = false := hB.frozen
      have hs2 := hf.size
      have lw2 : w.heap.size < wr.heap.size := by omega
      have HRR := Lib.hid hR
      have HF2 := Lib.hid hf
      have HB := Lib.hid hB
      clear hR hf hB hB0
      have KEY : Hid (∀ W : World, Fr (fun i => i = w.heap.size) wr W → W.heap.size = wr.heap.size → GR ((W.alloc (.cells (madeCells #[.int .u32 0] k) 35)).alloc (.map #[] 0)) gr wr.heap.size (wr.heap.size + 1) k [] (List.range k) (fun _ => 0) [] FG ∧ (∀ i, FGm FG wr.heap.size (wr.heap.size + 1) i → w.heap.size ≤ i) ∧ Fr NoF w ((W.alloc (.cells (madeCells #[.int .u32 0] k) 35)).alloc (.map #[] 0))) := by
        intro W f eW
        have hlt := HRR.out.lt
        have fA : Fr NoF W ((W.alloc (.cells (madeCells #[.int .u32 0] k) 35)).alloc (.map #[] 0)) := ((Fr.refl _ _).alloc _).alloc _
        have hblk : Blk ((W.alloc (.cells (madeCells #[.int .u32 0] k) 35)).alloc (.map #[] 0)) W.heap.size k (uN fun _ => 0) := (Blk.new _ _ _ k _ _ rfl (by simp [size_madeCells]) (fun i hi => by
          rw [made_at hi, show (#[Value.int .u32 0] : Array Value).size = 1 from rfl, Nat.mod_one]; rfl)).alloc _
        have hmp := MpN.made Try.prog 35 3 .u32 .i64 (W.alloc (.cells (madeCells #[.int .u32 0] k) 35))
        rw [World.size_alloc, eW] at hmp
        rw [eW] at hblk
        refine ⟨⟨(HRR.out.fr f (fun i hi e => HW0.out (e ▸ hi))).fr fA (fun _ _ q => q), hblk, hmp, rfl, List.nodup_nil, by simp, fun x hx => (by cases hx), hn, fun q => by have := hlt _ q; omega, fun q => by have := hlt _ q; omega, by omega⟩, ?_, ?_⟩
        · rintro i (q | q | q)
          · have := HFG.out i q; simp at this; omega
          · omega
          · omega
        · have f0 : Fr NoF w wr := ((((Fr.refl NoF w).alloc _).trans HF.out (fun _ q => q.elim))).trans HF2.out (fun i q => .inr (by have := HFG.out i q; simp at this; omega))
          exact (f0.trans f (fun i e => .inr (by omega))).trans fA (fun _ q => q.elim)
      have hG : Blk (((((wr.setCell ⟨w.heap.size, 0, none⟩ (.pointer (some ⟨gr, 0, none⟩))).setCell ⟨w.heap.size, 1, none⟩ (.slice (some ⟨wr.heap.size, 0, none⟩) k k)).setCell ⟨w.heap.size, 2, none⟩ (.map (some (wr.heap.size + 1)))).alloc (.cells (madeCells #[.int .u32 0] k) 35)).alloc (.map #[] 0)) w.heap.size 3 _ := ((((HB.out.set 0 _).set 1 _).set 2 _).alloc _).alloc _
      have r0' : ((((((wr.setCell ⟨w.heap.size, 0, none⟩ (.pointer (some ⟨gr, 0, none⟩))).setCell ⟨w.heap.size, 1, none⟩ (.slice (some ⟨wr.heap.size, 0, none⟩) k k)).setCell ⟨w.heap.size, 2, none⟩ (.map (some (wr.heap.size + 1)))).alloc (.cells (madeCells #[.int .u32 0] k) 35)).alloc (.map #[] 0))).cell? ⟨w.heap.size, 0, none⟩ = some (.pointer (some ⟨gr, 0, none⟩)) := by have := hG.cell (i := 0) (by omega); simpa [upd] using this
      have r1' : ((((((wr.setCell ⟨w.heap.size, 0, none⟩ (.pointer (some ⟨gr, 0, none⟩))).setCell ⟨w.heap.size, 1, none⟩ (.slice (some ⟨wr.heap.size, 0, none⟩) k k)).setCell ⟨w.heap.size, 2, none⟩ (.map (some (wr.heap.size + 1)))).alloc (.cells (madeCells #[.int .u32 0] k) 35)).alloc (.map #[] 0))).cell? ⟨w.heap.size, 1, none⟩ = some (.slice (some ⟨wr.heap.size, 0, none⟩) k k) := by have := hG.cell (i := 1) (by omega); simpa [upd] using this
      have r2' : ((((((wr.setCell ⟨w.heap.size, 0, none⟩ (.pointer (some ⟨gr, 0, none⟩))).setCell ⟨w.heap.size, 1, none⟩ (.slice (some ⟨wr.heap.size, 0, none⟩) k k)).setCell ⟨w.heap.size, 2, none⟩ (.map (some (wr.heap.size + 1)))).alloc (.cells (madeCells #[.int .u32 0] k) 35)).alloc (.map #[] 0))).cell? ⟨w.heap.size, 2, none⟩ = some (.map (some (wr.heap.size + 1))) := by have := hG.cell (i := 2) (by omega); simpa [upd] using this
      clear hG
      go_wp2
      refine bodyPost_ret (v := .tuple #[.agg #[.pointer (some ⟨gr, 0, none⟩), .slice (some ⟨wr.heap.size, 0, none⟩) k k, .map (some (wr.heap.size + 1))], .int .i64 0]) (by simp only [results, Try.results13, go_sem]; simp [go_sem, r0', r1', r2']) rfl ⟨gr, wr.heap.size, wr.heap.size + 1, FG, rfl, KEY.out _ ?_ (by simp)⟩
      exact (((Fr.refl (fun i => i = w.heap.size) wr).setCell (p := ⟨w.heap.size, 0, none⟩) (.inl rfl) _).setCell (p := ⟨w.heap.size, 1, none⟩) (.inl rfl) _).setCell (p := ⟨w.heap.size, 2, none⟩) (.inl rfl) _

theorem tq_new_no (n i o : Int) (w : World) (h : (n < 1 ∨ 65535 < n) ∨ (i < 0 ∨ 65535 < i) ∨ (o < 0 ∨ 65535 < o)) :
    Calls Try.prog 5 #[.int .i64 n, .int .i64 i, .int .i64 o] w fun e w' => e = .returned (.tuple #[.pointer none, .int .i64 1]) ∧ w = w' := by
  by_cases h1 : n < 1
  · clear h
    go_enter Try.func5, Try.ntmps5
    go_wp2
    go_returns
    exact ⟨rfl, rfl⟩
  · by_cases h2 : 65535 < n
    · clear h
      go_enter Try.func5, Try.ntmps5
      go_wp2
      go_returns
      exact ⟨rfl, rfl⟩
    · by_cases h3 : i < 0
      · clear h
        go_enter Try.func5, Try.ntmps5
        go_wp2
        go_returns
        exact ⟨rfl, rfl⟩
      · by_cases h4 : 65535 < i
        · clear h
          go_enter Try.func5, Try.ntmps5
          go_wp2
          go_returns
          exact ⟨rfl, rfl⟩
        · by_cases h5 : o < 0
          · clear h
            go_enter Try.func5, Try.ntmps5
            go_wp2
            go_returns
            exact ⟨rfl, rfl⟩
          · have h6 : 65535 < o := by omega
            clear h
            go_enter Try.func5, Try.ntmps5
            go_wp2
            go_returns
            exact ⟨rfl, rfl⟩

def t60 : T6 := ⟨[], [], fun _ => 0, fun _ => false, []⟩
set_option maxHeartbeats 2000000 in
theorem tq_new_yes (n inn out : Nat) (w : World) (h1 : 1 ≤ n) (hn : n ≤ 65535) (hi : inn ≤ 65535) (ho : out ≤ 65535) :
    Calls Try.prog 5 #[.int .i64 n, .int .i64 inn, .int .i64 out] w fun e w' => ∃ b F, e = .returned (.tuple #[.pointer (some ⟨b, 0, none⟩), .int .i64 0]) ∧ CRT b n inn out w' t60 F ∧ (∀ i, F i → w.heap.size ≤ i) ∧ Fr NoF w w' := by
  obtain ⟨i0, hi0, hz0, hz1, hz2⟩ := info_parts' (P := Try.prog) (e := 35) (z := .int .u32 0) (s := 1) (b := 4) (by kernel_rfl)
  obtain ⟨i1, hi1, hy0, hy1, hy2⟩ := info_parts' (P := Try.prog) (e := 4) (z := .bool false) (s := 1) (b := 1) (by kernel_rfl)
  have mk1 : ∀ w : World, (Instr.makeSlice 36 (.int .i64 (n : Int)) (.int .i64 (n : Int))).run Try.prog w =
      .ok (.slice (some ⟨w.heap.size, 0, none⟩) n n) (w.alloc (.cells (madeCells #[.int .u32 0] n) 35)) := by
    intro w
    have := run_make (P := Try.prog) w 36 35 i0 _ Try.underlying36 hi0 hz0 .i64 .i64 (n : Int) (n : Int) (by omega) (Int.le_refl _) (by rw [hz2]; omega) (by omega)
    rw [show ((n : Int)).toNat = n from by omega, hz1, Nat.mul_one] at this
    exact this
  have mk2 : ∀ w : World, (Instr.makeSlice 51 (.int .i64 (n : Int)) (.int .i64 (n : Int))).run Try.prog w =
      .ok (.slice (some ⟨w.heap.size, 0, none⟩) n n) (w.alloc (.cells (madeCells #[.bool false] n) 4)) := by
    intro w
    have := run_make (P := Try.prog) w 51 4 i1 _ Try.underlying51 hi1 hy0 .i64 .i64 (n : Int) (n : Int) (by omega) (Int.le_refl _) (by rw [hy2]; omega) (by omega)
    rw [show ((n : Int)).toNat = n from by omega, hy1, Nat.mul_one] at this
    exact this
  have MK := Lib.hid (And.intro mk1 mk2)
  have HN := Lib.hid (new_yes n 2 w (by omega) (by omega) (by omega))
  have HNG := Lib.hid (fun w => newGhosts_calls out w ho)
  clear mk1 mk2 hi0 hz0 hz1 hz2 hi1 hy0 hy1 hy2
  go_enter Try.func5, Try.ntmps5
  go_wp2_with fail
  refine HN.out.mono ?_
  clear HN
  rintro e w1 ⟨rb, FR, rfl, hR, hFR, hf1⟩
  have HR := Lib.hid hR
  have HFR := Lib.hid hFR
  have HF1 := Lib.hid hf1
  clear hR hFR hf1
  go_wp2_with fail
  refine (HNG.out w1).mono ?_
  clear HNG
  rintro e w2 ⟨gr, gpb, mb, FG, rfl, hG, hFG, hf2⟩
  have HG := Lib.hid hG
  have HFG := Lib.hid hFG
  have HF2 := Lib.hid hf2
  obtain ⟨mk1, mk2⟩ := MK.out
  have KEY : Hid (∀ (wz : World) (b pb eb : Nat), Fr NoF w2 wz → wz.heap[pb]? = some (.cells (madeCells #[.int .u32 0] n) 35 (0, 0)) → wz.heap[eb]? = some (.cells (madeCells #[.bool false] n) 4 (0, 0)) →
      wz.heap[b]? = some (.cells #[.int .i64 inn, .pointer (some ⟨rb, 0, none⟩), .slice (some ⟨pb, 0, none⟩) n n, .slice (some ⟨eb, 0, none⟩) n n, .int .i64 0, .pointer (some ⟨gr, 0, none⟩), .slice (some ⟨gpb, 0, none⟩) out out, .map (some mb)] 53 (0, 0)) → ¬ b = pb → ¬ b = eb → ¬ pb = eb → w2.heap.size ≤ b → w2.heap.size ≤ pb → w2.heap.size ≤ eb →
      ∃ F, CRT b n inn out wz t60 F ∧ ∀ i, F i → w.heap.size ≤ i) := by
    intro wz b pb eb fz g1 g2 g3 d1 d2 d3 l1 l2 l3
    have hR0 := HR.out
    have hrl := hR0.lt
    have hgl : ∀ i, FGm FG gpb mb i → i < w2.heap.size := by
      rintro i (q | rfl | rfl)
      · exact hG.rr.lt i q
      · exact hG.pg.lt
      · exact hG.mp.lt
    have hgb := hFG
    have s1 := HF1.out.size
    have s2 := hf2.size
    let A : TA := ⟨rb, pb, eb, gr, gpb, mb, FR, FG, fun i => open Classical in if i = b then 0 else if i = pb then 1 else if i = eb then 2 else if FR i then 3 else if FG i then 4 else if i = gpb then 5 else if i = mb then 6 else 7⟩
    have hFRl : ∀ i, FR i → ¬ i = b ∧ ¬ i = pb ∧ ¬ i = eb := fun i q => by have := hrl i q; exact ⟨by omega, by omega, by omega⟩
    have hFGl : ∀ i, FGm FG gpb mb i → ¬ i = b ∧ ¬ i = pb ∧ ¬ i = eb ∧ ¬ FR i := fun i q => by
      have h1 := hgl i q
      have h2 := hgb i q
      exact ⟨by omega, by omega, by omega, fun q2 => by have := hrl i q2; omega⟩
    have hL : TL b A := by
      refine ⟨if_pos rfl, ?_, ?_, fun i q => ?_, fun i q => ?_, ?_, ?_⟩
      · show (if pb = b then 0 else _) = 1
        rw [if_neg (fun e => d1 e.symm), if_pos rfl]
      · show (if eb = b then 0 else _) = 2
        rw [if_neg (fun e => d2 e.symm), if_neg (fun e => d3 e.symm), if_pos rfl]
      · obtain ⟨q1, q2, q3⟩ := hFRl i q
        show (if i = b then 0 else _) = 3
        rw [if_neg q1, if_neg q2, if_neg q3, if_pos q]
      · obtain ⟨q1, q2, q3, q4⟩ := hFGl i (.inl q)
        show (if i = b then 0 else _) = 4
        rw [if_neg q1, if_neg q2, if_neg q3, if_neg q4, if_pos q]
      · obtain ⟨q1, q2, q3, q4⟩ := hFGl gpb (.inr (.inl rfl))
        show (if gpb = b then 0 else _) = 5
        rw [if_neg q1, if_neg q2, if_neg q3, if_neg q4, if_neg hG.d1, if_pos rfl]
      · obtain ⟨q1, q2, q3, q4⟩ := hFGl mb (.inr (.inr rfl))
        show (if mb = b then 0 else _) = 6
        rw [if_neg q1, if_neg q2, if_neg q3, if_neg q4, if_neg hG.d2, if_neg (fun e => hG.d3 e.symm), if_pos rfl]
    refine ⟨FT A b, ⟨A, [], List.range out, fun _ => 0, ⟨⟨_, _, g3, rfl, fun i hi => ?_⟩, (hR0.fr hf2 (fun _ _ q => q)).fr fz (fun _ _ q => q), ⟨_, _, g1, by simp [size_madeCells], fun i hi => ?_⟩, ⟨_, _, g2, by simp [size_madeCells], fun i hi => ?_⟩, hG.fr fz (fun _ _ q => q) id id, hL, fun f q => (by cases q), hn, hi⟩, ⟨fun f q => (by rcases q with q | q <;> cases q), fun f g q => (by rcases q with q | q <;> cases q)⟩, fun _ => Iff.rfl⟩, fun i q => ?_⟩
    · match i, hi with
      | 0, _ => rfl
      | 1, _ => rfl
      | 2, _ => rfl
      | 3, _ => rfl
      | 4, _ => rfl
      | 5, _ => rfl
      | 6, _ => rfl
      | 7, _ => rfl
    · rw [made_at hi, show (#[Value.int .u32 0] : Array Value).size = 1 from rfl, Nat.mod_one]; rfl
    · rw [made_at hi, show (#[Value.bool false] : Array Value).size = 1 from rfl, Nat.mod_one]; rfl
    · rcases q with e | e | e | q | q
      · rw [e]; omega
      · rw [e]; show w.heap.size ≤ pb; omega
      · rw [e]; show w.heap.size ≤ eb; omega
      · exact HFR.out i q
      · have := hgb i q; omega
  clear hG hFG hf2 MK
  go_wp2
  go_region
  · go_wp2
    go_returns
    obtain ⟨F, P, hF⟩ := KEY.out ((((w2.alloc (.cells #[.pointer (some ⟨gr, 0, none⟩), .slice (some ⟨gpb, 0, none⟩) out out, .map (some mb)] 48)).alloc (.cells (madeCells #[.int .u32 0] n) 35)).alloc (.cells (madeCells #[.bool false] n) 4)).alloc (.cells #[.int .i64 inn, .pointer (some ⟨rb, 0, none⟩), .slice (some ⟨w2.heap.size + 1, 0, none⟩) n n, .slice (some ⟨w2.heap.size + 2, 0, none⟩) n n, .int .i64 0, .pointer (some ⟨gr, 0, none⟩), .slice (some ⟨gpb, 0, none⟩) out out, .map (some mb)] 53)) (w2.heap.size + 3) (w2.heap.size + 1) (w2.heap.size + 2) ((((Fr.refl NoF w2).alloc _).alloc _).alloc _ |>.alloc _)
      (heap_step _ _ _ _ (heap_step _ _ _ _ (heap_alloc_new _ _ _ (by simp)))) (heap_step _ _ _ _ (heap_alloc_new _ _ _ (by simp))) (heap_alloc_new _ _ _ (by simp)) (by omega) (by omega) (by omega) (by omega) (by omega) (by omega)
    exact ⟨w2.heap.size + 3, F, rfl, (cod6 _ n inn out).fr P ((Fr.refl NoF _).drew) (fun _ _ q => q), hF, ((HF1.out.trans HF2.out (fun _ q => q.elim)).alloc _ |>.alloc _ |>.alloc _ |>.alloc _).drew⟩
  · go_wp2
    go_returns
    obtain ⟨F, P, hF⟩ := KEY.out ((((w2.alloc (.cells #[.pointer (some ⟨gr, 0, none⟩), .slice (some ⟨gpb, 0, none⟩) out out, .map (some mb)] 48)).alloc (.cells (madeCells #[.bool false] n) 4)).alloc (.cells (madeCells #[.int .u32 0] n) 35)).alloc (.cells #[.int .i64 inn, .pointer (some ⟨rb, 0, none⟩), .slice (some ⟨w2.heap.size + 2, 0, none⟩) n n, .slice (some ⟨w2.heap.size + 1, 0, none⟩) n n, .int .i64 0, .pointer (some ⟨gr, 0, none⟩), .slice (some ⟨gpb, 0, none⟩) out out, .map (some mb)] 53)) (w2.heap.size + 3) (w2.heap.size + 2) (w2.heap.size + 1) ((((Fr.refl NoF w2).alloc _).alloc _).alloc _ |>.alloc _)
      (heap_step _ _ _ _ (heap_alloc_new _ _ _ (by simp))) (heap_step _ _ _ _ (heap_step _ _ _ _ (heap_alloc_new _ _ _ (by simp)))) (heap_alloc_new _ _ _ (by simp)) (by omega) (by omega) (by omega) (by omega) (by omega) (by omega)
    exact ⟨w2.heap.size + 3, F, rfl, (cod6 _ n inn out).fr P ((Fr.refl NoF _).drew) (fun _ _ q => q), hF, ((HF1.out.trans HF2.out (fun _ q => q.elim)).alloc _ |>.alloc _ |>.alloc _ |>.alloc _).drew⟩

/-! ### told -/
def stT : Nat → T6
  | 0 => t60
  | k + 1 => ((stT k).acc k (k + 1)).setE k true
set_option maxHeartbeats 2000000 in
theorem toldT_calls (w : World) : Calls Try.prog 6 #[] w fun e w' => e = .returned (.bool true) ∧ Fr NoF w w' := by
  have N := Lib.hid (tq_new_yes 2 1 2 w (by omega) (by omega) (by omega) (by omega))
  go_enter Try.func6, Try.ntmps6
  go_wp2_with fail
  refine N.out.mono ?_
  clear N
  rintro e w1 ⟨b, F, rfl, hR1, hF, hf1⟩
  have HF := Lib.hid hF
  have HR1 := Lib.hid hR1
  have HFr1 := Lib.hid hf1
  clear hF hR1 hf1
  go_wp2
  go_loopw [3] (fun i wr => ∃ k : Nat, k ≤ 2 ∧ i = .int .i64 k ∧ (∃ F', CRT b 2 1 2 wr (stT k) F' ∧ ∀ i, F' i → w.heap.size ≤ i) ∧ Fr NoF w wr) (fun i _ => 2 - (intOf i).toNat)
  case atStart => exact ⟨0, by omega, rfl, ⟨F, HR1.out, HF.out⟩, HFr1.out⟩
  case round =>
    obtain ⟨k, hk, rfl, ⟨F1, hR, hF1⟩, hf⟩ := hrel
    have HR := Lib.hid hR
    have HFF := Lib.hid hF1
    have HFr := Lib.hid hf
    clear hR hf hF1 HR1 HFr1 HF
    by_cases h3 : k < 2
    · have hp : (k : Int) + 1 < 100 := by omega
      have CA : Hid (∀ p : Int, p = ((k + 1 : Nat) : Int) → Calls Try.prog 15 #[.pointer (some ⟨b, 0, none⟩), .int .i64 k, .int .u32 p] wr fun e w' => e = .returned (.tuple #[]) ∧ ∃ F', CRT b 2 1 2 w' ((stT k).acc k (k + 1)) F' ∧ Fr F1 wr w' ∧ ∀ i, F' i → F1 i ∨ wr.heap.size ≤ i) := by
        rintro p rfl
        refine (cod6 b 2 1 2).access (c := ⟨1, k, k + 1, false, 0, 0, []⟩) HR.out ⟨fun _ => h3, fun _ => ⟨by unfold isU32; show k + 1 < _; omega, .inr fun g hg => ?_⟩⟩ rfl
        obtain rfl | rfl : k = 0 ∨ k = 1 := by omega
        · rcases hg with q | q <;> cases q
        · have hg' : g ∈ [0] ∨ g ∈ ([] : List Nat) := hg
          have : g = 0 := by simpa using hg'
          subst this
          show ¬ (1 : Nat) = 2
          decide
      go_wp2_with (first
        | (go_at_call 14; refine (tq_miss (w := wr) _ _).mono ?_; rintro e w' ⟨rfl, rfl⟩)
        | fail)
      refine (CA.out _ (by omega)).mono ?_
      clear CA
      rintro e w2 ⟨rfl, F2, hR2, hf2, hF2⟩
      have CS := Lib.hid ((cod6 b 2 1 2).set (c := ⟨2, k, 0, true, 0, 0, []⟩) hR2 ⟨fun _ => h3, fun q => (by cases q)⟩ rfl)
      have hF2' : ∀ i, F2 i → w.heap.size ≤ i := fun i q => (hF2 i q).elim (HFF.out i) (fun q => Nat.le_trans HFr.out.size q)
      have HF2 := Lib.hid (And.intro hF2' (HFr.out.trans hf2 (fun i q => .inr (HFF.out i q))))
      clear hR2 hf2 hF2 hF2'
      go_wp2_with fail
      refine CS.out.mono ?_
      clear CS
      rintro e w3 ⟨rfl, F3, hR3, hf3, hF3⟩
      have hF3' : ∀ i, F3 i → w.heap.size ≤ i := fun i q => (hF3 i q).elim (HF2.out.1 i) (fun q => Nat.le_trans HF2.out.2.size q)
      have HR3 := Lib.hid (And.intro hR3 (And.intro hF3' (HF2.out.2.trans hf3 (fun i q => .inr (HF2.out.1 i q)))))
      clear hR3 hf3 hF3 hF3'
      go_wp2
      go_roundw
      case rel => exact ⟨k + 1, by omega, by go_num, ⟨F3, HR3.out.1, HR3.out.2.1⟩, HR3.out.2.2⟩
      case measure => simp [intOf]; omega
    · obtain rfl : k = 2 := by omega
      have CV := Lib.hid ((cod6 b 2 1 2).victimYes (c := ⟨3, 0, 3, false, 0, 0, []⟩) (a := 0) HR.out ⟨fun q => by simp at q, fun q => (by cases q)⟩ rfl (by decide))
      go_wp2_with (first
        | (go_at_call 14; refine (tq_miss (w := wr) _ _).mono ?_; rintro e w' ⟨rfl, rfl⟩)
        | fail)
      refine CV.out.mono ?_
      clear CV
      rintro e w3 ⟨rfl, F3, hR3, hf3, hF3⟩
      have HF3 := Lib.hid (HFr.out.trans hf3 (fun i q => .inr (HFF.out i q)))
      have HGH := (cod6 b 2 1 2).ghosts hR3
      rw [show (polT 1 2).ghosts ((polT 1 2).gone (stT 2) 3) = [1] from by decide] at HGH
      have HG := Lib.hid HGH
      have HR3 := Lib.hid hR3
      clear hR3 hf3 hF3 HGH
      go_wp2_with fail
      refine HG.out.mono ?_
      clear HG
      rintro e w4 ⟨gv, rfl, hgs, hf4⟩
      obtain ⟨gb, go, gc, rfl, g1, g2, g3, g4⟩ := hgs.at (i := 0) (by decide)
      have g4 : w4.cell? ⟨gb, go, none⟩ = some (.int .u32 1) := g4
      have hsz := (cod6 b 2 1 2).size ((cod6 b 2 1 2).fr HR3.out hf4 (fun _ _ q => q))
      rw [show (polT 1 2).size ((polT 1 2).gone (stT 2) 3) = 1 from by decide] at hsz
      have HSZ := Lib.hid hsz
      have HGC : Hid (∀ w', Fr NoF w4 w' → w'.cell? ⟨gb, go, none⟩ = some (.int .u32 1)) := fun w' f => (f.cell (p := ⟨gb, go, none⟩) g3 id).trans g4
      have HF4 := Lib.hid (HF3.out.trans hf4 (fun _ q => q.elim))
      clear hgs hf4 hsz
      go_wp2_with fail
      refine HSZ.out.mono ?_
      clear HSZ
      rintro e w5 ⟨rfl, hf5⟩
      have g5 := HGC.out w5 hf5
      have HF5 := Lib.hid (HF4.out.trans hf5 (fun _ q => q.elim))
      clear hf5
      go_wp2
      go_returns
      exact ⟨rfl, HF5.out⟩
end Go.Proofs.Ytiemelhholbngaa

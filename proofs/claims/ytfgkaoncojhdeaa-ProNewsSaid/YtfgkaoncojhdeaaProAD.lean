/-
  Pro's New.
-/
import Derived.Test.YtfgkaoncojhdeaaProAC
namespace Go.Proofs.Ytfgkaoncojhdeaa
open Go.RowKit Go.Maps
set_option linter.unusedVariables false
set_option linter.unusedSimpArgs false

def raw0 (n k g : Nat) : Raw := ⟨[], List.range (2 * n), fun _ => 0, fun _ => ⟨0, 0, false, false, false⟩, fun _ => false, g, 0, 0, fun i => if i < k then -1 else 0, fun _ => none, 0⟩
def pr0 (n : Nat) : PrS := ⟨[], fun _ => 0, max (n - 1) 1, fun _ => 0, fun _ => false⟩
theorem raw0_step (n k g : Nat) : upd (raw0 n k g).fm k (-1) = (raw0 n (k + 1) g).fm := by
  funext j
  show upd (fun i => if i < k then (-1 : Int) else 0) k (-1) j = if j < k + 1 then (-1 : Int) else 0
  by_cases e : j = k
  · subst e; rw [upd_same, if_pos (by omega)]
  · rw [upd_other _ _ e]
    by_cases q : j < k
    · rw [if_pos (show j < k + 1 by omega)]; exact if_pos q
    · rw [if_neg (show ¬ j < k + 1 by omega)]; exact if_neg q
theorem rf0 (n : Nat) : Rf n (raw0 n n (max (n - 1) 1)) (pr0 n) := by
  refine ⟨⟨rfl, List.nodup_nil, .inl rfl⟩, rfl, rfl, fun x hx => (by cases hx), rfl, fun f hf x hx => ?_, fun f hf x hx => (by cases hx), fun f hf => .inl (if_pos hf), fun p x => ⟨fun q => (by cases q), fun q => (by cases q.1)⟩, rfl, by simp [raw0]⟩
  have hx : (if f < n then (-1 : Int) else 0) = x := hx
  rw [if_pos hf] at hx
  omega
theorem pk0 {n : Nat} (h1 : 1 ≤ n) : PK n n (pr0 n) ∧ PM n (pr0 n) :=
  ⟨⟨fun j hj => .inr ⟨rfl, rfl⟩, fun i j x y hx => by simp [pr0] at hx, fun x hx => (by cases hx), Nat.zero_le _, by show 1 ≤ max (n - 1) 1 ∧ max (n - 1) 1 ≤ max (n - 1) 1; omega, h1⟩, ⟨fun a b k => (by obtain ⟨x, hx, _⟩ := k; cases hx), fun f hf k => ⟨rfl, rfl⟩⟩⟩
/-- Pro in memory, all its blocks. -/
def CRP (b n : Nat) (w : World) (s : PrS) (F : Nat → Prop) : Prop := ∃ A, PA n b A w s ∧ PK n n s ∧ PM n s ∧ ∀ i, F i ↔ FP A b i
theorem CRP.fr {b n : Nat} {w w' : World} {s : PrS} {F G : Nat → Prop} (h : CRP b n w s F) (f : Fr G w w') (hG : ∀ i, F i → ¬ G i) : CRP b n w' s F := by
  obtain ⟨A, ⟨r, h1, h2⟩, h3, h4, h5⟩ := h
  exact ⟨A, ⟨r, h1.fr f (fun i q => hG i ((h5 i).2 q)), h2⟩, h3, h4, h5⟩
theorem CRP.lt {b n : Nat} {w : World} {s : PrS} {F : Nat → Prop} (h : CRP b n w s F) : ∀ i, F i → i < w.heap.size := by
  obtain ⟨A, ⟨r, h1, h2⟩, h3, h4, h5⟩ := h
  exact fun i q => h1.lt i ((h5 i).1 q)
theorem pr_new_no (n : Int) (w : World) (h : n < 1 ∨ 65535 < n) :
    Calls Try.prog 6 #[.int .i64 n] w fun e w' => e = .returned (.tuple #[.pointer none, .int .i64 1]) ∧ w = w' := by
  by_cases h1 : n < 1
  · clear h
    go_enter Try.func6, Try.ntmps6
    go_wp2
    go_returns
    exact ⟨rfl, rfl⟩
  · have h2 : 65535 < n := by omega
    clear h
    go_enter Try.func6, Try.ntmps6
    go_wp2
    go_returns
    exact ⟨rfl, rfl⟩
theorem MpV.madeP (w : World) : MpV Try.prog 34 .u32 (.int .i64 0) (w.alloc (.map #[] 0)) w.heap.size 0 (mpF fun _ => none) := MpV.made Try.prog 34 .u32 (.int .i64 0) w
theorem pc0 {n : Nat} {w w1 wz : World} {rb eb b fb mb : Nat} {FR : Nat → Prop} (hn : n ≤ 65535) (hR : RR w1 rb (2 * n) 2 [[], List.range (2 * n)] FR) (hE : Blk w1 eb (2 * n * 6) (enF (fun _ => ⟨0, 0, false, false, false⟩) (fun _ => false))) (hFR : ∀ i, FR i → w.heap.size ≤ i ∧ ¬ i = eb) (heb : w.heap.size ≤ eb) (hs : w.heap.size ≤ w1.heap.size)
    (fz : Fr NoF w1 wz) (g1 : wz.heap[fb]? = some (.cells (madeCells #[.int .i64 0] n) 3 (0, 0))) (g2 : MpV Try.prog 34 .u32 (.int .i64 0) wz mb 0 (mpF fun _ => none))
    (g3 : wz.heap[b]? = some (.cells #[.pointer (some ⟨rb, 0, none⟩), .slice (some ⟨eb, 0, none⟩) (2 * n) (2 * n), .int .i64 0, .int .i64 0, .int .i64 0, .slice (some ⟨fb, 0, none⟩) n n, .map (some mb), .int .i64 0, .int .i64 0, .int .i64 0] 58 (0, 0)))
    (d1 : ¬ b = fb) (d2 : ¬ b = mb) (d3 : ¬ fb = mb) (l1 : w1.heap.size ≤ b) (l2 : w1.heap.size ≤ fb) (l3 : w1.heap.size ≤ mb) : ∃ A, PC wz b n A (raw0 n 0 0) ∧ ∀ i, FP A b i → w.heap.size ≤ i := by
  have hrl := hR.lt
  have hel := hE.lt
  let A : AP := ⟨rb, eb, fb, mb, FR, fun i => open Classical in if i = b then 0 else if i = eb then 1 else if i = fb then 2 else if i = mb then 3 else 4⟩
  have hL : LP b A := by
    refine ⟨if_pos rfl, ?_, ?_, ?_, fun i q => ?_⟩
    · show (if eb = b then 0 else _) = 1
      rw [if_neg (show ¬ eb = b by omega), if_pos rfl]
    · show (if fb = b then 0 else _) = 2
      rw [if_neg (fun e => d1 e.symm), if_neg (show ¬ fb = eb by omega), if_pos rfl]
    · show (if mb = b then 0 else _) = 3
      rw [if_neg (fun e => d2 e.symm), if_neg (show ¬ mb = eb by omega), if_neg (fun e => d3 e.symm), if_pos rfl]
    · have := hrl i q
      have := (hFR i q).2
      show (if i = b then 0 else _) = 4
      rw [if_neg (show ¬ i = b by omega), if_neg this, if_neg (show ¬ i = fb by omega), if_neg (show ¬ i = mb by omega)]
  refine ⟨A, ⟨⟨_, _, g3, rfl, fun i hi => ?_⟩, hR.fr fz (fun _ _ q => q), hE.fr fz id, ⟨_, _, g1, by simp [size_madeCells], fun i hi => ?_⟩, g2, hL, hn⟩, fun i q => ?_⟩
  · match i, hi with
    | 0, _ => rfl
    | 1, _ => rfl
    | 2, _ => rfl
    | 3, _ => rfl
    | 4, _ => rfl
    | 5, _ => rfl
    | 6, _ => rfl
    | 7, _ => rfl
    | 8, _ => rfl
    | 9, _ => rfl
  · rw [made_at hi, show (#[Value.int .i64 0] : Array Value).size = 1 from rfl, Nat.mod_one]; rfl
  · rcases q with e | e | e | e | q
    · rw [e]; omega
    · rw [e]; exact heb
    · rw [e]; show w.heap.size ≤ fb; omega
    · rw [e]; show w.heap.size ≤ mb; omega
    · exact (hFR i q).1
set_option maxRecDepth 100000 in
set_option maxHeartbeats 4000000 in
theorem pr_new_yes (n : Nat) (w : World) (h1 : 1 ≤ n) (hn : n ≤ 65535) :
    Calls Try.prog 6 #[.int .i64 n] w fun e w' => ∃ b F, e = .returned (.tuple #[.pointer (some ⟨b, 0, none⟩), .int .i64 0]) ∧ CRP b n w' (pr0 n) F ∧ (∀ i, F i → w.heap.size ≤ i) ∧ Fr NoF w w' := by
  obtain ⟨i0, hi0, hz0, hz1, hz2⟩ := info_parts' (P := Try.prog) (e := 3) (z := .int .i64 0) (s := 1) (b := 8) (by kernel_rfl)
  have mk1 : ∀ w : World, (Instr.makeSlice 55 (.int .i64 (n : Int)) (.int .i64 (n : Int))).run Try.prog w =
      .ok (.slice (some ⟨w.heap.size, 0, none⟩) n n) (w.alloc (.cells (madeCells #[.int .i64 0] n) 3)) := by
    intro w
    have := run_make (P := Try.prog) w 55 3 i0 _ Try.underlying55 hi0 hz0 .i64 .i64 (n : Int) (n : Int) (by omega) (Int.le_refl _) (by rw [hz2]; omega) (by omega)
    rw [show ((n : Int)).toNat = n from by omega, hz1, Nat.mul_one] at this
    exact this
  have HC0 := ck_new (2 * n) w (by omega)
  rw [show (((2 * n : Nat)) : Int) = 2 * (n : Int) from by omega] at HC0
  have HC := Lib.hid HC0
  have hmm := @run_makeMap Try.prog
  clear hi0 hz0 hz1 hz2 HC0
  go_enter Try.func6, Try.ntmps6
  go_wp2_with fail
  refine HC.out.mono ?_
  clear HC
  rintro e w1 ⟨rb, eb, FR, rfl, hR, hE, hFR, heb, hf1⟩
  have HR := Lib.hid hR
  have HE := Lib.hid hE
  have HFR := Lib.hid (And.intro hFR heb)
  have HF1 := Lib.hid hf1
  clear hR hE hFR heb hf1
  go_wp2_with fail
  go_region
  · skip
    have hmb := (MpV.madeP ((w1.alloc (.cells #[.pointer (some ⟨rb, 0, none⟩), .slice (some ⟨eb, 0, none⟩) (2 * n) (2 * n), .int .i64 0, .int .i64 0, .int .i64 0] 52)).alloc (.cells (madeCells #[.int .i64 0] n) 3))).fr (Fr.refl NoF _ |>.alloc (.cells #[.pointer (some ⟨rb, 0, none⟩), .slice (some ⟨eb, 0, none⟩) (2 * n) (2 * n), .int .i64 0, .int .i64 0, .int .i64 0, .slice (some ⟨w1.heap.size + 1, 0, none⟩) n n, .map (some (w1.heap.size + 1 + 1)), .int .i64 0, .int .i64 0, .int .i64 0] 58)) id
    rw [show ((w1.alloc (.cells #[.pointer (some ⟨rb, 0, none⟩), .slice (some ⟨eb, 0, none⟩) (2 * n) (2 * n), .int .i64 0, .int .i64 0, .int .i64 0] 52)).alloc (.cells (madeCells #[.int .i64 0] n) 3)).heap.size = w1.heap.size + 1 + 1 from by simp] at hmb
    have HPC := Lib.hid (pc0 (w := w) (b := w1.heap.size + 1 + 1 + 1) (fb := w1.heap.size + 1) (mb := w1.heap.size + 1 + 1) hn HR.out HE.out HFR.out.1 HFR.out.2 HF1.out.size (wz := ((((w1.alloc (.cells #[.pointer (some ⟨rb, 0, none⟩), .slice (some ⟨eb, 0, none⟩) (2 * n) (2 * n), .int .i64 0, .int .i64 0, .int .i64 0] 52)).alloc (.cells (madeCells #[.int .i64 0] n) 3)).alloc (.map #[] 0)).alloc (.cells #[.pointer (some ⟨rb, 0, none⟩), .slice (some ⟨eb, 0, none⟩) (2 * n) (2 * n), .int .i64 0, .int .i64 0, .int .i64 0, .slice (some ⟨w1.heap.size + 1, 0, none⟩) n n, .map (some (w1.heap.size + 1 + 1)), .int .i64 0, .int .i64 0, .int .i64 0] 58))) ((((Fr.refl NoF w1).alloc _).alloc _).alloc _ |>.alloc _)
      (heap_step _ _ _ _ (heap_step _ _ _ _ (heap_alloc_new _ _ _ (by simp)))) hmb (heap_alloc_new _ _ _ (by simp)) (by omega) (by omega) (by omega) (by omega) (by omega) (by omega))
    have F2 : Hid (Fr NoF w ((((w1.alloc (.cells #[.pointer (some ⟨rb, 0, none⟩), .slice (some ⟨eb, 0, none⟩) (2 * n) (2 * n), .int .i64 0, .int .i64 0, .int .i64 0] 52)).alloc (.cells (madeCells #[.int .i64 0] n) 3)).alloc (.map #[] 0)).alloc (.cells #[.pointer (some ⟨rb, 0, none⟩), .slice (some ⟨eb, 0, none⟩) (2 * n) (2 * n), .int .i64 0, .int .i64 0, .int .i64 0, .slice (some ⟨w1.heap.size + 1, 0, none⟩) n n, .map (some (w1.heap.size + 1 + 1)), .int .i64 0, .int .i64 0, .int .i64 0] 58))) := ((HF1.out.alloc _).alloc _).alloc _ |>.alloc _
    clear hmb HR HE HFR HF1 hmm
    obtain ⟨A, hpc, hAF⟩ := HPC.out
    have H0 := Lib.hid (hpc.fr0 (Fr.refl NoF _).drew)
    have F0 := Lib.hid F2.out.drew
    have HAF := Lib.hid hAF
    clear HPC F2 hpc hAF
    generalize ((((w1.alloc (.cells #[.pointer (some ⟨rb, 0, none⟩), .slice (some ⟨eb, 0, none⟩) (2 * n) (2 * n), .int .i64 0, .int .i64 0, .int .i64 0] 52)).alloc (.cells (madeCells #[.int .i64 0] n) 3)).alloc (.map #[] 0)).alloc (.cells #[.pointer (some ⟨rb, 0, none⟩), .slice (some ⟨eb, 0, none⟩) (2 * n) (2 * n), .int .i64 0, .int .i64 0, .int .i64 0, .slice (some ⟨w1.heap.size + 1, 0, none⟩) n n, .map (some (w1.heap.size + 1 + 1)), .int .i64 0, .int .i64 0, .int .i64 0] 58)).drew = wz at *
    have c5 : wz.cell? ⟨w1.heap.size + 1 + 1 + 1, 5, none⟩ = some (.slice (some ⟨A.fb, 0, none⟩) n n) := H0.out.c 5 (by omega)
    have lbz := H0.out.hd.lt
    generalize w1.heap.size + 1 + 1 + 1 = b at *
    go_wp2
    go_loopw [7, 34] (fun _ i wr => ∃ k : Nat, k ≤ n ∧ i = .int .i64 k ∧ PC wr b n A (raw0 n k 0) ∧ Fr (FP A b) wz wr) (fun _ i _ => n - (intOf i).toNat)
    case atStart => exact ⟨0, Nat.zero_le _, rfl, H0.out, Fr.refl _ _⟩
    case round =>
      obtain ⟨k, hk, rfl, hc, hf⟩ := hrel
      clear c5 lbz
      have d5 : wr.cell? ⟨b, 5, none⟩ = some (.slice (some ⟨A.fb, 0, none⟩) n n) := hc.c 5 (by omega)
      have lbr := hc.hd.lt
      have lfr := hc.fb.lt
      by_cases hlt : k < n
      · have cf := hc.cf hlt
        have fz := hc.fb.frozen k
        have g0 : (0 : Int) ≤ (k : Int) := by omega
        have g1 : (k : Int) < (n : Int) := by omega
        have h4 := hc.setFm (i := k) (-1)
        rw [raw0_step] at h4
        have H4 : Hid (PC (wr.setCell ⟨A.fb, k, none⟩ (.int .i64 (-1))) b n A (raw0 n (k + 1) 0) ∧ Fr (FP A b) wz (wr.setCell ⟨A.fb, k, none⟩ (.int .i64 (-1)))) := ⟨h4, hf.setCell (p := ⟨A.fb, k, none⟩) (.inl (.inr (.inr (.inl rfl)))) _⟩
        clear h4 hc hf
        go_wp2
        go_roundw
        case rel => exact ⟨k + 1, hlt, by go_num, H4.out⟩
        case measure => first | (simp [intOf]; done) | (simp [intOf]; omega)
      · obtain rfl : k = n := by omega
        have HG := Lib.hid (pr_greatest hc h1)
        have c7 : wr.cell? ⟨b, 7, none⟩ = some (.int .i64 (0 : Nat)) := hc.c 7 (by omega)
        have fz7 := hc.hd.frozen 7
        have h5 := hc.setHead (i := 7) (u := .int .i64 ((max (k - 1) 1 : Nat) : Int)) (r' := raw0 k k (max (k - 1) 1)) (prH_goal _ _ _ _ _) rfl
        have KEY : Hid (CRP b k (wr.setCell ⟨b, 7, none⟩ (.int .i64 ((max (k - 1) 1 : Nat) : Int))) (pr0 k) (FP A b) ∧ Fr NoF w (wr.setCell ⟨b, 7, none⟩ (.int .i64 ((max (k - 1) 1 : Nat) : Int)))) :=
          ⟨⟨A, ⟨_, h5, rf0 k⟩, (pk0 h1).1, (pk0 h1).2, fun _ => Iff.rfl⟩, (F0.out.trans hf (fun i q => .inr (HAF.out i q))).setCell (p := ⟨b, 7, none⟩) (.inr (HAF.out _ (.inl rfl))) _⟩
        clear h5 hc hf
        generalize max (k - 1) 1 = gg at *
        go_wp2_with (go_at_call 17; refine HG.out.mono ?_; rintro e w' ⟨rfl, rfl⟩)
        go_returns
        exact ⟨b, FP A b, rfl, KEY.out.1, HAF.out, KEY.out.2⟩
  · skip
    have hmb := (MpV.madeP (w1.alloc (.cells #[.pointer (some ⟨rb, 0, none⟩), .slice (some ⟨eb, 0, none⟩) (2 * n) (2 * n), .int .i64 0, .int .i64 0, .int .i64 0] 52))).fr ((Fr.refl NoF _ |>.alloc (.cells (madeCells #[.int .i64 0] n) 3)).alloc (.cells #[.pointer (some ⟨rb, 0, none⟩), .slice (some ⟨eb, 0, none⟩) (2 * n) (2 * n), .int .i64 0, .int .i64 0, .int .i64 0, .slice (some ⟨w1.heap.size + 1 + 1, 0, none⟩) n n, .map (some (w1.heap.size + 1)), .int .i64 0, .int .i64 0, .int .i64 0] 58)) id
    rw [show (w1.alloc (.cells #[.pointer (some ⟨rb, 0, none⟩), .slice (some ⟨eb, 0, none⟩) (2 * n) (2 * n), .int .i64 0, .int .i64 0, .int .i64 0] 52)).heap.size = w1.heap.size + 1 from by simp] at hmb
    have HPC := Lib.hid (pc0 (w := w) (b := w1.heap.size + 1 + 1 + 1) (fb := w1.heap.size + 1 + 1) (mb := w1.heap.size + 1) hn HR.out HE.out HFR.out.1 HFR.out.2 HF1.out.size (wz := ((((w1.alloc (.cells #[.pointer (some ⟨rb, 0, none⟩), .slice (some ⟨eb, 0, none⟩) (2 * n) (2 * n), .int .i64 0, .int .i64 0, .int .i64 0] 52)).alloc (.map #[] 0)).alloc (.cells (madeCells #[.int .i64 0] n) 3)).alloc (.cells #[.pointer (some ⟨rb, 0, none⟩), .slice (some ⟨eb, 0, none⟩) (2 * n) (2 * n), .int .i64 0, .int .i64 0, .int .i64 0, .slice (some ⟨w1.heap.size + 1 + 1, 0, none⟩) n n, .map (some (w1.heap.size + 1)), .int .i64 0, .int .i64 0, .int .i64 0] 58))) ((((Fr.refl NoF w1).alloc _).alloc _).alloc _ |>.alloc _)
      (heap_step _ _ _ _ (heap_alloc_new _ _ _ (by simp))) hmb (heap_alloc_new _ _ _ (by simp)) (by omega) (by omega) (by omega) (by omega) (by omega) (by omega))
    have F2 : Hid (Fr NoF w ((((w1.alloc (.cells #[.pointer (some ⟨rb, 0, none⟩), .slice (some ⟨eb, 0, none⟩) (2 * n) (2 * n), .int .i64 0, .int .i64 0, .int .i64 0] 52)).alloc (.map #[] 0)).alloc (.cells (madeCells #[.int .i64 0] n) 3)).alloc (.cells #[.pointer (some ⟨rb, 0, none⟩), .slice (some ⟨eb, 0, none⟩) (2 * n) (2 * n), .int .i64 0, .int .i64 0, .int .i64 0, .slice (some ⟨w1.heap.size + 1 + 1, 0, none⟩) n n, .map (some (w1.heap.size + 1)), .int .i64 0, .int .i64 0, .int .i64 0] 58))) := ((HF1.out.alloc _).alloc _).alloc _ |>.alloc _
    clear hmb HR HE HFR HF1 hmm
    obtain ⟨A, hpc, hAF⟩ := HPC.out
    have H0 := Lib.hid (hpc.fr0 (Fr.refl NoF _).drew)
    have F0 := Lib.hid F2.out.drew
    have HAF := Lib.hid hAF
    clear HPC F2 hpc hAF
    generalize ((((w1.alloc (.cells #[.pointer (some ⟨rb, 0, none⟩), .slice (some ⟨eb, 0, none⟩) (2 * n) (2 * n), .int .i64 0, .int .i64 0, .int .i64 0] 52)).alloc (.map #[] 0)).alloc (.cells (madeCells #[.int .i64 0] n) 3)).alloc (.cells #[.pointer (some ⟨rb, 0, none⟩), .slice (some ⟨eb, 0, none⟩) (2 * n) (2 * n), .int .i64 0, .int .i64 0, .int .i64 0, .slice (some ⟨w1.heap.size + 1 + 1, 0, none⟩) n n, .map (some (w1.heap.size + 1)), .int .i64 0, .int .i64 0, .int .i64 0] 58)).drew = wz at *
    have c5 : wz.cell? ⟨w1.heap.size + 1 + 1 + 1, 5, none⟩ = some (.slice (some ⟨A.fb, 0, none⟩) n n) := H0.out.c 5 (by omega)
    have lbz := H0.out.hd.lt
    generalize w1.heap.size + 1 + 1 + 1 = b at *
    go_wp2
    go_loopw [7, 34] (fun _ i wr => ∃ k : Nat, k ≤ n ∧ i = .int .i64 k ∧ PC wr b n A (raw0 n k 0) ∧ Fr (FP A b) wz wr) (fun _ i _ => n - (intOf i).toNat)
    case atStart => exact ⟨0, Nat.zero_le _, rfl, H0.out, Fr.refl _ _⟩
    case round =>
      obtain ⟨k, hk, rfl, hc, hf⟩ := hrel
      clear c5 lbz
      have d5 : wr.cell? ⟨b, 5, none⟩ = some (.slice (some ⟨A.fb, 0, none⟩) n n) := hc.c 5 (by omega)
      have lbr := hc.hd.lt
      have lfr := hc.fb.lt
      by_cases hlt : k < n
      · have cf := hc.cf hlt
        have fz := hc.fb.frozen k
        have g0 : (0 : Int) ≤ (k : Int) := by omega
        have g1 : (k : Int) < (n : Int) := by omega
        have h4 := hc.setFm (i := k) (-1)
        rw [raw0_step] at h4
        have H4 : Hid (PC (wr.setCell ⟨A.fb, k, none⟩ (.int .i64 (-1))) b n A (raw0 n (k + 1) 0) ∧ Fr (FP A b) wz (wr.setCell ⟨A.fb, k, none⟩ (.int .i64 (-1)))) := ⟨h4, hf.setCell (p := ⟨A.fb, k, none⟩) (.inl (.inr (.inr (.inl rfl)))) _⟩
        clear h4 hc hf
        go_wp2
        go_roundw
        case rel => exact ⟨k + 1, hlt, by go_num, H4.out⟩
        case measure => first | (simp [intOf]; done) | (simp [intOf]; omega)
      · obtain rfl : k = n := by omega
        have HG := Lib.hid (pr_greatest hc h1)
        have c7 : wr.cell? ⟨b, 7, none⟩ = some (.int .i64 (0 : Nat)) := hc.c 7 (by omega)
        have fz7 := hc.hd.frozen 7
        have h5 := hc.setHead (i := 7) (u := .int .i64 ((max (k - 1) 1 : Nat) : Int)) (r' := raw0 k k (max (k - 1) 1)) (prH_goal _ _ _ _ _) rfl
        have KEY : Hid (CRP b k (wr.setCell ⟨b, 7, none⟩ (.int .i64 ((max (k - 1) 1 : Nat) : Int))) (pr0 k) (FP A b) ∧ Fr NoF w (wr.setCell ⟨b, 7, none⟩ (.int .i64 ((max (k - 1) 1 : Nat) : Int)))) :=
          ⟨⟨A, ⟨_, h5, rf0 k⟩, (pk0 h1).1, (pk0 h1).2, fun _ => Iff.rfl⟩, (F0.out.trans hf (fun i q => .inr (HAF.out i q))).setCell (p := ⟨b, 7, none⟩) (.inr (HAF.out _ (.inl rfl))) _⟩
        clear h5 hc hf
        generalize max (k - 1) 1 = gg at *
        go_wp2_with (go_at_call 17; refine HG.out.mono ?_; rintro e w' ⟨rfl, rfl⟩)
        go_returns
        exact ⟨b, FP A b, rfl, KEY.out.1, HAF.out, KEY.out.2⟩
end Go.Proofs.Ytfgkaoncojhdeaa

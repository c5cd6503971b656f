/-
  lruk's LRUK in memory: Ghosts.
  lruk's LRUK: New.
  lruk's LRUK: New refused; an LRUK as a whole, with all its blocks.
  lruk's LRUK in memory: Remove.
  What is called of a policy, and answered, when pages are touched, held, let go and taken away: plain functions, with no program in sight.
  The state of Run in memory: the policy, the frames, what is held, and the calls so far. What each step leaves.
-/
import Derived.Test.YtbnckhkamebibaaK21
import Derived.Test.YtbnckhkamebibaaK29
import Derived.Deep.RegionHeld3
import Derived.Test.YtbnckhkamebibaaK02
import Derived.Test.YtbnckhkamebibaaK06
namespace Go.Proofs.Ytbnckhkamebibaa
open Go.RowKit Go.Maps
set_option linter.unusedVariables false

def thO (l : List (Nat × Nat)) : List Th := l.map fun p => ⟨p.1, p.2, 0⟩
theorem oldK_in {l : List (Nat × Nat)} (h : OrdO l) {p : Nat × Nat} (hp : p ∈ l) : oldK l p.1 = some ((p.2 : Int), 0) := by
  induction l with
  | nil => cases hp
  | cons q l ih =>
    rw [oldK_cons]
    obtain ⟨h1, h2⟩ := List.pairwise_cons.1 h
    rcases List.mem_cons.1 hp with rfl | hp
    · rw [if_pos rfl]
    · rw [if_neg (fun e => (h1 p hp).2 e)]
      exact ih h2 hp
theorem thO_mem {l : List (Nat × Nat)} (h : OrdO l) (t : Th) : memK (oldK l) t ↔ t ∈ thO l := by
  constructor
  · rintro ⟨x, hx, hk⟩
    obtain ⟨g, hm, ha, hb⟩ := oldK_mem hk
    refine List.mem_map.2 ⟨(x, g), hm, ?_⟩
    cases t
    simp only at hx ha hb
    subst hx; subst ha; subst hb
    rfl
  · intro ht
    obtain ⟨p, hp, rfl⟩ := List.mem_map.1 ht
    exact ⟨p.1, rfl, oldK_in h hp⟩
theorem thO_srt {l : List (Nat × Nat)} (h : OrdO l) : Srt (thO l) := by
  unfold Srt thO
  refine List.pairwise_map.2 (h.imp (fun {p q} hpq => ?_))
  rw [ltT_iff]
  left
  show (p.2 : Int) < q.2
  have := hpq.1
  omega
section
variable {w w' : World} {lb fb mb q1 q2 q3 q4 ne : Nat} {S : LK} {FC F4 : Nat → Prop}
set_option maxHeartbeats 4000000 in
theorem lghosts_calls (h : LM w lb S fb mb q1 q2 q3 q4 ne FC F4) (hg : S.gone < 800000) : Calls Try.prog 18 #[.pointer (some ⟨lb, 0, none⟩)] w fun e w' => ∃ v, e = .returned v ∧ SlK .u32 w' v (S.Old.map (·.1)) ∧ (∀ i, v.ownBlock = some i → w.heap.size ≤ i) ∧ Fr NoF w w' := by
  have hql : QS w q4 (fun t => t ∈ thO S.Old) S.Old.length F4 := h.qk.congr (fun t => thO_mem h.ok.ord t)
  have HL : Hid (∀ W, Fr NoF w W → Calls Try.prog 38 #[.pointer (some ⟨q4, 0, none⟩)] W fun e w' => e = .returned (.int .i64 (S.Old.length : Nat)) ∧ W = w') := fun W f => qk_len (h.qk.fr0 f)
  have HA : Hid (∀ W, Fr NoF w W → Calls Try.prog 39 #[.pointer (some ⟨q4, 0, none⟩)] W fun e w' => ∃ v, e = .returned v ∧ SlC w' 1 v S.Old.length (S.Old.map fun p => .int .i64 (p.1 : Int)) ∧ (∀ i, v.ownBlock = some i → W.heap.size ≤ i) ∧ Fr NoF W w') := fun W f => by
    refine (qu_list (hql.fr0 f) (thO_srt h.ok.ord)).mono ?_
    rintro e w' ⟨v, he, hn, ho, hf⟩
    have e1 : ((thO S.Old).map fun t => Value.int .i64 t.x) = S.Old.map fun p => .int .i64 (p.1 : Int) := by unfold thO; rw [List.map_map]; rfl
    rw [e1] at ho
    exact ⟨v, he, SlC.ofOwn ho (fun u hu => by obtain ⟨p, _, rfl⟩ := List.mem_map.1 hu; rfl), ownBlock_own ho, hf⟩
  have c9 : ∀ W, Fr NoF w W → W.cell? ⟨lb, 9, none⟩ = some (.pointer (some ⟨q4, 0, none⟩)) ∧ lb < W.heap.size := fun W f => ⟨(h.fr0 f).ce 9 (by omega), (h.fr0 f).blk.lt⟩
  have HC9 := Lib.hid c9
  have c90 := (c9 w (Fr.refl _ _)).1
  have lt := h.blk.lt
  have HOK := Lib.hid h.ok.old
  have hn : S.Old.length < 800000 := by have := h.ok.oldn; omega
  obtain ⟨i0, hi0, hz0, hz1, hz2⟩ := info_parts' (P := Try.prog) (e := 35) (z := .int .u32 0) (s := 1) (b := 4) (by kernel_rfl)
  have mk1 : ∀ (w : World) (n : Nat), n < 800000 → (Instr.makeSlice 36 (.int .i64 0) (.int .i64 (n : Int))).run Try.prog w =
      .ok (.slice (some ⟨w.heap.size, 0, none⟩) 0 n) (w.alloc (.cells (madeCells #[.int .u32 0] n) 35)) := by
    intro w n hn
    have := run_make (P := Try.prog) w 36 35 i0 _ Try.underlying36 hi0 hz0 .i64 .i64 (0 : Int) (n : Int) (by omega) (by omega) (by rw [hz2]; omega) (by omega)
    rw [show (n : Int).toNat = n from by omega, hz1, Nat.mul_one] at this
    exact this
  generalize S.Old = l at *
  clear h hql c9 hi0 hz0 hz1 hz2 hg
  have mk := mk1 w l.length hn
  clear mk1
  have HN := Lib.hid hn
  generalize hlen : l.length = n at *
  have HLEN := Lib.hid hlen
  clear hlen
  go_enter Try.func18, Try.ntmps18
  go_wp2_with fail
  refine (HL.out _ (Fr.refl _ _)).mono ?_
  rintro e w1 ⟨rfl, rfl⟩
  have fA : Fr NoF w (w.alloc (.cells (madeCells #[.int .u32 0] n) 35)) := (Fr.refl NoF w).alloc _
  have hro : (w.alloc (.cells (madeCells #[.int .u32 0] n) 35)).ownsRow w.heap.size 35 1 (.slice (some ⟨w.heap.size, 0, none⟩) 0 n) 0 [] :=
    ⟨rfl, .inr ⟨w.heap.size, n, _, rfl, Nat.le_refl _, heap_alloc_new _ _ _ rfl, Nat.zero_le _, by unfold maxLen; omega, by simp [size_madeCells], by simp⟩⟩
  have HFA := Lib.hid fA
  have HRO := Lib.hid hro
  obtain ⟨c9, lt9⟩ := HC9.out _ fA
  have hszA : (w.alloc (.cells (madeCells #[.int .u32 0] n) 35)).heap.size = w.heap.size + 1 := by simp
  have HSZ := Lib.hid hszA
  clear fA hro hszA
  go_wp2_with fail
  generalize w.alloc (.cells (madeCells #[.int .u32 0] n) 35) = wA at *
  refine (HA.out _ HFA.out).mono ?_
  rintro e w2 ⟨v, rfl, hs, hob, hf⟩
  obtain ⟨va, vc, rfl, q1', q2'⟩ := hs.shape
  have HS := Lib.hid hs
  have HOB := Lib.hid hob
  have HF := Lib.hid hf
  have HR0 : Hid (w2.ownsRow w.heap.size 35 1 (.slice (some ⟨w.heap.size, 0, none⟩) 0 n) 0 ((l.take 0).map fun p => .int .u32 (p.1 : Int))) := own_keep HRO.out hf (fun _ _ q => q)
  have HF0 : Hid (Fr NoF w w2) := HFA.out.trans hf (fun _ q => q.elim)
  have hA1 : w.heap.size < wA.heap.size := by rw [HSZ.out]; omega
  have HA1 := Lib.hid hA1
  clear hs hob hf c9 lt9 HRO HL HA HC9 c90 hA1 mk
  unfold maxLen at q2'
  go_wp2
  go_loopw [3, 20] (fun o i wr => ∃ k : Nat, k ≤ n ∧ i = .int .i64 k ∧ wr.ownsRow w.heap.size 35 1 o k ((l.take k).map fun p => .int .u32 (p.1 : Int)) ∧ Fr NoF w wr ∧ Fr (fun i => i = w.heap.size) w2 wr ∧ ∀ i, o.ownBlock = some i → i = w.heap.size ∨ w2.heap.size ≤ i) (fun _ i _ => n - (intOf i).toNat)
  case atStart => exact ⟨0, Nat.zero_le _, rfl, HR0.out, HF0.out, Fr.refl _ _, fun i q => by left; cases q; rfl⟩
  case round =>
    obtain ⟨k, hk, rfl, ho, hf, hf3, hob⟩ := hrel
    have HOB2 := Lib.hid hob
    have HO := Lib.hid ho
    have HF2 := Lib.hid hf
    have HF3 := Lib.hid hf3
    have hsz := hf.size
    by_cases hlt : k < n
    · have hgk : k < l.length := by rw [HLEN.out]; exact hlt
      have hs3 := HS.out.fr hf3 (fun b q e => by have := HOB.out b q; have := HA1.out; omega)
      obtain ⟨b, off, c, ev, hcn, hcm, hbl, hc⟩ := hs3.at hlt (by omega)
      simp only [Value.slice.injEq, true_and] at ev
      obtain ⟨rfl, rfl⟩ := ev
      have hpk := (HOK.out l[k] (List.getElem_mem hgk)).1
      have y0 := hc k (.int .i64 ((l[k].1 : Nat) : Int)) (by simp [hgk])
      unfold maxLen at hcm
      have hcu : IntKind.u32.wrap ((l[k].1 : Nat) : Int) = ((l[k].1 : Nat) : Int) := IntWalk.u32_in _ (by unfold okN at hpk; omega)
      have HX : Hid ((l.take (k + 1)).map (fun p => Value.int .u32 (p.1 : Int)) = (l.take k).map (fun p => Value.int .u32 (p.1 : Int)) ++ [.int .u32 ((l[k].1 : Nat) : Int)]) := by
        unfold Hid; rw [List.take_succ_eq_append_getElem hgk, List.map_append]; rfl
      clear hc
      generalize l[k].1 = tx at *
      clear ho hf hf3 hob hs3 hpk hgk
      have f2 : Fr NoF wr (wr.alloc (.cells #[.int .u32 tx] 35)) := (Fr.refl NoF wr).alloc _
      have FF2 := Lib.hid f2
      clear f2
      go_wp2_with (at_builtin; go_must (refine appLB (base := w.heap.size) EIu rfl _ _ rfl (by rfl) (by rfl) (by simp; omega) (own_keep HO.out FF2.out (fun _ _ q => q)) (SlC.ofOwn (own_new (w0 := wr) (by simp) #[.int .u32 tx] 35 1 1 _ (by simp) rfl (by unfold maxLen; omega)) (by simp [Value.oneCell'])) (by unfold maxLen; omega) (by omega) ?_); intro v' w2 hown' hf' hnb; have HNB := Lib.hid hnb; clear hnb; have HF' := Lib.hid hf'; have HO' := Lib.hid hown'; clear y0 hf' hown')
      go_roundw
      case rel =>
        refine ⟨k + 1, by omega, by go_num, ?_, ?_, ?_, ?_⟩
        · rw [HX.out]; exact HO'.out
        · exact (HF2.out.trans FF2.out (fun _ q => q.elim)).trans HF'.out (fun i hi => .inr (ownBlock_own HO.out i hi))
        · exact (HF3.out.trans FF2.out (fun _ q => q.elim)).trans HF'.out (fun i hi => HOB2.out i hi)
        · intro i hi
          have e1 := HF3.out.size
          have e2 := FF2.out.size
          rcases HNB.out i hi with q | q
          · exact HOB2.out i q
          · exact .inr (by omega)
      case measure => simp [intOf]; omega
    · obtain rfl : k = n := by omega
      clear ho hf hf3 hob
      go_wp2
      go_returns
      have e1 : l.take k = l := List.take_of_length_le (by rw [HLEN.out]; exact Nat.le_refl _)
      have ho := HO.out
      rw [e1] at ho
      have hs := SlC.ofOwn ho (fun u hu => by obtain ⟨p, _, rfl⟩ := List.mem_map.1 hu; rfl)
      refine ⟨_, rfl, ?_, ownBlock_own HO.out, HF2.out⟩
      unfold SlK
      rw [List.length_map, HLEN.out, List.map_map]
      exact hs
end
end Go.Proofs.Ytbnckhkamebibaa
namespace Go.Proofs.Ytbnckhkamebibaa
open Go.RowKit Go.Maps
set_option linter.unusedVariables false

/-- A new one. -/
def newS (n k near kept : Nat) : LK := ⟨n, k, near, kept, 0, fun _ => (false, 0), fun _ => none, fun _ => none, fun _ => false, 0, [], 0⟩
theorem cntR_none : ∀ n, cntR (fun _ => none) n = 0
  | 0 => rfl
  | n + 1 => by unfold cntR; rw [cntR_none n]; rfl
section
variable {w w' : World}
def noneK : Nat → Option (Int × Int) := fun _ => none
set_option maxHeartbeats 1000000 in
theorem noCandidates_calls (w : World) : Calls Try.prog 12 #[] w fun e w' => ∃ q1 q2 q3, e = .returned (.agg #[.pointer (some ⟨q1, 0, none⟩), .pointer (some ⟨q2, 0, none⟩), .pointer (some ⟨q3, 0, none⟩)]) ∧ QK w' q1 noneK 0 (fun i => i = q1) ∧ QK w' q2 noneK 0 (fun i => i = q2) ∧ QK w' q3 noneK 0 (fun i => i = q3) ∧ w.heap.size ≤ q1 ∧ q1 < q2 ∧ q2 < q3 ∧ Fr NoF w w' := by
  have HQ : Hid (∀ W, Calls Try.prog 13 #[] W fun e w' => e = .returned (.pointer (some ⟨W.heap.size, 0, none⟩)) ∧ QK w' W.heap.size noneK 0 (fun i => i = W.heap.size) ∧ Fr NoF W w') := fun W => qk_new W
  have fA : Fr NoF w (w.alloc (.cells #[.pointer none, .pointer none, .pointer none] 48)) := (Fr.refl NoF w).alloc _
  have bA : Blk (w.alloc (.cells #[.pointer none, .pointer none, .pointer none] 48)) w.heap.size 3 (fun _ => .pointer none) := Blk.new w _ 48 3 _ _ rfl rfl (fun i hi => by
    match i, hi with
    | 0, _ | 1, _ | 2, _ => rfl)
  have HFA := Lib.hid fA
  have HBA := Lib.hid bA
  have hsz : w.heap.size < (w.alloc (.cells #[.pointer none, .pointer none, .pointer none] 48)).heap.size := by simp
  have HSA := Lib.hid hsz
  clear fA bA hsz
  go_enter Try.func12, Try.ntmps12
  go_wp2_with fail
  generalize w.alloc (.cells #[.pointer none, .pointer none, .pointer none] 48) = wA at *
  refine (HQ.out wA).mono ?_
  rintro e w1 ⟨rfl, k1, f1⟩
  have K1 := Lib.hid k1
  have F1 := Lib.hid f1
  clear k1 f1
  go_wp2_with fail
  refine (HQ.out w1).mono ?_
  rintro e w2 ⟨rfl, k2, f2⟩
  have K2 := Lib.hid k2
  have F2 := Lib.hid f2
  clear k2 f2
  go_wp2_with fail
  refine (HQ.out w2).mono ?_
  rintro e w3 ⟨rfl, k3, f3⟩
  have K3 := Lib.hid k3
  have F3 := Lib.hid f3
  have hb3 := (HBA.out.fr F1.out (fun q => q)).fr F2.out (fun q => q) |>.fr f3 (fun q => q)
  have HB3 := Lib.hid hb3
  have l3 := hb3.lt
  have fz0 := hb3.frozen 0
  have fz1 := hb3.frozen 1
  have fz2 := hb3.frozen 2
  have d0 := hb3.cell (i := 0) (by omega)
  have d1 := hb3.cell (i := 1) (by omega)
  have d2 := hb3.cell (i := 2) (by omega)
  clear k3 f3 hb3
  have s0 := Lib.hid HSA.out
  have S1 : Hid (wA.heap.size < w1.heap.size) := K1.out.lt _ rfl
  have S2 : Hid (w1.heap.size < w2.heap.size) := K2.out.lt _ rfl
  generalize wA.heap.size = g1 at *
  generalize w1.heap.size = g2 at *
  generalize w2.heap.size = g3 at *
  go_wp2
  (try simp only [Exit.inBlock, Exit.then])
  refine bodyPost_ret (results_blk Try.results12 _ _ (((HB3.out.set 0 (.pointer (some ⟨g1, 0, none⟩))).set 1 (.pointer (some ⟨g2, 0, none⟩))).set 2 (.pointer (some ⟨g3, 0, none⟩))) rfl Try.underlying48 rfl (by kernel_rfl)) (by rfl) ?_
  have f4 : Fr (fun i => i = w.heap.size) w3 (((w3.setCell ⟨w.heap.size, 0, none⟩ (.pointer (some ⟨g1, 0, none⟩))).setCell ⟨w.heap.size, 1, none⟩ (.pointer (some ⟨g2, 0, none⟩))).setCell ⟨w.heap.size, 2, none⟩ (.pointer (some ⟨g3, 0, none⟩))) := (((Fr.refl (fun i => i = w.heap.size) w3).setCell (p := ⟨w.heap.size, 0, none⟩) (.inl rfl) _).setCell (p := ⟨w.heap.size, 1, none⟩) (.inl rfl) _).setCell (p := ⟨w.heap.size, 2, none⟩) (.inl rfl) _
  have a0 := s0.out
  have a1 := S1.out
  have a2 := S2.out
  refine ⟨g1, g2, g3, rfl, ((K1.out.fr0 F2.out).fr0 F3.out).fr f4 (fun i q e => by omega), (K2.out.fr0 F3.out).fr f4 (fun i q e => by omega), K3.out.fr f4 (fun i q e => by omega), by omega, a1, a2, (((HFA.out.trans F1.out (fun _ q => q.elim)).trans F2.out (fun _ q => q.elim)).trans F3.out (fun _ q => q.elim)).trans f4 (fun i q => .inr (by omega))⟩
theorem farK_none (Fa : Nat → Bool) : farK (fun _ => none) Fa = noneK := by funext x; unfold farK noneK; split <;> rfl
theorem freshK_none (Fa : Nat → Bool) : freshK (fun _ => none) Fa = noneK := by funext x; unfold freshK noneK; split <;> rfl
theorem turnK_none (Fa : Nat → Bool) : turnK (fun _ => none) Fa = noneK := by funext x; unfold turnK; rw [freshK_none]; rfl
theorem lm_new {n k near kept lb fb mb q1 q2 q3 q4 : Nat} (hn : 1 ≤ n ∧ n ≤ 65535) (hk : 1 ≤ k ∧ k ≤ 8) (hr : near ≤ 1000000) (hp : kept ≤ 65535) (hb : Blk w lb 11 (lC (newS n k near kept) fb mb q1 q2 q3 q4)) (hf : Blk w fb (2 * n) (frC fun _ => (false, 0))) (hm : MpV Try.prog 35 .u32 zeroPast w mb 0 (fun _ => none))
    (k1 : QK w q1 noneK 0 (fun i => i = q1)) (k2 : QK w q2 noneK 0 (fun i => i = q2)) (k3 : QK w q3 noneK 0 (fun i => i = q3)) (k4 : QK w q4 noneK 0 (fun i => i = q4))
    (d1 : ¬ fb = lb ∧ ¬ mb = lb ∧ ¬ mb = fb) (d2 : ¬ q1 = lb ∧ ¬ q1 = fb ∧ ¬ q1 = mb) (d3 : ¬ q2 = lb ∧ ¬ q2 = fb ∧ ¬ q2 = mb) (d4 : ¬ q3 = lb ∧ ¬ q3 = fb ∧ ¬ q3 = mb) (d5 : ¬ q4 = lb ∧ ¬ q4 = fb ∧ ¬ q4 = mb) (d6 : q1 < q2 ∧ q2 < q3 ∧ ¬ q4 = q1 ∧ ¬ q4 = q2 ∧ ¬ q4 = q3) :
    LM w lb (newS n k near kept) fb mb q1 q2 q3 q4 0 (fun i => i = q1 ∨ i = q2 ∨ i = q3) (fun i => i = q4) := by
  refine ⟨hb, hf, ?_, ⟨q1, q2, q3, 0, 0, fun i => i = q1, fun i => i = q2, fun i => i = q3, ⟨hb.cell (i := 6) (by omega), hb.cell (i := 7) (by omega), hb.cell (i := 8) (by omega), hb.lt, ?_, ?_, ?_, fun i q e => by omega, fun i q e => by omega, fun i q e => by omega, fun q => d2.1 q.symm, fun q => d3.1 q.symm, fun q => d4.1 q.symm, fun x a b q => by cases q⟩, rfl, fun i => Iff.rfl⟩, ?_, d1.1, d1.2.1, d1.2.2, fun q => by omega, fun q => by omega, fun q => by omega, fun q => by omega, fun q => by omega, fun i q e => by omega, Nat.le_refl _, ⟨hn, hk, hr, hp, fun i => (show (0 : Nat) < 4294967296 by omega), fun x p q => (by cases q), (cntR_none n).symm, fun p q => (by cases q), Nat.le_refl _, List.Pairwise.nil⟩⟩
  · have e : psM (newS n k near kept).P = fun _ => none := by funext z; unfold psM; split <;> rfl
    rw [e]; exact hm
  · rw [show farK (newS n k near kept).R (newS n k near kept).Fa = noneK from farK_none _]; exact k1
  · rw [show freshK (newS n k near kept).R (newS n k near kept).Fa = noneK from freshK_none _]; exact k2
  · rw [show turnK (newS n k near kept).R (newS n k near kept).Fa = noneK from turnK_none _]; exact k3
  · have e : oldK (newS n k near kept).Old = noneK := rfl
    rw [e]; exact k4
theorem lnew_fin {X wz : World} {n k near kept lb fb mb q1 q2 q3 q4 : Nat} (hz : wz = X.alloc (.cells #[.int .i64 k, .int .i64 near, .int .i64 kept, .int .i64 0, .slice (some ⟨fb, 0, none⟩) n n, .map (some mb), .pointer (some ⟨q1, 0, none⟩), .pointer (some ⟨q2, 0, none⟩), .pointer (some ⟨q3, 0, none⟩), .pointer (some ⟨q4, 0, none⟩), .int .i64 0] 52)) (hlb : lb = X.heap.size)
    (hn : 1 ≤ n ∧ n ≤ 65535) (hk : 1 ≤ k ∧ k ≤ 8) (hr : near ≤ 1000000) (hp : kept ≤ 65535) (hf : Blk X fb (2 * n) (frC fun _ => (false, 0))) (hm : MpV Try.prog 35 .u32 zeroPast X mb 0 (fun _ => none))
    (k1 : QK X q1 noneK 0 (fun i => i = q1)) (k2 : QK X q2 noneK 0 (fun i => i = q2)) (k3 : QK X q3 noneK 0 (fun i => i = q3)) (k4 : QK X q4 noneK 0 (fun i => i = q4)) (f : Fr NoF w X)
    (d : ¬ mb = fb ∧ ¬ q1 = fb ∧ ¬ q1 = mb ∧ ¬ q2 = fb ∧ ¬ q2 = mb ∧ ¬ q3 = fb ∧ ¬ q3 = mb ∧ ¬ q4 = fb ∧ ¬ q4 = mb ∧ q1 < q2 ∧ q2 < q3 ∧ ¬ q4 = q1 ∧ ¬ q4 = q2 ∧ ¬ q4 = q3) (lo : w.heap.size ≤ fb ∧ w.heap.size ≤ mb ∧ w.heap.size ≤ q1 ∧ w.heap.size ≤ q4) :
    ∃ lb' fb mb q1 q2 q3 q4 FC F4, Ending.returned (.tuple #[.pointer (some ⟨lb, 0, none⟩), .int .i64 0]) = .returned (.tuple #[.pointer (some ⟨lb', 0, none⟩), .int .i64 0]) ∧ LM wz lb' (newS n k near kept) fb mb q1 q2 q3 q4 0 FC F4 ∧ (∀ i, LF lb' fb mb FC F4 i → w.heap.size ≤ i) ∧ Fr NoF w wz := by
  subst hz; subst hlb
  have a1 := hf.lt
  have a2 := hm.lt
  have a3 := k1.lt _ rfl
  have a4 := k2.lt _ rfl
  have a5 := k3.lt _ rfl
  have a6 := k4.lt _ rfl
  have fz := (Fr.refl NoF X).alloc (.cells #[.int .i64 k, .int .i64 near, .int .i64 kept, .int .i64 0, .slice (some ⟨fb, 0, none⟩) n n, .map (some mb), .pointer (some ⟨q1, 0, none⟩), .pointer (some ⟨q2, 0, none⟩), .pointer (some ⟨q3, 0, none⟩), .pointer (some ⟨q4, 0, none⟩), .int .i64 0] 52)
  refine ⟨_, fb, mb, q1, q2, q3, q4, _, _, rfl, lm_new hn hk hr hp (Blk.new X _ _ 11 _ _ rfl rfl (fun i hi => ?_)) (hf.alloc _) (hm.alloc _) (k1.fr0 fz) (k2.fr0 fz) (k3.fr0 fz) (k4.fr0 fz) ⟨by omega, by omega, d.1⟩ ⟨by omega, d.2.1, d.2.2.1⟩ ⟨by omega, d.2.2.2.1, d.2.2.2.2.1⟩ ⟨by omega, d.2.2.2.2.2.1, d.2.2.2.2.2.2.1⟩ ⟨by omega, by omega, by omega⟩ (by omega), fun i q => ?_, f.trans fz (fun _ q => q.elim)⟩
  · match i, hi with
    | 0, _ | 1, _ | 2, _ | 3, _ | 4, _ | 5, _ | 6, _ | 7, _ | 8, _ | 9, _ | 10, _ => rfl
  · have := f.size
    rcases q with q | q | q | (q | q | q) | q <;> omega
theorem mpv_drew {w : World} {b c : Nat} {m : Int → Option Value} (h : MpV Try.prog 35 .u32 zeroPast w b c m) : MpV Try.prog 35 .u32 zeroPast w.drew b c m := h.ofHeap rfl
theorem fr_no {a b c : World} (h : Fr NoF a b) (k : Fr NoF b c) : Fr NoF a c := h.trans k (fun _ q => q.elim)
theorem qk_new2 (w : World) : Calls Try.prog 13 #[] w fun e w' => ∃ q4, q4 = w.heap.size ∧ e = .returned (.pointer (some ⟨q4, 0, none⟩)) ∧ QK w' q4 noneK 0 (fun i => i = q4) ∧ Fr NoF w w' :=
  (qk_new w).mono fun e w' ⟨he, h, f⟩ => ⟨_, rfl, he, h, f⟩
theorem mpv_new {w : World} {b : Nat} (hb : b = w.heap.size) : MpV Try.prog 35 .u32 zeroPast (w.alloc (.map #[] 0)) b 0 (fun _ => none) := by
  subst hb; exact MpV.made _ _ _ _ _
theorem frC_made {w : World} {n b : Nat} (hb : b = w.heap.size) : Blk (w.alloc (.cells (madeCells #[.bool false, .int .u32 0] (n * 2)) 82)) b (2 * n) (frC fun _ => (false, 0)) := by
  refine Blk.new w _ _ _ _ _ hb (by rw [size_madeCells, Nat.mul_comm]) (fun i hi => ?_)
  rw [made_at (by omega)]
  unfold frC
  by_cases e : i % 2 = 0
  · rw [if_pos e]; show some (#[Value.bool false, .int .u32 0][i % 2]!) = _; rw [e]; rfl
  · rw [if_neg e]; show some (#[Value.bool false, .int .u32 0][i % 2]!) = _; rw [show i % 2 = 1 from by omega]; rfl
set_option maxRecDepth 100000 in
set_option maxHeartbeats 2000000 in
theorem lnew_yes (n k near kept : Nat) (w : World) (hn : 1 ≤ n ∧ n ≤ 65535) (hk : 1 ≤ k ∧ k ≤ 8) (hr : near ≤ 1000000) (hp : kept ≤ 65535) : Calls Try.prog 5 #[.int .i64 n, .int .i64 k, .int .i64 near, .int .i64 kept] w fun e w' => ∃ lb fb mb q1 q2 q3 q4 FC F4, e = .returned (.tuple #[.pointer (some ⟨lb, 0, none⟩), .int .i64 0]) ∧ LM w' lb (newS n k near kept) fb mb q1 q2 q3 q4 0 FC F4 ∧ (∀ i, LF lb fb mb FC F4 i → w.heap.size ≤ i) ∧ Fr NoF w w' := by
  obtain ⟨i0, hi0, hz0, hz1, hz2⟩ := info_parts' (P := Try.prog) (e := 82) (z := .agg #[.bool false, .int .u32 0]) (s := 2) (b := 8) (by kernel_rfl)
  have mk1 : ∀ (w : World), (Instr.makeSlice 44 (.int .i64 (n : Int)) (.int .i64 (n : Int))).run Try.prog w =
      .ok (.slice (some ⟨w.heap.size, 0, none⟩) n n) (w.alloc (.cells (madeCells #[.bool false, .int .u32 0] (n * 2)) 82)) := by
    intro w
    have := run_make (P := Try.prog) w 44 82 i0 _ Try.underlying44 hi0 hz0 .i64 .i64 (n : Int) (n : Int) (by omega) (Int.le_refl _) (by rw [hz2]; omega) (by omega)
    rw [show (n : Int).toNat = n from by omega, hz1] at this
    exact this
  have hmm := @run_makeMap Try.prog
  have g1 : decide ((n : Int) < 1) = false := by simp; omega
  have g2 : decide (65535 < (n : Int)) = false := by simp; omega
  have g3 : decide ((k : Int) < 1) = false := by simp; omega
  have g4 : decide (8 < (k : Int)) = false := by simp; omega
  have g5 : decide ((near : Int) < 0) = false := by simp
  have g6 : decide (1000000 < (near : Int)) = false := by simp; omega
  have g7 : decide ((kept : Int) < 0) = false := by simp
  have g8 : decide (65535 < (kept : Int)) = false := by simp; omega
  clear hi0 hz0 hz1 hz2
  have HNN := Lib.hid (And.intro hn hk)
  have HRP := Lib.hid (And.intro hr hp)
  clear hn hk hr hp
  go_enter Try.func5, Try.ntmps5
  go_upto_region 6 with fail
  clear g1 g2 g3 g4 g5 g6 g7 g8
  go_region_held3 (fun w' => True)
    (trivial)
    (first
    | (go_at_call 12; (refine (noCandidates_calls _).mono ?_); rintro e wK ⟨q1, q2, q3, rfl, k1, k2, k3, b1, b2, b3, fK⟩; have K1 := Lib.hid k1; have K2 := Lib.hid k2; have K3 := Lib.hid k3; have B1 := Lib.hid b1; have B2 := Lib.hid b2; have B3 := Lib.hid b3; have FK := Lib.hid fK; clear k1 k2 k3 b1 b2 b3 fK)
    | (go_at_call 13; (refine (qk_new2 _).mono ?_); rintro e wQ ⟨q4, hq4, rfl, k4, fQ⟩; have K4 := Lib.hid k4; have FQ := Lib.hid fQ; have HQ4 := Lib.hid hq4; clear k4 fQ hq4))
  all_goals
    (go_wp2_with fail
     go_returns
     have a1 := B1.out
     have a2 := B2.out
     have a3 := B3.out
     have a4 := K3.out.lt _ rfl
     have a5 := K4.out.lt _ rfl
     have a6 := FK.out.size
     have a7 := FQ.out.size
     have a8 := HQ4.out
     (try simp at a1)
     (try simp at a5)
     (try simp at a6)
     (try simp at a7)
     (try simp at a8)
     refine lnew_fin rfl (by first | rfl | simp) HNN.out.1 HNN.out.2 HRP.out.1 HRP.out.2
       (by repeat (first | ((with_reducible refine frC_made ?_); first | rfl | simp) | (with_reducible refine Blk.alloc ?_ _) | (with_reducible refine Blk.drew ?_) | (with_reducible refine Blk.fr ?_ FQ.out (fun q => q)) | (with_reducible refine Blk.fr ?_ FK.out (fun q => q))))
       (by repeat (first | ((with_reducible refine mpv_new ?_); first | rfl | simp) | (with_reducible refine MpV.alloc ?_ _) | (with_reducible refine mpv_drew ?_) | (with_reducible refine MpV.fr ?_ FQ.out (fun q => q)) | (with_reducible refine MpV.fr ?_ FK.out (fun q => q))))
       (QK.fr0 K1.out (by repeat (first | (with_reducible exact Fr.refl NoF _) | (with_reducible refine Fr.alloc ?_ _) | (with_reducible refine Fr.drew ?_) | (with_reducible refine fr_no ?_ FQ.out))))
       (QK.fr0 K2.out (by repeat (first | (with_reducible exact Fr.refl NoF _) | (with_reducible refine Fr.alloc ?_ _) | (with_reducible refine Fr.drew ?_) | (with_reducible refine fr_no ?_ FQ.out))))
       (QK.fr0 K3.out (by repeat (first | (with_reducible exact Fr.refl NoF _) | (with_reducible refine Fr.alloc ?_ _) | (with_reducible refine Fr.drew ?_) | (with_reducible refine fr_no ?_ FQ.out))))
       (QK.fr0 K4.out (by repeat (first | (with_reducible exact Fr.refl NoF _) | (with_reducible refine Fr.alloc ?_ _) | (with_reducible refine Fr.drew ?_))))
       (by repeat (first | (with_reducible exact Fr.refl NoF _) | (with_reducible refine Fr.alloc ?_ _) | (with_reducible refine Fr.drew ?_) | (with_reducible refine fr_no ?_ FQ.out) | (with_reducible refine fr_no ?_ FK.out)))
       (by first | omega | (simp; omega)) (by first | omega | (simp; omega)))
end
end Go.Proofs.Ytbnckhkamebibaa
namespace Go.Proofs.Ytbnckhkamebibaa
open Go.RowKit Go.Maps
set_option linter.unusedVariables false

/-- What New may be told. -/
def goodL (a0 a1 a2 a3 : Int) : Prop := 1 ≤ a0 ∧ a0 ≤ 65535 ∧ 1 ≤ a1 ∧ a1 ≤ 8 ∧ 0 ≤ a2 ∧ a2 ≤ 1000000 ∧ 0 ≤ a3 ∧ a3 ≤ 65535
theorem lnew_no (a0 a1 a2 a3 : Int) (w : World) (h : ¬ goodL a0 a1 a2 a3) : Calls Try.prog 5 #[.int .i64 a0, .int .i64 a1, .int .i64 a2, .int .i64 a3] w fun e w' => e = .returned (.tuple #[.pointer none, .int .i64 1]) ∧ w = w' := by
  unfold goodL at h
  by_cases la0 : a0 < 1
  · clear h
    go_enter Try.func5, Try.ntmps5
    go_wp2
    go_returns
    exact ⟨rfl, rfl⟩
  by_cases ua0 : 65535 < a0
  · clear h
    have da0 : decide (a0 < 1) = false := by simp; omega
    go_enter Try.func5, Try.ntmps5
    go_wp2
    go_returns
    exact ⟨rfl, rfl⟩
  by_cases la1 : a1 < 1
  · clear h
    have da0 : decide (a0 < 1) = false := by simp; omega
    have ea0 : decide (65535 < a0) = false := by simp; omega
    go_enter Try.func5, Try.ntmps5
    go_wp2
    go_returns
    exact ⟨rfl, rfl⟩
  by_cases ua1 : 8 < a1
  · clear h
    have da0 : decide (a0 < 1) = false := by simp; omega
    have ea0 : decide (65535 < a0) = false := by simp; omega
    have da1 : decide (a1 < 1) = false := by simp; omega
    go_enter Try.func5, Try.ntmps5
    go_wp2
    go_returns
    exact ⟨rfl, rfl⟩
  by_cases la2 : a2 < 0
  · clear h
    have da0 : decide (a0 < 1) = false := by simp; omega
    have ea0 : decide (65535 < a0) = false := by simp; omega
    have da1 : decide (a1 < 1) = false := by simp; omega
    have ea1 : decide (8 < a1) = false := by simp; omega
    go_enter Try.func5, Try.ntmps5
    go_wp2
    go_returns
    exact ⟨rfl, rfl⟩
  by_cases ua2 : 1000000 < a2
  · clear h
    have da0 : decide (a0 < 1) = false := by simp; omega
    have ea0 : decide (65535 < a0) = false := by simp; omega
    have da1 : decide (a1 < 1) = false := by simp; omega
    have ea1 : decide (8 < a1) = false := by simp; omega
    have da2 : decide (a2 < 0) = false := by simp; omega
    go_enter Try.func5, Try.ntmps5
    go_wp2
    go_returns
    exact ⟨rfl, rfl⟩
  by_cases la3 : a3 < 0
  · clear h
    have da0 : decide (a0 < 1) = false := by simp; omega
    have ea0 : decide (65535 < a0) = false := by simp; omega
    have da1 : decide (a1 < 1) = false := by simp; omega
    have ea1 : decide (8 < a1) = false := by simp; omega
    have da2 : decide (a2 < 0) = false := by simp; omega
    have ea2 : decide (1000000 < a2) = false := by simp; omega
    go_enter Try.func5, Try.ntmps5
    go_wp2
    go_returns
    exact ⟨rfl, rfl⟩
  by_cases ua3 : 65535 < a3
  · clear h
    have da0 : decide (a0 < 1) = false := by simp; omega
    have ea0 : decide (65535 < a0) = false := by simp; omega
    have da1 : decide (a1 < 1) = false := by simp; omega
    have ea1 : decide (8 < a1) = false := by simp; omega
    have da2 : decide (a2 < 0) = false := by simp; omega
    have ea2 : decide (1000000 < a2) = false := by simp; omega
    have da3 : decide (a3 < 0) = false := by simp; omega
    go_enter Try.func5, Try.ntmps5
    go_wp2
    go_returns
    exact ⟨rfl, rfl⟩
  exact (h (by omega)).elim
/-- An LRUK in memory: F: all its blocks. -/
def CRL (w : World) (lb : Nat) (S : LK) (F : Nat → Prop) : Prop := ∃ fb mb q1 q2 q3 q4 ne FC F4, LM w lb S fb mb q1 q2 q3 q4 ne FC F4 ∧ ∀ i, F i ↔ LF lb fb mb FC F4 i
section
variable {w w' : World} {lb : Nat} {S : LK} {F : Nat → Prop}
theorem CRL.fr (h : CRL w lb S F) {G : Nat → Prop} (f : Fr G w w') (g : ∀ i, F i → ¬ G i) : CRL w' lb S F := by
  obtain ⟨fb, mb, q1, q2, q3, q4, ne, FC, F4, h, hF⟩ := h
  exact ⟨fb, mb, q1, q2, q3, q4, ne, FC, F4, h.fr f (fun i q => g i ((hF i).2 q)), hF⟩
theorem CRL.lt (h : CRL w lb S F) : ∀ i, F i → i < w.heap.size := by
  obtain ⟨fb, mb, q1, q2, q3, q4, ne, FC, F4, h, hF⟩ := h
  exact fun i q => h.lt i ((hF i).1 q)
theorem LF.grown {lb fb mb : Nat} {FC F4 FC' F4' : Nat → Prop} (h1 : ∀ i, FC' i → FC i ∨ w.heap.size ≤ i) (h2 : ∀ i, F4' i → F4 i ∨ w.heap.size ≤ i) : ∀ i, LF lb fb mb FC' F4' i → LF lb fb mb FC F4 i ∨ w.heap.size ≤ i := by
  intro i q
  rcases q with q | q | q | q | q
  · exact .inl (.inl q)
  · exact .inl (.inr (.inl q))
  · exact .inl (.inr (.inr (.inl q)))
  · exact (h1 i q).elim (fun z => .inl (.inr (.inr (.inr (.inl z))))) .inr
  · exact (h2 i q).elim (fun z => .inl (.inr (.inr (.inr (.inr z))))) .inr
theorem crl_access (h : CRL w lb S F) {at' page : Nat} (ha : at' < S.n) (hp : okN page) (hT : S.T < 900000) : Calls Try.prog 15 #[.pointer (some ⟨lb, 0, none⟩), .int .i64 at', .int .u32 page] w fun e w' => e = .returned (.tuple #[]) ∧ ∃ F', CRL w' lb (accS S at' page) F' ∧ Fr F w w' ∧ ∀ i, F' i → F i ∨ w.heap.size ≤ i := by
  obtain ⟨fb, mb, q1, q2, q3, q4, ne, FC, F4, h, hF⟩ := h
  refine (access_calls h ha hp hT).mono ?_
  rintro e w' ⟨he, ne', FC', F4', h', f, g1, g2⟩
  exact ⟨he, LF lb fb mb FC' F4', ⟨fb, mb, q1, q2, q3, q4, ne', FC', F4', h', fun i => Iff.rfl⟩, f.mono (fun i q => (hF i).2 q), fun i q => (LF.grown g1 g2 i q).elim (fun z => .inl ((hF i).2 z)) .inr⟩
theorem crl_set (h : CRL w lb S F) {at' : Nat} (ha : at' < S.n) (hfu : (S.fr at').1 = true) (hT : S.T < 1000000) (on : Bool) : Calls Try.prog 16 #[.pointer (some ⟨lb, 0, none⟩), .int .i64 at', .bool on] w fun e w' => e = .returned (.tuple #[]) ∧ ∃ F', CRL w' lb (setS S at' on) F' ∧ Fr F w w' ∧ ∀ i, F' i → F i ∨ w.heap.size ≤ i := by
  obtain ⟨fb, mb, q1, q2, q3, q4, ne, FC, F4, h, hF⟩ := h
  refine (set_calls h ha hfu hT on).mono ?_
  rintro e w' ⟨he, FC', h', f, g1⟩
  exact ⟨he, LF lb fb mb FC' F4, ⟨fb, mb, q1, q2, q3, q4, ne, FC', F4, h', fun i => Iff.rfl⟩, f.mono (fun i q => (hF i).2 q), fun i q => (LF.grown g1 (fun i q => .inl q) i q).elim (fun z => .inl ((hF i).2 z)) .inr⟩
theorem crl_victim (h : CRL w lb S F) (h0 : 0 < S.t) (page : Int) (hT : S.T < 1000000) (hg : S.gone < 800000) (hdom : ∀ x, (S.R x).isSome = true → x < S.n ∧ oldK S.Old (S.fr x).2 = none) : Calls Try.prog 17 #[.pointer (some ⟨lb, 0, none⟩), .int .u32 page] w fun e w' => ∃ x : Nat, e = .returned (.tuple #[.int .i64 x, .bool true]) ∧ ∃ Fb F', Aged S.R S.Fa Fb ((S.T : Int) - S.near) ∧ LeastC S.R Fb x ∧ CRL w' lb (vicS S x Fb) F' ∧ Fr F w w' ∧ ∀ i, F' i → F i ∨ w.heap.size ≤ i := by
  obtain ⟨fb, mb, q1, q2, q3, q4, ne, FC, F4, h, hF⟩ := h
  refine (victim_yes h h0 page hT hg hdom).mono ?_
  rintro e w' ⟨x, he, Fb, ne', FC', F4', ha, hl, h', f, g1, g2⟩
  exact ⟨x, he, Fb, LF lb fb mb FC' F4', ha, hl, ⟨fb, mb, q1, q2, q3, q4, ne', FC', F4', h', fun i => Iff.rfl⟩, f.mono (fun i q => (hF i).2 q), fun i q => (LF.grown g1 g2 i q).elim (fun z => .inl ((hF i).2 z)) .inr⟩
theorem crl_size (h : CRL w lb S F) : Calls Try.prog 19 #[.pointer (some ⟨lb, 0, none⟩)] w fun e w' => e = .returned (.int .i64 (S.t : Nat)) ∧ Fr NoF w w' := by
  obtain ⟨fb, mb, q1, q2, q3, q4, ne, FC, F4, h, hF⟩ := h
  exact lsize_calls h
theorem crl_ghosts (h : CRL w lb S F) (hg : S.gone < 800000) : Calls Try.prog 18 #[.pointer (some ⟨lb, 0, none⟩)] w fun e w' => ∃ v, e = .returned v ∧ SlK .u32 w' v (S.Old.map (·.1)) ∧ (∀ i, v.ownBlock = some i → w.heap.size ≤ i) ∧ Fr NoF w w' := by
  obtain ⟨fb, mb, q1, q2, q3, q4, ne, FC, F4, h, hF⟩ := h
  exact lghosts_calls h hg
theorem crl_new (n k near kept : Nat) (w : World) (hn : 1 ≤ n ∧ n ≤ 65535) (hk : 1 ≤ k ∧ k ≤ 8) (hr : near ≤ 1000000) (hp : kept ≤ 65535) : Calls Try.prog 5 #[.int .i64 n, .int .i64 k, .int .i64 near, .int .i64 kept] w fun e w' => ∃ lb F, e = .returned (.tuple #[.pointer (some ⟨lb, 0, none⟩), .int .i64 0]) ∧ CRL w' lb (newS n k near kept) F ∧ (∀ i, F i → w.heap.size ≤ i) ∧ Fr NoF w w' := by
  refine (lnew_yes n k near kept w hn hk hr hp).mono ?_
  rintro e w' ⟨lb, fb, mb, q1, q2, q3, q4, FC, F4, he, h, g, f⟩
  exact ⟨lb, LF lb fb mb FC F4, he, ⟨fb, mb, q1, q2, q3, q4, 0, FC, F4, h, fun i => Iff.rfl⟩, g, f⟩
/-- One of the call's own. -/
def TL (w0 w : World) (lb : Nat) (S : LK) : Prop := ∃ F, CRL w lb S F ∧ (∀ i, F i → w0.heap.size ≤ i) ∧ Fr NoF w0 w
variable {w0 : World}
theorem TL.alive (h : TL w0 w lb S) : lb < w.heap.size := by
  obtain ⟨F, ⟨fb, mb, q1, q2, q3, q4, ne, FC, F4, h, hF⟩, _⟩ := h
  exact h.blk.lt
theorem TL.fr0 (h : TL w0 w lb S) (f : Fr NoF w w') : TL w0 w' lb S := by
  obtain ⟨F, h, g, f0⟩ := h
  exact ⟨F, h.fr f (fun _ _ q => q), g, f0.trans f (fun _ q => q.elim)⟩
theorem TL.step {S' : LK} (h : TL w0 w lb S) {F F' : Nat → Prop} (g : ∀ i, F i → w0.heap.size ≤ i) (f0 : Fr NoF w0 w) (h' : CRL w' lb S' F') (f : Fr F w w') (g' : ∀ i, F' i → F i ∨ w.heap.size ≤ i) : TL w0 w' lb S' :=
  ⟨F', h', fun i q => (g' i q).elim (g i) (fun z => Nat.le_trans f0.size z), f0.trans f (fun i q => .inr (g i q))⟩
theorem TL.access (h : TL w0 w lb S) {at' page : Nat} (ha : at' < S.n) (hp : okN page) (hT : S.T < 900000) : Calls Try.prog 15 #[.pointer (some ⟨lb, 0, none⟩), .int .i64 at', .int .u32 page] w fun e w' => e = .returned (.tuple #[]) ∧ TL w0 w' lb (accS S at' page) := by
  have h0 := h
  obtain ⟨F, h, g, f0⟩ := h
  exact (crl_access h ha hp hT).mono fun e w' ⟨he, F', h', f, g'⟩ => ⟨he, h0.step g f0 h' f g'⟩
theorem TL.set (h : TL w0 w lb S) {at' : Nat} (ha : at' < S.n) (hfu : (S.fr at').1 = true) (hT : S.T < 1000000) (on : Bool) : Calls Try.prog 16 #[.pointer (some ⟨lb, 0, none⟩), .int .i64 at', .bool on] w fun e w' => e = .returned (.tuple #[]) ∧ TL w0 w' lb (setS S at' on) := by
  have h0 := h
  obtain ⟨F, h, g, f0⟩ := h
  exact (crl_set h ha hfu hT on).mono fun e w' ⟨he, F', h', f, g'⟩ => ⟨he, h0.step g f0 h' f g'⟩
theorem TL.victim (h : TL w0 w lb S) (p0 : 0 < S.t) (page : Int) (hT : S.T < 1000000) (hg : S.gone < 800000) (hdom : ∀ x, (S.R x).isSome = true → x < S.n ∧ oldK S.Old (S.fr x).2 = none) : Calls Try.prog 17 #[.pointer (some ⟨lb, 0, none⟩), .int .u32 page] w fun e w' => ∃ x : Nat, e = .returned (.tuple #[.int .i64 x, .bool true]) ∧ ∃ Fb, Aged S.R S.Fa Fb ((S.T : Int) - S.near) ∧ LeastC S.R Fb x ∧ TL w0 w' lb (vicS S x Fb) := by
  have h0 := h
  obtain ⟨F, h, g, f0⟩ := h
  exact (crl_victim h p0 page hT hg hdom).mono fun e w' ⟨x, he, Fb, F', ha, hl, h', f, g'⟩ => ⟨x, he, Fb, ha, hl, h0.step g f0 h' f g'⟩
theorem TL.size (h : TL w0 w lb S) : Calls Try.prog 19 #[.pointer (some ⟨lb, 0, none⟩)] w fun e w' => e = .returned (.int .i64 (S.t : Nat)) ∧ Fr NoF w w' := by
  obtain ⟨F, h, g, f0⟩ := h
  exact crl_size h
theorem TL.ghosts (h : TL w0 w lb S) (hg : S.gone < 800000) : Calls Try.prog 18 #[.pointer (some ⟨lb, 0, none⟩)] w fun e w' => ∃ v, e = .returned v ∧ SlK .u32 w' v (S.Old.map (·.1)) ∧ (∀ i, v.ownBlock = some i → w.heap.size ≤ i) ∧ Fr NoF w w' := by
  obtain ⟨F, h, g, f0⟩ := h
  exact crl_ghosts h hg
end
end Go.Proofs.Ytbnckhkamebibaa
namespace Go.Proofs.Ytbnckhkamebibaa
open Go.RowKit Go.Maps
set_option linter.unusedVariables false

section
variable {w w' : World} {lb fb mb q1 q2 q3 q4 ne : Nat} {S : LK} {FC F4 : Nat → Prop}
set_option maxRecDepth 100000 in
set_option maxHeartbeats 4000000 in
theorem remove_calls (h : LM w lb S fb mb q1 q2 q3 q4 ne FC F4) {at' : Nat} (ha : at' < S.n) (hfu : (S.fr at').1 = true) : Calls Try.prog 104 #[.pointer (some ⟨lb, 0, none⟩), .int .i64 at'] w fun e w' => e = .returned (.tuple #[]) ∧ ∃ ne', LM w' lb (remvS S at') fb mb q1 q2 q3 q4 ne' FC F4 ∧ Fr (LF lb fb mb FC F4) w w' := by
  have HI := Lib.hid (has_calls h ha)
  rw [hfu] at HI
  have HE := Lib.hid (empty_calls h ha)
  have HA : Hid (at' < S.n) := ha
  have lt := h.blk.lt
  obtain ⟨PG, hPG⟩ : ∃ PG, PG = (S.fr at').2 := ⟨_, rfl⟩
  have hpk : okN PG := by rw [hPG]; exact h.ok.fr at'
  have hwf := okN_wf hpk
  have HPG := Lib.hid hPG
  have ha1 : (at' : Int) < S.n := by omega
  have ha0 : 0 ≤ (at' : Int) := by omega
  clear h hfu ha hPG hpk
  go_enter Try.func104, Try.ntmps104
  go_wp2_with fail
  refine HI.out.mono ?_
  rintro e w1 ⟨rfl, rfl⟩
  go_wp2_with fail
  refine HE.out.mono ?_
  rintro e w2 ⟨rfl, h2, f2⟩
  have c4 : w2.cell? ⟨lb, 4, none⟩ = some (.slice (some ⟨fb, 0, none⟩) S.n S.n) := h2.ce 4 (by omega)
  have c5 : w2.cell? ⟨lb, 5, none⟩ = some (.map (some mb)) := h2.ce 5 (by omega)
  have pgc : w2.cell? ⟨fb, at' * 2 + 1, none⟩ = some (.int .u32 (PG : Nat)) := by
    have := h2.page (at' := at') HA.out
    rw [show ((updF S.fr at' (false, (S.fr at').2)) at').2 = (S.fr at').2 from by rw [updF_same], ← HPG.out] at this
    exact this
  have lt := h2.blk.lt
  have lf := h2.frs.lt
  have hd := h2.fr0 ((Fr.refl NoF w2).drew)
  have HD := Lib.hid hd
  have HF2 := Lib.hid f2
  clear h2 f2 hd HI HE
  go_wp2_with fail
  go_still_tail 12, (by kernel_rfl)
  change wpList _ _ _ _ _ w2.drew
  generalize hwd : w2.drew = wD at *
  have HWD := Lib.hid hwd
  clear hwd
  go_wp2_with (at_delete; go_must (refine wp_delV MVp HD.out.mp rfl _ _ rfl (by rfl) (by rfl) hwf ?_); intro w6 m1 m2; have KK := Lib.hid (HD.out.forget m1 m2); have KF := Lib.hid m2; clear m1 m2)
  go_returns
  have f3 : Fr (LF lb fb mb FC F4) w wD := by
    rw [← HWD.out]
    exact (HF2.out.mono (fun i q => by
      rcases q with q | q
      · exact .inr (.inl q)
      · exact .inr (.inr (.inr (.inl q))))).drew
  have hk := KK.out
  have er : remvS S at' = { S with fr := updF S.fr at' (false, (S.fr at').2), R := updK S.R at' none, t := lessN S.t (S.R at').isSome, P := updO S.P PG none } := by unfold remvS; rw [← HPG.out]
  rw [er]
  exact ⟨rfl, ⟨_, hk⟩, f3.trans KF.out (fun i q => .inl (.inr (.inr (.inl q))))⟩
theorem crl_remove {F : Nat → Prop} (h : CRL w lb S F) {at' : Nat} (ha : at' < S.n) (hfu : (S.fr at').1 = true) : Calls Try.prog 104 #[.pointer (some ⟨lb, 0, none⟩), .int .i64 at'] w fun e w' => e = .returned (.tuple #[]) ∧ ∃ F', CRL w' lb (remvS S at') F' ∧ Fr F w w' ∧ ∀ i, F' i → F i ∨ w.heap.size ≤ i := by
  obtain ⟨fb, mb, q1, q2, q3, q4, ne, FC, F4, h, hF⟩ := h
  refine (remove_calls h ha hfu).mono ?_
  rintro e w' ⟨he, ne', h', f⟩
  exact ⟨he, F, ⟨fb, mb, q1, q2, q3, q4, ne', FC, F4, h', hF⟩, f.mono (fun i q => (hF i).2 q), fun i q => .inl q⟩
theorem crl_victim_no {F : Nat → Prop} (h : CRL w lb S F) (h0 : S.t = 0) (page : Int) : Calls Try.prog 17 #[.pointer (some ⟨lb, 0, none⟩), .int .u32 page] w fun e w' => e = .returned (.tuple #[.int .i64 0, .bool false]) ∧ Fr NoF w w' := by
  obtain ⟨fb, mb, q1, q2, q3, q4, ne, FC, F4, h, hF⟩ := h
  exact victim_no h h0 page
end
end Go.Proofs.Ytbnckhkamebibaa
namespace Go.Proofs.Ytbnckhkamebibaa
open Go.RowKit
set_option linter.unusedVariables false

/-- A call, and what is seen behind it. -/
structure Cl where
  kind : Nat
  frame : Nat
  page : Nat
  on : Bool
  want : Int
  size : Nat
  ghosts : List Nat

/-- A policy, as functions. -/
structure Pol (σ : Type) where
  miss : σ → Nat → σ
  access : σ → Nat → Nat → σ
  set : σ → Nat → Bool → σ
  victim : σ → Nat → Option Nat
  gone : σ → Nat → σ
  remove : σ → Nat → σ
  size : σ → Nat
  ghosts : σ → List Nat

/-- The least place of a number at or behind place k; -1: there is none. -/
def fromL (fr : List Nat) (x k : Nat) : Int := match (fr.drop k).findIdx? (fun y => decide (y = x)) with
  | none => -1
  | some j => (k + j : Nat)
def atL (fr : List Nat) (x : Nat) : Option Nat := fr.findIdx? (fun y => decide (y = x))
theorem fromL_zero (fr : List Nat) (x : Nat) : fromL fr x 0 = match atL fr x with | none => -1 | some j => (j : Int) := by
  unfold fromL atL
  rw [List.drop_zero]
  cases fr.findIdx? (fun y => decide (y = x)) <;> simp
theorem fromL_end (fr : List Nat) (x : Nat) : fromL fr x fr.length = -1 := by simp [fromL]
theorem fromL_step (fr : List Nat) (x k : Nat) (hk : k < fr.length) : fromL fr x k = if fr[k] = x then (k : Int) else fromL fr x (k + 1) := by
  unfold fromL
  rw [List.drop_eq_getElem_cons hk, List.findIdx?_cons]
  by_cases h : fr[k] = x
  · simp [h]
  · simp only [decide_eq_true_eq, h, if_false]
    cases (fr.drop (k + 1)).findIdx? (fun y => decide (y = x)) with
    | none => rfl
    | some j => simp; omega
theorem atL_some {fr : List Nat} {x a : Nat} (h : atL fr x = some a) : a < fr.length ∧ fr[a]? = some x := by
  obtain ⟨h1, h2, _⟩ := List.findIdx?_eq_some_iff_getElem.1 h
  exact ⟨h1, by rw [List.getElem?_eq_getElem h1]; simpa using h2⟩
theorem atL_none {fr : List Nat} {x : Nat} (h : atL fr x = none) : ¬ x ∈ fr := by
  intro hm
  have := List.findIdx?_eq_none_iff.1 h x hm
  simp at this

section
variable {σ : Type} (P : Pol σ)
def Pol.see (s : σ) (c : Cl) : Cl := { c with size := P.size s, ghosts := P.ghosts s }
def clMiss (id : Nat) : Cl := ⟨0, 0, id, false, 0, 0, []⟩
def clAcc (a id : Nat) : Cl := ⟨1, a, id, false, 0, 0, []⟩
def clSet (a : Nat) (v : Bool) : Cl := ⟨2, a, 0, v, 0, 0, []⟩
def clVic (id : Nat) (w : Int) : Cl := ⟨3, 0, id, false, w, 0, []⟩
def clRem (a : Nat) : Cl := ⟨4, a, 0, false, 0, 0, []⟩
/-- A page comes to a frame. -/
def Pol.come (s : σ) (fr : List Nat) (a id : Nat) (pre : List Cl) : σ × List Nat × List Cl :=
  let s1 := P.access s a id
  let s2 := P.set s1 a true
  (s2, fr.set a id, pre ++ [P.see s1 (clAcc a id), P.see s2 (clSet a true)])
/-- One thing that happens: the state, the frames, the calls. -/
def Pol.step (s : σ) (fr : List Nat) (k id : Nat) : σ × List Nat × List Cl :=
  if k = 0 then
    match atL fr id with
    | some a => (P.access s a id, fr, [P.see (P.access s a id) (clAcc a id)])
    | none =>
      let s1 := P.miss s id
      match atL fr 0 with
      | some a => P.come s1 fr a id [P.see s1 (clMiss id)]
      | none =>
        match P.victim s1 id with
        | none => (s1, fr, [P.see s1 (clMiss id), P.see s1 (clVic id (-1))])
        | some a => P.come (P.gone s1 id) fr a id [P.see s1 (clMiss id), P.see (P.gone s1 id) (clVic id a)]
  else
    match atL fr id with
    | none => (s, fr, [])
    | some a =>
      if k = 3 then (P.remove s a, fr.set a 0, [P.see (P.remove s a) (clRem a)])
      else (P.set s a (!decide (k = 1)), fr, [P.see (P.set s a (!decide (k = 1))) (clSet a (!decide (k = 1)))])
/-- All that happens. -/
def Pol.run : σ → List Nat → List (Nat × Nat) → σ × List Nat × List Cl
  | s, fr, [] => (s, fr, [])
  | s, fr, (k, id) :: r =>
    let x := P.step s fr k id
    let y := Pol.run x.1 x.2.1 r
    (y.1, y.2.1, x.2.2 ++ y.2.2)
theorem Pol.run_snoc (s : σ) (fr : List Nat) (l : List (Nat × Nat)) (o : Nat × Nat) :
    P.run s fr (l ++ [o]) = ((P.step (P.run s fr l).1 (P.run s fr l).2.1 o.1 o.2).1, (P.step (P.run s fr l).1 (P.run s fr l).2.1 o.1 o.2).2.1, (P.run s fr l).2.2 ++ (P.step (P.run s fr l).1 (P.run s fr l).2.1 o.1 o.2).2.2) := by
  induction l generalizing s fr with
  | nil => simp [Pol.run]
  | cons a l ih =>
    obtain ⟨k, id⟩ := a
    simp only [List.cons_append, Pol.run, ih, List.append_assoc]
theorem Pol.step_len (s : σ) (fr : List Nat) (k id : Nat) : (P.step s fr k id).2.2.length ≤ 4 := by
  unfold Pol.step Pol.come
  split
  · split
    · simp
    · simp only; split
      · simp
      · split <;> simp
  · split
    · simp
    · split <;> simp
theorem Pol.run_len (s : σ) (fr : List Nat) (l : List (Nat × Nat)) : (P.run s fr l).2.2.length ≤ 4 * l.length := by
  induction l generalizing s fr with
  | nil => simp [Pol.run]
  | cons a l ih =>
    obtain ⟨k, id⟩ := a
    have := P.step_len s fr k id
    have := ih (P.step s fr k id).1 (P.step s fr k id).2.1
    simp only [Pol.run, List.length_append, List.length_cons]
    omega
end

/-! ### Calls as cells -/
def clCells (c : Cl) (g : Value) : List Value := [.int .i64 c.kind, .int .i64 c.frame, .int .u32 c.page, .bool c.on, .int .i64 c.want, .int .i64 c.size, g]
def flatC : List Cl → List Value → List Value
  | c :: cs, g :: gs => clCells c g ++ flatC cs gs
  | _, _ => []
theorem flatC_snoc : ∀ {cs : List Cl} {gs : List Value} (c : Cl) (g : Value), gs.length = cs.length → flatC (cs ++ [c]) (gs ++ [g]) = flatC cs gs ++ clCells c g
  | [], [], c, g, _ => by simp [flatC]
  | a :: cs, b :: gs, c, g, h => by
    have := flatC_snoc (cs := cs) (gs := gs) c g (by simpa using h)
    simp only [List.cons_append, flatC, this, List.append_assoc]
theorem flatC_get : ∀ {cs : List Cl} {gs : List Value} {i j : Nat} {c : Cl} {g : Value}, cs[i]? = some c → gs[i]? = some g → j < 7 → (flatC cs gs)[i * 7 + j]? = (clCells c g)[j]?
  | a :: cs, b :: gs, 0, j, c, g, h1, h2, hj => by
    simp at h1 h2
    subst h1 h2
    simp only [flatC, Nat.zero_mul, Nat.zero_add]
    rw [List.getElem?_append_left (by simp [clCells]; omega)]
  | a :: cs, b :: gs, i + 1, j, c, g, h1, h2, hj => by
    simp at h1 h2
    have := flatC_get (i := i) (j := j) h1 h2 hj
    simp only [flatC]
    rw [List.getElem?_append_right (by simp [clCells]; omega)]
    rw [← this]
    congr 1
    simp [clCells]; omega
  | [], _, _, _, _, _, h, _, _ => by simp at h
  | _ :: _, [], _, _, _, _, _, h, _ => by simp at h
theorem flatC_one {cs : List Cl} {gs : List Value} (hg : ∀ g ∈ gs, g.oneCell' = true) : ∀ u ∈ flatC cs gs, u.oneCell' = true := by
  induction cs generalizing gs with
  | nil => intro u hu; simp [flatC] at hu
  | cons c cs ih =>
    cases gs with
    | nil => intro u hu; simp [flatC] at hu
    | cons g gs =>
      intro u hu
      simp only [flatC, List.mem_append] at hu
      rcases hu with hu | hu
      · simp only [clCells, List.mem_cons, List.not_mem_nil, or_false] at hu
        rcases hu with rfl | rfl | rfl | rfl | rfl | rfl | rfl
        all_goals first | rfl | exact hg _ (List.mem_cons_self ..)
      · exact ih (fun g' h' => hg g' (List.mem_cons_of_mem _ h')) u hu
theorem set_same' {fr : List Nat} {a x : Nat} (h : fr[a]? = some x) : fr.set a x = fr := by
  apply List.ext_getElem?
  intro i
  rw [List.getElem?_set]
  by_cases e : a = i
  · subst e; rw [if_pos rfl, if_pos (List.getElem?_eq_some_iff.1 h).1, h]
  · rw [if_neg e]
end Go.Proofs.Ytbnckhkamebibaa
namespace Go.Proofs.Ytbnckhkamebibaa
open Go.RowKit
set_option linter.unusedVariables false

theorem EIc : EI Try.prog 30 38 7 64 := EI.mk' (z := .agg #[.int .i64 0, .int .i64 0, .int .u32 0, .bool false, .int .i64 0, .int .i64 0, .slice none 0 0]) Try.underlying30 (by kernel_rfl) rfl (by decide)

def uF (fr : List Nat) (i : Nat) : Value := .int .u32 (fr.getD i 0 : Nat)
theorem uF_set {fr : List Nat} {a id : Nat} (ha : a < fr.length) : upd (uF fr) a (.int .u32 id) = uF (fr.set a id) := by
  funext j
  by_cases e : j = a
  · subst e; rw [upd_same]; simp [uF, ha]
  · rw [upd_other _ _ e]; simp [uF, show ¬ a = j from fun q => e q.symm]
abbrev PRel (σ : Type) := World → σ → (Nat → Prop) → (Nat → Prop) → Prop
/-- What may be said of a policy in memory, whatever policy it is. -/
structure PFr {σ : Type} (PR : PRel σ) : Prop where
  fr : ∀ {w w' : World} {s : σ} {F D G : Nat → Prop}, PR w s F D → Fr G w w' → (∀ i, D i → ¬ G i) → PR w' s F D
  sub : ∀ {w : World} {s : σ} {F D : Nat → Prop}, PR w s F D → ∀ i, F i → D i
  lt : ∀ {w : World} {s : σ} {F D : Nat → Prop}, PR w s F D → ∀ i, D i → i < w.heap.size
/-- What a call of it leaves. -/
def Left {σ : Type} (PR : PRel σ) (w : World) (s' : σ) (F D : Nat → Prop) (w' : World) : Prop :=
  ∃ F' D', PR w' s' F' D' ∧ Fr F w w' ∧ (∀ i, F' i → F i ∨ w.heap.size ≤ i) ∧ (∀ i, D' i → D i ∨ w.heap.size ≤ i)

structure StR {σ : Type} (PR : PRel σ) (w0 : World) (F0 : Nat → Prop) (n fb hb : Nat) (w : World) (s : σ) (fr : List Nat) (cs : List Cl) (out : Value) (F D : Nat → Prop) (gs : List Value) (hd : Nat → Bool) : Prop where
  pr : PR w s F D
  bfb : Blk w fb n (uF fr)
  bhb : Blk w hb n (bF hd)
  frn : fr.length = n
  own : w.ownsRow w0.heap.size 38 7 out cs.length (flatC cs gs)
  gl : gs.length = cs.length
  gh : ∀ (i : Nat) (c : Cl) (g : Value), cs[i]? = some c → gs[i]? = some g → SlK .u32 w g c.ghosts ∧ ∀ b, g.ownBlock = some b → (¬ F b ∧ ¬ b = fb ∧ ¬ b = hb ∧ ¬ out.ownBlock = some b) ∧ (F0 b ∨ w0.heap.size ≤ b)
  df : ¬ D fb
  dh : ¬ D hb
  fh : ¬ fb = hb
  oo : ∀ b, out.ownBlock = some b → ¬ D b ∧ ¬ b = fb ∧ ¬ b = hb
  f0 : ∀ i, D i → F0 i ∨ w0.heap.size ≤ i
  nf : w0.heap.size ≤ fb
  nh : w0.heap.size ≤ hb
  ff : Fr F0 w0 w
def St {σ : Type} (PR : PRel σ) (w0 : World) (F0 : Nat → Prop) (n fb hb : Nat) (w : World) (s : σ) (fr : List Nat) (hd : Nat → Bool) (cs : List Cl) (out : Value) : Prop :=
  ∃ F D gs, StR PR w0 F0 n fb hb w s fr cs out F D gs hd
/-- .. with the ghosts that are yet to be laid down. -/
def StG {σ : Type} (PR : PRel σ) (w0 : World) (F0 : Nat → Prop) (n fb hb : Nat) (w : World) (s : σ) (fr : List Nat) (hd : Nat → Bool) (cs : List Cl) (out : Value) (gv : Value) (gh : List Nat) : Prop :=
  ∃ F D gs, StR PR w0 F0 n fb hb w s fr cs out F D gs hd ∧ SlK .u32 w gv gh ∧ ∀ b, gv.ownBlock = some b → (¬ F b ∧ ¬ b = fb ∧ ¬ b = hb ∧ ¬ out.ownBlock = some b) ∧ (F0 b ∨ w0.heap.size ≤ b)

section
variable {σ : Type} {PR : PRel σ} (hP : PFr PR) {w0 w w' : World} {F0 : Nat → Prop} {n fb hb : Nat} {s s' : σ} {fr : List Nat} {cs : List Cl} {out : Value} {F D : Nat → Prop} {gs : List Value} {hd : Nat → Bool}
include hP
theorem StR.keep (h : StR PR w0 F0 n fb hb w s fr cs out F D gs hd) (f : Fr NoF w w') : StR PR w0 F0 n fb hb w' s fr cs out F D gs hd :=
  ⟨hP.fr h.pr f (fun _ _ q => q), h.bfb.fr f id, h.bhb.fr f id, h.frn, own_keep h.own f (fun _ _ q => q), h.gl, fun i c g h1 h2 => ⟨(h.gh i c g h1 h2).1.keep f, (h.gh i c g h1 h2).2⟩, h.df, h.dh, h.fh, h.oo, h.f0, h.nf, h.nh, h.ff.trans f (fun _ q => q.elim)⟩
theorem St.keep (h : St PR w0 F0 n fb hb w s fr hd cs out) (f : Fr NoF w w') : St PR w0 F0 n fb hb w' s fr hd cs out := by
  obtain ⟨F, D, gs, h⟩ := h
  exact ⟨F, D, gs, h.keep hP f⟩
/-- A call of the policy. -/
theorem StR.op (h : StR PR w0 F0 n fb hb w s fr cs out F D gs hd) (hl : Left PR w s' F D w') : St PR w0 F0 n fb hb w' s' fr hd cs out := by
  obtain ⟨F', D', hp, hf, hF, hD⟩ := hl
  have hsub := hP.sub h.pr
  have nF : ∀ i, ¬ D i → ¬ F i := fun i hd hf => hd (hsub i hf)
  have old : ∀ b, b < w.heap.size → ¬ D b → ¬ D' b := fun b hb hd q => (hD b q).elim hd (fun e => by omega)
  have oldF : ∀ b, b < w.heap.size → ¬ F b → ¬ F' b := fun b hb hd q => (hF b q).elim hd (fun e => by omega)
  have hlo := (World.ownsRow.lt h.own)
  refine ⟨F', D', gs, hp, h.bfb.fr hf (nF _ h.df), h.bhb.fr hf (nF _ h.dh), h.frn, own_keep h.own hf (fun b hb => nF _ (h.oo b hb).1), h.gl, fun i c g h1 h2 => ?_, old _ h.bfb.lt h.df, old _ h.bhb.lt h.dh, h.fh, fun b hb => ⟨old b (hlo b hb).2 (h.oo b hb).1, (h.oo b hb).2⟩, ?_, h.nf, h.nh, h.ff.trans hf (fun i hi => h.f0 i (hsub i hi))⟩
  · obtain ⟨g1, g2⟩ := h.gh i c g h1 h2
    exact ⟨g1.fr hf (fun b hb => (g2 b hb).1.1), fun b hb => ⟨⟨oldF b (g1.lt b hb) (g2 b hb).1.1, (g2 b hb).1.2⟩, (g2 b hb).2⟩⟩
  · intro i hi
    rcases hD i hi with q | q
    · exact h.f0 i q
    · right; have := h.ff.size; omega
theorem St.calls {Pg : Program} {f : FuncId} {args : Array Value} {E : Ending → Prop} (h : St PR w0 F0 n fb hb w s fr hd cs out)
    (hc : ∀ F D, PR w s F D → Calls Pg f args w fun e w' => E e ∧ Left PR w s' F D w') : Calls Pg f args w fun e w' => E e ∧ St PR w0 F0 n fb hb w' s' fr hd cs out := by
  obtain ⟨F, D, gs, h⟩ := h
  exact (hc F D h.pr).mono fun e w' ⟨he, hl⟩ => ⟨he, h.op hP hl⟩
/-- What is seen. -/
theorem St.seen {Pg : Program} {f : FuncId} {args : Array Value} {E : Value → Ending → Prop} {gh : List Nat} (h : St PR w0 F0 n fb hb w s fr hd cs out)
    (hc : ∀ F D, PR w s F D → Calls Pg f args w fun e w' => ∃ gv, E gv e ∧ SlK .u32 w' gv gh ∧ (∀ b, gv.ownBlock = some b → (D b ∧ ¬ F b) ∨ w.heap.size ≤ b) ∧ Fr NoF w w') :
    Calls Pg f args w fun e w' => ∃ gv, E gv e ∧ StG PR w0 F0 n fb hb w' s fr hd cs out gv gh := by
  obtain ⟨F, D, gs, h⟩ := h
  refine (hc F D h.pr).mono fun e w' ⟨gv, he, hs, hb', hf⟩ => ⟨gv, he, F, D, gs, h.keep hP hf, hs, fun b hb => ?_⟩
  rcases hb' b hb with ⟨d1, d2⟩ | hn
  · exact ⟨⟨d2, fun e => h.df (e ▸ d1), fun e => h.dh (e ▸ d1), fun e => (h.oo b e).1 d1⟩, h.f0 b d1⟩
  · have l1 := h.bfb.lt
    have l2 := h.bhb.lt
    have l3 := (World.ownsRow.lt h.own)
    exact ⟨⟨fun q => by have := hP.lt h.pr b (hP.sub h.pr b q); omega, by omega, by omega, fun e => by have := (l3 b e).2; omega⟩, .inr (by have := h.ff.size; omega)⟩
theorem StG.keep {gv : Value} {gh : List Nat} (h : StG PR w0 F0 n fb hb w s fr hd cs out gv gh) (f : Fr NoF w w') : StG PR w0 F0 n fb hb w' s fr hd cs out gv gh := by
  obtain ⟨F, D, gs, h, hs, hb'⟩ := h
  exact ⟨F, D, gs, h.keep hP f, hs.keep f, hb'⟩
/-- A call is laid down behind the others. -/
theorem StG.append {gv : Value} {c : Cl} (h : StG PR w0 F0 n fb hb w s fr hd cs out gv c.ghosts) (hcl : cs.length < 1000000) {ops : Array Oper} {rest : List Oper} {o : Oper} {a : Act} {Q : Exit → Act → World → Prop} (hgd : o.guard = none) (so xo : Operand)
    (ho : o.op = .call { callee := .builtin .append, args := #[so, xo], argTypes := #[30, 30] }) (hs : a.eval so = out) {g : Nat} (hg : g = w.heap.size) (hx : a.eval xo = .slice (some ⟨g, 0, none⟩) 1 1) {cells : Array Value} (hcells : cells.toList = clCells c gv) {ty : TypeId}
    (hK : ∀ v' w', St PR w0 F0 n fb hb w' s fr hd (cs ++ [c]) v' → wpList Try.prog ops Q rest (a.put o.dst v') w') :
    wpList Try.prog ops Q (o :: rest) a (w.alloc (.cells cells ty)) := by
  subst hg
  obtain ⟨F, D, gs, h, hgv, hgb⟩ := h
  have hsz := h.ff.size
  have hcs : cells.size = 7 := by rw [← Array.length_toList, hcells]; rfl
  have hone : gv.oneCell' = true := by obtain ⟨a', c', rfl, _, _⟩ := hgv.shape; rfl
  have hsl : SlC (w.alloc (.cells cells ty)) 7 (.slice (some ⟨w.heap.size, 0, none⟩) 1 1) 1 (clCells c gv) := by
    rw [← hcells]
    refine SlC.ofOwn (own_new (w0 := w) (Nat.le_refl _) cells ty 7 1 _ rfl (by omega) (by unfold maxLen; omega)) ?_
    rw [hcells]
    intro u hu
    simp only [clCells, List.mem_cons, List.not_mem_nil, or_false] at hu
    rcases hu with rfl | rfl | rfl | rfl | rfl | rfl | rfl <;> first | rfl | exact hone
  have k0 : Fr NoF w (w.alloc (.cells cells ty)) := (Fr.refl _ _).alloc _
  have h1 := h.keep hP k0
  refine appLB (base := w0.heap.size) EIc hgd so xo ho hs hx (by simp; omega) h1.own hsl (by unfold maxLen; omega) (by omega) ?_
  intro v' w' hown hf hob
  refine hK v' w' ⟨F, D, gs ++ [gv], ?_⟩
  have hD : ∀ i, D i → ¬ out.ownBlock = some i := fun i hi e => (h.oo i e).1 hi
  refine ⟨hP.fr h1.pr hf hD, h1.bfb.fr hf (fun e => (h.oo _ e).2.1 rfl), h1.bhb.fr hf (fun e => (h.oo _ e).2.2 rfl), h.frn, ?_, by simp [h.gl], ?_, h.df, h.dh, h.fh, ?_, h.f0, h.nf, h.nh, h1.ff.trans hf (fun i hi => .inr (ownBlock_own h.own i hi))⟩
  · rw [flatC_snoc c gv h.gl, List.length_append]; exact hown
  · intro i c' g' e1 e2
    by_cases hi : i < cs.length
    · rw [List.getElem?_append_left hi] at e1
      rw [List.getElem?_append_left (by rw [h.gl]; exact hi)] at e2
      obtain ⟨g1, g2⟩ := h1.gh i c' g' e1 e2
      have g0 := (h.gh i c' g' e1 e2).1
      refine ⟨g1.fr hf (fun b hb e => (g2 b hb).1.2.2.2 e), fun b hb => ⟨⟨(g2 b hb).1.1, (g2 b hb).1.2.1, (g2 b hb).1.2.2.1, fun e => ?_⟩, (g2 b hb).2⟩⟩
      rcases hob b e with q | q
      · exact (g2 b hb).1.2.2.2 q
      · have := g0.lt b hb; simp at q; omega
    · rw [List.getElem?_append_right (by omega)] at e1
      rw [List.getElem?_append_right (by rw [h.gl]; omega), h.gl] at e2
      obtain ⟨rfl, rfl⟩ : c = c' ∧ gv = g' := by
        cases hk : i - cs.length with
        | zero => rw [hk] at e1 e2; simpa using And.intro e1 e2
        | succ k => rw [hk] at e1; simp at e1
      refine ⟨(hgv.keep k0).fr hf (fun b hb e => (hgb b hb).1.2.2.2 e), fun b hb => ⟨⟨(hgb b hb).1.1, (hgb b hb).1.2.1, (hgb b hb).1.2.2.1, fun e => ?_⟩, (hgb b hb).2⟩⟩
      rcases hob b e with q | q
      · exact (hgb b hb).1.2.2.2 q
      · have := hgv.lt b hb; simp at q; omega
  · intro b hb
    rcases hob b hb with q | q
    · exact h.oo b q
    · have h2 := hP.lt h.pr
      have h3 := h.bfb.lt
      have h4 := h.bhb.lt
      simp at q
      exact ⟨fun e => by have := h2 b e; omega, by omega, by omega⟩
/-- A page is written to a frame. -/
theorem St.setF (h : St PR w0 F0 n fb hb w s fr hd cs out) {a : Nat} (ha : a < n) (id : Nat) : St PR w0 F0 n fb hb (w.setCell ⟨fb, a, none⟩ (.int .u32 id)) s (fr.set a id) hd cs out := by
  obtain ⟨F, D, gs, h⟩ := h
  have f : Fr (fun i => i = fb) w (w.setCell ⟨fb, a, none⟩ (.int .u32 id)) := (Fr.refl (fun i => i = fb) w).setCell (p := ⟨fb, a, none⟩) (.inl rfl) _
  refine ⟨F, D, gs, hP.fr h.pr f (fun i hi e => h.df (e ▸ hi)), ?_, h.bhb.fr f (fun e => h.fh e.symm), by simp [h.frn], own_keep h.own f (fun b hb e => (h.oo b hb).2.1 e), h.gl, fun i c g h1 h2 => ⟨(h.gh i c g h1 h2).1.fr f (fun b hb e => ((h.gh i c g h1 h2).2 b hb).1.2.1 e), (h.gh i c g h1 h2).2⟩, h.df, h.dh, h.fh, h.oo, h.f0, h.nf, h.nh, h.ff.trans f (fun i e => .inr (by subst e; exact h.nf))⟩
  rw [← uF_set (by rw [h.frn]; exact ha)]
  exact h.bfb.set _ _
theorem St.setH (h : St PR w0 F0 n fb hb w s fr hd cs out) (a : Nat) (v : Bool) : St PR w0 F0 n fb hb (w.setCell ⟨hb, a, none⟩ (.bool v)) s fr (upd hd a v) cs out := by
  obtain ⟨F, D, gs, h⟩ := h
  have f : Fr (fun i => i = hb) w (w.setCell ⟨hb, a, none⟩ (.bool v)) := (Fr.refl (fun i => i = hb) w).setCell (p := ⟨hb, a, none⟩) (.inl rfl) _
  refine ⟨F, D, gs, hP.fr h.pr f (fun i hi e => h.dh (e ▸ hi)), h.bfb.fr f h.fh, ?_, h.frn, own_keep h.own f (fun b hb e => (h.oo b hb).2.2 e), h.gl, fun i c g h1 h2 => ⟨(h.gh i c g h1 h2).1.fr f (fun b hb e => ((h.gh i c g h1 h2).2 b hb).1.2.2.1 e), (h.gh i c g h1 h2).2⟩, h.df, h.dh, h.fh, h.oo, h.f0, h.nf, h.nh, h.ff.trans f (fun i e => .inr (by subst e; exact h.nh))⟩
  rw [← bF_set]
  exact h.bhb.set _ _
omit hP
/-- What the walk reads. -/
theorem St.cells (h : St PR w0 F0 n fb hb w s fr hd cs out) : (∀ a, a < n → w.cell? ⟨fb, a, none⟩ = some (.int .u32 (fr.getD a 0 : Nat))) ∧ (∀ a, w.frozen? ⟨fb, a, none⟩ = false) ∧ (∀ a, w.frozen? ⟨hb, a, none⟩ = false) ∧ fb < w.heap.size ∧ hb < w.heap.size ∧ (∀ a, a < n → w.cell? ⟨hb, a, none⟩ = some (.bool (hd a))) ∧ fr.length = n ∧ (¬ fb = hb) := by
  obtain ⟨F, D, gs, h⟩ := h
  exact ⟨fun a ha => h.bfb.cell ha, h.bfb.frozen, h.bhb.frozen, h.bfb.lt, h.bhb.lt, fun a ha => h.bhb.cell ha, h.frn, h.fh⟩
theorem St.size (h : St PR w0 F0 n fb hb w s fr hd cs out) : w0.heap.size ≤ w.heap.size := by
  obtain ⟨F, D, gs, h⟩ := h
  exact h.ff.size
end
end Go.Proofs.Ytbnckhkamebibaa

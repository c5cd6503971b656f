/-
  Package hatcheckref06's P is what Run is told of; New.
-/
import Derived.Test.YtiemelhholbngaaRef06D
namespace Go.Proofs.Ytiemelhholbngaa
open Go.RowKit
set_option linter.unusedVariables false

def PR6 (pb n inn out : Nat) : PRel S6 := PRG pb 8 n (H6 n inn out) rows6 S6.page S6.on
def co6 : S6 → List Nat → Prop := fun _ _ => True
theorem Res6.left {w w' : World} {pb gb ob n inn out : Nat} {hc : Nat → Value} {s s' : S6} {F D : Nat → Prop} (h : Res6 w pb gb ob n inn out hc s s' w') (hF : ∀ i, F i ↔ FP pb gb ob i) (hD : ∀ i, D i ↔ DP pb gb ob hc (rows6 s) i) : Left (PR6 pb n inn out) w s' F D w' := by
  obtain ⟨hc', h1, h2⟩ := h
  exact h1.left h2 hF hD

theorem sys6 {pb n inn out : Nat} : RefSys (pol6 inn out) (PR6 pb n inn out) pb n co6 where
  pf := PRG_fr
  cN := by
    rintro w s F D ⟨gb, ob, hc, h, hh, hF, hD⟩
    exact h.c 0 (by omega) hh.c0
  miss := by
    rintro w s F D fr id hp _ _ _ _
    exact ⟨trivial, (s6_miss _ _).mono fun e w' ⟨he, hw⟩ => ⟨he, F, D, hw ▸ hp, hw ▸ Fr.refl _ _, fun i hi => .inl hi, fun i hi => .inl hi⟩⟩
  access := by
    rintro w s F D fr a id ⟨gb, ob, hc, h, hh, hF, hD⟩ _ ha _ _ _
    refine ⟨trivial, ?_⟩
    have key : Calls Try.prog 23 #[.pointer (some ⟨pb, 0, none⟩), .int .i64 a, .int .u32 id] w fun e w' => e = .returned (.tuple #[]) ∧ Res6 w pb gb ob n inn out hc s (s.access a id) w' := by
      by_cases hm : a ∈ s.nw
      · exact s6_access_new h hh ha id hm
      · by_cases hor : a ∈ s.mn ∨ id ∈ s.old
        · exact s6_access_main h hh ha id hm hor
        · exact s6_access_old h hh ha id hm (fun q => hor (.inl q)) (fun q => hor (.inr q))
    exact key.mono fun e w' ⟨he, hr⟩ => ⟨he, hr.left hF hD⟩
  set := by
    rintro w s F D fr a x v ⟨gb, ob, hc, h, hh, hF, hD⟩ _ ha _ _
    exact ⟨trivial, (s6_set h hh ha v).mono fun e w' ⟨he, hr⟩ => ⟨he, hr.left hF hD⟩⟩
  victimNo := by
    rintro w s F D fr id ⟨gb, ob, hc, h, hh, hF, hD⟩ _ _ _ _ hv
    exact (s6_victim_no h hh _ hv).mono fun e w' ⟨he, d, hw⟩ => ⟨he, F, D, hw ▸ ⟨gb, ob, hc, h.fr0 ((Fr.refl NoF w).drewN d), hh, hF, hD⟩, hw ▸ (Fr.refl F w).drewN d, fun i hi => .inl hi, fun i hi => .inl hi⟩
  victimYes := by
    rintro w s F D fr id a ⟨gb, ob, hc, h, hh, hF, hD⟩ _ _ _ _ hv
    have hv' : s.vic inn = some a := hv
    have ha : a < n := by
      rcases vic_some hv' with q | q
      · exact hh.nl a q
      · exact hh.ml a q
    have hg : (pol6 inn out).gone s id = s.gone out a := by show (match s.vic inn with | none => s | some f => s.gone out f) = _; rw [hv']
    rw [hg]
    exact ⟨ha, trivial, (s6_victim_yes h hh _ hv').mono fun e w' ⟨he, hr⟩ => ⟨he, hr.left hF hD⟩⟩
  remove := by
    rintro w s F D fr a x ⟨gb, ob, hc, h, hh, hF, hD⟩ _ ha _ _
    exact ⟨trivial, (s6_remove h hh ha).mono fun e w' ⟨he, hr⟩ => ⟨he, hr.left hF hD⟩⟩
  seen := by
    rintro w s F D c ⟨gb, ob, hc, h, hh, hF, hD⟩ h0 hg
    have hsee : (pol6 inn out).see s c = { c with size := cntF s.page s.on n, ghosts := s.old } := by
      show ({ c with size := cntF s.page s.on s.page.length, ghosts := s.old } : Cl) = _
      rw [h.pn]
    rw [hsee]
    refine (seen_gen h (by omega) hh.c0 hh.c3 hh.c4 (by omega) (gh := s.old) (fun wr f => ?_) c h0 hg).mono fun e w' ⟨gv, he, hs, hb, hf⟩ => ⟨gv, he, hs, fun b q => (hb b q).imp (fun q => ⟨(hD b).2 q.1, fun f => q.2 ((hF b).1 f)⟩) id, hf⟩
    have hp := h.fr0 f
    have hs := hp.sl 7 .u32 s.old rfl
    exact (s6_ghosts hp).mono fun e w' ⟨he, hw⟩ => ⟨hc 7, he, hw ▸ hs.1, fun b hb => .inl ⟨.inr ⟨7, .u32, s.old, rfl, hb⟩, fun q => by
      have := hs.2 b hb
      rcases q with q | q | q
      · exact this.1 q
      · exact this.2.1 q
      · exact this.2.2 q⟩, hw ▸ Fr.refl _ _⟩

set_option maxHeartbeats 1000000 in
theorem s6_new (n inn out : Nat) (w : World) (hn : n < 1000) (hi : inn < 1000) (ho : out < 1000) :
    Calls Try.prog 8 #[.int .i64 n, .int .i64 inn, .int .i64 out] w fun e w' => ∃ pb F D, e = .returned (.pointer (some ⟨pb, 0, none⟩)) ∧ PR6 pb n inn out w' ⟨List.replicate n 0, fun _ => false, [], [], []⟩ F D ∧ (∀ i, D i → w.heap.size ≤ i) ∧ Fr NoF w w' := by
  obtain ⟨i0, hi0, hz0, hz1, hz2⟩ := info_parts' (P := Try.prog) (e := 35) (z := .int .u32 0) (s := 1) (b := 4) (by kernel_rfl)
  obtain ⟨i1, hi1, hy0, hy1, hy2⟩ := info_parts' (P := Try.prog) (e := 4) (z := .bool false) (s := 1) (b := 1) (by kernel_rfl)
  have mk1 : ∀ w : World, (Instr.makeSlice 36 (.int .i64 (n : Int)) (.int .i64 (n : Int))).run Try.prog w =
      .ok (.slice (some ⟨w.heap.size, 0, none⟩) n n) (w.alloc (.cells (madeCells #[.int .u32 0] n) 35)) := by
    intro w
    have := run_make (P := Try.prog) w 36 35 i0 _ Try.underlying36 hi0 hz0 .i64 .i64 (n : Int) (n : Int) (by omega) (Int.le_refl _) (by rw [hz2]; omega) (by omega)
    rw [show ((n : Int)).toNat = n from by omega, hz1, Nat.mul_one] at this
    exact this
  have mk2 : ∀ w : World, (Instr.makeSlice 51 (.int .i64 (n : Int)) (.int .i64 (n : Int))).run Try.prog w =
      .ok (.slice (some ⟨w.heap.size, 0, none⟩) n n) (w.alloc (.cells (madeCells #[.bool false] n) 4)) := by
    intro w
    have := run_make (P := Try.prog) w 51 4 i1 _ Try.underlying51 hi1 hy0 .i64 .i64 (n : Int) (n : Int) (by omega) (Int.le_refl _) (by rw [hy2]; omega) (by omega)
    rw [show ((n : Int)).toNat = n from by omega, hy1, Nat.mul_one] at this
    exact this
  have KEY : Hid (∀ (wz : World) (gb ob pb : Nat), wz.heap[gb]? = some (.cells (madeCells #[.int .u32 0] n) 35 (0, 0)) → wz.heap[ob]? = some (.cells (madeCells #[.bool false] n) 4 (0, 0)) →
      wz.heap[pb]? = some (.cells #[.int .i64 n, .int .i64 inn, .int .i64 out, .slice (some ⟨gb, 0, none⟩) n n, .slice (some ⟨ob, 0, none⟩) n n, .slice none 0 0, .slice none 0 0, .slice none 0 0] 63 (0, 0)) → ¬ pb = gb → ¬ pb = ob → ¬ gb = ob →
      ∃ F D, PR6 pb n inn out wz ⟨List.replicate n 0, fun _ => false, [], [], []⟩ F D ∧ ∀ i, D i → i = pb ∨ i = gb ∨ i = ob) := by
    intro wz gb ob pb h1 h2 h3 d1 d2 d3
    let hc : Nat → Value := fun i => (#[.int .i64 n, .int .i64 inn, .int .i64 out, .slice (some ⟨gb, 0, none⟩) n n, .slice (some ⟨ob, 0, none⟩) n n] : Array Value).getD i (.slice none 0 0)
    have hrow : ∀ i k l, rows6 ⟨List.replicate n 0, fun _ => false, [], [], []⟩ i = some (k, l) → l = [] ∧ hc i = .slice none 0 0 := by
      intro i k l e
      unfold rows6 at e
      split at e
      · rename_i q; subst q; simp at e; exact ⟨e.2, rfl⟩
      · split at e
        · rename_i q; subst q; simp at e; exact ⟨e.2, rfl⟩
        · split at e
          · rename_i q; subst q; simp at e; exact ⟨e.2, rfl⟩
          · cases e
    refine ⟨_, _, ⟨gb, ob, hc, ⟨⟨_, _, h3, rfl, fun i hi => ?_⟩, ⟨_, _, h1, by simp [size_madeCells], fun i hi => ?_⟩, ⟨_, _, h2, by simp [size_madeCells], fun i hi => ?_⟩, fun i k l e => ?_, d1, d2, d3, by simp, hn⟩, ⟨rfl, rfl, rfl, rfl, rfl, List.nodup_nil, List.nodup_nil, fun x hx => (by cases hx), fun x hx => (by cases hx), Nat.zero_le _, hi, ho⟩, fun _ => Iff.rfl, fun _ => Iff.rfl⟩, fun i q => ?_⟩
    · match i, hi with
      | 0, _ => rfl
      | 1, _ => rfl
      | 2, _ => rfl
      | 3, _ => rfl
      | 4, _ => rfl
      | 5, _ => rfl
      | 6, _ => rfl
      | 7, _ => rfl
    · rw [made_at hi, show (#[Value.int .u32 0] : Array Value).size = 1 from rfl, Nat.mod_one]
      simp [uF, hi]
    · rw [made_at hi, show (#[Value.bool false] : Array Value).size = 1 from rfl, Nat.mod_one]; rfl
    · obtain ⟨rfl, e2⟩ := hrow i k l e
      rw [e2]
      exact ⟨SlK.nil _ _, fun b hb => (by cases hb)⟩
    · rcases q with q | ⟨j, k, l, e, hb⟩
      · exact q
      · rw [(hrow j k l e).2] at hb; cases hb
  clear hi0 hz0 hz1 hz2 hi1 hy0 hy1 hy2
  go_enter Try.func8, Try.ntmps8
  go_wp2
  go_region
  · go_wp2
    go_returns
    obtain ⟨F, D, P, hD⟩ := KEY.out (((w.alloc (.cells (madeCells #[.int .u32 0] n) 35)).alloc (.cells (madeCells #[.bool false] n) 4)).alloc (.cells #[.int .i64 n, .int .i64 inn, .int .i64 out, .slice (some ⟨w.heap.size, 0, none⟩) n n, .slice (some ⟨w.heap.size + 1, 0, none⟩) n n, .slice none 0 0, .slice none 0 0, .slice none 0 0] 63)) w.heap.size (w.heap.size + 1) (w.heap.size + 2)
      (heap_step _ _ _ _ (heap_step _ _ _ _ (heap_alloc_new _ _ _ rfl))) (heap_step _ _ _ _ (heap_alloc_new _ _ _ (by simp))) (heap_alloc_new _ _ _ (by simp)) (by omega) (by omega) (by omega)
    refine ⟨w.heap.size + 2, F, D, rfl, PRG_fr.fr P ((Fr.refl NoF _).drew) (fun _ _ q => q), fun i hi => ?_, (((((Fr.refl NoF w).alloc _).alloc _).alloc _).drew)⟩
    rcases hD i hi with rfl | rfl | rfl
    · omega
    · omega
    · omega
  · go_wp2
    go_returns
    obtain ⟨F, D, P, hD⟩ := KEY.out (((w.alloc (.cells (madeCells #[.bool false] n) 4)).alloc (.cells (madeCells #[.int .u32 0] n) 35)).alloc (.cells #[.int .i64 n, .int .i64 inn, .int .i64 out, .slice (some ⟨w.heap.size + 1, 0, none⟩) n n, .slice (some ⟨w.heap.size, 0, none⟩) n n, .slice none 0 0, .slice none 0 0, .slice none 0 0] 63)) (w.heap.size + 1) w.heap.size (w.heap.size + 2)
      (heap_step _ _ _ _ (heap_alloc_new _ _ _ (by simp))) (heap_step _ _ _ _ (heap_step _ _ _ _ (heap_alloc_new _ _ _ rfl))) (heap_alloc_new _ _ _ (by simp)) (by omega) (by omega) (by omega)
    refine ⟨w.heap.size + 2, F, D, rfl, PRG_fr.fr P ((Fr.refl NoF _).drew) (fun _ _ q => q), fun i hi => ?_, (((((Fr.refl NoF w).alloc _).alloc _).alloc _).drew)⟩
    rcases hD i hi with rfl | rfl | rfl
    · omega
    · omega
    · omega
end Go.Proofs.Ytiemelhholbngaa

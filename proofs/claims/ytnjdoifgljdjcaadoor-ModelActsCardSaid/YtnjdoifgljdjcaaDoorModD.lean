/-
  model's Model in memory: remove, come.
-/
import Derived.Test.YtnjdoifgljdjcaaDoorModC
namespace Go.Proofs.YtnjdoifgljdjcaaDoor
open Go.RowKit Go.Maps
set_option linter.unusedVariables false

section
variable {w w' : World} {b n room pin len mb L : Nat} {pg : Nat → Option (Nat × Nat)} {v : Value} {h : Nat → Nat}
theorem mC_fc (n mb room fc : Nat) (v : Value) (pin : Nat) (z : Int) (fc' : Nat) (e : z = (fc' : Int)) : ∀ i, i < 6 → upd (mC n mb room fc v pin) (2 + 1) (.int .i64 z) i = mC n mb room fc' v pin i := by
  subst e
  intro i hi
  match i, hi with
  | 0, _ | 1, _ | 2, _ | 3, _ | 4, _ | 5, _ => rfl
theorem freeB_del {room : Nat} {pg : Nat → Option (Nat × Nat)} {id : Nat} (h1 : 1 ≤ id) (h2 : id ≤ room) : freeB room (updP pg id none) = updB (freeB room pg) (id - 1) true := by
  funext x
  by_cases e : x = id - 1
  · subst e
    rw [updB_same]; unfold freeB
    rw [show id - 1 + 1 = id from by omega, updP_same]; simp; omega
  · rw [updB_other _ _ e]; unfold freeB; rw [updP_other _ _ (by omega)]
theorem freeB_new {room : Nat} {pg : Nat → Option (Nat × Nat)} {x : Nat} (p : Nat × Nat) : freeB room (updP pg (x + 1) (some p)) = updB (freeB room pg) x false := by
  funext y
  by_cases e : y = x
  · subst e
    rw [updB_same]; unfold freeB; rw [updP_same]; simp
  · rw [updB_other _ _ e]; unfold freeB; rw [updP_other _ _ (by omega)]
set_option maxHeartbeats 1000000 in
theorem remove_none (H : MM w b n room pg pin len mb v h L) {id : Nat} (hid : okId id) (hp : pg id = none) : Calls Tryd.prog 20 #[.pointer (some ⟨b, 0, none⟩), .int .u32 id] w fun e w' => e = .returned (.int .i64 3) ∧ Fr NoF w w' := by
  have c1 : w.cell? ⟨b, 1, none⟩ = some (.map (some mb)) := H.ce 1 (by omega)
  have lb := H.lc.blk.lt
  have lk := H.look hid w (Fr.refl NoF w)
  rw [hp] at lk
  simp only [Option.map_none, Option.getD_none, Option.isSome_none] at lk
  unfold zeroP at lk
  clear H hp
  go_enter Tryd.func20, Tryd.ntmps20
  go_wp2
  go_returns
  exact ⟨rfl, (Fr.refl NoF w).alloc _⟩
set_option maxHeartbeats 1000000 in
theorem remove_pinned (H : MM w b n room pg pin len mb v h L) {id : Nat} (hid : okId id) {pv q : Nat} (hp : pg id = some (pv, q + 1)) : Calls Tryd.prog 20 #[.pointer (some ⟨b, 0, none⟩), .int .u32 id] w fun e w' => e = .returned (.int .i64 4) ∧ Fr NoF w w' := by
  have c1 : w.cell? ⟨b, 1, none⟩ = some (.map (some mb)) := H.ce 1 (by omega)
  have lb := H.lc.blk.lt
  have lk := H.look hid w (Fr.refl NoF w)
  rw [hp] at lk
  simp only [Option.map_some, Option.getD_some, Option.isSome_some] at lk
  unfold pageV at lk
  have g0 : decide (0 < (q : Int) + 1) = true := by simp <;> omega
  clear H hp
  go_enter Tryd.func20, Tryd.ntmps20
  go_wp2
  go_returns
  exact ⟨rfl, (Fr.refl NoF w).alloc _⟩
set_option maxHeartbeats 1000000 in
theorem remove_yes (H : MM w b n room pg pin len mb v h L) {id : Nat} (hid : okId id) {pv : Nat} (hp : pg id = some (pv, 0)) (hpl : pin + 1 ≤ len) : Calls Tryd.prog 20 #[.pointer (some ⟨b, 0, none⟩), .int .u32 id] w fun e w' => e = .returned (.int .i64 0) ∧
    MM w' b n room (updP pg id none) pin (len - 1) mb v h L ∧ Fr (MF b mb v h L) w w' := by
  have c1 : w.cell? ⟨b, 1, none⟩ = some (.map (some mb)) := H.ce 1 (by omega)
  have lb := H.lc.blk.lt
  have hwf := wf_id hid
  have hdom := H.dom id _ hp
  have hroom := H.lc.ls.r.hi
  have lk := H.look hid w (Fr.refl NoF w)
  rw [hp] at lk
  simp only [Option.map_some, Option.getD_some, Option.isSome_some] at lk
  unfold pageV at lk
  have HM := Lib.hid H
  have K : Hid (∀ W w2, Fr NoF w W → MpV Tryd.prog 33 .u32 zeroP w2 mb (if (pgM pg (id : Int)).isSome then len - 1 else len) (updV (pgM pg) (id : Int) none) → Fr (fun i => i = mb) W w2 → Calls Tryd.prog 24 #[.pointer (some ⟨b, 2, none⟩), .int .i64 ((id : Int) - 1)] w2 fun e w3 => e = .returned (.tuple #[]) ∧ MM w3 b n room (updP pg id none) pin (len - 1) mb v h L ∧ Fr (MF b mb v h L) w w3) := by
    intro W w2 f1 hm f2
    have h2 := HM.out.fr0 f1
    have e : (pgM pg (id : Int)).isSome = true := by rw [pgM_at, hp]; rfl
    rw [e, if_pos rfl, show (none : Option Value) = (none : Option (Nat × Nat)).map pageV from rfl, pgM_upd] at hm
    have hl := h2.lc.fr f2 (fun q => HM.out.nb.1 q.symm) (fun k q e => HM.out.nb.2 (e ▸ q))
    have hfree : freeB room pg (id - 1) = false := by
      unfold freeB
      rw [show id - 1 + 1 = id from by omega, hp]; simp
    have hA := add_in hl (x := id - 1) (by omega) hfree
    rw [show ((id - 1 : Nat) : Int) = (id : Int) - 1 from by omega] at hA
    refine hA.mono ?_
    rintro e w3 ⟨rfl, q1, q2⟩
    have hcnt := cntB_add (freeB room pg) hfree room (by omega)
    rw [← freeB_del hdom.1 hdom.2] at q1 hcnt
    refine ⟨rfl, ⟨q1.congr (mC_fc _ _ _ _ _ _ _ _ (by rw [hcnt]; simp)), hm.fr q2 (fun q => ?_), fun x q hx => ?_, ?_, HM.out.nb, fun x q hx => ?_, HM.out.hn, by omega⟩, ?_⟩
    · rcases q with q | q
      · exact HM.out.nb.1 q
      · exact HM.out.nb.2 q
    · by_cases e : x = id
      · subst e; rw [updP_same] at hx; cases hx
      · rw [updP_other _ _ e] at hx; exact HM.out.dom x q hx
    · have := HM.out.num; omega
    · by_cases e : x = id
      · subst e; rw [updP_same] at hx; cases hx
      · rw [updP_other _ _ e] at hx; exact HM.out.ok x q hx
    · refine ((f1.mono (fun _ q => q.elim)).trans f2 (fun i q => .inl (.inr (.inl q)))).trans q2 (fun i q => .inl ?_)
      rcases q with q | q
      · exact .inl q
      · exact .inr (.inr q)
  have KC : Hid (∀ W w2, Fr NoF w W → Fr (fun i => i = mb) W w2 → b < w2.heap.size) := fun W w2 f1 f2 => Nat.lt_of_lt_of_le lb (Nat.le_trans f1.size f2.size)
  have hcw : IntKind.i64.wrap ((id : Int) - 1) = (id : Int) - 1 := IntWalk.i64_in _ (by omega)
  have hcv : IntKind.i64.wrap (id : Int) = (id : Int) := IntWalk.i64_in _ (by omega)
  have lo : b < w.heap.size := lb
  clear H hp
  go_enter Tryd.func20, Tryd.ntmps20
  go_wp2_with (at_delete; go_must (refine wp_delV MVm (HM.out.fr0 ((Fr.refl NoF w).alloc _)).mp rfl _ _ rfl (by rfl) (by rfl) hwf ?_); intro w2 m1 m2; have lb2 := KC.out _ w2 ((Fr.refl NoF w).alloc _) m2; have KK := Lib.hid (K.out _ w2 ((Fr.refl NoF w).alloc _) m1 m2); clear m1 m2)
  go_wp2_with fail
  refine KK.out.mono ?_
  rintro e w3 ⟨rfl, r1, r2⟩
  have R1 := Lib.hid r1
  have R2 := Lib.hid r2
  clear r1 r2
  go_wp2
  go_returns
  exact ⟨rfl, R1.out, R2.out⟩
theorem first_any (hT : TabT w) {off N bound : Nat} {c : Nat → Value} {S : Nat → Bool} (H : LC w b off N c bound S v h L) : Calls Tryd.prog 25 #[.pointer (some ⟨b, off, none⟩)] w fun e w' => ∃ z : Int, e = .returned (.int .i64 z) ∧ w = w' := by
  refine (first_calls hT H).mono ?_
  rintro e w' ⟨rfl, q⟩
  rcases q with ⟨_, _, rfl⟩ | ⟨x, _, _, rfl⟩
  · exact ⟨-1, rfl, rfl⟩
  · exact ⟨x, rfl, rfl⟩
set_option maxHeartbeats 1000000 in
theorem come_noframe (hT : TabT w) (H : MM w b n room pg pin len mb v h L) (hf : pin = n) : Calls Tryd.prog 14 #[.pointer (some ⟨b, 0, none⟩)] w fun e w' => e = .returned (.agg #[.int .i64 6, .int .u32 0, .int .u64 0]) ∧ Fr NoF w w' := by
  have H1 := H.fr0 ((Fr.refl NoF w).alloc (.cells #[.int .i64 0, .int .u32 0, .int .u64 0] 38))
  have HFI := Lib.hid (first_any (hT.fr0 ((Fr.refl NoF w).alloc (.cells #[.int .i64 0, .int .u32 0, .int .u64 0] 38))) H1.lc)
  have c0 : w.cell? ⟨b, 0, none⟩ = some (.int .i64 n) := H.ce 0 (by omega)
  have c5 : w.cell? ⟨b, 5, none⟩ = some (.int .i64 pin) := H.ce 5 (by omega)
  rw [hf] at c5
  have lb := H.lc.blk.lt
  have gq : ((n : Int) == (n : Int)) = true := by simp
  clear H H1 hf hT
  go_enter Tryd.func14, Tryd.ntmps14
  go_wp2_with fail
  refine HFI.out.mono ?_
  rintro e w1 ⟨z, rfl, rfl⟩
  go_wp2
  go_region
  go_wp2
  (try simp only [Exit.inBlock, Exit.then])
  refine bodyPost_ret (results_blk Tryd.results14 _ _ (blk_three w _ _ _).drew rfl Tryd.underlying38 rfl (by kernel_rfl)) rfl ?_
  exact ⟨rfl, ((Fr.refl NoF w).alloc _).drew⟩
set_option maxHeartbeats 1000000 in
theorem come_full (H : MM w b n room pg pin len mb v h L) (hf : ¬ pin = n) (h0 : cntB (freeB room pg) room = 0) : Calls Tryd.prog 14 #[.pointer (some ⟨b, 0, none⟩)] w fun e w' => e = .returned (.agg #[.int .i64 2, .int .u32 0, .int .u64 0]) ∧ Fr NoF w w' := by
  have H1 := H.fr0 ((Fr.refl NoF w).alloc (.cells #[.int .i64 0, .int .u32 0, .int .u64 0] 38))
  have HFI := Lib.hid (first_none H1.lc h0)
  have c0 : w.cell? ⟨b, 0, none⟩ = some (.int .i64 n) := H.ce 0 (by omega)
  have c5 : w.cell? ⟨b, 5, none⟩ = some (.int .i64 pin) := H.ce 5 (by omega)
  have lb := H.lc.blk.lt
  have gq : ((pin : Int) == (n : Int)) = false := by simp; omega
  clear H H1 hf h0
  go_enter Tryd.func14, Tryd.ntmps14
  go_wp2_with fail
  refine HFI.out.mono ?_
  rintro e w1 ⟨rfl, rfl⟩
  go_wp2
  go_region
  go_wp2
  (try simp only [Exit.inBlock, Exit.then])
  refine bodyPost_ret (results_blk Tryd.results14 _ _ (blk_three w _ _ _).drew rfl Tryd.underlying38 rfl (by kernel_rfl)) rfl ?_
  exact ⟨rfl, ((Fr.refl NoF w).alloc _).drew⟩
set_option maxHeartbeats 2000000 in
theorem come_yes (hT : TabT w) (H : MM w b n room pg pin len mb v h L) (hg : ¬ MF b mb v h L 0) (hf : ¬ pin = n) {x : Nat} (hx : IsLeast (freeB room pg) x) : Calls Tryd.prog 14 #[.pointer (some ⟨b, 0, none⟩)] w fun e w' => e = .returned (.agg #[.int .i64 0, .int .u32 (x + 1 : Nat), .int .u64 0]) ∧
    MM w' b n room (updP pg (x + 1) (some (0, 1))) (pin + 1) (len + 1) mb v h L ∧ Fr (MF b mb v h L) w w' := by
  have fA : Fr NoF w (w.alloc (.cells #[.int .i64 0, .int .u32 0, .int .u64 0] 38)) := (Fr.refl NoF w).alloc _
  have HFI : Hid (Calls Tryd.prog 25 #[.pointer (some ⟨b, 2, none⟩)] (w.alloc (.cells #[.int .i64 0, .int .u32 0, .int .u64 0] 38)) _) := first_some (hT.fr0 fA) (H.fr0 fA).lc hx
  have c0 : w.cell? ⟨b, 0, none⟩ = some (.int .i64 n) := H.ce 0 (by omega)
  have c5 : w.cell? ⟨b, 5, none⟩ = some (.int .i64 pin) := H.ce 5 (by omega)
  have lb := H.lc.blk.lt
  have hroom := H.lc.ls.r.hi
  have hxr : x < room := H.lc.ls.dom x hx.1
  have hlen := H.len_le
  have hpl := H.hp
  have HM := Lib.hid H
  have hml := H.mp.lt
  have gq : ((pin : Int) == (n : Int)) = false := by simp; omega
  have gx : decide ((x : Int) < 0) = false := by simp
  have hpx : pg (x + 1) = none := by
    have := hx.1
    unfold freeB at this
    simp at this
    cases e : pg (x + 1) with
    | none => rfl
    | some p => rw [e] at this; simp at this
  -- Drop of x, and what is known behind it
  have KD : Hid (∀ W, Fr NoF w W → Calls Tryd.prog 26 #[.pointer (some ⟨b, 2, none⟩), .int .i64 x] W fun e w3 => e = .returned (.tuple #[]) ∧ Fr (fun k => k = b ∨ LF v h L k) W w3 ∧ LC w3 b 2 6 (mC n mb room (cntB (freeB room (updP pg (x + 1) (some (0, 1)))) room) v pin) room (freeB room (updP pg (x + 1) (some (0, 1)))) v h L) := by
    intro W f
    refine (drop_in (HM.out.fr0 f).lc hx.1).mono ?_
    rintro e w3 ⟨rfl, q1, q2⟩
    have hcnt := cntB_drop (freeB room pg) hx.1 room hxr
    rw [← freeB_new (0, 1)] at q1 hcnt
    exact ⟨rfl, q2, q1.congr (mC_fc _ _ _ _ _ _ _ _ (by omega))⟩
  have KP : Hid (∀ W w3, Fr NoF w W → Fr (fun k => k = b ∨ LF v h L k) W w3 → MpV Tryd.prog 33 .u32 zeroP w3 mb len (pgM pg) ∧ mb < w3.heap.size) := by
    intro W w3 f1 f2
    have hm := (HM.out.fr0 f1).mp.fr f2 (fun q => by rcases q with q | q; exact HM.out.nb.1 q; exact HM.out.nb.2 q)
    exact ⟨hm, hm.lt⟩
  have KE : Hid (∀ W w3 w4, Fr NoF w W → Fr (fun k => k = b ∨ LF v h L k) W w3 → LC w3 b 2 6 (mC n mb room (cntB (freeB room (updP pg (x + 1) (some (0, 1)))) room) v pin) room (freeB room (updP pg (x + 1) (some (0, 1)))) v h L → MpV Tryd.prog 33 .u32 zeroP w4 mb (if (pgM pg ((x + 1 : Nat) : Int)).isSome then len else len + 1) (updV (pgM pg) ((x + 1 : Nat) : Int) (some (.agg #[.int .u64 0, .int .i64 1]))) → Fr (fun i => i = mb) w3 w4 →
      b < w4.heap.size ∧ w4.cell? ⟨b, 5, none⟩ = some (.int .i64 pin) ∧ w4.frozen? ⟨b, 5, none⟩ = false ∧ Hid (MM (w4.setCell ⟨b, 5, none⟩ (.int .i64 ((pin : Int) + 1))) b n room (updP pg (x + 1) (some (0, 1))) (pin + 1) (len + 1) mb v h L ∧ Fr (MF b mb v h L) w (w4.setCell ⟨b, 5, none⟩ (.int .i64 ((pin : Int) + 1))))) := by
    intro W w3 w4 f1 f2 hl hm f3
    have e : (pgM pg ((x + 1 : Nat) : Int)).isSome = false := by rw [pgM_at, hpx]; rfl
    rw [e, show some (Value.agg #[.int .u64 0, .int .i64 1]) = (some (0, 1)).map pageV from rfl, pgM_upd] at hm
    have hm' : MpV Tryd.prog 33 .u32 zeroP w4 mb (len + 1) (pgM (updP pg (x + 1) (some (0, 1)))) := hm
    have hl4 := hl.fr f3 (fun q => HM.out.nb.1 q.symm) (fun k q e => HM.out.nb.2 (e ▸ q))
    have hcnt := cntB_drop (freeB room pg) hx.1 room hxr
    rw [← freeB_new (0, 1)] at hcnt
    have hmm : MM w4 b n room (updP pg (x + 1) (some (0, 1))) pin (len + 1) mb v h L := ⟨hl4, hm', fun y q hy => by
      by_cases e : y = x + 1
      · omega
      · rw [updP_other _ _ e] at hy; exact HM.out.dom y q hy, by have := HM.out.num; omega, HM.out.nb, fun y q hy => by
      by_cases e : y = x + 1
      · subst e; rw [updP_same] at hy; cases hy; exact ⟨by show 0 < _; decide, by show 1 < 1000000; omega⟩
      · rw [updP_other _ _ e] at hy; exact HM.out.ok y q hy, HM.out.hn, by omega⟩
    obtain ⟨g1, g2⟩ := hmm.setPin (pin' := pin + 1) (by omega)
    refine ⟨hmm.lc.blk.lt, hmm.ce 5 (by omega), hmm.lc.blk.frozen 5, g1, ?_⟩
    refine (((f1.mono (fun _ q => q.elim)).trans f2 (fun i q => .inl ?_)).trans f3 (fun i q => .inl (.inr (.inl q)))).trans g2 (fun i q => .inl (.inl q))
    rcases q with q | q
    · exact .inl q
    · exact .inr (.inr q)
  have hcw : IntKind.i64.wrap ((pin : Int) + 1) = (pin : Int) + 1 := IntWalk.i64_in _ (by omega)
  have hcx : IntKind.i64.wrap ((x : Int) + 1) = ((x + 1 : Nat) : Int) := by rw [IntWalk.i64_in _ (by omega)]; rfl
  have hcu : IntKind.u32.wrap ((x + 1 : Nat) : Int) = ((x + 1 : Nat) : Int) := IntWalk.u32_in _ (by omega)
  have hwf : (Lit.int .u32 ((x + 1 : Nat) : Int)).wf = true := WalkArith.wf_u32 ⟨by omega, by omega⟩
  have HB0 := Lib.hid (blk_three w (.int .i64 0) (.int .u32 0) (.int .u64 0) (t := 38))
  have KM1 : Hid (∀ W w3, Fr NoF w W → LC w3 b 2 6 (mC n mb room (cntB (freeB room (updP pg (x + 1) (some (0, 1)))) room) v pin) room (freeB room (updP pg (x + 1) (some (0, 1)))) v h L → w3.cell? ⟨b, 1, none⟩ = some (.map (some mb)) ∧ b < w3.heap.size) := fun W w3 f hl => ⟨hl.blk.cell (i := 1) (by omega), hl.blk.lt⟩
  have HNB : Hid (∀ k, MF b mb v h L k → k < w.heap.size) := H.lt
  have FA : Hid (Fr NoF w ((w.alloc (.cells #[.int .i64 0, .int .u32 0, .int .u64 0] 38)).drew)) := fA.drew
  clear H hx hf hT hg fA hpx
  go_enter Tryd.func14, Tryd.ntmps14
  go_wp2_with fail
  refine HFI.out.mono ?_
  rintro e w1 ⟨rfl, rfl⟩
  go_wp2
  go_region
  go_wp2_with fail
  refine (KD.out _ FA.out).mono ?_
  rintro e w3 ⟨rfl, d1, d2⟩
  obtain ⟨z1, z2⟩ := KM1.out _ w3 FA.out d2
  obtain ⟨z3, z4⟩ := KP.out _ w3 FA.out d1
  have D1 := Lib.hid d1
  have D2 := Lib.hid d2
  have Z3 := Lib.hid z3
  have RB := HB0.out.drew.fr d1 (fun q => by rcases q with q | q; exact absurd (HNB.out _ (.inl q)) (by omega); exact absurd (HNB.out _ (.inr (.inr q))) (by omega))
  have HRB := Lib.hid RB
  clear d1 d2 z3 RB
  go_wp2_with (at_mapUpdate; go_must (refine wp_putV MVm Z3.out (by omega) rfl _ _ _ rfl (by rfl) (by rfl) (by rfl) hwf ?_); intro w4 m1 m2; obtain ⟨y1, y2, y3, KF⟩ := KE.out _ _ w4 FA.out D1.out D2.out m1 m2; have RB4 := HRB.out.fr m2 (fun q => absurd (HNB.out _ (.inr (.inl q))) (by omega)); have HRB4 := Lib.hid RB4; have t0 : w4.cell? ⟨w.heap.size, 0, none⟩ = some (.int .i64 0) := RB4.cell (i := 0) (by omega); have t1 : w4.cell? ⟨w.heap.size, 1, none⟩ = some (.int .u32 0) := RB4.cell (i := 1) (by omega); have t2 : w4.cell? ⟨w.heap.size, 2, none⟩ = some (.int .u64 0) := RB4.cell (i := 2) (by omega); have g0 := RB4.frozen 0; have g1 := RB4.frozen 1; have g2 := RB4.frozen 2; have lr := RB4.lt; clear m1 m2 RB4)
  obtain ⟨k1, k2⟩ := KF.out
  have hbn : ¬ w.heap.size = b := fun e => absurd (HNB.out b (.inl rfl)) (by omega)
  have RB5 := HRB4.out.other (a := ⟨b, 5, none⟩) hbn (.int .i64 ((pin : Int) + 1))
  have RS := ((RB5.set 0 (.int .i64 0)).set 1 (.int .u32 ((x : Int) + 1))).set 2 (.int .u64 0)
  have FS := ((((Fr.refl (fun i => i = w.heap.size) (w4.setCell ⟨b, 5, none⟩ (.int .i64 ((pin : Int) + 1)))).setCell (p := ⟨w.heap.size, 0, none⟩) (.inl rfl) (.int .i64 0)).setCell (p := ⟨w.heap.size, 1, none⟩) (.inl rfl) (.int .u32 ((x : Int) + 1))).setCell (p := ⟨w.heap.size, 2, none⟩) (.inl rfl) (.int .u64 0))
  (try simp only [Exit.inBlock, Exit.then])
  refine bodyPost_ret (results_blk Tryd.results14 _ _ RS rfl Tryd.underlying38 rfl (by kernel_rfl)) rfl ?_
  exact ⟨rfl, k1.fr FS (fun k q e => absurd (HNB.out k q) (by omega)), k2.trans FS (fun i q => .inr (by omega))⟩
end
end Go.Proofs.YtnjdoifgljdjcaaDoor

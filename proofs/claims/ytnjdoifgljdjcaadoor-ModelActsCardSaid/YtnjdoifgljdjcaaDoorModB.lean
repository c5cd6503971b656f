/-
  model's Model in memory: write, unpin, fetch.
-/
import Derived.Test.YtnjdoifgljdjcaaDoorModA
namespace Go.Proofs.YtnjdoifgljdjcaaDoor
open Go.RowKit Go.Maps
set_option linter.unusedVariables false

section
variable {w w' : World} {b n room pin len mb L : Nat} {pg : Nat → Option (Nat × Nat)} {v : Value} {h : Nat → Nat}
theorem freeB_upd (room : Nat) {pg : Nat → Option (Nat × Nat)} {id : Nat} {p p' : Nat × Nat} (hp : pg id = some p) : freeB room (updP pg id (some p')) = freeB room pg := by
  funext x
  unfold freeB
  by_cases e : x + 1 = id
  · rw [e, updP_same, hp]; rfl
  · rw [updP_other _ _ e]
/-- A page's entry is written. -/
theorem MM.put (H : MM w b n room pg pin len mb v h L) {id : Nat} {p p' : Nat × Nat} (hp : pg id = some p) (hok : okV p'.1 ∧ p'.2 < 1000000) (hm : MpV Tryd.prog 33 .u32 zeroP w' mb (if (pgM pg (id : Int)).isSome then len else len + 1) (updV (pgM pg) (id : Int) (some (pageV p')))) (f : Fr (fun i => i = mb) w w') :
    MM w' b n room (updP pg id (some p')) pin len mb v h L := by
  have e : (pgM pg (id : Int)).isSome = true := by rw [pgM_at, hp]; rfl
  rw [e, if_pos rfl, show some (pageV p') = (some p').map pageV from rfl, pgM_upd] at hm
  have hl := H.lc.fr f (fun q => H.nb.1 q.symm) (fun k q e => H.nb.2 (e ▸ q))
  refine ⟨by rw [freeB_upd room hp]; exact hl, hm, fun x q hx => ?_, by rw [freeB_upd room hp]; exact H.num, H.nb, fun x q hx => ?_, H.hn, H.hp⟩
  · by_cases e : x = id
    · subst e; exact H.dom x p hp
    · rw [updP_other _ _ e] at hx; exact H.dom x q hx
  · by_cases e : x = id
    · subst e; rw [updP_same] at hx; cases hx; exact hok
    · rw [updP_other _ _ e] at hx; exact H.ok x q hx
theorem mC_pin (n mb room fc : Nat) (v : Value) (pin pin' : Nat) : ∀ i, i < 6 → upd (mC n mb room fc v pin) 5 (.int .i64 (pin' : Nat)) i = mC n mb room fc v pin' i := by
  intro i hi
  match i, hi with
  | 0, _ | 1, _ | 2, _ | 3, _ | 4, _ | 5, _ => rfl
/-- How many are pinned is written. -/
theorem MM.setPin (H : MM w b n room pg pin len mb v h L) {pin' : Nat} (hp : pin' ≤ len) : MM (w.setCell ⟨b, 5, none⟩ (.int .i64 (pin' : Nat))) b n room pg pin' len mb v h L ∧ Fr (fun i => i = b) w (w.setCell ⟨b, 5, none⟩ (.int .i64 (pin' : Nat))) := by
  have f : Fr (fun i => i = b) w (w.setCell ⟨b, 5, none⟩ (.int .i64 (pin' : Nat))) := (Fr.refl (fun i => i = b) w).setCell (p := ⟨b, 5, none⟩) (.inl rfl) _
  refine ⟨⟨⟨(H.lc.blk.set 5 _).congr (mC_pin _ _ _ _ _ _ _), H.lc.inb, rfl, rfl, rfl, ⟨H.lc.ls.r.fr f (fun k q e => H.lc.nb (e ▸ q)), H.lc.ls.dom⟩, H.lc.nb⟩, H.mp.fr f H.nb.1, H.dom, H.num, H.nb, H.ok, H.hn, hp⟩, f⟩
theorem MM.len_le (H : MM w b n room pg pin len mb v h L) : len ≤ 65535 := by
  have := H.num
  have := H.lc.ls.r.hi
  omega
set_option maxHeartbeats 1000000 in
theorem write_calls (H : MM w b n room pg pin len mb v h L) {id : Nat} (hid : okId id) {x : Nat} (hx : okV x) : Calls Tryd.prog 18 #[.pointer (some ⟨b, 0, none⟩), .int .u32 id, .int .u64 x] w fun e w' => e = .returned (.int .i64 (heldE (pg id))) ∧
    MM w' b n room (if heldE (pg id) = 0 then updP pg id (some (x, heldY (pg id))) else pg) pin len mb v h L ∧ Fr (MF b mb v h L) w w' := by
  have HH : Hid (Calls Tryd.prog 27 #[.pointer (some ⟨b, 0, none⟩), .int .u32 id] w _) := held_calls H hid
  unfold heldA at HH
  have HM := Lib.hid H
  have hlen := H.len_le
  have hwf := wf_id hid
  by_cases h0 : heldE (pg id) = 0
  · obtain ⟨pv, pn, hp, hpn⟩ : ∃ pv pn, pg id = some (pv, pn) ∧ ¬ pn = 0 := by
      cases hp : pg id with
      | none => rw [hp] at h0; simp [heldE] at h0
      | some p =>
        refine ⟨p.1, p.2, rfl, fun q => ?_⟩
        rw [hp] at h0; simp [heldE, q] at h0
    have hY : heldY (pg id) = pn := by rw [hp]; rfl
    have HPN : Hid (pn < 1000000) := (H.ok id _ hp).2
    rw [if_pos h0]
    rw [h0] at HH ⊢
    rw [hY] at HH ⊢
    have KM : Hid (∀ W w2, Fr NoF w W → MpV Tryd.prog 33 .u32 zeroP w2 mb (if (pgM pg (id : Int)).isSome then len else len + 1) (updV (pgM pg) (id : Int) (some (.agg #[.int .u64 x, .int .i64 pn]))) → Fr (fun i => i = mb) W w2 → MM w2 b n room (updP pg id (some (x, pn))) pin len mb v h L ∧ Fr (MF b mb v h L) w w2) := fun W w2 f1 hm f2 => ⟨(HM.out.fr0 f1).put hp ⟨hx, HPN.out⟩ hm f2, (f1.mono (fun _ q => q.elim)).trans f2 (fun i q => .inl (.inr (.inl q)))⟩
    have KC : Hid (∀ W, Fr NoF w W → W.cell? ⟨b, 1, none⟩ = some (.map (some mb)) ∧ b < W.heap.size) := fun W f => ⟨(HM.out.fr0 f).ce 1 (by omega), (HM.out.fr0 f).lc.blk.lt⟩
    generalize heldX (pg id) = X at *
    clear H hx h0 hpn hp hY
    go_enter Tryd.func18, Tryd.ntmps18
    go_wp2_with fail
    refine HH.out.mono ?_
    clear HH
    rintro e w1 ⟨rfl, f⟩
    have HF := Lib.hid f
    obtain ⟨x1, x2⟩ := KC.out w1 f
    clear f
    go_wp2
    obtain ⟨w2, hrun, m1, m2⟩ := (HM.out.fr0 ((HF.out.alloc (.cells #[.int .u64 x, .int .i64 pn] 65)).drew)).mp.put_run MVm (by omega) hwf (.agg #[.int .u64 x, .int .i64 pn])
    obtain ⟨r1, r2⟩ := KM.out _ w2 ((HF.out.alloc (.cells #[.int .u64 x, .int .i64 pn] 65)).drew) m1 m2
    have R1 := Lib.hid r1
    have R2 := Lib.hid r2
    clear m1 m2 r1 r2
    go_region
    all_goals
      go_wp2
      go_returns
      exact ⟨rfl, R1.out, R2.out⟩
  · rw [if_neg h0]
    have g0 : (heldE (pg id) != 0) = true := by simpa using h0
    generalize heldE (pg id) = E at *
    generalize heldX (pg id) = X at *
    generalize heldY (pg id) = Y at *
    clear H h0
    go_enter Tryd.func18, Tryd.ntmps18
    go_wp2_with fail
    refine HH.out.mono ?_
    rintro e w1 ⟨rfl, f⟩
    have HF := Lib.hid f
    clear f
    go_wp2
    go_returns
    have f2 := HF.out.alloc (.cells #[.int .u64 X, .int .i64 Y] 65)
    exact ⟨rfl, HM.out.fr0 f2, f2.mono (fun _ q => q.elim)⟩
end
end Go.Proofs.YtnjdoifgljdjcaaDoor

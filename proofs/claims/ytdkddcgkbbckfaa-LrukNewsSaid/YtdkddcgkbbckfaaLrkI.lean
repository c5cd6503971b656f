/-
  lruk's LRUK in memory: remember.
-/
import Derived.Test.YtdkddcgkbbckfaaLrkH
namespace Go.Proofs.Ytdkddcgkbbckfaa
open Go.RowKit Go.Maps
set_option linter.unusedVariables false

section
variable {w w' : World} {lb fb mb q1 q2 q3 q4 ne : Nat} {S : LK} {FC F4 : Nat → Prop}
theorem LM.forget (h : LM w lb S fb mb q1 q2 q3 q4 ne FC F4) {x : Nat} (hm : MpV Try.prog 35 .u32 zeroPast w' mb (if (psM S.P (x : Int)).isSome then ne - 1 else ne) (updV (psM S.P) (x : Int) none)) (f : Fr (fun i => i = mb) w w') : LM w' lb { S with P := updO S.P x none } fb mb q1 q2 q3 q4 (if (psM S.P (x : Int)).isSome then ne - 1 else ne) FC F4 := by
  have e : updV (psM S.P) (x : Int) none = psM (updO S.P x none) := psM_upd S.P x none
  rw [e] at hm
  refine h.newMap hm f (by have := h.ne; split <;> omega) (fun z p q => ?_)
  by_cases e : z = x
  · subst e; rw [updO_same] at q; cases q
  · rw [updO_other _ _ e] at q; exact h.ok.past z p q
set_option maxRecDepth 100000 in
set_option maxHeartbeats 4000000 in
theorem remember_calls (h : LM w lb S fb mb q1 q2 q3 q4 ne FC F4) {x : Nat} (hx : okN x) (hnew : oldK S.Old x = none) (hg : S.gone < 800000) : Calls Try.prog 37 #[.pointer (some ⟨lb, 0, none⟩), .int .u32 x] w fun e w' => e = .returned (.tuple #[]) ∧ ∃ ne' F4', LM w' lb (remS S x) fb mb q1 q2 q3 q4 ne' FC F4' ∧ Fr (LF lb fb mb FC F4) w w' ∧ ∀ i, F4' i → F4 i ∨ w.heap.size ≤ i := by
  obtain ⟨g1, hg1⟩ : ∃ g1 : Int, g1 = ((S.gone + 1 : Nat) : Int) := ⟨_, rfl⟩
  have hw : IntKind.i64.wrap ((S.gone : Int) + 1) = g1 := by rw [show ((S.gone : Int) + 1) = ((S.gone + 1 : Nat) : Int) from by omega, hg1]; exact IntWalk.i64_in _ (by omega)
  obtain ⟨h1, f1⟩ := h.goes (z := g1) hg1
  have HG1 := Lib.hid hg1
  have H1 := Lib.hid h1
  have HF1 := Lib.hid f1
  have c10 : w.cell? ⟨lb, 10, none⟩ = some (.int .i64 S.gone) := h.ce 10 (by omega)
  have lt := h.blk.lt
  have fz := h.blk.frozen 10
  have HX := Lib.hid hx
  have HOLD := Lib.hid h.ok.old
  have HORD := Lib.hid h.ok.ord
  have HLEN := Lib.hid h.ok.oldn
  have HNEW := Lib.hid hnew
  have hcv : IntKind.i64.wrap (x : Int) = (x : Int) := IntWalk.i64_in _ (by unfold okN at hx; omega)
  have HLT : Hid (∀ i, F4 i → i < w.heap.size) := h.qk.lt
  clear h h1 f1 hnew hx hg1
  go_enter Try.func37, Try.ntmps37
  go_upto_region 1 with fail
  generalize w.setCell ⟨lb, 10, none⟩ (.int .i64 g1) = w1 at *
  have c9 : w1.cell? ⟨lb, 9, none⟩ = some (.pointer (some ⟨q4, 0, none⟩)) := H1.out.ce 9 (by omega)
  have c10' : w1.cell? ⟨lb, 10, none⟩ = some (.int .i64 g1) := by rw [HG1.out]; exact H1.out.ce 10 (by omega)
  have lt1 := H1.out.blk.lt
  clear c10 lt fz
  have HP := Lib.hid (qk_put (H1.out.qk.fr0 (Fr.refl NoF w1).drew) HX.out (a := g1) (b := 0) (i64_in (by rw [HG1.out]; exact ⟨by omega, by omega⟩)) (i64_in ⟨by omega, by omega⟩) (by show S.Old.length < 900000; have := HLEN.out; omega))
  have H1d := Lib.hid (H1.out.fr0 (Fr.refl NoF w1).drew)
  go_still_tail 11, (by kernel_rfl)
  go_wp2_with fail
  refine HP.out.mono ?_
  rintro e w2 ⟨rfl, F4a, h2, f2, hF2⟩
  have e1 : updK (oldK S.Old) x (some (g1, 0)) = oldK (S.Old ++ [(x, S.gone + 1)]) := by rw [HG1.out]; exact (oldK_app HNEW.out _).symm
  have e2 : moreN S.Old.length (oldK S.Old x).isSome = (S.Old ++ [(x, S.gone + 1)]).length := by rw [HNEW.out, List.length_append]; rfl
  have h2' : QK w2 q4 (oldK (S.Old ++ [(x, S.gone + 1)])) (S.Old ++ [(x, S.gone + 1)]).length F4a := by rw [← e1, ← e2]; exact h2
  have hord : OrdO (S.Old ++ [(x, S.gone + 1)]) := ord_app HORD.out HNEW.out (fun p q => by have := (HOLD.out p q).2; omega)
  have h3 := H1d.out.newQ h2' f2 hF2 (fun p q => by
    rcases List.mem_append.1 q with q | q
    · exact ⟨(HOLD.out p q).1, Nat.le_succ_of_le (HOLD.out p q).2⟩
    · obtain rfl : p = (x, S.gone + 1) := by simpa using q
      exact ⟨HX.out, Nat.le_refl _⟩) (by rw [List.length_append]; exact Nat.succ_le_succ HLEN.out) hord
  have H3 := Lib.hid h3
  have HORD2 := Lib.hid hord
  have f12 : Fr (LF lb fb mb FC F4) w w2 := ((HF1.out.mono (fun i q => .inl q)).drew).trans f2 (fun i q => .inl (.inr (.inr (.inr (.inr q)))))
  have HF2 := Lib.hid f12
  have hF2' : ∀ i, F4a i → F4 i ∨ w.heap.size ≤ i := fun i q => (hF2 i q).elim .inl (fun z => .inr (Nat.le_trans HF1.out.size z))
  have HG2 := Lib.hid hF2'
  have HREM : Hid (remS S x = if S.kept < (S.Old ++ [(x, S.gone + 1)]).length then { S with gone := S.gone + 1, Old := (S.Old ++ [(x, S.gone + 1)]).tail, P := updO S.P ((S.Old ++ [(x, S.gone + 1)]).headD (0, 0)).1 none } else { S with gone := S.gone + 1, Old := S.Old ++ [(x, S.gone + 1)] }) := rfl
  have hl1 : (S.Old ++ [(x, S.gone + 1)]).length < 900000 := by rw [List.length_append]; have := HLEN.out; simp; omega
  clear h2 f2 hF2 e1 e2 h2' hord h3 f12 hF2' c9 c10' lt1
  generalize hl : S.Old ++ [(x, S.gone + 1)] = l at *
  have HL := Lib.hid hl
  clear hl
  have c9 : w2.cell? ⟨lb, 9, none⟩ = some (.pointer (some ⟨q4, 0, none⟩)) := H3.out.ce 9 (by omega)
  have c2 : w2.cell? ⟨lb, 2, none⟩ = some (.int .i64 S.kept) := H3.out.ce 2 (by omega)
  have lt2 := H3.out.blk.lt
  have HQL : Hid (∀ W, Fr NoF w2 W → Calls Try.prog 38 #[.pointer (some ⟨q4, 0, none⟩)] W fun e w' => e = .returned (.int .i64 (l.length : Nat)) ∧ W = w') := fun W f => qk_len (H3.out.qk.fr0 f)
  by_cases hk : S.kept < l.length
  · have hki : (S.kept : Int) < (l.length : Int) := by omega
    obtain ⟨p, l', rfl⟩ : ∃ p l', l = p :: l' := by
      cases l with
      | nil => simp at hk
      | cons p l' => exact ⟨p, l', rfl⟩
    have hki2 : (S.kept : Int) < (l'.length : Int) + 1 := by rw [List.length_cons] at hki; omega
    go_wp2_with fail
    go_quiet ((go_at_call 38; (with_reducible exact qs (HQL.out _ (by first | exact Fr.refl _ _ | exact (Fr.refl NoF w2).drew | exact (Fr.refl NoF w2).drewN _)))))
    have h4 := H3.out.fr0 ((Fr.refl NoF w2).drewN nq)
    have f4 := HF2.out.drewN nq
    have hs4 : w2.heap.size = (w2.drewN nq).heap.size := rfl
    clear HQL c9 c2 lt2
    generalize w2.drewN nq = w3 at *
    have H4 := Lib.hid h4
    have HF4 := Lib.hid f4
    have c9 : w3.cell? ⟨lb, 9, none⟩ = some (.pointer (some ⟨q4, 0, none⟩)) := h4.ce 9 (by omega)
    have lt3 := h4.blk.lt
    have hp1 : okN p.1 := (h4.ok.old p (by simp)).1
    obtain ⟨y, hly, HLy⟩ := qk_least h4.qk (by simp)
    obtain rfl := oldK_least HORD2.out hly
    have HD := Lib.hid (qk_drop h4.qk hp1)
    have HP1 := Lib.hid hp1
    have hcu : IntKind.u32.wrap (p.1 : Int) = (p.1 : Int) := IntWalk.u32_in _ (by unfold okN at hp1; omega)
    have hwf := okN_wf hp1
    clear h4 f4 hly hp1 hs4
    go_wp2_with fail
    refine (HLy.out _ (Fr.refl _ _)).mono ?_
    rintro e w4 ⟨rfl, rfl⟩
    go_wp2_with fail
    refine HD.out.mono ?_
    rintro e w5 ⟨rfl, hq, f5⟩
    have e1 : updK (oldK (p :: l')) p.1 none = oldK l' := (oldK_tail HORD2.out).symm
    have e2 : lessN (p :: l').length (oldK (p :: l') p.1).isSome = l'.length := by rw [oldK_cons, if_pos rfl]; simp [lessN]
    have hq' : QK w5 q4 (oldK l') l'.length F4a := by rw [← e1, ← e2]; exact hq
    have hS4 := H4.out.ok
    have h5 := H4.out.newQ hq' f5 (fun i q => .inl q) (fun r hr => hS4.old r (by simp [hr])) (by have := hS4.oldn; simp at this; show l'.length ≤ S.gone + 1; omega) (List.pairwise_cons.1 HORD2.out).2
    have H5 := Lib.hid h5
    have HF5 := Lib.hid f5
    have c5 : w5.cell? ⟨lb, 5, none⟩ = some (.map (some mb)) := h5.ce 5 (by omega)
    have lt5 := h5.blk.lt
    clear e1 e2 hq' hS4 h5 f5 hq c9
    generalize (oldK (p :: l') p.1).isSome = ob at *
    go_wp2_with (at_delete; go_must (refine wp_delV MVp H5.out.mp rfl _ _ rfl (by rfl) (by rfl) hwf ?_); intro w6 m1 m2; have KK := Lib.hid (H5.out.forget m1 m2); have KF := Lib.hid m2; clear m1 m2)
    go_returns
    have gF : ∀ i, F4a i → LF lb fb mb FC F4 i ∨ w.heap.size ≤ i := fun i q => (HG2.out i q).elim (fun z => .inl (.inr (.inr (.inr (.inr z))))) .inr
    rw [HREM.out, if_pos hk]
    exact ⟨rfl, _, F4a, KK.out, (HF4.out.trans HF5.out gF).trans KF.out (fun i q => .inl (.inr (.inr (.inl q)))), HG2.out⟩
  · have hki : ¬ (S.kept : Int) < (l.length : Int) := by omega
    have hkd : decide ((S.kept : Int) < (l.length : Int)) = false := by simpa using hki
    go_wp2_with fail
    go_quiet ((go_at_call 38; (with_reducible exact qs (HQL.out _ (by first | exact Fr.refl _ _ | exact (Fr.refl NoF w2).drew | exact (Fr.refl NoF w2).drewN _)))))
    go_wp2
    go_returns
    rw [HREM.out, if_neg hk]
    exact ⟨rfl, ne, F4a, H3.out.fr0 ((Fr.refl NoF w2).drewN _), HF2.out.drewN _, HG2.out⟩
end
end Go.Proofs.Ytdkddcgkbbckfaa

/-
  lruk's LRUK in memory: Set, Remove.
-/
import Derived.Test.YtdkddcgkbbckfaaLrkK
namespace Go.Proofs.Ytdkddcgkbbckfaa
open Go.RowKit Go.Maps
set_option linter.unusedVariables false

def setS (S : LK) (at' : Nat) (on : Bool) : LK :=
  if (S.R at').isSome = on then S
  else if on then { S with R := updK S.R at' (some (rankOf S (S.fr at').2)), Fa := updB1 S.Fa at' false, t := S.t + 1 }
  else { S with R := updK S.R at' none, t := S.t - 1 }
def remvS (S : LK) (at' : Nat) : LK :=
  { S with fr := updF S.fr at' (false, (S.fr at').2), R := updK S.R at' none, t := lessN S.t (S.R at').isSome, P := updO S.P (S.fr at').2 none }
section
variable {w w' : World} {lb fb mb q1 q2 q3 q4 ne : Nat} {S : LK} {FC F4 : Nat → Prop}
set_option maxRecDepth 100000 in
set_option maxHeartbeats 4000000 in
theorem set_calls (h : LM w lb S fb mb q1 q2 q3 q4 ne FC F4) {at' : Nat} (ha : at' < S.n) (hfu : (S.fr at').1 = true) (hT : S.T < 1000000) (on : Bool) : Calls Try.prog 16 #[.pointer (some ⟨lb, 0, none⟩), .int .i64 at', .bool on] w fun e w' => e = .returned (.tuple #[]) ∧ ∃ FC', LM w' lb (setS S at' on) fb mb q1 q2 q3 q4 ne FC' F4 ∧ Fr (LF lb fb mb FC F4) w w' ∧ (∀ i, FC' i → FC i ∨ w.heap.size ≤ i) := by
  have hat : okN at' := by have := h.ok.n1; unfold okN; omega
  have HI := Lib.hid (has_calls h ha)
  rw [hfu] at HI
  have HH := Lib.hid (cc_has h.cc hat)
  have H0 := Lib.hid h
  have HA : Hid (at' < S.n) := ha
  have HAT := Lib.hid hat
  have lt := h.blk.lt
  have HT := Lib.hid hT
  have HPK := Lib.hid (h.ok.fr at')
  obtain ⟨PG, hPG⟩ : ∃ PG, PG = (S.fr at').2 := ⟨_, rfl⟩
  rw [← hPG] at HPK
  have HPG := Lib.hid hPG
  clear h hat hfu hT ha hPG
  cases hR : (S.R at').isSome with
  | false =>
    have HR := Lib.hid hR
    rw [hR] at HH
    clear hR
    cases on with
    | false =>
      have HS : Hid (setS S at' false = S) := by unfold Hid setS; rw [if_pos HR.out]
      go_enter Try.func16, Try.ntmps16
      go_wp2_with fail
      refine HI.out.mono ?_
      rintro e w1 ⟨rfl, rfl⟩
      go_wp2_with fail
      refine HH.out.mono ?_
      rintro e w1 ⟨rfl, f1⟩
      have HF1 := Lib.hid f1
      clear f1
      go_wp2
      go_returns
      rw [HS.out]
      exact ⟨rfl, FC, H0.out.fr0 HF1.out, HF1.out.none, fun i q => .inl q⟩
    | true =>
      have HS : Hid (setS S at' true = { S with R := updK S.R at' (some (rankOf S PG)), Fa := updB1 S.Fa at' false, t := S.t + 1 }) := by unfold Hid setS; rw [if_neg (by rw [HR.out]; simp), if_pos rfl, HPG.out]
      have ha1 : (at' : Int) < S.n := by have := HA.out; omega
      have ha0 : 0 ≤ (at' : Int) := by omega
      go_enter Try.func16, Try.ntmps16
      go_wp2_with fail
      refine HI.out.mono ?_
      rintro e w1 ⟨rfl, rfl⟩
      go_wp2_with fail
      refine HH.out.mono ?_
      rintro e wN ⟨rfl, fN⟩
      have h3 := H0.out.fr0 fN
      have H3 := Lib.hid h3
      have HFN : Hid (Fr (LF lb fb mb FC F4) w wN) := fN.none
      have c4 : wN.cell? ⟨lb, 4, none⟩ = some (.slice (some ⟨fb, 0, none⟩) S.n S.n) := h3.ce 4 (by omega)
      have pgc : wN.cell? ⟨fb, at' * 2 + 1, none⟩ = some (.int .u32 (PG : Nat)) := by rw [HPG.out]; exact h3.page HA.out
      have lt := h3.blk.lt
      have lf := h3.frs.lt
      clear h3 fN HH HI
      have hrk := H3.out.pastok PG
      have hk8 : 0 ≤ (rankOf S PG).1 ∧ (rankOf S PG).1 ≤ S.T ∧ 0 ≤ (rankOf S PG).2 ∧ (rankOf S PG).2 ≤ S.T := by
        have := hrk.2.2 (S.k - 1)
        unfold rankOf
        simp only
        omega
      have HRK := Lib.hid hk8
      have HCR : Hid (∀ W, Fr NoF wN W → Calls Try.prog 32 #[.pointer (some ⟨lb, 0, none⟩), .int .u32 PG] W fun e w' => e = .returned (.agg #[.int .i64 (rankOf S PG).1, .int .i64 (rankOf S PG).2]) ∧ Fr NoF wN w') := fun W f => (rank_calls (H3.out.fr0 f) HPK.out).mono fun e w' ⟨he, hf⟩ => ⟨he, f.trans hf (fun _ q => q.elim)⟩
      clear hrk hk8
      generalize hr1 : (rankOf S PG).1 = r1 at *
      generalize hr2 : (rankOf S PG).2 = r2 at *
      have HR1 := Lib.hid hr1
      have HR2 := Lib.hid hr2
      clear hr1 hr2
      have HC2 : Hid (∀ W, Fr NoF wN W → W.cell? ⟨lb, 4, none⟩ = some (.slice (some ⟨fb, 0, none⟩) S.n S.n) ∧ W.cell? ⟨fb, at' * 2 + 1, none⟩ = some (.int .u32 (PG : Nat))) := fun W f => ⟨(H3.out.fr0 f).ce 4 (by omega), by rw [HPG.out]; exact (H3.out.fr0 f).page HA.out⟩
      have HP : Hid (∀ W, Fr NoF wN W → Calls Try.prog 31 #[.pointer (some ⟨lb, 6, none⟩), .int .i64 at', .agg #[.int .i64 r1, .int .i64 r2]] W fun e w' => e = .returned (.tuple #[]) ∧ ∃ FC', LM w' lb { S with R := updK S.R at' (some (r1, r2)), Fa := updB1 S.Fa at' false, t := S.t + 1 } fb mb q1 q2 q3 q4 ne FC' F4 ∧ Fr FC wN w' ∧ (∀ i, FC' i → FC i ∨ wN.heap.size ≤ i) ∧ w'.cell? ⟨lb, 4, none⟩ = some (.slice (some ⟨fb, 0, none⟩) S.n S.n) ∧ w'.cell? ⟨fb, at' * 2 + 1, none⟩ = some (.int .u32 (PG : Nat))) := fun W f => by
        have h5 := H3.out.fr0 f
        refine (cc_put h5.cc HAT.out (a := r1) (b := r2) (i64_in (by have := HRK.out; have := HT.out; omega)) (i64_in (by have := HRK.out; have := HT.out; omega)) (by have := h5.ok.tle; have := h5.ok.n1; omega)).mono ?_
        rintro e wP ⟨he, FC', hc, fP, hFC⟩
        rw [HR.out] at hc
        have h6 := h5.newCC hc fP hFC (by rw [cntR_put _ _ HA.out, HR.out, ← H3.out.ok.tn])
        exact ⟨he, FC', h6, f.none.trans fP (fun i q => .inl q), fun i q => (hFC i q).elim .inl (fun z => .inr (Nat.le_trans f.size z)), h6.ce 4 (by omega), by rw [HPG.out]; exact h6.page HA.out⟩
      go_wp2_with fail
      go_region_held3 (fun w' => w'.cell? ⟨lb, 4, none⟩ = some (.slice (some ⟨fb, 0, none⟩) S.n S.n) ∧ w'.cell? ⟨fb, at' * 2 + 1, none⟩ = some (.int .u32 (PG : Nat)))
        (first | exact HPP.out | exact HC2.out _ (by repeat (first | exact FR.out | exact Fr.refl NoF _ | apply Fr.drew)))
        (first
        | (go_at_call 32; (with_reducible refine (HCR.out _ (by repeat (first | exact Fr.refl NoF _ | apply Fr.drew))).mono ?_); rintro e wR ⟨rfl, fR⟩; have FR := Lib.hid fR; clear fR)
        | (go_at_call 31; (with_reducible refine (HP.out _ (by repeat (first | exact FR.out | apply Fr.drew))).mono ?_); rintro e wP ⟨rfl, FC', h6, fP, hFC, hpp⟩; have HPP := Lib.hid hpp; have H6 := Lib.hid h6; have FP := Lib.hid fP; have HFC := Lib.hid hFC; clear h6 fP hFC hpp))
      go_wp2
      go_returns
      rw [HS.out]
      exact ⟨rfl, FC', by
        have := H6.out
        rw [← HR1.out, ← HR2.out] at this
        exact this, HFN.out.trans FP.out (fun i q => .inl (.inr (.inr (.inr (.inl q))))), fun i q => (HFC.out i q).elim .inl (fun z => .inr (Nat.le_trans HFN.out.size z))⟩
  | true =>
    have HR := Lib.hid hR
    rw [hR] at HH
    clear hR
    cases on with
    | true =>
      have HS : Hid (setS S at' true = S) := by unfold Hid setS; rw [if_pos HR.out]
      go_enter Try.func16, Try.ntmps16
      go_wp2_with fail
      refine HI.out.mono ?_
      rintro e w1 ⟨rfl, rfl⟩
      go_wp2_with fail
      refine HH.out.mono ?_
      rintro e w1 ⟨rfl, f1⟩
      have HF1 := Lib.hid f1
      clear f1
      go_wp2
      go_returns
      rw [HS.out]
      exact ⟨rfl, FC, H0.out.fr0 HF1.out, HF1.out.none, fun i q => .inl q⟩
    | false =>
      have HS : Hid (setS S at' false = { S with R := updK S.R at' none, t := S.t - 1 }) := by unfold Hid setS; rw [if_neg (by rw [HR.out]; simp), if_neg (by simp)]
      go_enter Try.func16, Try.ntmps16
      go_wp2_with fail
      refine HI.out.mono ?_
      rintro e w1 ⟨rfl, rfl⟩
      go_wp2_with fail
      refine HH.out.mono ?_
      rintro e wN ⟨rfl, fN⟩
      have h3 := H0.out.fr0 fN
      have HD := Lib.hid (cc_drop h3.cc HAT.out)
      have H3 := Lib.hid h3
      have HFN := Lib.hid fN
      have lt := h3.blk.lt
      clear h3 fN HH HI
      go_wp2_with fail
      refine HD.out.mono ?_
      rintro e w2 ⟨rfl, hc, f2⟩
      rw [HR.out] at hc
      have h4 := H3.out.newCC hc f2 (fun i q => .inl q) (by rw [cntR_drop _ HA.out, HR.out, ← H3.out.ok.tn])
      have H4 := Lib.hid h4
      have HF2 := Lib.hid f2
      clear h4 hc f2
      go_wp2
      go_returns
      rw [HS.out]
      exact ⟨rfl, FC, H4.out, HFN.out.none.trans HF2.out (fun i q => .inl (.inr (.inr (.inr (.inl q))))), fun i q => .inl q⟩
theorem access_calls (h : LM w lb S fb mb q1 q2 q3 q4 ne FC F4) {at' page : Nat} (ha : at' < S.n) (hp : okN page) (hT : S.T < 900000) : Calls Try.prog 15 #[.pointer (some ⟨lb, 0, none⟩), .int .i64 at', .int .u32 page] w fun e w' => e = .returned (.tuple #[]) ∧ ∃ ne' FC' F4', LM w' lb (accS S at' page) fb mb q1 q2 q3 q4 ne' FC' F4' ∧ Fr (LF lb fb mb FC F4) w w' ∧ (∀ i, FC' i → FC i ∨ w.heap.size ≤ i) ∧ ∀ i, F4' i → F4 i ∨ w.heap.size ≤ i := by
  cases e : (S.fr at').1 with
  | true => exact access_full h ha hp hT e
  | false => exact access_new h ha hp hT e
end
end Go.Proofs.Ytdkddcgkbbckfaa

/-
  lruk's LRUK in memory: what a write changes; rank, empty.
-/
import Derived.Test.YtdkddcgkbbckfaaLrkF
namespace Go.Proofs.Ytdkddcgkbbckfaa
open Go.RowKit Go.Maps
set_option linter.unusedVariables false

def updF (f : Nat → Bool × Nat) (x : Nat) (p : Bool × Nat) : Nat → Bool × Nat := fun i => if i = x then p else f i
theorem updF_same (f : Nat → Bool × Nat) (x : Nat) (p : Bool × Nat) : updF f x p x = p := if_pos rfl
theorem updF_other (f : Nat → Bool × Nat) {x z : Nat} (p : Bool × Nat) (h : ¬ z = x) : updF f x p z = f z := if_neg h
section
variable {w w' : World} {lb fb mb q1 q2 q3 q4 ne : Nat} {S : LK} {FC F4 : Nat → Prop}
theorem LM.newFr (h : LM w lb S fb mb q1 q2 q3 q4 ne FC F4) {f' : Nat → Bool × Nat} (hb : Blk w' fb (2 * S.n) (frC f')) (f : Fr (fun i => i = fb) w w') (hok : ∀ i, okN (f' i).2) : LM w' lb { S with fr := f' } fb mb q1 q2 q3 q4 ne FC F4 :=
  ⟨h.blk.fr f (fun q => h.d1 q.symm), hb, h.mp.fr f h.d3, h.cc.fr f (fun i q e => h.d4 (e ▸ q)) (fun q => h.d1 q.symm), h.qk.fr f (fun i q e => h.d7 (e ▸ q)), h.d1, h.d2, h.d3, h.d4, h.d5, h.d6, h.d7, h.d8, h.d9, h.ne, ⟨h.ok.n1, h.ok.k1, h.ok.near, h.ok.kept, hok, h.ok.past, h.ok.tn, h.ok.old, h.ok.oldn, h.ok.ord⟩⟩
theorem LM.newCC (h : LM w lb S fb mb q1 q2 q3 q4 ne FC F4) {R' : Nat → Option (Int × Int)} {Fa' : Nat → Bool} {t' : Nat} {FC' : Nat → Prop} (hc : CC w' lb R' Fa' t' FC') (f : Fr FC w w') (hF : ∀ i, FC' i → FC i ∨ w.heap.size ≤ i) (ht : t' = cntR R' S.n) : LM w' lb { S with R := R', Fa := Fa', t := t' } fb mb q1 q2 q3 q4 ne FC' F4 := by
  have l1 := h.blk.lt
  have l2 := h.frs.lt
  have l3 := h.mp.lt
  have l4 := h.qk.lt
  exact ⟨h.blk.fr f h.cc.notl, h.frs.fr f h.d4, h.mp.fr f h.d5, hc, h.qk.fr f (fun i q q' => h.d9 i q' q), h.d1, h.d2, h.d3, fun q => (hF _ q).elim h.d4 (fun z => by omega), fun q => (hF _ q).elim h.d5 (fun z => by omega), h.d6, h.d7, h.d8, fun i q q' => (hF i q).elim (fun z => h.d9 i z q') (fun z => by have := l4 i q'; omega), h.ne, ⟨h.ok.n1, h.ok.k1, h.ok.near, h.ok.kept, h.ok.fr, h.ok.past, ht, h.ok.old, h.ok.oldn, h.ok.ord⟩⟩
theorem LM.newQ (h : LM w lb S fb mb q1 q2 q3 q4 ne FC F4) {l' : List (Nat × Nat)} {F4' : Nat → Prop} (hq : QK w' q4 (oldK l') l'.length F4') (f : Fr F4 w w') (hF : ∀ i, F4' i → F4 i ∨ w.heap.size ≤ i) (ho : ∀ p, p ∈ l' → okN p.1 ∧ p.2 ≤ S.gone) (hn : l'.length ≤ S.gone) (hord : l'.Pairwise fun p q => p.2 < q.2 ∧ ¬ p.1 = q.1) : LM w' lb { S with Old := l' } fb mb q1 q2 q3 q4 ne FC F4' := by
  have l1 := h.blk.lt
  have l2 := h.frs.lt
  have l3 := h.mp.lt
  have l4 := h.cc.lt
  exact ⟨h.blk.fr f h.d6, h.frs.fr f h.d7, h.mp.fr f h.d8, h.cc.fr f h.d9 h.d6, hq, h.d1, h.d2, h.d3, h.d4, h.d5, fun q => (hF _ q).elim h.d6 (fun z => by omega), fun q => (hF _ q).elim h.d7 (fun z => by omega), fun q => (hF _ q).elim h.d8 (fun z => by omega), fun i q q' => (hF i q').elim (fun z => h.d9 i q z) (fun z => by have := l4 i q; omega), h.ne, ⟨h.ok.n1, h.ok.k1, h.ok.near, h.ok.kept, h.ok.fr, h.ok.past, h.ok.tn, ho, hn, hord⟩⟩
theorem LM.newMap (h : LM w lb S fb mb q1 q2 q3 q4 ne FC F4) {P' : Nat → Option (Int × (Nat → Int))} {ne' : Nat} (hm : MpV Try.prog 35 .u32 zeroPast w' mb ne' (psM P')) (f : Fr (fun i => i = mb) w w') (hn : ne' ≤ S.T) (hp : ∀ x p, P' x = some p → 0 ≤ p.1 ∧ p.1 ≤ S.T ∧ ∀ j, 0 ≤ p.2 j ∧ p.2 j ≤ p.1 ∧ p.2 j ≤ p.2 0) : LM w' lb { S with P := P' } fb mb q1 q2 q3 q4 ne' FC F4 :=
  ⟨h.blk.fr f (fun q => h.d2 q.symm), h.frs.fr f (fun q => h.d3 q.symm), hm, h.cc.fr f (fun i q e => h.d5 (e ▸ q)) (fun q => h.d2 q.symm), h.qk.fr f (fun i q e => h.d8 (e ▸ q)), h.d1, h.d2, h.d3, h.d4, h.d5, h.d6, h.d7, h.d8, h.d9, hn, ⟨h.ok.n1, h.ok.k1, h.ok.near, h.ok.kept, h.ok.fr, hp, h.ok.tn, h.ok.old, h.ok.oldn, h.ok.ord⟩⟩
theorem CC.set {R : Nat → Option (Int × Int)} {Fa : Nat → Bool} {t : Nat} {F : Nat → Prop} {c : Nat → Value} (h : CC w lb R Fa t F) (hb : Blk w lb 11 c) {i : Nat} (hi : ¬ i = 6 ∧ ¬ i = 7 ∧ ¬ i = 8) (v : Value) : CC (w.setCell ⟨lb, i, none⟩ v) lb R Fa t F := by
  have hn := h.notl
  obtain ⟨p1, p2, p3, nf, nr, F1, F2, F3, h, ht, hF⟩ := h
  have f : Fr (fun z => z = lb) w (w.setCell ⟨lb, i, none⟩ v) := (Fr.refl (fun z => z = lb) w).setCell (p := ⟨lb, i, none⟩) (.inl rfl) v
  have hb2 := hb.set i v
  have e6 : (w.setCell ⟨lb, i, none⟩ v).cell? ⟨lb, 6, none⟩ = w.cell? ⟨lb, 6, none⟩ := by
    rw [hb2.cell (i := 6) (by omega), hb.cell (i := 6) (by omega), upd_other _ _ (by omega)]
  have e7 : (w.setCell ⟨lb, i, none⟩ v).cell? ⟨lb, 7, none⟩ = w.cell? ⟨lb, 7, none⟩ := by
    rw [hb2.cell (i := 7) (by omega), hb.cell (i := 7) (by omega), upd_other _ _ (by omega)]
  have e8 : (w.setCell ⟨lb, i, none⟩ v).cell? ⟨lb, 8, none⟩ = w.cell? ⟨lb, 8, none⟩ := by
    rw [hb2.cell (i := 8) (by omega), hb.cell (i := 8) (by omega), upd_other _ _ (by omega)]
  exact ⟨p1, p2, p3, nf, nr, F1, F2, F3, ⟨e6.trans h.p6, e7.trans h.p7, e8.trans h.p8, Nat.lt_of_lt_of_le h.lt f.size, h.h1.fr f (fun i q e => h.n1 (e ▸ q)), h.h2.fr f (fun i q e => h.n2 (e ▸ q)), h.h3.fr f (fun i q e => h.n3 (e ▸ q)), h.d12, h.d13, h.d23, h.n1, h.n2, h.n3, h.ok⟩, ht, hF⟩
theorem LM.tick (h : LM w lb S fb mb q1 q2 q3 q4 ne FC F4) {z : Int} (hz : z = ((S.T + 1 : Nat) : Int)) : LM (w.setCell ⟨lb, 3, none⟩ (.int .i64 z)) lb { S with T := S.T + 1 } fb mb q1 q2 q3 q4 ne FC F4 ∧ Fr (fun i => i = lb) w (w.setCell ⟨lb, 3, none⟩ (.int .i64 z)) := by
  subst hz
  have f : Fr (fun z => z = lb) w (w.setCell ⟨lb, 3, none⟩ (.int .i64 ((S.T + 1 : Nat) : Int))) := (Fr.refl (fun z => z = lb) w).setCell (p := ⟨lb, 3, none⟩) (.inl rfl) _
  refine ⟨⟨(h.blk.set 3 _).congr (fun i hi => ?_), h.frs.fr f h.d1, h.mp.fr f h.d2, h.cc.set h.blk (by omega) _, h.qk.fr f (fun i q e => h.d6 (e ▸ q)), h.d1, h.d2, h.d3, h.d4, h.d5, h.d6, h.d7, h.d8, h.d9, Nat.le_succ_of_le h.ne, ⟨h.ok.n1, h.ok.k1, h.ok.near, h.ok.kept, h.ok.fr, fun x p q => ?_, h.ok.tn, h.ok.old, h.ok.oldn, h.ok.ord⟩⟩, f⟩
  · match i, hi with
    | 0, _ | 1, _ | 2, _ | 3, _ | 4, _ | 5, _ | 6, _ | 7, _ | 8, _ | 9, _ | 10, _ => rfl
  · obtain ⟨a, b, c⟩ := h.ok.past x p q
    exact ⟨a, by show p.1 ≤ ((S.T + 1 : Nat) : Int); omega, c⟩
theorem LM.goes (h : LM w lb S fb mb q1 q2 q3 q4 ne FC F4) {z : Int} (hz : z = ((S.gone + 1 : Nat) : Int)) : LM (w.setCell ⟨lb, 10, none⟩ (.int .i64 z)) lb { S with gone := S.gone + 1 } fb mb q1 q2 q3 q4 ne FC F4 ∧ Fr (fun i => i = lb) w (w.setCell ⟨lb, 10, none⟩ (.int .i64 z)) := by
  subst hz
  have f : Fr (fun z => z = lb) w (w.setCell ⟨lb, 10, none⟩ (.int .i64 ((S.gone + 1 : Nat) : Int))) := (Fr.refl (fun z => z = lb) w).setCell (p := ⟨lb, 10, none⟩) (.inl rfl) _
  refine ⟨⟨(h.blk.set 10 _).congr (fun i hi => ?_), h.frs.fr f h.d1, h.mp.fr f h.d2, h.cc.set h.blk (by omega) _, h.qk.fr f (fun i q e => h.d6 (e ▸ q)), h.d1, h.d2, h.d3, h.d4, h.d5, h.d6, h.d7, h.d8, h.d9, h.ne, ⟨h.ok.n1, h.ok.k1, h.ok.near, h.ok.kept, h.ok.fr, h.ok.past, h.ok.tn, fun p q => ⟨(h.ok.old p q).1, Nat.le_succ_of_le (h.ok.old p q).2⟩, Nat.le_succ_of_le h.ok.oldn, h.ok.ord⟩⟩, f⟩
  match i, hi with
  | 0, _ | 1, _ | 2, _ | 3, _ | 4, _ | 5, _ | 6, _ | 7, _ | 8, _ | 9, _ | 10, _ => rfl
theorem frC_full (f : Nat → Bool × Nat) (x : Nat) (b : Bool) : upd (frC f) (x * 2) (.bool b) = frC (updF f x (b, (f x).2)) := by
  funext i
  unfold upd frC updF
  by_cases e : i = x * 2
  · subst e; rw [if_pos rfl, if_pos (by omega), show x * 2 / 2 = x from by omega, if_pos rfl]
  · rw [if_neg e]
    by_cases e2 : i / 2 = x
    · rw [if_neg (by omega), if_neg (by omega), if_pos e2, e2]
    · rw [if_neg e2]
theorem frC_both (f : Nat → Bool × Nat) (x : Nat) (b : Bool) (p : Nat) : upd (upd (frC f) (x * 2) (.bool b)) (x * 2 + 1) (.int .u32 p) = frC (updF f x (b, p)) := by
  funext i
  unfold upd frC updF
  by_cases e : i = x * 2
  · subst e; rw [if_neg (by omega), if_pos rfl, if_pos (by omega), show x * 2 / 2 = x from by omega, if_pos rfl]
  · by_cases e3 : i = x * 2 + 1
    · subst e3; rw [if_pos rfl, if_neg (by omega), show (x * 2 + 1) / 2 = x from by omega, if_pos rfl]
    · rw [if_neg e3, if_neg e, if_neg (show ¬ i / 2 = x by omega)]
set_option maxHeartbeats 1000000 in
theorem empty_calls (h : LM w lb S fb mb q1 q2 q3 q4 ne FC F4) {at' : Nat} (ha : at' < S.n) : Calls Try.prog 36 #[.pointer (some ⟨lb, 0, none⟩), .int .i64 at'] w fun e w' => e = .returned (.tuple #[]) ∧
    LM w' lb { S with fr := updF S.fr at' (false, (S.fr at').2), R := updK S.R at' none, t := lessN S.t (S.R at').isSome } fb mb q1 q2 q3 q4 ne FC F4 ∧ Fr (fun i => i = fb ∨ FC i) w w' := by
  have hx : okN at' := by have := h.ok.n1; unfold okN; omega
  have fA : Fr (fun i => i = fb) w (w.setCell ⟨fb, at' * 2, none⟩ (.bool false)) := (Fr.refl (fun z => z = fb) w).setCell (p := ⟨fb, at' * 2, none⟩) (.inl rfl) _
  have hb := h.frs.set (at' * 2) (.bool false)
  rw [frC_full] at hb
  have h2 := h.newFr hb fA (fun i => by
    unfold updF
    split
    · exact h.ok.fr at'
    · exact h.ok.fr i)
  have HC := Lib.hid (cc_drop h2.cc hx)
  have H2 := Lib.hid h2
  have HFA := Lib.hid fA
  have c4 : w.cell? ⟨lb, 4, none⟩ = some (.slice (some ⟨fb, 0, none⟩) S.n S.n) := h.ce 4 (by omega)
  have lt := h.blk.lt
  have lf := h.frs.lt
  have hfu := h.full ha
  have fz := h.frs.frozen (at' * 2)
  have h1 : (at' : Int) < S.n := by omega
  have h0 : 0 ≤ (at' : Int) := by omega
  have HTN := Lib.hid h.ok.tn
  have HAT : Hid (at' < S.n) := ha
  clear h h2 hb fA hx
  generalize (S.fr at').1 = fu at *
  go_enter Try.func36, Try.ntmps36
  go_wp2_with fail
  refine HC.out.mono ?_
  rintro e w1 ⟨rfl, hc, f1⟩
  have h3 := H2.out.newCC hc f1 (fun i q => .inl q) (by show lessN S.t (S.R at').isSome = cntR (updK S.R at' none) S.n; rw [cntR_drop _ HAT.out, ← HTN.out])
  have H3 := Lib.hid h3
  have HF1 := Lib.hid f1
  clear h3 f1 hc
  go_wp2
  go_returns
  exact ⟨rfl, H3.out, (HFA.out.mono (fun _ q => .inl q)).trans HF1.out (fun _ q => .inl (.inr q))⟩
end
end Go.Proofs.Ytdkddcgkbbckfaa

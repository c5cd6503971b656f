/-
  lruk's candidates in memory: age, least.
-/
import Derived.Test.YtdkddcgkbbckfaaLrkD
namespace Go.Proofs.Ytdkddcgkbbckfaa
open Go.RowKit Go.Maps
set_option linter.unusedVariables false

/-- Far is what was, and what was touched at that time or earlier. -/
def Aged (R : Nat → Option (Int × Int)) (Fa Fb : Nat → Bool) (until' : Int) : Prop := ∀ x a b, R x = some (a, b) → (Fb x = true ↔ (Fa x = true ∨ b ≤ until'))
/-- .. some of it. -/
def Aging (R : Nat → Option (Int × Int)) (Fa Fb : Nat → Bool) (until' : Int) : Prop := ∀ x a b, R x = some (a, b) → ((Fa x = true → Fb x = true) ∧ (Fb x = true → (Fa x = true ∨ b ≤ until')))
theorem Aging.refl (R : Nat → Option (Int × Int)) (Fa : Nat → Bool) (u : Int) : Aging R Fa Fa u := fun x a b _ => ⟨fun q => q, fun q => .inl q⟩
theorem Aging.step {R : Nat → Option (Int × Int)} {Fa Fb : Nat → Bool} {u : Int} (h : Aging R Fa Fb u) {x : Nat} {a b : Int} (hx : R x = some (a, b)) (hb : b ≤ u) : Aging R Fa (updB1 Fb x true) u := by
  intro z c d hz
  by_cases e : z = x
  · subst e
    rw [hx] at hz
    injection hz with hz
    injection hz with h1 h2
    subst h1; subst h2
    rw [updB1_same]
    exact ⟨fun _ => rfl, fun _ => .inr hb⟩
  · rw [updB1_other _ _ e]
    exact h z c d hz
theorem Aging.done {R : Nat → Option (Int × Int)} {Fa Fb : Nat → Bool} {u : Int} (h : Aging R Fa Fb u) (hl : ∀ z c d, freshK R Fb z = some (c, d) → u < d) : Aged R Fa Fb u := by
  intro x a b hx
  refine ⟨(h x a b hx).2, fun q => ?_⟩
  rcases q with q | q
  · exact (h x a b hx).1 q
  · cases e : Fb x with
    | true => rfl
    | false =>
      have := hl x a b (by unfold freshK; rw [e]; exact hx)
      omega
theorem farK_moved {R : Nat → Option (Int × Int)} {Fa : Nat → Bool} {x : Nat} {p : Int × Int} (hx : R x = some p) : updK (farK (updK R x none) Fa) x (some p) = farK R (updB1 Fa x true) := by
  funext z; unfold updK farK updB1
  by_cases e : z = x
  · subst e; simp [hx]
  · simp [e]
theorem freshK_moved {R : Nat → Option (Int × Int)} {Fa : Nat → Bool} {x : Nat} : freshK (updK R x none) Fa = freshK R (updB1 Fa x true) := by
  funext z; unfold updK freshK updB1
  by_cases e : z = x
  · subst e; simp
  · simp [e]
theorem turnK_moved {R : Nat → Option (Int × Int)} {Fa : Nat → Bool} {x : Nat} : turnK (updK R x none) Fa = turnK R (updB1 Fa x true) := by
  funext z; unfold turnK; rw [freshK_moved]
section
variable {w w' : World} {lb t : Nat} {R : Nat → Option (Int × Int)} {Fa : Nat → Bool} {q1 q2 q3 nf nr : Nat} {F F1 F2 F3 : Nat → Prop}
/-- One that has become far. -/
theorem CAt.moved {x : Nat} {p : Int × Int} (hx : R x = some p) {nf' nr' nf2 : Nat} (h : CAt w lb (updK R x none) Fa q1 q2 q3 nf' nr' F1 F2 F3) {F1' : Nat → Prop} (h1 : QK w' q1 (updK (farK (updK R x none) Fa) x (some p)) nf2 F1') (f : Fr F1 w w') (hF : ∀ i, F1' i → F1 i ∨ w.heap.size ≤ i) (ok : ∀ x a b, R x = some (a, b) → i64 a ∧ i64 b ∧ okN x) : CAt w' lb R (updB1 Fa x true) q1 q2 q3 nf2 nr' F1' F2 F3 := by
  refine ⟨?_, ?_, ?_, Nat.lt_of_lt_of_le h.lt f.size, ?_, ?_, ?_, fun i q q' => ?_, fun i q q' => ?_, h.d23, fun q => ?_, h.n2, h.n3, ok⟩
  · rw [f.cell (p := ⟨lb, 6, none⟩) h.lt h.n1]; exact h.p6
  · rw [f.cell (p := ⟨lb, 7, none⟩) h.lt h.n1]; exact h.p7
  · rw [f.cell (p := ⟨lb, 8, none⟩) h.lt h.n1]; exact h.p8
  · rw [← farK_moved hx]; exact h1
  · rw [← freshK_moved]; exact h.h2.fr f (fun i q q' => h.d12 i q' q)
  · rw [← turnK_moved]; exact h.h3.fr f (fun i q q' => h.d13 i q' q)
  · exact (hF i q).elim (fun z => h.d12 i z q') (fun z => by have := h.h2.lt i q'; omega)
  · exact (hF i q).elim (fun z => h.d13 i z q') (fun z => by have := h.h3.lt i q'; omega)
  · exact (hF _ q).elim h.n1 (fun z => by have := h.lt; omega)
theorem fresh_turn {z : Nat} {c d : Int} (h : freshK R Fa z = some (c, d)) : turnK R Fa z = some (d, 0) := by unfold turnK; rw [h]; rfl
theorem turn_fresh {z : Nat} {c d : Int} (h : turnK R Fa z = some (c, d)) : ∃ e, freshK R Fa z = some (e, c) ∧ d = 0 := by
  unfold turnK at h
  cases e : freshK R Fa z with
  | none => rw [e] at h; cases h
  | some p =>
    rw [e] at h
    injection h with h
    injection h with h1 h2
    exact ⟨p.1, by rw [← h1], h2.symm⟩
theorem fresh_R {z : Nat} {c d : Int} (h : freshK R Fa z = some (c, d)) : Fa z = false ∧ R z = some (c, d) := by
  unfold freshK at h
  cases e : Fa z with
  | true => rw [e] at h; cases h
  | false => rw [e] at h; exact ⟨rfl, h⟩
set_option maxRecDepth 100000 in
set_option maxHeartbeats 4000000 in
theorem ca_age (h : CAt w lb R Fa q1 q2 q3 nf nr F1 F2 F3) (ht : nf + nr < 900000) (u : Int) : Calls Try.prog 50 #[.pointer (some ⟨lb, 6, none⟩), .int .i64 u] w fun e w' => e = .returned (.tuple #[]) ∧ ∃ Fb nf' nr' F1', CAt w' lb R Fb q1 q2 q3 nf' nr' F1' F2 F3 ∧ nf' + nr' = nf + nr ∧ Aged R Fa Fb u ∧ Fr (fun i => F1 i ∨ F2 i ∨ F3 i) w w' ∧ ∀ i, F1' i → F1 i ∨ w.heap.size ≤ i := by
  have HC := Lib.hid h
  clear h
  go_enter Try.func50, Try.ntmps50
  go_wp2_with fail
  go_loopg [] nr (fun g wr => ∃ Fb nf' F1', CAt wr lb R Fb q1 q2 q3 nf' g F1' F2 F3 ∧ nf' + g = nf + nr ∧ Aging R Fa Fb u ∧ Fr (fun i => F1 i ∨ F2 i ∨ F3 i) w wr ∧ ∀ i, F1' i → F1 i ∨ w.heap.size ≤ i)
  case atStart => exact ⟨Fa, nf, F1, HC.out, rfl, Aging.refl _ _ _, Fr.refl _ _, fun i q => .inl q⟩
  case round =>
    obtain ⟨Fb, nf', F1', hc, hn, hag, hf, hF1⟩ := hrel
    have HK := Lib.hid hc
    have HN := Lib.hid hn
    have HAG := Lib.hid hag
    have HFR := Lib.hid hf
    have HF1 := Lib.hid hF1
    have p8 := hc.p8
    have p7 := hc.p7
    have lt := hc.lt
    by_cases h0 : gk = 0
    · subst h0
      have HL := Lib.hid (qk_least_no hc.h3)
      have HO := Lib.hid (qk_of hc.h2 (x := 0) (show (0 : Nat) < 4294967296 by omega))
      have hend : Aged R Fa Fb u := hag.done (fun z c d q => by
        have := hc.h2.zero z
        rw [this] at q
        cases q)
      have HE := Lib.hid hend
      clear hc hn hag hf hF1 hend
      go_wp2_with fail
      refine HL.out.mono ?_
      rintro e w1 ⟨rfl, rfl⟩
      go_wp2_with fail
      refine HO.out.mono ?_
      rintro e w1 ⟨rfl, f1⟩
      have HF2 := Lib.hid f1
      clear f1
      go_wp2
      go_returns
      exact ⟨rfl, Fb, nf', 0, F1', HK.out.fr0 (HF2.out.alloc _), HN.out, HE.out, HFR.out.trans (HF2.out.alloc _) (fun _ q => q.elim), HF1.out⟩
    · obtain ⟨x, hl, HL⟩ := qk_least hc.h3 (by omega)
      obtain ⟨tb, t0, htx, hmin⟩ := hl
      obtain ⟨ra, hfx, rfl⟩ := turn_fresh htx
      obtain ⟨hFx, hRx⟩ := fresh_R hfx
      obtain ⟨iA, iB, hx⟩ := hc.ok x ra tb hRx
      have HO := Lib.hid (qk_of hc.h2 hx)
      rw [hfx] at HO
      simp only [Option.getD_some, Option.isSome_some] at HO
      have HX := Lib.hid hx
      have HRX := Lib.hid hRx
      have HFX := Lib.hid hFx
      have HFR2 := Lib.hid hfx
      have HIA := Lib.hid iA
      have HIB := Lib.hid iB
      have HMIN := Lib.hid hmin
      by_cases hb : u < tb
      · have hend : Aged R Fa Fb u := hag.done (fun z c d q => by
          rcases hmin z d 0 (fresh_turn q) with h | ⟨h, _⟩ <;> omega)
        have HE := Lib.hid hend
        clear hc hn hag hf hF1 hend hx hRx hFx hfx iA iB hmin htx
        go_wp2_with fail
        refine (HL.out _ (Fr.refl _ _)).mono ?_
        rintro e w1 ⟨rfl, rfl⟩
        go_wp2_with fail
        refine HO.out.mono ?_
        rintro e w1 ⟨rfl, f1⟩
        have HF2 := Lib.hid f1
        clear f1
        go_wp2
        go_returns
        exact ⟨rfl, Fb, nf', gk, F1', HK.out.fr0 (HF2.out.alloc _), HN.out, HE.out, HFR.out.trans (HF2.out.alloc _) (fun _ q => q.elim), HF1.out⟩
      · have HB := Lib.hid hb
        have hd : decide (u < tb) = false := by simpa using hb
        clear hc hn hag hf hF1 hx hRx hFx hfx iA iB hmin htx hb
        go_wp2_with fail
        refine (HL.out _ (Fr.refl _ _)).mono ?_
        rintro e w1 ⟨rfl, rfl⟩
        go_wp2_with fail
        refine HO.out.mono ?_
        rintro e w1 ⟨rfl, f1⟩
        have HF2 := Lib.hid f1
        clear f1
        go_wp2_with fail
        have fA : Fr NoF wr (w1.alloc (.cells #[.int .i64 ra, .int .i64 tb] 89)) := HF2.out.alloc _
        have bA : Blk (w1.alloc (.cells #[.int .i64 ra, .int .i64 tb] 89)) w1.heap.size 2 (fun i => if i = 0 then .int .i64 ra else .int .i64 tb) := Blk.new w1 _ 89 2 _ _ rfl rfl (fun i hi => by
          match i, hi with
          | 0, _ => rfl
          | 1, _ => rfl)
        have HFA := Lib.hid fA
        have HBA := Lib.hid bA
        have HKA := Lib.hid (HK.out.fr0 fA)
        have hwr := HF2.out.size
        clear fA bA HF2
        generalize w1.heap.size = kb at *
        generalize w1.alloc (.cells #[.int .i64 ra, .int .i64 tb] 89) = wA at *
        refine (ca_drop HKA.out HX.out).mono ?_
        rintro e w2 ⟨rfl, hc2, f2⟩
        have nK : ¬ (F1' kb ∨ F2 kb ∨ F3 kb) := fun q => q.elim (fun q => by have := HK.out.h1.lt _ q; omega) (fun q => q.elim (fun q => by have := HK.out.h2.lt _ q; omega) (fun q => by have := HK.out.h3.lt _ q; omega))
        have hb2 := HBA.out.fr f2 nK
        have k0 : w2.cell? ⟨kb, 0, none⟩ = some (.int .i64 ra) := hb2.cell (i := 0) (by omega)
        have k1 : w2.cell? ⟨kb, 1, none⟩ = some (.int .i64 tb) := hb2.cell (i := 1) (by omega)
        have lk := hb2.lt
        have p6 := hc2.p6
        have lt2 := hc2.lt
        have hnf : lessN nf' (farK R Fb x).isSome = nf' := by
          have e : farK R Fb x = none := by unfold farK; rw [HFX.out]; rfl
          rw [e]; rfl
        have hnr : lessN gk (freshK R Fb x).isSome = gk - 1 := by rw [HFR2.out]; rfl
        rw [hnf, hnr] at hc2
        have e0 : (farK (updK R x none) Fb x).isSome = false := by unfold farK; rw [updK_same]; split <;> rfl
        have HP := qk_put (hc2.h1.fr0 (Fr.refl NoF w2).drew) HX.out HIA.out HIB.out (by have := HN.out; omega)
        rw [e0] at HP
        have HP := Lib.hid HP
        have HC2 := Lib.hid hc2
        have HF3 := Lib.hid f2
        clear hc2 f2 hb2 p7 p8 e0 hnf hnr nK
        go_wp2_with fail
        go_still_tail 6, (by kernel_rfl)
        go_wp2_with fail
        refine HP.out.mono ?_
        rintro e w3 ⟨rfl, F1n, h3, f3, hF3⟩
        have f23 : Fr F1' w2 w3 := ((Fr.refl F1' w2).drew).trans f3 (fun _ q => .inl q)
        have hk3 := HC2.out.moved HRX.out h3 f23 hF3 HK.out.ok
        have HK3 := Lib.hid hk3
        have HF4 := Lib.hid f23
        have HG3 := Lib.hid hF3
        clear h3 f3 f23 hF3 hk3 k0 k1
        go_wp2
        go_roundg (gk - 1)
        case rel =>
          have hw2 : w.heap.size ≤ w2.heap.size := Nat.le_trans HFR.out.size (Nat.le_trans HFA.out.size HF3.out.size)
          have g1 : ∀ i, F1' i → F1 i ∨ w.heap.size ≤ i := HF1.out
          have g3 : ∀ i, F1n i → F1' i ∨ w2.heap.size ≤ i := HG3.out
          refine ⟨_, _, F1n, HK3.out, ?_, HAG.out.step HRX.out (by have := HB.out; omega), ?_, fun i q => ?_⟩
          · show moreN nf' false + (gk - 1) = nf + nr
            have := HN.out
            have : moreN nf' false = nf' + 1 := rfl
            omega
          · have fA : Fr (fun i => F1' i ∨ F2 i ∨ F3 i) wr w3 := ((HFA.out.mono (fun _ q => q.elim)).trans HF3.out (fun _ q => .inl q)).trans HF4.out (fun _ q => .inl (.inl q))
            refine HFR.out.trans fA (fun i q => ?_)
            rcases q with q | q | q
            · exact (g1 i q).elim (fun z => .inl (.inl z)) (fun z => .inr z)
            · exact .inl (.inr (.inl q))
            · exact .inl (.inr (.inr q))
          · exact (g3 i q).elim (g1 i) (fun z => .inr (by omega))
        case measure => omega
/-- The one that goes: of what is far, if there is any; else of what is not. -/
def LeastC (R : Nat → Option (Int × Int)) (Fb : Nat → Bool) (x : Nat) : Prop := LeastK (farK R Fb) x ∨ ((∀ z, farK R Fb z = none) ∧ LeastK (freshK R Fb) x)
theorem cc_least (h : CC w lb R Fa t F) (ht : t < 900000) (h0 : 0 < t) (u : Int) : Calls Try.prog 35 #[.pointer (some ⟨lb, 6, none⟩), .int .i64 u] w fun e w' => ∃ x : Nat, e = .returned (.tuple #[.int .i64 x, .bool true]) ∧ ∃ Fb F', CC w' lb R Fb t F' ∧ Aged R Fa Fb u ∧ LeastC R Fb x ∧ Fr F w w' ∧ ∀ i, F' i → F i ∨ w.heap.size ≤ i := by
  obtain ⟨q1, q2, q3, nf, nr, F1, F2, F3, h, rfl, hF⟩ := h
  have HA := Lib.hid (ca_age h ht u)
  have HH := Lib.hid h
  have HHF := Lib.hid hF
  clear h hF
  go_enter Try.func35, Try.ntmps35
  go_wp2_with fail
  refine HA.out.mono ?_
  rintro e w1 ⟨rfl, Fb, nf', nr', F1', hc, hn, hag, hf, hF1⟩
  have p6 := hc.p6
  have p7 := hc.p7
  have lt := hc.lt
  have HRES : Hid (CC w1 lb R Fb (nf + nr) (fun i => F1' i ∨ F2 i ∨ F3 i) ∧ Aged R Fa Fb u ∧ Fr F w w1 ∧ ∀ i, (F1' i ∨ F2 i ∨ F3 i) → F i ∨ w.heap.size ≤ i) := ⟨⟨q1, q2, q3, nf', nr', F1', F2, F3, hc, hn, fun i => Iff.rfl⟩, hag, hf.mono (fun i q => (HHF.out i).2 q), fun i q => by
    rcases q with q | q | q
    · exact (hF1 i q).elim (fun z => .inl ((HHF.out i).2 (.inl z))) .inr
    · exact .inl ((HHF.out i).2 (.inr (.inl q)))
    · exact .inl ((HHF.out i).2 (.inr (.inr q)))⟩
  by_cases hz : nf' = 0
  · subst hz
    have HL := Lib.hid (qk_least_no hc.h1)
    obtain ⟨x, hl, HL2⟩ := qk_least hc.h2 (by omega)
    have HLC : Hid (LeastC R Fb x) := .inr ⟨fun z => hc.h1.zero z, hl⟩
    clear hc hn hag hf hF1 hl
    go_wp2_with fail
    refine HL.out.mono ?_
    rintro e w2 ⟨rfl, rfl⟩
    go_wp2_with fail
    refine (HL2.out _ (Fr.refl _ _)).mono ?_
    rintro e w2 ⟨rfl, rfl⟩
    go_wp2
    go_returns
    exact ⟨x, rfl, Fb, _, HRES.out.1, HRES.out.2.1, HLC.out, HRES.out.2.2⟩
  · obtain ⟨x, hl, HL⟩ := qk_least hc.h1 (by omega)
    have HLC : Hid (LeastC R Fb x) := .inl hl
    clear hc hn hag hf hF1 hl
    go_wp2_with fail
    refine (HL.out _ (Fr.refl _ _)).mono ?_
    rintro e w2 ⟨rfl, rfl⟩
    go_wp2
    go_returns
    exact ⟨x, rfl, Fb, _, HRES.out.1, HRES.out.2.1, HLC.out, HRES.out.2.2⟩
end
end Go.Proofs.Ytdkddcgkbbckfaa

/-
  lruk's LRUK: New refused; an LRUK as a whole, with all its blocks.
-/
import Derived.Test.YtdkddcgkbbckfaaLrkO
namespace Go.Proofs.Ytdkddcgkbbckfaa
open Go.RowKit Go.Maps
set_option linter.unusedVariables false

/-- What New may be told. -/
def goodL (a0 a1 a2 a3 : Int) : Prop := 1 ≤ a0 ∧ a0 ≤ 65535 ∧ 1 ≤ a1 ∧ a1 ≤ 8 ∧ 0 ≤ a2 ∧ a2 ≤ 1000000 ∧ 0 ≤ a3 ∧ a3 ≤ 65535
theorem lnew_no (a0 a1 a2 a3 : Int) (w : World) (h : ¬ goodL a0 a1 a2 a3) : Calls Try.prog 5 #[.int .i64 a0, .int .i64 a1, .int .i64 a2, .int .i64 a3] w fun e w' => e = .returned (.tuple #[.pointer none, .int .i64 1]) ∧ w = w' := by
  unfold goodL at h
  by_cases la0 : a0 < 1
  · clear h
    go_enter Try.func5, Try.ntmps5
    go_wp2
    go_returns
    exact ⟨rfl, rfl⟩
  by_cases ua0 : 65535 < a0
  · clear h
    have da0 : decide (a0 < 1) = false := by simp; omega
    go_enter Try.func5, Try.ntmps5
    go_wp2
    go_returns
    exact ⟨rfl, rfl⟩
  by_cases la1 : a1 < 1
  · clear h
    have da0 : decide (a0 < 1) = false := by simp; omega
    have ea0 : decide (65535 < a0) = false := by simp; omega
    go_enter Try.func5, Try.ntmps5
    go_wp2
    go_returns
    exact ⟨rfl, rfl⟩
  by_cases ua1 : 8 < a1
  · clear h
    have da0 : decide (a0 < 1) = false := by simp; omega
    have ea0 : decide (65535 < a0) = false := by simp; omega
    have da1 : decide (a1 < 1) = false := by simp; omega
    go_enter Try.func5, Try.ntmps5
    go_wp2
    go_returns
    exact ⟨rfl, rfl⟩
  by_cases la2 : a2 < 0
  · clear h
    have da0 : decide (a0 < 1) = false := by simp; omega
    have ea0 : decide (65535 < a0) = false := by simp; omega
    have da1 : decide (a1 < 1) = false := by simp; omega
    have ea1 : decide (8 < a1) = false := by simp; omega
    go_enter Try.func5, Try.ntmps5
    go_wp2
    go_returns
    exact ⟨rfl, rfl⟩
  by_cases ua2 : 1000000 < a2
  · clear h
    have da0 : decide (a0 < 1) = false := by simp; omega
    have ea0 : decide (65535 < a0) = false := by simp; omega
    have da1 : decide (a1 < 1) = false := by simp; omega
    have ea1 : decide (8 < a1) = false := by simp; omega
    have da2 : decide (a2 < 0) = false := by simp; omega
    go_enter Try.func5, Try.ntmps5
    go_wp2
    go_returns
    exact ⟨rfl, rfl⟩
  by_cases la3 : a3 < 0
  · clear h
    have da0 : decide (a0 < 1) = false := by simp; omega
    have ea0 : decide (65535 < a0) = false := by simp; omega
    have da1 : decide (a1 < 1) = false := by simp; omega
    have ea1 : decide (8 < a1) = false := by simp; omega
    have da2 : decide (a2 < 0) = false := by simp; omega
    have ea2 : decide (1000000 < a2) = false := by simp; omega
    go_enter Try.func5, Try.ntmps5
    go_wp2
    go_returns
    exact ⟨rfl, rfl⟩
  by_cases ua3 : 65535 < a3
  · clear h
    have da0 : decide (a0 < 1) = false := by simp; omega
    have ea0 : decide (65535 < a0) = false := by simp; omega
    have da1 : decide (a1 < 1) = false := by simp; omega
    have ea1 : decide (8 < a1) = false := by simp; omega
    have da2 : decide (a2 < 0) = false := by simp; omega
    have ea2 : decide (1000000 < a2) = false := by simp; omega
    have da3 : decide (a3 < 0) = false := by simp; omega
    go_enter Try.func5, Try.ntmps5
    go_wp2
    go_returns
    exact ⟨rfl, rfl⟩
  exact (h (by omega)).elim
/-- An LRUK in memory: F: all its blocks. -/
def CRL (w : World) (lb : Nat) (S : LK) (F : Nat → Prop) : Prop := ∃ fb mb q1 q2 q3 q4 ne FC F4, LM w lb S fb mb q1 q2 q3 q4 ne FC F4 ∧ ∀ i, F i ↔ LF lb fb mb FC F4 i
section
variable {w w' : World} {lb : Nat} {S : LK} {F : Nat → Prop}
theorem CRL.fr (h : CRL w lb S F) {G : Nat → Prop} (f : Fr G w w') (g : ∀ i, F i → ¬ G i) : CRL w' lb S F := by
  obtain ⟨fb, mb, q1, q2, q3, q4, ne, FC, F4, h, hF⟩ := h
  exact ⟨fb, mb, q1, q2, q3, q4, ne, FC, F4, h.fr f (fun i q => g i ((hF i).2 q)), hF⟩
theorem CRL.lt (h : CRL w lb S F) : ∀ i, F i → i < w.heap.size := by
  obtain ⟨fb, mb, q1, q2, q3, q4, ne, FC, F4, h, hF⟩ := h
  exact fun i q => h.lt i ((hF i).1 q)
theorem LF.grown {lb fb mb : Nat} {FC F4 FC' F4' : Nat → Prop} (h1 : ∀ i, FC' i → FC i ∨ w.heap.size ≤ i) (h2 : ∀ i, F4' i → F4 i ∨ w.heap.size ≤ i) : ∀ i, LF lb fb mb FC' F4' i → LF lb fb mb FC F4 i ∨ w.heap.size ≤ i := by
  intro i q
  rcases q with q | q | q | q | q
  · exact .inl (.inl q)
  · exact .inl (.inr (.inl q))
  · exact .inl (.inr (.inr (.inl q)))
  · exact (h1 i q).elim (fun z => .inl (.inr (.inr (.inr (.inl z))))) .inr
  · exact (h2 i q).elim (fun z => .inl (.inr (.inr (.inr (.inr z))))) .inr
theorem crl_access (h : CRL w lb S F) {at' page : Nat} (ha : at' < S.n) (hp : okN page) (hT : S.T < 900000) : Calls Try.prog 15 #[.pointer (some ⟨lb, 0, none⟩), .int .i64 at', .int .u32 page] w fun e w' => e = .returned (.tuple #[]) ∧ ∃ F', CRL w' lb (accS S at' page) F' ∧ Fr F w w' ∧ ∀ i, F' i → F i ∨ w.heap.size ≤ i := by
  obtain ⟨fb, mb, q1, q2, q3, q4, ne, FC, F4, h, hF⟩ := h
  refine (access_calls h ha hp hT).mono ?_
  rintro e w' ⟨he, ne', FC', F4', h', f, g1, g2⟩
  exact ⟨he, LF lb fb mb FC' F4', ⟨fb, mb, q1, q2, q3, q4, ne', FC', F4', h', fun i => Iff.rfl⟩, f.mono (fun i q => (hF i).2 q), fun i q => (LF.grown g1 g2 i q).elim (fun z => .inl ((hF i).2 z)) .inr⟩
theorem crl_set (h : CRL w lb S F) {at' : Nat} (ha : at' < S.n) (hfu : (S.fr at').1 = true) (hT : S.T < 1000000) (on : Bool) : Calls Try.prog 16 #[.pointer (some ⟨lb, 0, none⟩), .int .i64 at', .bool on] w fun e w' => e = .returned (.tuple #[]) ∧ ∃ F', CRL w' lb (setS S at' on) F' ∧ Fr F w w' ∧ ∀ i, F' i → F i ∨ w.heap.size ≤ i := by
  obtain ⟨fb, mb, q1, q2, q3, q4, ne, FC, F4, h, hF⟩ := h
  refine (set_calls h ha hfu hT on).mono ?_
  rintro e w' ⟨he, FC', h', f, g1⟩
  exact ⟨he, LF lb fb mb FC' F4, ⟨fb, mb, q1, q2, q3, q4, ne, FC', F4, h', fun i => Iff.rfl⟩, f.mono (fun i q => (hF i).2 q), fun i q => (LF.grown g1 (fun i q => .inl q) i q).elim (fun z => .inl ((hF i).2 z)) .inr⟩
theorem crl_victim (h : CRL w lb S F) (h0 : 0 < S.t) (page : Int) (hT : S.T < 1000000) (hg : S.gone < 800000) (hdom : ∀ x, (S.R x).isSome = true → x < S.n ∧ oldK S.Old (S.fr x).2 = none) : Calls Try.prog 17 #[.pointer (some ⟨lb, 0, none⟩), .int .u32 page] w fun e w' => ∃ x : Nat, e = .returned (.tuple #[.int .i64 x, .bool true]) ∧ ∃ Fb F', Aged S.R S.Fa Fb ((S.T : Int) - S.near) ∧ LeastC S.R Fb x ∧ CRL w' lb (vicS S x Fb) F' ∧ Fr F w w' ∧ ∀ i, F' i → F i ∨ w.heap.size ≤ i := by
  obtain ⟨fb, mb, q1, q2, q3, q4, ne, FC, F4, h, hF⟩ := h
  refine (victim_yes h h0 page hT hg hdom).mono ?_
  rintro e w' ⟨x, he, Fb, ne', FC', F4', ha, hl, h', f, g1, g2⟩
  exact ⟨x, he, Fb, LF lb fb mb FC' F4', ha, hl, ⟨fb, mb, q1, q2, q3, q4, ne', FC', F4', h', fun i => Iff.rfl⟩, f.mono (fun i q => (hF i).2 q), fun i q => (LF.grown g1 g2 i q).elim (fun z => .inl ((hF i).2 z)) .inr⟩
theorem crl_size (h : CRL w lb S F) : Calls Try.prog 19 #[.pointer (some ⟨lb, 0, none⟩)] w fun e w' => e = .returned (.int .i64 (S.t : Nat)) ∧ Fr NoF w w' := by
  obtain ⟨fb, mb, q1, q2, q3, q4, ne, FC, F4, h, hF⟩ := h
  exact lsize_calls h
theorem crl_ghosts (h : CRL w lb S F) (hg : S.gone < 800000) : Calls Try.prog 18 #[.pointer (some ⟨lb, 0, none⟩)] w fun e w' => ∃ v, e = .returned v ∧ SlK .u32 w' v (S.Old.map (·.1)) ∧ (∀ i, v.ownBlock = some i → w.heap.size ≤ i) ∧ Fr NoF w w' := by
  obtain ⟨fb, mb, q1, q2, q3, q4, ne, FC, F4, h, hF⟩ := h
  exact lghosts_calls h hg
theorem crl_new (n k near kept : Nat) (w : World) (hn : 1 ≤ n ∧ n ≤ 65535) (hk : 1 ≤ k ∧ k ≤ 8) (hr : near ≤ 1000000) (hp : kept ≤ 65535) : Calls Try.prog 5 #[.int .i64 n, .int .i64 k, .int .i64 near, .int .i64 kept] w fun e w' => ∃ lb F, e = .returned (.tuple #[.pointer (some ⟨lb, 0, none⟩), .int .i64 0]) ∧ CRL w' lb (newS n k near kept) F ∧ (∀ i, F i → w.heap.size ≤ i) ∧ Fr NoF w w' := by
  refine (lnew_yes n k near kept w hn hk hr hp).mono ?_
  rintro e w' ⟨lb, fb, mb, q1, q2, q3, q4, FC, F4, he, h, g, f⟩
  exact ⟨lb, LF lb fb mb FC F4, he, ⟨fb, mb, q1, q2, q3, q4, 0, FC, F4, h, fun i => Iff.rfl⟩, g, f⟩
/-- One of the call's own. -/
def TL (w0 w : World) (lb : Nat) (S : LK) : Prop := ∃ F, CRL w lb S F ∧ (∀ i, F i → w0.heap.size ≤ i) ∧ Fr NoF w0 w
variable {w0 : World}
theorem TL.alive (h : TL w0 w lb S) : lb < w.heap.size := by
  obtain ⟨F, ⟨fb, mb, q1, q2, q3, q4, ne, FC, F4, h, hF⟩, _⟩ := h
  exact h.blk.lt
theorem TL.fr0 (h : TL w0 w lb S) (f : Fr NoF w w') : TL w0 w' lb S := by
  obtain ⟨F, h, g, f0⟩ := h
  exact ⟨F, h.fr f (fun _ _ q => q), g, f0.trans f (fun _ q => q.elim)⟩
theorem TL.step {S' : LK} (h : TL w0 w lb S) {F F' : Nat → Prop} (g : ∀ i, F i → w0.heap.size ≤ i) (f0 : Fr NoF w0 w) (h' : CRL w' lb S' F') (f : Fr F w w') (g' : ∀ i, F' i → F i ∨ w.heap.size ≤ i) : TL w0 w' lb S' :=
  ⟨F', h', fun i q => (g' i q).elim (g i) (fun z => Nat.le_trans f0.size z), f0.trans f (fun i q => .inr (g i q))⟩
theorem TL.access (h : TL w0 w lb S) {at' page : Nat} (ha : at' < S.n) (hp : okN page) (hT : S.T < 900000) : Calls Try.prog 15 #[.pointer (some ⟨lb, 0, none⟩), .int .i64 at', .int .u32 page] w fun e w' => e = .returned (.tuple #[]) ∧ TL w0 w' lb (accS S at' page) := by
  have h0 := h
  obtain ⟨F, h, g, f0⟩ := h
  exact (crl_access h ha hp hT).mono fun e w' ⟨he, F', h', f, g'⟩ => ⟨he, h0.step g f0 h' f g'⟩
theorem TL.set (h : TL w0 w lb S) {at' : Nat} (ha : at' < S.n) (hfu : (S.fr at').1 = true) (hT : S.T < 1000000) (on : Bool) : Calls Try.prog 16 #[.pointer (some ⟨lb, 0, none⟩), .int .i64 at', .bool on] w fun e w' => e = .returned (.tuple #[]) ∧ TL w0 w' lb (setS S at' on) := by
  have h0 := h
  obtain ⟨F, h, g, f0⟩ := h
  exact (crl_set h ha hfu hT on).mono fun e w' ⟨he, F', h', f, g'⟩ => ⟨he, h0.step g f0 h' f g'⟩
theorem TL.victim (h : TL w0 w lb S) (p0 : 0 < S.t) (page : Int) (hT : S.T < 1000000) (hg : S.gone < 800000) (hdom : ∀ x, (S.R x).isSome = true → x < S.n ∧ oldK S.Old (S.fr x).2 = none) : Calls Try.prog 17 #[.pointer (some ⟨lb, 0, none⟩), .int .u32 page] w fun e w' => ∃ x : Nat, e = .returned (.tuple #[.int .i64 x, .bool true]) ∧ ∃ Fb, Aged S.R S.Fa Fb ((S.T : Int) - S.near) ∧ LeastC S.R Fb x ∧ TL w0 w' lb (vicS S x Fb) := by
  have h0 := h
  obtain ⟨F, h, g, f0⟩ := h
  exact (crl_victim h p0 page hT hg hdom).mono fun e w' ⟨x, he, Fb, F', ha, hl, h', f, g'⟩ => ⟨x, he, Fb, ha, hl, h0.step g f0 h' f g'⟩
theorem TL.size (h : TL w0 w lb S) : Calls Try.prog 19 #[.pointer (some ⟨lb, 0, none⟩)] w fun e w' => e = .returned (.int .i64 (S.t : Nat)) ∧ Fr NoF w w' := by
  obtain ⟨F, h, g, f0⟩ := h
  exact crl_size h
theorem TL.ghosts (h : TL w0 w lb S) (hg : S.gone < 800000) : Calls Try.prog 18 #[.pointer (some ⟨lb, 0, none⟩)] w fun e w' => ∃ v, e = .returned v ∧ SlK .u32 w' v (S.Old.map (·.1)) ∧ (∀ i, v.ownBlock = some i → w.heap.size ≤ i) ∧ Fr NoF w w' := by
  obtain ⟨F, h, g, f0⟩ := h
  exact crl_ghosts h hg
end
end Go.Proofs.Ytdkddcgkbbckfaa

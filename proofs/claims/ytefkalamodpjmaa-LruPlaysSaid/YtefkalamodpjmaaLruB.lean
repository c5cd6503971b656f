/-
  LRU's calls that change it: Access, Set, Remove, Victim; and New.
-/
import Derived.Test.YtefkalamodpjmaaLruA
import Derived.Deep.DeepMust
namespace Go.Proofs.Ytefkalamodpjmaa
open Go.RowKit
set_option linter.unusedVariables false

section
variable {w : World} {b rb eb n : Nat} {l : List Nat} {ev : Nat → Bool} {F FR : Nat → Prop}

theorem lru_has (h : LC w b rb eb n l ev FR) (f : Nat) : Calls Try.prog 28 #[.pointer (some ⟨b, 0, none⟩), .int .i64 f] w fun e w' => e = .returned (.bool (decide (f ∈ l))) ∧ w = w' := by
  have c0 := h.c0
  have HI := In_all h.rr f
  rw [ixZ_nat, rowIx1] at HI
  by_cases hm : f ∈ l
  · rw [if_pos hm] at HI
    have H := Lib.hid HI
    have HD : Hid (decide (f ∈ l) = true) := by simp [Hid, hm]
    simp only [ixI] at H
    rw [HD.out]
    clear HI hm HD
    go_enter Try.func28, Try.ntmps28
    go_wp2_with (go_at_call 40; refine H.out.mono ?_; rintro e w' ⟨rfl, rfl⟩)
    go_ret
    exact ⟨rfl, rfl⟩
  · rw [if_neg hm] at HI
    have H := Lib.hid HI
    have HD : Hid (decide (f ∈ l) = false) := by simp [Hid, hm]
    simp only [ixI] at H
    rw [HD.out]
    clear HI hm HD
    go_enter Try.func28, Try.ntmps28
    go_wp2_with (go_at_call 40; refine H.out.mono ?_; rintro e w' ⟨rfl, rfl⟩)
    go_ret
    exact ⟨rfl, rfl⟩

theorem lru_access (h : LR w b n l ev F) (f : Nat) (hf : f < n) (p : Int) :
    Calls Try.prog 14 #[.pointer (some ⟨b, 0, none⟩), .int .i64 f, .int .u32 p] w fun e w' => e = .returned (.tuple #[]) ∧ LR w' b n (backL l f) ev F ∧ Fr F w w' := by
  obtain ⟨rb, eb, FR, hc, hF⟩ := h
  have c0 := hc.c0
  have HB := Lib.hid (back_yes hc.rr 0 f (by omega) hf)
  have HF := Lib.hid hF
  clear hF
  go_enter Try.func14, Try.ntmps14
  go_wp2_with fail
  refine HB.out.mono ?_
  clear HB
  rintro e w' ⟨rfl, hR, f1⟩
  rw [putL1] at hR
  have key : LR w' b n (backL l f) ev F := by
    refine ⟨rb, eb, FR, ⟨?_, hc.be.fr f1 hc.d3, hR, hc.d1, hc.d2, hc.d3, fun g hg => mem_back.2 (.inl (hc.out g hg)), hc.hn⟩, HF.out⟩
    rw [cnt_back hc.rr.row0.1 ev f (hc.out f)]
    exact hc.hd.fr f1 hc.d2
  have hf1 : Fr F w w' := f1.mono (fun i q => (HF.out i).2 (.inr (.inr q)))
  clear hR f1
  go_wp2
  go_end0
  exact ⟨rfl, key, hf1⟩

theorem lruH_sz (rb eb n s z : Nat) : upd (lruH rb eb n s) 2 (.int .i64 z) = lruH rb eb n z := by
  funext j
  match j with
  | 0 => rfl
  | 1 => rfl
  | 2 => rfl
  | j + 3 => simp [upd, lruH]

/-- Set, in the list's words: of a frame with a page. -/
def setL (l : List Nat) (ev : Nat → Bool) (f : Nat) (v : Bool) : Nat → Bool := if f ∈ l then upd ev f v else ev

theorem LC.set (h : LC w b rb eb n l ev FR) {f : Nat} (hm : f ∈ l) (v : Bool) {z : Nat} (hz : z = cntL l (upd ev f v)) :
    LC ((w.setCell ⟨eb, f, none⟩ (.bool v)).setCell ⟨b, 2, none⟩ (.int .i64 z)) b rb eb n l (upd ev f v) FR := by
  subst hz
  have hR : RR ((w.setCell ⟨eb, f, none⟩ (.bool v)).setCell ⟨b, 2, none⟩ (.int .i64 (cntL l (upd ev f v) : Nat))) rb n 1 [l] FR := by
    refine h.rr.fr (G := fun i => i = b ∨ i = eb) (((Fr.refl _ _).setCell (.inl (.inr rfl)) _).setCell (.inl (.inl rfl)) _) ?_
    intro i hi q
    rcases q with rfl | rfl
    · exact h.d2 hi
    · exact h.d3 hi
  refine ⟨?_, ?_, hR, h.d1, h.d2, h.d3, ?_, h.hn⟩
  · rw [← lruH_sz rb eb n (cntL l ev)]
    exact (h.hd.other h.d1 _).set _ _
  · rw [← bF_set]
    exact (h.be.set _ _).other (fun e => h.d1 e.symm) _
  · intro g hg
    by_cases e : g = f
    · rw [e]; exact hm
    · rw [upd_other _ _ e] at hg; exact h.out g hg

theorem lru_set (h : LR w b n l ev F) (f : Nat) (hf : f < n) (v : Bool) :
    Calls Try.prog 15 #[.pointer (some ⟨b, 0, none⟩), .int .i64 f, .bool v] w fun e w' => e = .returned (.tuple #[]) ∧ LR w' b n l (setL l ev f v) F ∧ Fr F w w' := by
  obtain ⟨rb, eb, FR, hc, hF⟩ := h
  have HF := Lib.hid hF
  have HH := lru_has hc f
  have hn := hc.hn
  have hcl := cnt_le l ev
  have hln := hc.rr.len0
  clear hF
  by_cases hm : f ∈ l
  · have c1 := hc.c1
    have c2 := hc.c2
    have ce := hc.ce hf
    have fe : ∀ i, w.frozen? ⟨eb, i, none⟩ = false := fun i => hc.be.frozen i
    have fb : w.frozen? ⟨b, 2, none⟩ = false := hc.hd.frozen 2
    have le := hc.be.lt
    have lb := hc.hd.lt
    have hd1 := hc.d1
    have hd1' : ¬ eb = b := fun e => hd1 e.symm
    have hcu := cnt_upd hc.rr.row0.1 ev f v hm
    have HC : ∀ z, z = cntL l (upd ev f v) → LC ((w.setCell ⟨eb, f, none⟩ (.bool v)).setCell ⟨b, 2, none⟩ (.int .i64 z)) b rb eb n l (upd ev f v) FR := fun z hz => hc.set hm v hz
    have HC' := Lib.hid HC
    rw [show decide (f ∈ l) = true from by simp [hm]] at HH
    have H := Lib.hid HH
    have HS : Hid (setL l ev f v = upd ev f v) := by simp [Hid, setL, hm]
    have HU : Hid (ev f = v → upd ev f v = ev) := by
      intro e; funext j; unfold upd; split
      · subst j; exact e.symm
      · rfl
    have HLR : Hid (LC w b rb eb n l ev FR) := hc
    have hfr : ∀ z, Fr F w ((w.setCell ⟨eb, f, none⟩ (.bool v)).setCell ⟨b, 2, none⟩ (.int .i64 z)) := fun z =>
      ((Fr.refl F w).setCell (.inl ((HF.out eb).2 (.inr (.inl rfl)))) _).setCell (.inl ((HF.out b).2 (.inl rfl))) _
    have HFR := Lib.hid hfr
    clear hc HH hm HC hfr
    rw [HS.out]
    clear HS
    generalize hev : ev f = x at *
    have HE := Lib.hid hev
    clear hev
    cases x <;> cases v
    · have hu := HU.out rfl
      rw [hu]
      clear hu HU hcu
      go_enter Try.func15, Try.ntmps15
      go_wp2_with (go_at_call 28; refine H.out.mono ?_; rintro e w' ⟨rfl, rfl⟩)
      go_returns
      exact ⟨rfl, ⟨rb, eb, FR, HLR.out, HF.out⟩, Fr.refl _ _⟩
    · simp at hcu
      have HCU := Lib.hid hcu
      clear hcu
      go_enter Try.func15, Try.ntmps15
      go_wp2_with (go_at_call 28; refine H.out.mono ?_; rintro e w' ⟨rfl, rfl⟩)
      go_returns
      have e1 : (((cntL l ev : Nat) : Int) + 1) = ((cntL l ev + 1 : Nat) : Int) := by omega
      rw [e1]
      exact ⟨rfl, ⟨rb, eb, FR, HC'.out _ (by have := HCU.out; omega), HF.out⟩, HFR.out _⟩
    · simp at hcu
      have h1 : 1 ≤ ((cntL l ev : Nat) : Int) := by omega
      have HCU := Lib.hid hcu
      clear hcu
      go_enter Try.func15, Try.ntmps15
      go_wp2_with (go_at_call 28; refine H.out.mono ?_; rintro e w' ⟨rfl, rfl⟩)
      go_returns
      have e1 : (((cntL l ev : Nat) : Int) - 1) = ((cntL l ev - 1 : Nat) : Int) := by omega
      rw [e1]
      exact ⟨rfl, ⟨rb, eb, FR, HC'.out _ (by have := HCU.out; omega), HF.out⟩, HFR.out _⟩
    · have hu := HU.out rfl
      rw [hu]
      clear hu HU hcu
      go_enter Try.func15, Try.ntmps15
      go_wp2_with (go_at_call 28; refine H.out.mono ?_; rintro e w' ⟨rfl, rfl⟩)
      go_returns
      exact ⟨rfl, ⟨rb, eb, FR, HLR.out, HF.out⟩, Fr.refl _ _⟩
  · rw [show decide (f ∈ l) = false from by simp [hm]] at HH
    have H := Lib.hid HH
    rw [show setL l ev f v = ev from by simp [setL, hm]]
    have HLR : Hid (LC w b rb eb n l ev FR) := hc
    clear hc HH hm
    go_enter Try.func15, Try.ntmps15
    go_wp2_with (go_at_call 28; refine H.out.mono ?_; rintro e w' ⟨rfl, rfl⟩)
    go_returns
    exact ⟨rfl, ⟨rb, eb, FR, HLR.out, HF.out⟩, Fr.refl _ _⟩
end
end Go.Proofs.Ytefkalamodpjmaa

/-
  arc in memory: a head, the rows of frames, the frames' pages, the flags, the remembered pages; the lists that it stands for. Its calls: has, Size, Set, Remove.
-/
import Derived.Test.YtebhpihickmekaaArcG
import Derived.Test.YtebhpihickmekaaTwoD
namespace Go.Proofs.Ytebhpihickmekaa
open Go.RowKit Go.Maps
set_option linter.unusedVariables false

structure T7 where
  nw : List Nat
  mn : List Nat
  page : Nat → Nat
  ev : Nat → Bool
  b1 : List Nat
  b2 : List Nat
  goal : Nat
theorem twH_goal (A : TA) (n g out s z : Nat) : upd (twH A n g out s) 0 (.int .i64 z) = twH A n z out s := by
  funext j
  match j with
  | 0 => rfl
  | 1 => rfl
  | 2 => rfl
  | 3 => rfl
  | 4 => rfl
  | 5 => rfl
  | 6 => rfl
  | 7 => rfl
  | j + 8 => simp [upd, twH]
structure AC (w : World) (b n : Nat) (A : TA) (t : T7) (k1 k2 sp : List Nat) (gp : Nat → Nat) : Prop where
  hd : Blk w b 8 (twH A n t.goal (n + 1) (cntL (t.nw ++ t.mn) t.ev))
  rr : RR w A.rb n 2 [t.nw, t.mn] A.FR
  pg : Blk w A.pb n (uN t.page)
  be : Blk w A.eb n (bF t.ev)
  gg : GA w A.gr A.gpb A.mb (n + 1) k1 k2 sp gp t.b1 t.b2 A.FG
  lb : TL b A
  ou : ∀ f, t.ev f = true → f ∈ t.nw ∨ f ∈ t.mn
  hn : n ≤ 65535
  hi : t.goal ≤ n
  hb : t.b1.length + t.b2.length ≤ n

section
variable {w w' : World} {b n : Nat} {A : TA} {t : T7} {k1 k2 sp : List Nat} {gp : Nat → Nat}
theorem AC.fr (h : AC w b n A t k1 k2 sp gp) {G : Nat → Prop} (f : Fr G w w') (hG : ∀ i, FT A b i → ¬ G i) : AC w' b n A t k1 k2 sp gp :=
  ⟨h.hd.fr f (hG _ (.inl rfl)), h.rr.fr f (fun i q => hG i (.inr (.inr (.inr (.inl q))))), h.pg.fr f (hG _ (.inr (.inl rfl))), h.be.fr f (hG _ (.inr (.inr (.inl rfl)))), h.gg.fr f (fun i q => hG i (.inr (.inr (.inr (.inr (.inl q)))))) (hG _ (.inr (.inr (.inr (.inr (.inr (.inl rfl))))))) (hG _ (.inr (.inr (.inr (.inr (.inr (.inr rfl))))))), h.lb, h.ou, h.hn, h.hi, h.hb⟩
theorem AC.fr0 (h : AC w b n A t k1 k2 sp gp) (f : Fr NoF w w') : AC w' b n A t k1 k2 sp gp := h.fr f (fun _ _ q => q)
theorem AC.lt (h : AC w b n A t k1 k2 sp gp) : ∀ i, FT A b i → i < w.heap.size := by
  rintro i (rfl | rfl | rfl | q | q | rfl | rfl)
  · exact h.hd.lt
  · exact h.pg.lt
  · exact h.be.lt
  · exact h.rr.lt i q
  · exact h.gg.rr.lt i q
  · exact h.gg.pg.lt
  · exact h.gg.mp.lt
theorem AC.c (h : AC w b n A t k1 k2 sp gp) (i : Nat) (hi : i < 8) : w.cell? ⟨b, i, none⟩ = some (twH A n t.goal (n + 1) (cntL (t.nw ++ t.mn) t.ev) i) := h.hd.cell hi
theorem AC.cp (h : AC w b n A t k1 k2 sp gp) {f : Nat} (hf : f < n) : w.cell? ⟨A.pb, f, none⟩ = some (.int .u32 (t.page f : Nat)) := h.pg.cell hf
theorem AC.ce (h : AC w b n A t k1 k2 sp gp) {f : Nat} (hf : f < n) : w.cell? ⟨A.eb, f, none⟩ = some (.bool (t.ev f)) := h.be.cell hf
theorem AC.gH (h : AC w b n A t k1 k2 sp gp) : GH w b A.gr A.gpb A.mb (n + 1) A.FG := by
  refine ⟨h.c 5 (by omega), h.c 6 (by omega), h.c 7 (by omega), h.hd.lt, fun q => ?_, fun q => ?_, fun q => ?_⟩
  · have := h.lb.l4 _ q; rw [h.lb.l0] at this; cases this
  · have := h.lb.l5; rw [← q, h.lb.l0] at this; cases this
  · have := h.lb.l6; rw [← q, h.lb.l0] at this; cases this
theorem AC.lists (h : AC w b n A t k1 k2 sp gp) : (t.nw ++ t.mn).Nodup ∧ (∀ x ∈ t.nw, x < n) ∧ (∀ x ∈ t.mn, x < n) ∧ (∀ x ∈ t.nw, ¬ x ∈ t.mn) ∧ (t.nw ++ t.mn).length ≤ n := by
  obtain ⟨h1, h2, h3, h4, h5⟩ := h.rr.row2
  have hnd : (t.nw ++ t.mn).Nodup := by
    rw [List.nodup_append]
    exact ⟨h1, h2, fun x hx y hy e => h5 x hx (e ▸ hy)⟩
  refine ⟨hnd, h3, h4, h5, ?_⟩
  have := List.Nodup.length_le_of_subset (l₁ := t.nw ++ t.mn) (l₂ := List.range n) hnd (fun y hy => List.mem_range.2 ((List.mem_append.1 hy).elim (h3 y) (h4 y)))
  simpa using this

theorem ar_size (h : AC w b n A t k1 k2 sp gp) : Calls Try.prog 20 #[.pointer (some ⟨b, 0, none⟩)] w fun e w' => e = .returned (.int .i64 (cntL (t.nw ++ t.mn) t.ev : Nat)) ∧ w = w' := by
  have c4 : w.cell? ⟨b, 4, none⟩ = some (.int .i64 (cntL (t.nw ++ t.mn) t.ev : Nat)) := h.c 4 (by omega)
  clear h
  go_enter Try.func20, Try.ntmps20
  go_wp2
  go_returns
  exact ⟨rfl, rfl⟩
theorem ar_has (h : AC w b n A t k1 k2 sp gp) (f : Nat) : Calls Try.prog 33 #[.pointer (some ⟨b, 0, none⟩), .int .i64 f] w fun e w' => e = .returned (.bool (decide (f ∈ t.nw ∨ f ∈ t.mn))) ∧ w = w' := by
  have c1 : w.cell? ⟨b, 1, none⟩ = some (.pointer (some ⟨A.rb, 0, none⟩)) := h.c 1 (by omega)
  have HI := In_all h.rr f
  rw [ix2] at HI
  by_cases hm : f ∈ t.nw
  · rw [if_pos hm] at HI
    have H := Lib.hid HI
    have HD : Hid (decide (f ∈ t.nw ∨ f ∈ t.mn) = true) := by simp [Hid, hm]
    rw [HD.out]
    clear HI hm HD h
    go_enter Try.func33, Try.ntmps33
    go_wp2_with (go_at_call 38; refine H.out.mono ?_; rintro e w' ⟨rfl, rfl⟩)
    go_returns
    exact ⟨rfl, rfl⟩
  · rw [if_neg hm] at HI
    by_cases hm2 : f ∈ t.mn
    · rw [if_pos hm2] at HI
      have H := Lib.hid HI
      have HD : Hid (decide (f ∈ t.nw ∨ f ∈ t.mn) = true) := by simp [Hid, hm2]
      rw [HD.out]
      clear HI hm HD h hm2
      go_enter Try.func33, Try.ntmps33
      go_wp2_with (go_at_call 38; refine H.out.mono ?_; rintro e w' ⟨rfl, rfl⟩)
      go_returns
      exact ⟨rfl, rfl⟩
    · rw [if_neg hm2] at HI
      have H := Lib.hid HI
      have HD : Hid (decide (f ∈ t.nw ∨ f ∈ t.mn) = false) := by simp [Hid, hm, hm2]
      rw [HD.out]
      clear HI hm HD h hm2
      go_enter Try.func33, Try.ntmps33
      go_wp2_with (go_at_call 38; refine H.out.mono ?_; rintro e w' ⟨rfl, rfl⟩)
      go_returns
      exact ⟨rfl, rfl⟩

def T7.setE (t : T7) (f : Nat) (v : Bool) : T7 := if f ∈ t.nw ∨ f ∈ t.mn then ⟨t.nw, t.mn, t.page, upd t.ev f v, t.b1, t.b2, t.goal⟩ else t
theorem AC.setE (h : AC w b n A t k1 k2 sp gp) {f : Nat} (hm : f ∈ t.nw ∨ f ∈ t.mn) (v : Bool) {z : Nat} (hz : z = cntL (t.nw ++ t.mn) (upd t.ev f v)) :
    AC ((w.setCell ⟨A.eb, f, none⟩ (.bool v)).setCell ⟨b, 4, none⟩ (.int .i64 z)) b n A ⟨t.nw, t.mn, t.page, upd t.ev f v, t.b1, t.b2, t.goal⟩ k1 k2 sp gp := by
  subst hz
  obtain ⟨n1, n2, n3, n4, n5, n6, n7, n8, n9, n10⟩ := h.lb.ne
  have f1 : Fr (fun i => i = A.eb ∨ i = b) w ((w.setCell ⟨A.eb, f, none⟩ (.bool v)).setCell ⟨b, 4, none⟩ (.int .i64 (cntL (t.nw ++ t.mn) (upd t.ev f v) : Nat))) :=
    ((Fr.refl (fun i => i = A.eb ∨ i = b) w).setCell (p := ⟨A.eb, f, none⟩) (.inl (.inl rfl)) _).setCell (p := ⟨b, 4, none⟩) (.inl (.inr rfl)) _
  refine ⟨?_, h.rr.fr f1 (fun i hi q => ?_), h.pg.fr f1 (fun q => ?_), ?_, h.gg.fr f1 (fun i hi q => ?_) (fun q => ?_) (fun q => ?_), h.lb, fun g hg => ?_, h.hn, h.hi, h.hb⟩
  · rw [← twH_sz A n t.goal (n + 1) (cntL (t.nw ++ t.mn) t.ev)]
    exact (h.hd.other n2 _).set _ _
  · rcases q with rfl | rfl
    · exact n6 hi
    · exact n4 hi
  · rcases q with q | q
    · exact n3 q
    · exact n1 q.symm
  · rw [← bF_set]
    exact (h.be.set _ _).other (fun e => n2 e.symm) _
  · rcases q with rfl | rfl
    · exact n9 (.inl hi)
    · exact n7 (.inl hi)
  · rcases q with q | q
    · exact n9 (.inr (.inl q.symm))
    · exact n7 (.inr (.inl q.symm))
  · rcases q with q | q
    · exact n9 (.inr (.inr q.symm))
    · exact n7 (.inr (.inr q.symm))
  · by_cases e : g = f
    · rw [e]; exact hm
    · have hg : upd t.ev f v g = true := hg
      rw [upd_other _ _ e] at hg; exact h.ou g hg

set_option maxHeartbeats 1000000 in
theorem ar_set (h : AC w b n A t k1 k2 sp gp) (f : Nat) (hf : f < n) (v : Bool) :
    Calls Try.prog 17 #[.pointer (some ⟨b, 0, none⟩), .int .i64 f, .bool v] w fun e w' => e = .returned (.tuple #[]) ∧ AC w' b n A (t.setE f v) k1 k2 sp gp ∧ Fr (fun i => i = A.eb ∨ i = b) w w' := by
  have HH := ar_has h f
  have hn := h.hn
  have hcl := cnt_le (t.nw ++ t.mn) t.ev
  obtain ⟨hnd, _, _, _, hln⟩ := h.lists
  by_cases hm : f ∈ t.nw ∨ f ∈ t.mn
  · have c3 : w.cell? ⟨b, 3, none⟩ = some (.slice (some ⟨A.eb, 0, none⟩) n n) := h.c 3 (by omega)
    have c4 : w.cell? ⟨b, 4, none⟩ = some (.int .i64 (cntL (t.nw ++ t.mn) t.ev : Nat)) := h.c 4 (by omega)
    have ce := h.ce hf
    have fe : ∀ i, w.frozen? ⟨A.eb, i, none⟩ = false := fun i => h.be.frozen i
    have fb : w.frozen? ⟨b, 4, none⟩ = false := h.hd.frozen 4
    have le := h.be.lt
    have lb := h.hd.lt
    have hd1 := h.lb.ne.2.1
    have hd1' : ¬ A.eb = b := fun e => hd1 e.symm
    have hcu := cnt_upd hnd t.ev f v (List.mem_append.2 hm)
    have HC := Lib.hid (fun (z : Nat) (hz : z = cntL (t.nw ++ t.mn) (upd t.ev f v)) => h.setE hm v hz)
    rw [show decide (f ∈ t.nw ∨ f ∈ t.mn) = true from by simp [hm]] at HH
    have H := Lib.hid HH
    have HS : Hid (t.setE f v = ⟨t.nw, t.mn, t.page, upd t.ev f v, t.b1, t.b2, t.goal⟩) := by unfold Hid T7.setE; rw [if_pos hm]
    have HU : Hid (t.ev f = v → (⟨t.nw, t.mn, t.page, upd t.ev f v, t.b1, t.b2, t.goal⟩ : T7) = t) := by
      intro e
      have : upd t.ev f v = t.ev := by
        funext j; unfold upd; split
        · subst j; exact e.symm
        · rfl
      rw [this]
    have HLR := Lib.hid h
    have hfr : ∀ z, Fr (fun i => i = A.eb ∨ i = b) w ((w.setCell ⟨A.eb, f, none⟩ (.bool v)).setCell ⟨b, 4, none⟩ (.int .i64 z)) := fun z =>
      ((Fr.refl (fun i => i = A.eb ∨ i = b) w).setCell (p := ⟨A.eb, f, none⟩) (.inl (.inl rfl)) _).setCell (p := ⟨b, 4, none⟩) (.inl (.inr rfl)) _
    have HFR := Lib.hid hfr
    clear h HH hm hfr hnd
    rw [HS.out]
    clear HS
    generalize cntL (t.nw ++ t.mn) (upd t.ev f v) = z1 at *
    generalize cntL (t.nw ++ t.mn) t.ev = z0 at *
    generalize (t.nw ++ t.mn).length = zl at *
    generalize hev : t.ev f = x at *
    have HE := Lib.hid hev
    clear hev
    cases x <;> cases v
    · have hu := HU.out rfl
      rw [hu]
      clear hu HU hcu
      go_enter Try.func17, Try.ntmps17
      go_wp2_with (go_at_call 33; refine H.out.mono ?_; rintro e w' ⟨rfl, rfl⟩)
      go_returns
      exact ⟨rfl, HLR.out, Fr.refl _ _⟩
    · simp at hcu
      have HCU := Lib.hid hcu
      clear hcu
      go_enter Try.func17, Try.ntmps17
      go_wp2_with (go_at_call 33; refine H.out.mono ?_; rintro e w' ⟨rfl, rfl⟩)
      go_returns
      have e1 : ((z0 : Int) + 1) = ((z0 + 1 : Nat) : Int) := by omega
      rw [e1]
      exact ⟨rfl, HC.out _ (by have := HCU.out; omega), HFR.out _⟩
    · simp at hcu
      have h1 : 1 ≤ (z0 : Int) := by omega
      have HCU := Lib.hid hcu
      clear hcu
      go_enter Try.func17, Try.ntmps17
      go_wp2_with (go_at_call 33; refine H.out.mono ?_; rintro e w' ⟨rfl, rfl⟩)
      go_returns
      have e1 : ((z0 : Int) - 1) = ((z0 - 1 : Nat) : Int) := by omega
      rw [e1]
      exact ⟨rfl, HC.out _ (by have := HCU.out; omega), HFR.out _⟩
    · have hu := HU.out rfl
      rw [hu]
      clear hu HU hcu
      go_enter Try.func17, Try.ntmps17
      go_wp2_with (go_at_call 33; refine H.out.mono ?_; rintro e w' ⟨rfl, rfl⟩)
      go_returns
      exact ⟨rfl, HLR.out, Fr.refl _ _⟩
  · rw [show decide (f ∈ t.nw ∨ f ∈ t.mn) = false from by simpa using hm] at HH
    have H := Lib.hid HH
    rw [show t.setE f v = t from if_neg hm]
    have HLR := Lib.hid h
    clear h HH hm hcl hln hnd
    go_enter Try.func17, Try.ntmps17
    go_wp2_with (go_at_call 33; refine H.out.mono ?_; rintro e w' ⟨rfl, rfl⟩)
    go_returns
    exact ⟨rfl, HLR.out, Fr.refl _ _⟩

def T7.rem (t : T7) (f : Nat) : T7 := if f ∈ t.nw ∨ f ∈ t.mn then ⟨awayN t.nw f, awayN t.mn f, t.page, upd t.ev f false, t.b1, t.b2, t.goal⟩ else t
set_option maxHeartbeats 1000000 in
theorem ar_remove (h : AC w b n A t k1 k2 sp gp) (f : Nat) (hf : f < n) :
    Calls Try.prog 40 #[.pointer (some ⟨b, 0, none⟩), .int .i64 f] w fun e w' => e = .returned (.tuple #[]) ∧ AC w' b n A (t.rem f) k1 k2 sp gp ∧ Fr (FT A b) w w' := by
  have HH := ar_has h f
  by_cases hm : f ∈ t.nw ∨ f ∈ t.mn
  · rw [show decide (f ∈ t.nw ∨ f ∈ t.mn) = true from by simp [hm]] at HH
    have H := Lib.hid HH
    have HS := Lib.hid (ar_set h f hf false)
    have HM := Lib.hid hm
    have HL := Lib.hid h.lists
    clear HH hm h
    go_enter Try.func40, Try.ntmps40
    go_wp2_with (go_at_call 33; refine H.out.mono ?_; rintro e w' ⟨rfl, rfl⟩)
    refine HS.out.mono ?_
    clear HS
    rintro e w1 ⟨rfl, hc1, f1⟩
    rw [show t.setE f false = ⟨t.nw, t.mn, t.page, upd t.ev f false, t.b1, t.b2, t.goal⟩ from if_pos HM.out] at hc1
    have c1 : w1.cell? ⟨b, 1, none⟩ = some (.pointer (some ⟨A.rb, 0, none⟩)) := hc1.c 1 (by omega)
    have HO := Lib.hid (Out_all hc1.rr f)
    have HC1 := Lib.hid hc1
    have HF := Lib.hid f1
    clear hc1 f1
    go_wp2_with fail
    refine HO.out.mono ?_
    clear HO
    rintro e w2 ⟨rfl, hR, f2⟩
    have key : AC w2 b n A (t.rem f) k1 k2 sp gp := by
      have hc := HC1.out
      obtain ⟨n1, n2, n3, n4, n5, n6, n7, n8, n9, n10⟩ := hc.lb.ne
      obtain ⟨hnd, h3, h4, h5, _⟩ := HL.out
      have hR' : RR w2 A.rb n 2 [awayN t.nw f, awayN t.mn f] A.FR := by
        have : outZ [t.nw, t.mn] (f : Int) = [awayN t.nw f, awayN t.mn f] := by rw [outZ, if_pos (by omega)]; exact outL2 h5 f
        rw [this] at hR; exact hR
      rw [show t.rem f = ⟨awayN t.nw f, awayN t.mn f, t.page, upd t.ev f false, t.b1, t.b2, t.goal⟩ from if_pos HM.out]
      refine ⟨?_, hR', hc.pg.fr f2 n5, hc.be.fr f2 n6, hc.gg.fr f2 (fun i hi q => n10 i q (.inl hi)) (fun q => n10 _ q (.inr (.inl rfl))) (fun q => n10 _ q (.inr (.inr rfl))), hc.lb, fun g hg => ?_, hc.hn, hc.hi, hc.hb⟩
      · have h1 := cnt_away hnd (upd t.ev f false) f
        rw [if_neg (by rw [upd_same]; simp)] at h1
        have h2 : awayL (t.nw ++ t.mn) f = awayN t.nw f ++ awayN t.mn f := by unfold awayL awayN; rw [List.filter_append]
        rw [h2] at h1
        show Blk w2 b 8 (twH A n t.goal (n + 1) (cntL (awayN t.nw f ++ awayN t.mn f) (upd t.ev f false)))
        rw [show cntL (awayN t.nw f ++ awayN t.mn f) (upd t.ev f false) = cntL (t.nw ++ t.mn) (upd t.ev f false) from by omega]
        exact hc.hd.fr f2 n4
      · have hg' : upd t.ev f false g = true := hg
        have hgf : ¬ g = f := by rintro rfl; rw [upd_same] at hg'; cases hg'
        rcases hc.ou g hg with q | q
        · exact .inl (by simpa [awayN] using ⟨q, hgf⟩)
        · exact .inr (by simpa [awayN] using ⟨q, hgf⟩)
    have hfr : Fr (FT A b) w w2 := (HF.out.mono (fun i q => q.elim (fun q => .inr (.inr (.inl q))) (fun q => .inl q))).trans f2 (fun i q => .inl (.inr (.inr (.inr (.inl q)))))
    have KEY := Lib.hid (And.intro key hfr)
    clear hR f2 key hfr
    go_wp2
    go_returns
    exact ⟨rfl, KEY.out⟩
  · rw [show decide (f ∈ t.nw ∨ f ∈ t.mn) = false from by simpa using hm] at HH
    have H := Lib.hid HH
    rw [show t.rem f = t from if_neg hm]
    have HLR := Lib.hid h
    clear h HH hm
    go_enter Try.func40, Try.ntmps40
    go_wp2_with (go_at_call 33; refine H.out.mono ?_; rintro e w' ⟨rfl, rfl⟩)
    go_returns
    exact ⟨rfl, HLR.out, Fr.refl _ _⟩

theorem ar_target (h : AC w b n A t k1 k2 sp gp) : Calls Try.prog 12 #[.pointer (some ⟨b, 0, none⟩)] w fun e w' => e = .returned (.int .i64 (t.goal : Nat)) ∧ w = w' := by
  have c0 : w.cell? ⟨b, 0, none⟩ = some (.int .i64 (t.goal : Nat)) := h.c 0 (by omega)
  clear h
  go_enter Try.func12, Try.ntmps12
  go_wp2
  go_returns
  exact ⟨rfl, rfl⟩
end
end Go.Proofs.Ytebhpihickmekaa

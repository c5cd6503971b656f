/-
  Package hatcheckref07's P: access.
-/
import Derived.Test.YtebhpihickmekaaRef07A
namespace Go.Proofs.Ytebhpihickmekaa
open Go.RowKit
set_option linter.unusedVariables false

theorem awayN_le2 (b1 b2 : List Nat) (x : Nat) : (awayN b1 x).length + (awayN b2 x).length ≤ b1.length + b2.length := by
  have h1 := awayN_le x b1
  have h2 := awayN_le x b2
  omega
section
variable {w w' : World} {pb gb ob n : Nat} {hc : Nat → Value} {s : S7}

set_option maxHeartbeats 4000000 in
theorem s7_access_again (h : PG w pb 8 gb ob n hc (rows7 s) s.page s.on) (hh : H7 n s gb ob hc) {a : Nat} (ha : a < n) (id : Nat) (hor : a ∈ s.t1 ∨ a ∈ s.t2 ∨ id ∈ s.b1 ∨ id ∈ s.b2) : Calls Try.prog 24 #[.pointer (some ⟨pb, 0, none⟩), .int .i64 a, .int .u32 id] w fun e w' => e = .returned (.tuple #[]) ∧ Res7 w pb gb ob n hc s (s.access a id) w' := by
  have c1 := h.c 1 (by omega) hh.c1
  have cp := h.cp ha
  have fp := h.pg.frozen a
  have hn := h.hn
  have lg := h.pg.lt
  have dn : ¬ gb = pb := fun e => h.d1 e.symm
  generalize s.page.getD a 0 = y at cp
  have hS := (PS.start h).setPage ha id
  obtain ⟨a3, k3, e3, q1, q2, _, _⟩ := hS.g.row (i := 3) (k := .i64) (l := s.t1) rfl
  obtain ⟨a4, k4, e4, q3, q4, _, _⟩ := hS.g.row (i := 4) (k := .i64) (l := s.t2) rfl
  obtain ⟨a5, k5, e5, q5, q6, hs5, _⟩ := hS.g.row (i := 5) (k := .u32) (l := s.b1) rfl
  obtain ⟨a6, k6, e6, q7, q8, _, _⟩ := hS.g.row (i := 6) (k := .u32) (l := s.b2) rfl
  have c5 := h.c 5 (by omega) e5
  have hl3 := len_lt hh.n1 hh.l1
  have hl4 := len_lt hh.n2 hh.l2
  have hbl := hh.bl
  have HW1 := Lib.hid (WithoutPage_calls hs5 (by omega) id)
  have HH := Lib.hid hh
  have HS := Lib.hid hS
  have E3 := Lib.hid e3
  have E4 := Lib.hid e4
  have E5 := Lib.hid e5
  have E6 := Lib.hid e6
  have HB : Hid (decide (a ∈ s.t1) = true ∨ (decide (a ∈ s.t1) = false ∧ decide (a ∈ s.t2) = true) ∨ (decide (a ∈ s.t1) = false ∧ decide (a ∈ s.t2) = false ∧ decide (id ∈ s.b1) = true) ∨ (decide (a ∈ s.t1) = false ∧ decide (a ∈ s.t2) = false ∧ decide (id ∈ s.b1) = false ∧ decide (id ∈ s.b2) = true)) := by
    unfold Hid
    by_cases p1 : a ∈ s.t1
    · exact .inl (by simp [p1])
    · by_cases p2 : a ∈ s.t2
      · exact .inr (.inl ⟨by simp [p1], by simp [p2]⟩)
      · by_cases p3 : id ∈ s.b1
        · exact .inr (.inr (.inl ⟨by simp [p1], by simp [p2], by simp [p3]⟩))
        · exact .inr (.inr (.inr ⟨by simp [p1], by simp [p2], by simp [p3], by simpa [p1, p2, p3] using hor⟩))
  have E : Hid (s.access a id = ⟨s.page.set a id, s.on, awayN s.t1 a, backN s.t2 a, awayN s.b1 id, awayN s.b2 id, s.goal⟩) := if_pos hor
  clear hor
  clear h hh hS hs5 e3 e4 e5 e6
  generalize hb1 : decide (a ∈ s.t1) = m1 at *
  generalize hb2 : decide (a ∈ s.t2) = m2 at *
  generalize decide (id ∈ s.b1) = m3 at *
  have HB1 := Lib.hid hb1
  have HB2 := Lib.hid hb2
  clear hb1 hb2
  go_enter Try.func24, Try.ntmps24
  go_wp2_with fail
  refine HW1.out.mono ?_
  clear HW1
  rintro e w1 ⟨v1, rfl, ho1, hf1⟩
  have hS1 := HS.out.fr0 hf1
  have d6 := hS1.g.c 6 (by omega) E6.out
  have HW2 := WithoutPage_calls (by have := (hS1.g.sl 6 .u32 s.b2 rfl).1; rw [E6.out] at this; exact this) (by omega) id
  generalize decide (id ∈ s.b2) = m4 at *
  replace HW2 := Lib.hid HW2
  have HS1 := Lib.hid hS1
  have HO1 := Lib.hid ho1
  have s1 := hf1.size
  simp only [World.size_setCell] at s1
  obtain ⟨a1', k1', rfl, _, _⟩ := ho1.sl.shape
  clear hS1 ho1 hf1
  go_wp2_with fail
  refine HW2.out.mono ?_
  clear HW2
  rintro e w2 ⟨v2, rfl, ho2, hf2⟩
  have hS2 := HS1.out.fr0 hf2
  have d5 := hS2.g.c 5 (by omega) E5.out
  have d6' := hS2.g.c 6 (by omega) E6.out
  have f5 := hS2.g.hd.frozen 5
  have f6 := hS2.g.hd.frozen 6
  have lp := hS2.g.hd.lt
  have s2 := hf2.size
  have hs1 : SlK .u32 w2 (.slice a1' (awayN s.b1 id).length k1') (awayN s.b1 id) := HO1.out.sl.keep hf2
  have hb1 : ∀ b, (Value.slice a1' (awayN s.b1 id).length k1').ownBlock = some b → w.heap.size ≤ b ∧ ¬ b = pb ∧ ¬ b = gb ∧ ¬ b = ob := fun b hb => by
    have := HO1.out.base b hb
    simp only [World.size_setCell] at this
    exact ⟨this, HS.out.g.fresh (by simpa using this)⟩
  obtain ⟨a2', k2', rfl, _, _⟩ := ho2.sl.shape
  have hb2 : ∀ b, (Value.slice a2' (awayN s.b2 id).length k2').ownBlock = some b → w.heap.size ≤ b ∧ ¬ b = pb ∧ ¬ b = gb ∧ ¬ b = ob := fun b hb => by
    have := ho2.base b hb
    exact ⟨by omega, HS1.out.g.fresh this⟩
  have hS3 := hS2.setRow 5 hs1 (fun b hb => .inl (hb1 b hb))
  rw [rows7_5 s _ (s.page.set a id) s.on s.goal] at hS3
  have hs2' : SlK .u32 (w2.setCell ⟨pb, 5, none⟩ (.slice a1' (awayN s.b1 id).length k1')) (.slice a2' (awayN s.b2 id).length k2') (awayN s.b2 id) := ho2.sl.fr ((Fr.refl (fun i => i = pb) w2).setCell (p := ⟨pb, 5, none⟩) (.inl rfl) _) (fun b hb => (hb2 b hb).2.1)
  have hS4 := hS3.setRow 6 hs2' (fun b hb => .inl (hb2 b hb))
  rw [rows7_6 _ _ (s.page.set a id) s.on s.goal] at hS4
  have e3' : upd (upd hc 5 (.slice a1' (awayN s.b1 id).length k1')) 6 (.slice a2' (awayN s.b2 id).length k2') 3 = .slice a3 s.t1.length k3 := by rw [upd_other _ _ (by omega), upd_other _ _ (by omega)]; exact E3.out
  have e4' : upd (upd hc 5 (.slice a1' (awayN s.b1 id).length k1')) 6 (.slice a2' (awayN s.b2 id).length k2') 4 = .slice a4 s.t2.length k4 := by rw [upd_other _ _ (by omega), upd_other _ _ (by omega)]; exact E4.out
  have d3 := hS2.g.c 3 (by omega) E3.out
  have HH4 : Hid (H7 n ⟨s.page.set a id, s.on, s.t1, s.t2, awayN s.b1 id, awayN s.b2 id, s.goal⟩ gb ob (upd (upd hc 5 (.slice a1' (awayN s.b1 id).length k1')) 6 (.slice a2' (awayN s.b2 id).length k2'))) := by
    have hh := HH.out
    have hle := awayN_le2 s.b1 s.b2 id
    have hle1 := awayN_le id s.b1
    exact H7.upd (s := ⟨s.page.set a id, s.on, s.t1, s.t2, awayN s.b1 id, s.b2, s.goal⟩) (hh.upd (s' := ⟨s.page.set a id, s.on, s.t1, s.t2, awayN s.b1 id, s.b2, s.goal⟩) 5 (by omega) _ rfl hh.n1 hh.n2 hh.l1 hh.l2 (by simp only; omega)) 6 (by omega) _ rfl hh.n1 hh.n2 hh.l1 hh.l2 (by simp only; omega)
  generalize upd (upd hc 5 (.slice a1' (awayN s.b1 id).length k1')) 6 (.slice a2' (awayN s.b2 id).length k2') = hc4 at *
  have HA : Hid (∃ wA, wA = (w2.setCell ⟨pb, 5, none⟩ (.slice a1' (awayN s.b1 id).length k1')).setCell ⟨pb, 6, none⟩ (.slice a2' (awayN s.b2 id).length k2')) := ⟨_, rfl⟩
  obtain ⟨wA, hwA⟩ := HA.out
  have HWA := Lib.hid hwA
  rw [← hwA] at hS4
  have HS4 := Lib.hid hS4
  have C3 : Hid (∀ w', Fr NoF wA w' → Calls Try.prog 45 #[.slice a3 s.t1.length k3, .int .i64 a] w' fun e w'' => e = .returned (.bool m1) ∧ Fr NoF w' w'') := by
    intro w' f
    rw [← HB1.out]
    exact has_calls (by have := ((HS4.out.fr0 f).g.sl 3 .i64 s.t1 rfl).1; rw [e3'] at this; exact this) (by omega) a
  have C4 : Hid (∀ w', Fr NoF wA w' → Calls Try.prog 45 #[.slice a4 s.t2.length k4, .int .i64 a] w' fun e w'' => e = .returned (.bool m2) ∧ Fr NoF w' w'') := by
    intro w' f
    rw [← HB2.out]
    exact has_calls (by have := ((HS4.out.fr0 f).g.sl 4 .i64 s.t2 rfl).1; rw [e4'] at this; exact this) (by omega) a
  have HP : Hid (∀ w', Fr NoF wA w' → w'.cell? ⟨pb, 3, none⟩ = some (.slice a3 s.t1.length k3) ∧ w'.cell? ⟨pb, 4, none⟩ = some (.slice a4 s.t2.length k4) ∧ w'.frozen? ⟨pb, 3, none⟩ = false ∧ w'.frozen? ⟨pb, 4, none⟩ = false ∧ pb < w'.heap.size) := fun w' f =>
    ⟨(HS4.out.fr0 f).g.c 3 (by omega) e3', (HS4.out.fr0 f).g.c 4 (by omega) e4', (HS4.out.fr0 f).g.hd.frozen 3, (HS4.out.fr0 f).g.hd.frozen 4, (HS4.out.fr0 f).g.hd.lt⟩
  have sA : w.heap.size ≤ wA.heap.size := HS4.out.f.size
  have HE3 := Lib.hid e3'
  have HE4 := Lib.hid e4'
  clear hS2 hs1 hb1 hb2 hS3 hs2' hS4 e3' e4' hwA HA HS1 HS HO1 ho2 hf2 E3 E4 E5 E6 c1 cp fp c5
  rcases HB.out with rfl | ⟨rfl, rfl⟩ | ⟨rfl, rfl, rfl⟩ | ⟨rfl, rfl, rfl, rfl⟩
  · clear HB
    go_wp2_with fail
    rw [← HWA.out]
    refine (C3.out _ (Fr.refl NoF _)).mono ?_
    rintro e w3 ⟨rfl, f3⟩
    obtain ⟨g3, g4, gf3, gf4, gl⟩ := HP.out w3 f3
    have F3 := Lib.hid f3
    clear f3
    have W3 := Lib.hid (Without_calls (w := w3) (by have := ((HS4.out.fr0 F3.out).g.sl 3 .i64 s.t1 rfl).1; rw [HE3.out] at this; exact this) (by omega) a)
    go_wp2_with fail
    refine W3.out.mono ?_
    clear W3
    rintro e w5 ⟨v5, rfl, ho5, hf5⟩
    obtain ⟨a5', k5', rfl, _, _⟩ := ho5.sl.shape
    have hf5' := F3.out.trans hf5 (fun _ q => q.elim)
    obtain ⟨j3, j4, jf3, jf4, jl⟩ := HP.out w5 hf5'
    have s5 := F3.out.size
    have hb5 : ∀ b, (Value.slice a5' (awayN s.t1 a).length k5').ownBlock = some b → w.heap.size ≤ b ∧ ¬ b = pb ∧ ¬ b = gb ∧ ¬ b = ob := fun b hb => by
      have := ho5.base b hb
      exact ⟨by omega, HS4.out.g.fresh (by omega)⟩
    have hS6 := (HS4.out.fr0 hf5').setRow 3 ho5.sl (fun b hb => .inl (hb5 b hb))
    rw [rows7_3 _ _ (s.page.set a id) s.on s.goal] at hS6
    have e4'' : upd hc4 3 (.slice a5' (awayN s.t1 a).length k5') 4 = .slice a4 s.t2.length k4 := by rw [upd_other _ _ (by omega)]; exact HE4.out
    have W4 := Lib.hid (Without_calls (w := w5.setCell ⟨pb, 3, none⟩ (.slice a5' (awayN s.t1 a).length k5')) (by have := (hS6.g.sl 4 .i64 s.t2 rfl).1; rw [e4''] at this; exact this) (by omega) a)
    have HS6 := Lib.hid hS6
    have HE4'' := Lib.hid e4''
    have hle := awayN_le a s.t2
    clear ho5 hf5 hf5' hb5 hS6 e4''
    go_wp2_with fail
    refine W4.out.mono ?_
    clear W4
    rintro e w7 ⟨v7, rfl, ho7, hf7⟩
    obtain ⟨a7', k7', rfl, _, _⟩ := ho7.sl.shape
    have HO7 := Lib.hid ho7
    have HF7 := Lib.hid hf7
    have s7 := hf7.size
    simp only [World.size_setCell] at s7
    clear ho7 hf7
    go_wp2_with (at_builtin; go_must (refine appLB (base := (w5.setCell ⟨pb, 3, none⟩ (.slice a5' (awayN s.t1 a).length k5')).heap.size) EIi rfl _ _ rfl (by rfl) (by rfl) (by simp; omega) (own_keep HO7.out ((Fr.refl NoF _).alloc _) (fun _ _ q => q)) (SlC.ofOwn (own_new (w0 := w7) (Nat.le_refl _) #[.int .i64 a] 3 1 1 _ rfl rfl (by unfold maxLen; omega)) (by simp [Value.oneCell'])) (by unfold maxLen; omega) (by omega) ?_); intro v' w8 hown hf8 hob8; obtain ⟨⟨a8', c8', rfl⟩, hg8, hp8⟩ := HS6.out.push HF7.out HO7.out _ hown hf8 4; have g4' := hg8.c 4 (by omega) HE4''.out; have gf := hg8.hd.frozen 4; have gl' := hg8.hd.lt; have HP8 := Lib.hid hp8; clear hown hf8 hob8 hg8 hp8)
    go_returns
    refine ⟨rfl, ?_⟩
    have hp := HP8.out
    rw [rows7_4 _ _ (s.page.set a id) s.on s.goal] at hp
    rw [E.out]
    have hh := HH4.out
    refine ⟨_, hp, H7.upd (s := ⟨s.page.set a id, s.on, awayN s.t1 a, s.t2, awayN s.b1 id, awayN s.b2 id, s.goal⟩) (hh.upd (s' := ⟨s.page.set a id, s.on, awayN s.t1 a, s.t2, awayN s.b1 id, awayN s.b2 id, s.goal⟩) 3 (by omega) _ rfl (hh.n1.filter _) hh.n2 (fun x hx => hh.l1 x (mem_awayN.1 hx).1) hh.l2 hh.bl) 4 (by omega) _ rfl (hh.n1.filter _) (nodup_back hh.n2 a) (fun x hx => hh.l1 x (mem_awayN.1 hx).1) (fun x hx => ?_) hh.bl⟩
    rcases mem_backN.1 hx with q | q
    · exact hh.l2 x q
    · omega
  · clear HB
    go_wp2_with fail
    rw [← HWA.out]
    refine (C3.out _ (Fr.refl NoF _)).mono ?_
    rintro e w3 ⟨rfl, f3⟩
    obtain ⟨g3, g4, gf3, gf4, gl⟩ := HP.out w3 f3
    have F3 := Lib.hid f3
    clear f3
    go_wp2_with fail
    refine (C4.out _ F3.out).mono ?_
    rintro e w4 ⟨rfl, f4⟩
    have f4' := F3.out.trans f4 (fun _ q => q.elim)
    obtain ⟨i3, i4, if3, if4, il⟩ := HP.out w4 f4'
    have F4 := Lib.hid f4'
    clear f4 f4'
    have W3 := Lib.hid (Without_calls (w := w4) (by have := ((HS4.out.fr0 F4.out).g.sl 3 .i64 s.t1 rfl).1; rw [HE3.out] at this; exact this) (by omega) a)
    go_wp2_with fail
    refine W3.out.mono ?_
    clear W3
    rintro e w5 ⟨v5, rfl, ho5, hf5⟩
    obtain ⟨a5', k5', rfl, _, _⟩ := ho5.sl.shape
    have hf5' := F4.out.trans hf5 (fun _ q => q.elim)
    obtain ⟨j3, j4, jf3, jf4, jl⟩ := HP.out w5 hf5'
    have s5 := F4.out.size
    have hb5 : ∀ b, (Value.slice a5' (awayN s.t1 a).length k5').ownBlock = some b → w.heap.size ≤ b ∧ ¬ b = pb ∧ ¬ b = gb ∧ ¬ b = ob := fun b hb => by
      have := ho5.base b hb
      exact ⟨by omega, HS4.out.g.fresh (by omega)⟩
    have hS6 := (HS4.out.fr0 hf5').setRow 3 ho5.sl (fun b hb => .inl (hb5 b hb))
    rw [rows7_3 _ _ (s.page.set a id) s.on s.goal] at hS6
    have e4'' : upd hc4 3 (.slice a5' (awayN s.t1 a).length k5') 4 = .slice a4 s.t2.length k4 := by rw [upd_other _ _ (by omega)]; exact HE4.out
    have W4 := Lib.hid (Without_calls (w := w5.setCell ⟨pb, 3, none⟩ (.slice a5' (awayN s.t1 a).length k5')) (by have := (hS6.g.sl 4 .i64 s.t2 rfl).1; rw [e4''] at this; exact this) (by omega) a)
    have HS6 := Lib.hid hS6
    have HE4'' := Lib.hid e4''
    have hle := awayN_le a s.t2
    clear ho5 hf5 hf5' hb5 hS6 e4''
    go_wp2_with fail
    refine W4.out.mono ?_
    clear W4
    rintro e w7 ⟨v7, rfl, ho7, hf7⟩
    obtain ⟨a7', k7', rfl, _, _⟩ := ho7.sl.shape
    have HO7 := Lib.hid ho7
    have HF7 := Lib.hid hf7
    have s7 := hf7.size
    simp only [World.size_setCell] at s7
    clear ho7 hf7
    go_wp2_with (at_builtin; go_must (refine appLB (base := (w5.setCell ⟨pb, 3, none⟩ (.slice a5' (awayN s.t1 a).length k5')).heap.size) EIi rfl _ _ rfl (by rfl) (by rfl) (by simp; omega) (own_keep HO7.out ((Fr.refl NoF _).alloc _) (fun _ _ q => q)) (SlC.ofOwn (own_new (w0 := w7) (Nat.le_refl _) #[.int .i64 a] 3 1 1 _ rfl rfl (by unfold maxLen; omega)) (by simp [Value.oneCell'])) (by unfold maxLen; omega) (by omega) ?_); intro v' w8 hown hf8 hob8; obtain ⟨⟨a8', c8', rfl⟩, hg8, hp8⟩ := HS6.out.push HF7.out HO7.out _ hown hf8 4; have g4' := hg8.c 4 (by omega) HE4''.out; have gf := hg8.hd.frozen 4; have gl' := hg8.hd.lt; have HP8 := Lib.hid hp8; clear hown hf8 hob8 hg8 hp8)
    go_returns
    refine ⟨rfl, ?_⟩
    have hp := HP8.out
    rw [rows7_4 _ _ (s.page.set a id) s.on s.goal] at hp
    rw [E.out]
    have hh := HH4.out
    refine ⟨_, hp, H7.upd (s := ⟨s.page.set a id, s.on, awayN s.t1 a, s.t2, awayN s.b1 id, awayN s.b2 id, s.goal⟩) (hh.upd (s' := ⟨s.page.set a id, s.on, awayN s.t1 a, s.t2, awayN s.b1 id, awayN s.b2 id, s.goal⟩) 3 (by omega) _ rfl (hh.n1.filter _) hh.n2 (fun x hx => hh.l1 x (mem_awayN.1 hx).1) hh.l2 hh.bl) 4 (by omega) _ rfl (hh.n1.filter _) (nodup_back hh.n2 a) (fun x hx => hh.l1 x (mem_awayN.1 hx).1) (fun x hx => ?_) hh.bl⟩
    rcases mem_backN.1 hx with q | q
    · exact hh.l2 x q
    · omega
  · clear HB
    go_wp2_with fail
    rw [← HWA.out]
    refine (C3.out _ (Fr.refl NoF _)).mono ?_
    rintro e w3 ⟨rfl, f3⟩
    obtain ⟨g3, g4, gf3, gf4, gl⟩ := HP.out w3 f3
    have F3 := Lib.hid f3
    clear f3
    go_wp2_with fail
    refine (C4.out _ F3.out).mono ?_
    rintro e w4 ⟨rfl, f4⟩
    have f4' := F3.out.trans f4 (fun _ q => q.elim)
    obtain ⟨i3, i4, if3, if4, il⟩ := HP.out w4 f4'
    have F4 := Lib.hid f4'
    clear f4 f4'
    have W3 := Lib.hid (Without_calls (w := w4) (by have := ((HS4.out.fr0 F4.out).g.sl 3 .i64 s.t1 rfl).1; rw [HE3.out] at this; exact this) (by omega) a)
    go_wp2_with fail
    refine W3.out.mono ?_
    clear W3
    rintro e w5 ⟨v5, rfl, ho5, hf5⟩
    obtain ⟨a5', k5', rfl, _, _⟩ := ho5.sl.shape
    have hf5' := F4.out.trans hf5 (fun _ q => q.elim)
    obtain ⟨j3, j4, jf3, jf4, jl⟩ := HP.out w5 hf5'
    have s5 := F4.out.size
    have hb5 : ∀ b, (Value.slice a5' (awayN s.t1 a).length k5').ownBlock = some b → w.heap.size ≤ b ∧ ¬ b = pb ∧ ¬ b = gb ∧ ¬ b = ob := fun b hb => by
      have := ho5.base b hb
      exact ⟨by omega, HS4.out.g.fresh (by omega)⟩
    have hS6 := (HS4.out.fr0 hf5').setRow 3 ho5.sl (fun b hb => .inl (hb5 b hb))
    rw [rows7_3 _ _ (s.page.set a id) s.on s.goal] at hS6
    have e4'' : upd hc4 3 (.slice a5' (awayN s.t1 a).length k5') 4 = .slice a4 s.t2.length k4 := by rw [upd_other _ _ (by omega)]; exact HE4.out
    have W4 := Lib.hid (Without_calls (w := w5.setCell ⟨pb, 3, none⟩ (.slice a5' (awayN s.t1 a).length k5')) (by have := (hS6.g.sl 4 .i64 s.t2 rfl).1; rw [e4''] at this; exact this) (by omega) a)
    have HS6 := Lib.hid hS6
    have HE4'' := Lib.hid e4''
    have hle := awayN_le a s.t2
    clear ho5 hf5 hf5' hb5 hS6 e4''
    go_wp2_with fail
    refine W4.out.mono ?_
    clear W4
    rintro e w7 ⟨v7, rfl, ho7, hf7⟩
    obtain ⟨a7', k7', rfl, _, _⟩ := ho7.sl.shape
    have HO7 := Lib.hid ho7
    have HF7 := Lib.hid hf7
    have s7 := hf7.size
    simp only [World.size_setCell] at s7
    clear ho7 hf7
    go_wp2_with (at_builtin; go_must (refine appLB (base := (w5.setCell ⟨pb, 3, none⟩ (.slice a5' (awayN s.t1 a).length k5')).heap.size) EIi rfl _ _ rfl (by rfl) (by rfl) (by simp; omega) (own_keep HO7.out ((Fr.refl NoF _).alloc _) (fun _ _ q => q)) (SlC.ofOwn (own_new (w0 := w7) (Nat.le_refl _) #[.int .i64 a] 3 1 1 _ rfl rfl (by unfold maxLen; omega)) (by simp [Value.oneCell'])) (by unfold maxLen; omega) (by omega) ?_); intro v' w8 hown hf8 hob8; obtain ⟨⟨a8', c8', rfl⟩, hg8, hp8⟩ := HS6.out.push HF7.out HO7.out _ hown hf8 4; have g4' := hg8.c 4 (by omega) HE4''.out; have gf := hg8.hd.frozen 4; have gl' := hg8.hd.lt; have HP8 := Lib.hid hp8; clear hown hf8 hob8 hg8 hp8)
    go_returns
    refine ⟨rfl, ?_⟩
    have hp := HP8.out
    rw [rows7_4 _ _ (s.page.set a id) s.on s.goal] at hp
    rw [E.out]
    have hh := HH4.out
    refine ⟨_, hp, H7.upd (s := ⟨s.page.set a id, s.on, awayN s.t1 a, s.t2, awayN s.b1 id, awayN s.b2 id, s.goal⟩) (hh.upd (s' := ⟨s.page.set a id, s.on, awayN s.t1 a, s.t2, awayN s.b1 id, awayN s.b2 id, s.goal⟩) 3 (by omega) _ rfl (hh.n1.filter _) hh.n2 (fun x hx => hh.l1 x (mem_awayN.1 hx).1) hh.l2 hh.bl) 4 (by omega) _ rfl (hh.n1.filter _) (nodup_back hh.n2 a) (fun x hx => hh.l1 x (mem_awayN.1 hx).1) (fun x hx => ?_) hh.bl⟩
    rcases mem_backN.1 hx with q | q
    · exact hh.l2 x q
    · omega
  · clear HB
    go_wp2_with fail
    rw [← HWA.out]
    refine (C3.out _ (Fr.refl NoF _)).mono ?_
    rintro e w3 ⟨rfl, f3⟩
    obtain ⟨g3, g4, gf3, gf4, gl⟩ := HP.out w3 f3
    have F3 := Lib.hid f3
    clear f3
    go_wp2_with fail
    refine (C4.out _ F3.out).mono ?_
    rintro e w4 ⟨rfl, f4⟩
    have f4' := F3.out.trans f4 (fun _ q => q.elim)
    obtain ⟨i3, i4, if3, if4, il⟩ := HP.out w4 f4'
    have F4 := Lib.hid f4'
    clear f4 f4'
    have W3 := Lib.hid (Without_calls (w := w4) (by have := ((HS4.out.fr0 F4.out).g.sl 3 .i64 s.t1 rfl).1; rw [HE3.out] at this; exact this) (by omega) a)
    go_wp2_with fail
    refine W3.out.mono ?_
    clear W3
    rintro e w5 ⟨v5, rfl, ho5, hf5⟩
    obtain ⟨a5', k5', rfl, _, _⟩ := ho5.sl.shape
    have hf5' := F4.out.trans hf5 (fun _ q => q.elim)
    obtain ⟨j3, j4, jf3, jf4, jl⟩ := HP.out w5 hf5'
    have s5 := F4.out.size
    have hb5 : ∀ b, (Value.slice a5' (awayN s.t1 a).length k5').ownBlock = some b → w.heap.size ≤ b ∧ ¬ b = pb ∧ ¬ b = gb ∧ ¬ b = ob := fun b hb => by
      have := ho5.base b hb
      exact ⟨by omega, HS4.out.g.fresh (by omega)⟩
    have hS6 := (HS4.out.fr0 hf5').setRow 3 ho5.sl (fun b hb => .inl (hb5 b hb))
    rw [rows7_3 _ _ (s.page.set a id) s.on s.goal] at hS6
    have e4'' : upd hc4 3 (.slice a5' (awayN s.t1 a).length k5') 4 = .slice a4 s.t2.length k4 := by rw [upd_other _ _ (by omega)]; exact HE4.out
    have W4 := Lib.hid (Without_calls (w := w5.setCell ⟨pb, 3, none⟩ (.slice a5' (awayN s.t1 a).length k5')) (by have := (hS6.g.sl 4 .i64 s.t2 rfl).1; rw [e4''] at this; exact this) (by omega) a)
    have HS6 := Lib.hid hS6
    have HE4'' := Lib.hid e4''
    have hle := awayN_le a s.t2
    clear ho5 hf5 hf5' hb5 hS6 e4''
    go_wp2_with fail
    refine W4.out.mono ?_
    clear W4
    rintro e w7 ⟨v7, rfl, ho7, hf7⟩
    obtain ⟨a7', k7', rfl, _, _⟩ := ho7.sl.shape
    have HO7 := Lib.hid ho7
    have HF7 := Lib.hid hf7
    have s7 := hf7.size
    simp only [World.size_setCell] at s7
    clear ho7 hf7
    go_wp2_with (at_builtin; go_must (refine appLB (base := (w5.setCell ⟨pb, 3, none⟩ (.slice a5' (awayN s.t1 a).length k5')).heap.size) EIi rfl _ _ rfl (by rfl) (by rfl) (by simp; omega) (own_keep HO7.out ((Fr.refl NoF _).alloc _) (fun _ _ q => q)) (SlC.ofOwn (own_new (w0 := w7) (Nat.le_refl _) #[.int .i64 a] 3 1 1 _ rfl rfl (by unfold maxLen; omega)) (by simp [Value.oneCell'])) (by unfold maxLen; omega) (by omega) ?_); intro v' w8 hown hf8 hob8; obtain ⟨⟨a8', c8', rfl⟩, hg8, hp8⟩ := HS6.out.push HF7.out HO7.out _ hown hf8 4; have g4' := hg8.c 4 (by omega) HE4''.out; have gf := hg8.hd.frozen 4; have gl' := hg8.hd.lt; have HP8 := Lib.hid hp8; clear hown hf8 hob8 hg8 hp8)
    go_returns
    refine ⟨rfl, ?_⟩
    have hp := HP8.out
    rw [rows7_4 _ _ (s.page.set a id) s.on s.goal] at hp
    rw [E.out]
    have hh := HH4.out
    refine ⟨_, hp, H7.upd (s := ⟨s.page.set a id, s.on, awayN s.t1 a, s.t2, awayN s.b1 id, awayN s.b2 id, s.goal⟩) (hh.upd (s' := ⟨s.page.set a id, s.on, awayN s.t1 a, s.t2, awayN s.b1 id, awayN s.b2 id, s.goal⟩) 3 (by omega) _ rfl (hh.n1.filter _) hh.n2 (fun x hx => hh.l1 x (mem_awayN.1 hx).1) hh.l2 hh.bl) 4 (by omega) _ rfl (hh.n1.filter _) (nodup_back hh.n2 a) (fun x hx => hh.l1 x (mem_awayN.1 hx).1) (fun x hx => ?_) hh.bl⟩
    rcases mem_backN.1 hx with q | q
    · exact hh.l2 x q
    · omega

set_option maxHeartbeats 4000000 in
theorem s7_access_new (h : PG w pb 8 gb ob n hc (rows7 s) s.page s.on) (hh : H7 n s gb ob hc) {a : Nat} (ha : a < n) (id : Nat) (hor : ¬ (a ∈ s.t1 ∨ a ∈ s.t2 ∨ id ∈ s.b1 ∨ id ∈ s.b2)) : Calls Try.prog 24 #[.pointer (some ⟨pb, 0, none⟩), .int .i64 a, .int .u32 id] w fun e w' => e = .returned (.tuple #[]) ∧ Res7 w pb gb ob n hc s (s.access a id) w' := by
  have c1 := h.c 1 (by omega) hh.c1
  have cp := h.cp ha
  have fp := h.pg.frozen a
  have hn := h.hn
  have lg := h.pg.lt
  have dn : ¬ gb = pb := fun e => h.d1 e.symm
  generalize s.page.getD a 0 = y at cp
  have hS := (PS.start h).setPage ha id
  obtain ⟨a3, k3, e3, q1, q2, _, _⟩ := hS.g.row (i := 3) (k := .i64) (l := s.t1) rfl
  obtain ⟨a4, k4, e4, q3, q4, _, _⟩ := hS.g.row (i := 4) (k := .i64) (l := s.t2) rfl
  obtain ⟨a5, k5, e5, q5, q6, hs5, _⟩ := hS.g.row (i := 5) (k := .u32) (l := s.b1) rfl
  obtain ⟨a6, k6, e6, q7, q8, _, _⟩ := hS.g.row (i := 6) (k := .u32) (l := s.b2) rfl
  have c5 := h.c 5 (by omega) e5
  have hl3 := len_lt hh.n1 hh.l1
  have hl4 := len_lt hh.n2 hh.l2
  have hbl := hh.bl
  have HW1 := Lib.hid (WithoutPage_calls hs5 (by omega) id)
  have HH := Lib.hid hh
  have HS := Lib.hid hS
  have E3 := Lib.hid e3
  have E4 := Lib.hid e4
  have E5 := Lib.hid e5
  have E6 := Lib.hid e6
  have HB : Hid (decide (a ∈ s.t1) = false ∧ decide (a ∈ s.t2) = false ∧ decide (id ∈ s.b1) = false ∧ decide (id ∈ s.b2) = false) := by
    unfold Hid
    simpa using hor
  have E : Hid (s.access a id = ⟨s.page.set a id, s.on, s.t1 ++ [a], s.t2, awayN s.b1 id, awayN s.b2 id, s.goal⟩) := if_neg hor
  have HM : Hid (¬ a ∈ s.t1) := fun q => hor (.inl q)
  clear hor
  clear h hh hS hs5 e3 e4 e5 e6
  generalize hb1 : decide (a ∈ s.t1) = m1 at *
  generalize hb2 : decide (a ∈ s.t2) = m2 at *
  generalize decide (id ∈ s.b1) = m3 at *
  have HB1 := Lib.hid hb1
  have HB2 := Lib.hid hb2
  clear hb1 hb2
  go_enter Try.func24, Try.ntmps24
  go_wp2_with fail
  refine HW1.out.mono ?_
  clear HW1
  rintro e w1 ⟨v1, rfl, ho1, hf1⟩
  have hS1 := HS.out.fr0 hf1
  have d6 := hS1.g.c 6 (by omega) E6.out
  have HW2 := WithoutPage_calls (by have := (hS1.g.sl 6 .u32 s.b2 rfl).1; rw [E6.out] at this; exact this) (by omega) id
  generalize decide (id ∈ s.b2) = m4 at *
  replace HW2 := Lib.hid HW2
  have HS1 := Lib.hid hS1
  have HO1 := Lib.hid ho1
  have s1 := hf1.size
  simp only [World.size_setCell] at s1
  obtain ⟨a1', k1', rfl, _, _⟩ := ho1.sl.shape
  clear hS1 ho1 hf1
  go_wp2_with fail
  refine HW2.out.mono ?_
  clear HW2
  rintro e w2 ⟨v2, rfl, ho2, hf2⟩
  have hS2 := HS1.out.fr0 hf2
  have d5 := hS2.g.c 5 (by omega) E5.out
  have d6' := hS2.g.c 6 (by omega) E6.out
  have f5 := hS2.g.hd.frozen 5
  have f6 := hS2.g.hd.frozen 6
  have lp := hS2.g.hd.lt
  have s2 := hf2.size
  have hs1 : SlK .u32 w2 (.slice a1' (awayN s.b1 id).length k1') (awayN s.b1 id) := HO1.out.sl.keep hf2
  have hb1 : ∀ b, (Value.slice a1' (awayN s.b1 id).length k1').ownBlock = some b → w.heap.size ≤ b ∧ ¬ b = pb ∧ ¬ b = gb ∧ ¬ b = ob := fun b hb => by
    have := HO1.out.base b hb
    simp only [World.size_setCell] at this
    exact ⟨this, HS.out.g.fresh (by simpa using this)⟩
  obtain ⟨a2', k2', rfl, _, _⟩ := ho2.sl.shape
  have hb2 : ∀ b, (Value.slice a2' (awayN s.b2 id).length k2').ownBlock = some b → w.heap.size ≤ b ∧ ¬ b = pb ∧ ¬ b = gb ∧ ¬ b = ob := fun b hb => by
    have := ho2.base b hb
    exact ⟨by omega, HS1.out.g.fresh this⟩
  have hS3 := hS2.setRow 5 hs1 (fun b hb => .inl (hb1 b hb))
  rw [rows7_5 s _ (s.page.set a id) s.on s.goal] at hS3
  have hs2' : SlK .u32 (w2.setCell ⟨pb, 5, none⟩ (.slice a1' (awayN s.b1 id).length k1')) (.slice a2' (awayN s.b2 id).length k2') (awayN s.b2 id) := ho2.sl.fr ((Fr.refl (fun i => i = pb) w2).setCell (p := ⟨pb, 5, none⟩) (.inl rfl) _) (fun b hb => (hb2 b hb).2.1)
  have hS4 := hS3.setRow 6 hs2' (fun b hb => .inl (hb2 b hb))
  rw [rows7_6 _ _ (s.page.set a id) s.on s.goal] at hS4
  have e3' : upd (upd hc 5 (.slice a1' (awayN s.b1 id).length k1')) 6 (.slice a2' (awayN s.b2 id).length k2') 3 = .slice a3 s.t1.length k3 := by rw [upd_other _ _ (by omega), upd_other _ _ (by omega)]; exact E3.out
  have e4' : upd (upd hc 5 (.slice a1' (awayN s.b1 id).length k1')) 6 (.slice a2' (awayN s.b2 id).length k2') 4 = .slice a4 s.t2.length k4 := by rw [upd_other _ _ (by omega), upd_other _ _ (by omega)]; exact E4.out
  have d3 := hS2.g.c 3 (by omega) E3.out
  have HH4 : Hid (H7 n ⟨s.page.set a id, s.on, s.t1, s.t2, awayN s.b1 id, awayN s.b2 id, s.goal⟩ gb ob (upd (upd hc 5 (.slice a1' (awayN s.b1 id).length k1')) 6 (.slice a2' (awayN s.b2 id).length k2'))) := by
    have hh := HH.out
    have hle := awayN_le2 s.b1 s.b2 id
    have hle1 := awayN_le id s.b1
    exact H7.upd (s := ⟨s.page.set a id, s.on, s.t1, s.t2, awayN s.b1 id, s.b2, s.goal⟩) (hh.upd (s' := ⟨s.page.set a id, s.on, s.t1, s.t2, awayN s.b1 id, s.b2, s.goal⟩) 5 (by omega) _ rfl hh.n1 hh.n2 hh.l1 hh.l2 (by simp only; omega)) 6 (by omega) _ rfl hh.n1 hh.n2 hh.l1 hh.l2 (by simp only; omega)
  generalize upd (upd hc 5 (.slice a1' (awayN s.b1 id).length k1')) 6 (.slice a2' (awayN s.b2 id).length k2') = hc4 at *
  have HA : Hid (∃ wA, wA = (w2.setCell ⟨pb, 5, none⟩ (.slice a1' (awayN s.b1 id).length k1')).setCell ⟨pb, 6, none⟩ (.slice a2' (awayN s.b2 id).length k2')) := ⟨_, rfl⟩
  obtain ⟨wA, hwA⟩ := HA.out
  have HWA := Lib.hid hwA
  rw [← hwA] at hS4
  have HS4 := Lib.hid hS4
  have C3 : Hid (∀ w', Fr NoF wA w' → Calls Try.prog 45 #[.slice a3 s.t1.length k3, .int .i64 a] w' fun e w'' => e = .returned (.bool m1) ∧ Fr NoF w' w'') := by
    intro w' f
    rw [← HB1.out]
    exact has_calls (by have := ((HS4.out.fr0 f).g.sl 3 .i64 s.t1 rfl).1; rw [e3'] at this; exact this) (by omega) a
  have C4 : Hid (∀ w', Fr NoF wA w' → Calls Try.prog 45 #[.slice a4 s.t2.length k4, .int .i64 a] w' fun e w'' => e = .returned (.bool m2) ∧ Fr NoF w' w'') := by
    intro w' f
    rw [← HB2.out]
    exact has_calls (by have := ((HS4.out.fr0 f).g.sl 4 .i64 s.t2 rfl).1; rw [e4'] at this; exact this) (by omega) a
  have HP : Hid (∀ w', Fr NoF wA w' → w'.cell? ⟨pb, 3, none⟩ = some (.slice a3 s.t1.length k3) ∧ w'.cell? ⟨pb, 4, none⟩ = some (.slice a4 s.t2.length k4) ∧ w'.frozen? ⟨pb, 3, none⟩ = false ∧ w'.frozen? ⟨pb, 4, none⟩ = false ∧ pb < w'.heap.size) := fun w' f =>
    ⟨(HS4.out.fr0 f).g.c 3 (by omega) e3', (HS4.out.fr0 f).g.c 4 (by omega) e4', (HS4.out.fr0 f).g.hd.frozen 3, (HS4.out.fr0 f).g.hd.frozen 4, (HS4.out.fr0 f).g.hd.lt⟩
  have sA : w.heap.size ≤ wA.heap.size := HS4.out.f.size
  have HE3 := Lib.hid e3'
  have HE4 := Lib.hid e4'
  clear hS2 hs1 hb1 hb2 hS3 hs2' hS4 e3' e4' hwA HA HS1 HS HO1 ho2 hf2 E3 E4 E5 E6 c1 cp fp c5
  obtain ⟨rfl, rfl, rfl, rfl⟩ := HB.out
  clear HB
  go_wp2_with fail
  rw [← HWA.out]
  refine (C3.out _ (Fr.refl NoF _)).mono ?_
  rintro e w3 ⟨rfl, f3⟩
  obtain ⟨g3, g4, gf3, gf4, gl⟩ := HP.out w3 f3
  have F3 := Lib.hid f3
  clear f3
  go_wp2_with fail
  refine (C4.out _ F3.out).mono ?_
  rintro e w4 ⟨rfl, f4⟩
  have f4' := F3.out.trans f4 (fun _ q => q.elim)
  obtain ⟨i3, i4, if3, if4, il⟩ := HP.out w4 f4'
  have F4 := Lib.hid f4'
  clear f4 f4'
  have HT3 : Hid (SlK .i64 w4 (.slice a3 s.t1.length k3) s.t1) := by have := ((HS4.out.fr0 F4.out).g.sl 3 .i64 s.t1 rfl).1; rw [HE3.out] at this; exact this
  have HS5 := Lib.hid (HS4.out.fr0 F4.out)
  go_wp2_with (first
    | (at_builtin; (refine appLB (base := w4.heap.size) EIi rfl _ _ rfl (by rfl) (by rfl) (by simp) (own_new (w0 := w4) (Nat.le_refl _) #[] 3 1 0 _ rfl rfl (by unfold maxLen; omega)) (HT3.out.keep ((Fr.refl NoF _).alloc _)) (by unfold maxLen; omega) (by omega) ?_); intro v5 w5 hown hf5 hob5; obtain ⟨⟨a5', c5', rfl⟩, ho5, f5⟩ := own_copy rfl hown hf5; have HO5 := Lib.hid ho5; have HF5 := Lib.hid f5; have hs5 := f5.size; clear hown hf5 hob5 ho5 f5)
    | (at_builtin; go_must (refine appLB (base := w4.heap.size) EIi rfl _ _ rfl (by rfl) (by rfl) (by simp; omega) (own_keep HO5.out ((Fr.refl NoF _).alloc _) (fun _ _ q => q)) (SlC.ofOwn (own_new (w0 := w5) (Nat.le_refl _) #[.int .i64 a] 3 1 1 _ rfl rfl (by unfold maxLen; omega)) (by simp [Value.oneCell'])) (by unfold maxLen; omega) (by omega) ?_); intro v' w6 hown hf6 hob6; obtain ⟨⟨a6', c6', rfl⟩, hg6, hp6⟩ := HS5.out.push HF5.out HO5.out _ hown hf6 3; have g5 := hg6.c 3 (by omega) HE3.out; have gf := hg6.hd.frozen 3; have gl' := hg6.hd.lt; have HP6 := Lib.hid hp6; clear hown hf6 hob6 hg6 hp6))
  go_returns
  refine ⟨rfl, ?_⟩
  have hp := HP6.out
  rw [rows7_3 _ _ (s.page.set a id) s.on s.goal] at hp
  rw [E.out]
  have hh := HH4.out
  refine ⟨_, hp, hh.upd 3 (by omega) _ rfl ?_ hh.n2 (fun x hx => ?_) hh.l2 hh.bl⟩
  · show (s.t1 ++ [a]).Nodup
    rw [List.nodup_append]
    refine ⟨hh.n1, by simp, fun x hx y hy e => ?_⟩
    rw [List.mem_singleton.1 hy] at e
    subst e
    exact HM.out hx
  · have hx : x ∈ s.t1 ++ [a] := hx
    rcases List.mem_append.1 hx with q | q
    · exact hh.l1 x q
    · rw [List.mem_singleton.1 q]; exact ha
end
end Go.Proofs.Ytebhpihickmekaa

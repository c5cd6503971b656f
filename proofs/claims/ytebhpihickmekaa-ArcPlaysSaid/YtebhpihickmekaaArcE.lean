/-
  arc: step, thin, Miss.
-/
import Derived.Test.YtebhpihickmekaaArcD
import Derived.RegionTactic
namespace Go.Proofs.Ytebhpihickmekaa
open Go.RowKit Go.Maps
set_option linter.unusedVariables false

/-- By how much the target moves. -/
def stp (a b : Nat) : Nat := max 1 (b / a)
def T7.miss (n : Nat) (t : T7) (id : Nat) : T7 :=
  if id ∈ t.b1 then ⟨t.nw, t.mn, t.page, t.ev, t.b1, t.b2, min (t.goal + stp t.b1.length t.b2.length) n⟩
  else if id ∈ t.b2 then ⟨t.nw, t.mn, t.page, t.ev, t.b1, t.b2, t.goal - stp t.b2.length t.b1.length⟩
  else if n ≤ t.nw.length + t.b1.length then ⟨t.nw, t.mn, t.page, t.ev, t.b1.drop 1, t.b2, t.goal⟩
  else if 2 * n ≤ t.nw.length + t.b1.length + (t.mn.length + t.b2.length) then ⟨t.nw, t.mn, t.page, t.ev, t.b1, t.b2.drop 1, t.goal⟩ else t

theorem stp_lt {a b : Nat} (hb : b ≤ 65535) : 1 ≤ stp a b ∧ stp a b ≤ 65535 := by
  unfold stp
  have := Nat.div_le_self b a
  omega

theorem qa {P : Program} {f : FuncId} {args : Array Value} {w : World} {a n : Nat} {v : Value}
    (h : Calls P f args (w.drewN (a + n)) fun e w' => e = .returned v ∧ w.drewN (a + n) = w') : Calls P f args (w.drewN (a + n)) fun e w'' => e = .returned v ∧ ∃ m, w'' = w.drewN (a + m) :=
  h.mono fun _ _ ⟨he, hm⟩ => ⟨he, n, hm.symm⟩
section
variable {w w' : World} {b n : Nat} {A : TA} {t : T7} {k1 k2 sp : List Nat} {gp : Nat → Nat}
/-- With other remembered pages. -/
theorem AC.remd (h : AC w b n A t k1 k2 sp gp) {b1 b2 : List Nat} (hb : b1.length + b2.length ≤ n) (hr : RemA w A.gr A.gpb A.mb (n + 1) b1 b2 A.FG w') : ∃ k1' k2' sp' gp', AC w' b n A ⟨t.nw, t.mn, t.page, t.ev, b1, b2, t.goal⟩ k1' k2' sp' gp' ∧ Fr (FT A b) w w' := by
  obtain ⟨j1, j2, js, jp, hg, hf⟩ := hr
  obtain ⟨n1, n2, n3, n4, n5, n6, n7, n8, n9, n10⟩ := h.lb.ne
  exact ⟨j1, j2, js, jp, ⟨h.hd.fr hf n7, h.rr.fr hf n10, h.pg.fr hf n8, h.be.fr hf n9, hg, h.lb, h.ou, h.hn, h.hi, hb⟩, hf.mono (fun i q => .inr (.inr (.inr (.inr q))))⟩
theorem AC.setGoal (h : AC w b n A t k1 k2 sp gp) (g : Nat) (hg : g ≤ n) : AC (w.setCell ⟨b, 0, none⟩ (.int .i64 g)) b n A ⟨t.nw, t.mn, t.page, t.ev, t.b1, t.b2, g⟩ k1 k2 sp gp ∧ Fr (FT A b) w (w.setCell ⟨b, 0, none⟩ (.int .i64 g)) := by
  obtain ⟨n1, n2, n3, n4, n5, n6, n7, n8, n9, n10⟩ := h.lb.ne
  have f : Fr (fun i => i = b) w (w.setCell ⟨b, 0, none⟩ (.int .i64 g)) := (Fr.refl (fun i => i = b) w).setCell (p := ⟨b, 0, none⟩) (.inl rfl) _
  refine ⟨⟨?_, h.rr.fr f (fun i hi e => n4 (e ▸ hi)), h.pg.fr f (fun e => n1 e.symm), h.be.fr f (fun e => n2 e.symm), h.gg.fr f (fun i hi e => n7 (.inl (e ▸ hi))) (fun e => n7 (.inr (.inl e.symm))) (fun e => n7 (.inr (.inr e.symm))), h.lb, h.ou, h.hn, hg, h.hb⟩, f.mono (fun i q => .inl q)⟩
  show Blk _ b 8 (twH A n g (n + 1) (cntL (t.nw ++ t.mn) t.ev))
  rw [← twH_goal A n t.goal]
  exact h.hd.set _ _

set_option maxHeartbeats 1000000 in
theorem ar_step0 (h : AC w b n A t k1 k2 sp gp) (h1 : 1 ≤ t.b1.length) : Calls Try.prog 31 #[.pointer (some ⟨b, 0, none⟩), .int .i64 0, .int .i64 1] w fun e w' => e = .returned (.int .i64 (stp t.b1.length t.b2.length : Nat)) ∧ ∃ d, w.drewN d = w' := by
  have hn := h.hn
  have hb := h.hb
  have H0 : Hid (∀ w', Fr NoF w w' → Calls Try.prog 52 #[.pointer (some ⟨b, 5, none⟩), .int .i64 0] w' fun e w'' => e = .returned (.int .i64 (t.b1.length : Nat)) ∧ w' = w'') := fun w' f => ga_len0 (h.fr0 f).gg (h.fr0 f).gH
  have H1 : Hid (∀ w', Fr NoF w w' → Calls Try.prog 52 #[.pointer (some ⟨b, 5, none⟩), .int .i64 1] w' fun e w'' => e = .returned (.int .i64 (t.b2.length : Nat)) ∧ w' = w'') := fun w' f => ga_len1 (h.fr0 f).gg (h.fr0 f).gH
  clear h
  generalize t.b1.length = x1 at *
  generalize t.b2.length = x2 at *
  have HS : Hid (stp x1 x2 = max 1 (x2 / x1)) := rfl
  have hle := Nat.div_le_self x2 x1
  have hdv : wrap64 ((x2 : Int) / (x1 : Int)) = ((x2 / x1 : Nat) : Int) := by
    rw [← Int.natCast_ediv]
    generalize x2 / x1 = q at hle
    exact IntWalk.wrap64_in _ (by omega)
  generalize x2 / x1 = q at *
  rw [HS.out]
  clear HS
  by_cases hq : 1 < q
  · rw [show max 1 q = q from by omega]
    have hq' : 1 < (q : Int) := by omega
    clear hq
    go_enter Try.func31, Try.ntmps31
    go_wp2
    go_region_with (first
      | (go_at_call 52; (with_reducible refine (H0.out _ (Fr.refl NoF _).drew).mono ?_); rintro e w' ⟨rfl, rfl⟩)
      | (go_at_call 52; (with_reducible refine (H1.out _ (Fr.refl NoF _).drew).mono ?_); rintro e w' ⟨rfl, rfl⟩))
    all_goals
      go_wp2
      go_returns
      exact ⟨rfl, 1, rfl⟩
  · rw [show max 1 q = 1 from by omega]
    have hq' : (q : Int) ≤ 1 := by omega
    clear hq
    go_enter Try.func31, Try.ntmps31
    go_wp2
    go_region_with (first
      | (go_at_call 52; (with_reducible refine (H0.out _ (Fr.refl NoF _).drew).mono ?_); rintro e w' ⟨rfl, rfl⟩)
      | (go_at_call 52; (with_reducible refine (H1.out _ (Fr.refl NoF _).drew).mono ?_); rintro e w' ⟨rfl, rfl⟩))
    all_goals
      go_wp2
      go_returns
      exact ⟨rfl, 1, rfl⟩
set_option maxHeartbeats 1000000 in
theorem ar_step1 (h : AC w b n A t k1 k2 sp gp) (h1 : 1 ≤ t.b2.length) : Calls Try.prog 31 #[.pointer (some ⟨b, 0, none⟩), .int .i64 1, .int .i64 0] w fun e w' => e = .returned (.int .i64 (stp t.b2.length t.b1.length : Nat)) ∧ ∃ d, w.drewN d = w' := by
  have hn := h.hn
  have hb := h.hb
  have H0 : Hid (∀ w', Fr NoF w w' → Calls Try.prog 52 #[.pointer (some ⟨b, 5, none⟩), .int .i64 0] w' fun e w'' => e = .returned (.int .i64 (t.b1.length : Nat)) ∧ w' = w'') := fun w' f => ga_len0 (h.fr0 f).gg (h.fr0 f).gH
  have H1 : Hid (∀ w', Fr NoF w w' → Calls Try.prog 52 #[.pointer (some ⟨b, 5, none⟩), .int .i64 1] w' fun e w'' => e = .returned (.int .i64 (t.b2.length : Nat)) ∧ w' = w'') := fun w' f => ga_len1 (h.fr0 f).gg (h.fr0 f).gH
  clear h
  generalize t.b1.length = x2 at *
  generalize t.b2.length = x1 at *
  have HS : Hid (stp x1 x2 = max 1 (x2 / x1)) := rfl
  have hle := Nat.div_le_self x2 x1
  have hdv : wrap64 ((x2 : Int) / (x1 : Int)) = ((x2 / x1 : Nat) : Int) := by
    rw [← Int.natCast_ediv]
    generalize x2 / x1 = q at hle
    exact IntWalk.wrap64_in _ (by omega)
  generalize x2 / x1 = q at *
  rw [HS.out]
  clear HS
  by_cases hq : 1 < q
  · rw [show max 1 q = q from by omega]
    have hq' : 1 < (q : Int) := by omega
    clear hq
    go_enter Try.func31, Try.ntmps31
    go_wp2
    go_region_with (first
      | (go_at_call 52; (with_reducible refine (H0.out _ (Fr.refl NoF _).drew).mono ?_); rintro e w' ⟨rfl, rfl⟩)
      | (go_at_call 52; (with_reducible refine (H1.out _ (Fr.refl NoF _).drew).mono ?_); rintro e w' ⟨rfl, rfl⟩))
    all_goals
      go_wp2
      go_returns
      exact ⟨rfl, 1, rfl⟩
  · rw [show max 1 q = 1 from by omega]
    have hq' : (q : Int) ≤ 1 := by omega
    clear hq
    go_enter Try.func31, Try.ntmps31
    go_wp2
    go_region_with (first
      | (go_at_call 52; (with_reducible refine (H0.out _ (Fr.refl NoF _).drew).mono ?_); rintro e w' ⟨rfl, rfl⟩)
      | (go_at_call 52; (with_reducible refine (H1.out _ (Fr.refl NoF _).drew).mono ?_); rintro e w' ⟨rfl, rfl⟩))
    all_goals
      go_wp2
      go_returns
      exact ⟨rfl, 1, rfl⟩

def T7.thin (n : Nat) (t : T7) : T7 := if n ≤ t.nw.length + t.b1.length then ⟨t.nw, t.mn, t.page, t.ev, t.b1.drop 1, t.b2, t.goal⟩
  else if 2 * n ≤ t.nw.length + t.b1.length + (t.mn.length + t.b2.length) then ⟨t.nw, t.mn, t.page, t.ev, t.b1, t.b2.drop 1, t.goal⟩ else t
/-- What a call leaves. -/
def ResA (w : World) (b n : Nat) (A : TA) (t : T7) (w' : World) : Prop := (∃ k1 k2 sp gp, AC w' b n A t k1 k2 sp gp) ∧ Fr (FT A b) w w'
theorem ResA.trans0 {w'' : World} (f : Fr NoF w w') (h : ResA w' b n A t w'') : ResA w b n A t w'' := ⟨h.1, (f.mono (fun _ q => q.elim)).trans h.2 (fun _ q => .inl q)⟩
theorem AC.res (h : AC w b n A t k1 k2 sp gp) {b1 b2 : List Nat} (hb : b1.length + b2.length ≤ n) (hr : RemA w A.gr A.gpb A.mb (n + 1) b1 b2 A.FG w') : ResA w b n A ⟨t.nw, t.mn, t.page, t.ev, b1, b2, t.goal⟩ w' := by
  obtain ⟨k1', k2', sp', gp', q1, q2⟩ := h.remd hb hr
  exact ⟨⟨_, _, _, _, q1⟩, q2⟩

set_option maxHeartbeats 2000000 in
theorem ar_thin (h : AC w b n A t k1 k2 sp gp) : Calls Try.prog 32 #[.pointer (some ⟨b, 0, none⟩)] w fun e w' => e = .returned (.tuple #[]) ∧ ResA w b n A (t.thin n) w' := by
  have hn := h.hn
  have hb := h.hb
  have hln := h.lists.2.2.2.2
  rw [List.length_append] at hln
  have c1 : w.cell? ⟨b, 1, none⟩ = some (.pointer (some ⟨A.rb, 0, none⟩)) := h.c 1 (by omega)
  have c2 : w.cell? ⟨b, 2, none⟩ = some (.slice (some ⟨A.pb, 0, none⟩) n n) := h.c 2 (by omega)
  have lb := h.hd.lt
  have H0 : Hid (∀ d, Calls Try.prog 52 #[.pointer (some ⟨b, 5, none⟩), .int .i64 0] (w.drewN d) fun e w' => e = .returned (.int .i64 (t.b1.length : Nat)) ∧ w.drewN d = w') := fun d => ga_len0 (h.fr0 ((Fr.refl NoF w).drewN d)).gg (h.fr0 ((Fr.refl NoF w).drewN d)).gH
  have H1 : Hid (∀ d, Calls Try.prog 52 #[.pointer (some ⟨b, 5, none⟩), .int .i64 1] (w.drewN d) fun e w' => e = .returned (.int .i64 (t.b2.length : Nat)) ∧ w.drewN d = w') := fun d => ga_len1 (h.fr0 ((Fr.refl NoF w).drewN d)).gg (h.fr0 ((Fr.refl NoF w).drewN d)).gH
  have L0 : Hid (∀ d, Calls Try.prog 36 #[.pointer (some ⟨A.rb, 0, none⟩), .int .i64 0] (w.drewN d) fun e w' => e = .returned (.int .i64 (t.nw.length : Nat)) ∧ w.drewN d = w') := fun d => Len_all (h.rr.fr ((Fr.refl NoF w).drewN d) (fun _ _ q => q)) 0
  have L1 : Hid (∀ d, Calls Try.prog 36 #[.pointer (some ⟨A.rb, 0, none⟩), .int .i64 1] (w.drewN d) fun e w' => e = .returned (.int .i64 (t.mn.length : Nat)) ∧ w.drewN d = w') := fun d => Len_all (h.rr.fr ((Fr.refl NoF w).drewN d) (fun _ _ q => q)) 1
  have E0 : Hid (∀ d, Calls Try.prog 53 #[.pointer (some ⟨b, 5, none⟩), .int .i64 0] (w.drewN d) fun e w' => e = .returned (.tuple #[]) ∧ ResA w b n A ⟨t.nw, t.mn, t.page, t.ev, t.b1.drop 1, t.b2, t.goal⟩ w') := by
    intro d
    have f : Fr NoF w (w.drewN d) := (Fr.refl NoF w).drewN d
    have h' := h.fr0 f
    exact (ga_eldest h'.gg h'.gH).1.mono fun e w' ⟨he, hr⟩ => ⟨he, (h'.res (by rw [List.length_drop]; omega) hr).trans0 f⟩
  have E1 : Hid (∀ d, Calls Try.prog 53 #[.pointer (some ⟨b, 5, none⟩), .int .i64 1] (w.drewN d) fun e w' => e = .returned (.tuple #[]) ∧ ResA w b n A ⟨t.nw, t.mn, t.page, t.ev, t.b1, t.b2.drop 1, t.goal⟩ w') := by
    intro d
    have f : Fr NoF w (w.drewN d) := (Fr.refl NoF w).drewN d
    have h' := h.fr0 f
    exact (ga_eldest h'.gg h'.gH).2.mono fun e w' ⟨he, hr⟩ => ⟨he, (h'.res (by rw [List.length_drop]; omega) hr).trans0 f⟩
  have E2 : Hid (∀ d, ResA w b n A t (w.drewN d)) := fun d => ⟨⟨_, _, _, _, h.fr0 ((Fr.refl NoF w).drewN d)⟩, (Fr.refl (FT A b) w).drewN d⟩
  have HT : Hid (t.thin n = if n ≤ t.nw.length + t.b1.length then ⟨t.nw, t.mn, t.page, t.ev, t.b1.drop 1, t.b2, t.goal⟩
    else if 2 * n ≤ t.nw.length + t.b1.length + (t.mn.length + t.b2.length) then ⟨t.nw, t.mn, t.page, t.ev, t.b1, t.b2.drop 1, t.goal⟩ else t) := rfl
  clear h
  rw [HT.out]
  clear HT
  generalize t.nw.length = a1 at *
  generalize t.mn.length = a2 at *
  generalize t.b1.length = x1 at *
  generalize t.b2.length = x2 at *
  have g1 : IntKind.i64.wrap ((a1 : Int) + (x1 : Int)) = (a1 : Int) + x1 := IntWalk.i64_in _ (by omega)
  have g2 : IntKind.i64.wrap ((a2 : Int) + (x2 : Int)) = (a2 : Int) + x2 := IntWalk.i64_in _ (by omega)
  by_cases hA : n ≤ a1 + x1
  · rw [if_pos hA]
    have hA' : (n : Int) ≤ (a1 : Int) + x1 := by omega
    clear hA
    go_enter Try.func32, Try.ntmps32
    go_wp2
    go_quiet ((first | (go_at_call 36; with_reducible exact qs (L0.out _)) | (go_at_call 52; with_reducible exact qs (H0.out _))))
    go_wp2
    go_quiet ((first | (go_at_call 36; with_reducible exact qa (L1.out _)) | (go_at_call 52; with_reducible exact qa (H1.out _))))
    go_wp2_with fail
    refine (E0.out _).mono ?_
    rintro e w2 ⟨rfl, h2⟩
    have K := Lib.hid h2
    clear h2
    go_wp2
    go_returns
    exact ⟨rfl, K.out⟩
  · rw [if_neg hA]
    have hA' : (a1 : Int) + x1 < (n : Int) := by omega
    by_cases hB : 2 * n ≤ a1 + x1 + (a2 + x2)
    · rw [if_pos hB]
      have hB' : 2 * (n : Int) ≤ (a1 : Int) + x1 + ((a2 : Int) + x2) := by omega
      clear hA hB
      go_enter Try.func32, Try.ntmps32
      go_wp2
      go_quiet ((first | (go_at_call 36; with_reducible exact qs (L0.out _)) | (go_at_call 52; with_reducible exact qs (H0.out _))))
      go_wp2
      go_quiet ((first | (go_at_call 36; with_reducible exact qa (L1.out _)) | (go_at_call 52; with_reducible exact qa (H1.out _))))
      go_wp2_with fail
      refine (E1.out _).mono ?_
      rintro e w2 ⟨rfl, h2⟩
      have K := Lib.hid h2
      clear h2
      go_wp2
      go_returns
      exact ⟨rfl, K.out⟩
    · rw [if_neg hB]
      have hB' : (a1 : Int) + x1 + ((a2 : Int) + x2) < 2 * (n : Int) := by omega
      clear hA hB
      go_enter Try.func32, Try.ntmps32
      go_wp2
      go_quiet ((first | (go_at_call 36; with_reducible exact qs (L0.out _)) | (go_at_call 52; with_reducible exact qs (H0.out _))))
      go_wp2
      go_quiet ((first | (go_at_call 36; with_reducible exact qa (L1.out _)) | (go_at_call 52; with_reducible exact qa (H1.out _))))
      go_wp2
      go_returns
      exact ⟨rfl, E2.out _⟩
end
end Go.Proofs.Ytebhpihickmekaa

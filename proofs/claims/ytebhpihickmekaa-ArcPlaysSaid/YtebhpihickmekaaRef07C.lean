/-
  Package hatcheckref07's P: remove; what of victim serves everywhere.
-/
import Derived.Test.YtebhpihickmekaaRef07B
namespace Go.Proofs.Ytebhpihickmekaa
open Go.RowKit
set_option linter.unusedVariables false

section
variable {w w' w'' : World} {pb gb ob n : Nat} {hc : Nat → Value} {s s' : S7}
set_option maxHeartbeats 2000000 in
theorem s7_remove (h : PG w pb 8 gb ob n hc (rows7 s) s.page s.on) (hh : H7 n s gb ob hc) {a : Nat} (ha : a < n) : Calls Try.prog 26 #[.pointer (some ⟨pb, 0, none⟩), .int .i64 a] w fun e w' => e = .returned (.tuple #[]) ∧ Res7 w pb gb ob n hc s (s.remove a) w' := by
  have c1 := h.c 1 (by omega) hh.c1
  have c2 := h.c 2 (by omega) hh.c2
  have cp := h.cp ha
  have co := h.co ha
  have fp := h.pg.frozen a
  have fo := h.on.frozen a
  have hn := h.hn
  have lg := h.pg.lt
  have lo := h.on.lt
  have lp := h.hd.lt
  have d1 := h.d1
  have d2 := h.d2
  have d3 := h.d3
  have d1' : ¬ gb = pb := fun e => h.d1 e.symm
  have d2' : ¬ ob = pb := fun e => h.d2 e.symm
  have d3' : ¬ ob = gb := fun e => h.d3 e.symm
  generalize s.page.getD a 0 = y at cp
  generalize s.on a = z at co
  have hS : PS w (DP pb gb ob hc (rows7 s)) pb 8 gb ob n (((w.setCell ⟨gb, a, none⟩ (.int .u32 0)).setCell ⟨ob, a, none⟩ (.bool false)).drew) hc (rows7 s) (s.page.set a 0) (upd s.on a false) := (((PS.start h).setPage ha 0).setOn a false).fr0 ((Fr.refl NoF _).drew)
  obtain ⟨a5, k5, e5, q1, q2, _, _⟩ := hS.g.row (i := 3) (k := .i64) (l := s.t1) rfl
  obtain ⟨a6, k6, e6, q3, q4, _, _⟩ := hS.g.row (i := 4) (k := .i64) (l := s.t2) rfl
  have hl5 := len_lt hh.n1 hh.l1
  have hl6 := len_lt hh.n2 hh.l2
  have c5 := h.c 3 (by omega) e5
  have c6 := h.c 4 (by omega) e6
  generalize hA : ((w.setCell ⟨gb, a, none⟩ (.int .u32 0)).setCell ⟨ob, a, none⟩ (.bool false)).drew = wA at hS
  have HA := Lib.hid hA
  clear hA
  have HW5 : Hid (∀ w', Fr NoF wA w' → Calls Try.prog 47 #[.slice a5 s.t1.length k5, .int .i64 a] w' fun e w'' => ∃ v', e = .returned v' ∧ OwK .i64 w'.heap.size 3 w'' v' (awayN s.t1 a) ∧ Fr NoF w' w'') := by
    intro w' f
    exact Without_calls (by have := ((hS.fr0 f).g.sl 3 .i64 s.t1 rfl).1; rw [e5] at this; exact this) (by omega) a
  have HW6 : Hid (∀ w', Fr NoF wA w' → Calls Try.prog 47 #[.slice a6 s.t2.length k6, .int .i64 a] w' fun e w'' => ∃ v', e = .returned v' ∧ OwK .i64 w'.heap.size 3 w'' v' (awayN s.t2 a) ∧ Fr NoF w' w'') := by
    intro w' f
    exact Without_calls (by have := ((hS.fr0 f).g.sl 4 .i64 s.t2 rfl).1; rw [e6] at this; exact this) (by omega) a
  have HP : Hid (∀ w', Fr NoF wA w' → w'.cell? ⟨pb, 3, none⟩ = some (.slice a5 s.t1.length k5) ∧ w'.cell? ⟨pb, 4, none⟩ = some (.slice a6 s.t2.length k6) ∧ w'.frozen? ⟨pb, 3, none⟩ = false ∧ w'.frozen? ⟨pb, 4, none⟩ = false ∧ pb < w'.heap.size) := fun w' f =>
    ⟨(hS.fr0 f).g.c 3 (by omega) e5, (hS.fr0 f).g.c 4 (by omega) e6, (hS.fr0 f).g.hd.frozen 3, (hS.fr0 f).g.hd.frozen 4, (hS.fr0 f).g.hd.lt⟩
  have KEY : Hid (∀ w5 w6 v5 v6 bs, Fr NoF wA w5 → OwK .i64 bs 3 w5 v5 (awayN s.t1 a) → wA.heap.size ≤ bs → Fr NoF w5 w6 → OwK .i64 w5.heap.size 3 w6 v6 (awayN s.t2 a) →
      Res7 w pb gb ob n hc s (s.remove a) ((w6.setCell ⟨pb, 3, none⟩ v5).setCell ⟨pb, 4, none⟩ v6)) := by
    intro w5 w6 v5 v6 bs f5 o5 hbs f6 o6
    have hsA : w.heap.size ≤ wA.heap.size := hS.f.size
    have h6 := (hS.fr0 f5).fr0 f6
    have b5 : ∀ b, v5.ownBlock = some b → w.heap.size ≤ b ∧ ¬ b = pb ∧ ¬ b = gb ∧ ¬ b = ob := fun b hb => by
      have := o5.base b hb
      exact ⟨by omega, hS.g.fresh (by omega)⟩
    have b6 : ∀ b, v6.ownBlock = some b → w.heap.size ≤ b ∧ ¬ b = pb ∧ ¬ b = gb ∧ ¬ b = ob := fun b hb => by
      have := o6.base b hb
      have := f5.size
      exact ⟨by omega, hS.g.fresh (by omega)⟩
    have h7 := h6.setRow 3 (o5.sl.keep f6) (fun b hb => .inl (b5 b hb))
    have h8 := h7.setRow 4 (o6.sl.fr ((Fr.refl (fun i => i = pb) w6).setCell (p := ⟨pb, 3, none⟩) (.inl rfl) _) (fun b hb => (b6 b hb).2.1)) (fun b hb => .inl (b6 b hb))
    rw [rows7_3 s _ (s.page.set a 0) (upd s.on a false) s.goal, rows7_4 _ _ (s.page.set a 0) (upd s.on a false) s.goal] at h8
    exact ⟨_, h8, H7.upd (s := ⟨s.page.set a 0, upd s.on a false, awayN s.t1 a, s.t2, s.b1, s.b2, s.goal⟩) (H7.upd (s' := ⟨s.page.set a 0, upd s.on a false, awayN s.t1 a, s.t2, s.b1, s.b2, s.goal⟩) hh 3 (by omega) _ rfl (hh.n1.filter _) hh.n2 (fun x hx => hh.l1 x (mem_awayN.1 hx).1) hh.l2 hh.bl) 4 (by omega) _ rfl (hh.n1.filter _) (hh.n2.filter _) (fun x hx => hh.l1 x (mem_awayN.1 hx).1) (fun x hx => hh.l2 x (mem_awayN.1 hx).1) hh.bl⟩
  clear h hh hS e5 e6
  go_enter Try.func26, Try.ntmps26
  go_wp2
  go_region
  all_goals
    clear c1 c2 cp co fp fo lg lo lp d1 d2 d3 d1' d2' d3' c5 c6
    rw [HA.out]
    obtain ⟨p5, p6, p5f, p6f, pl⟩ := HP.out wA (Fr.refl _ _)
    go_wp2_with fail
    go_region_with (first
      | (go_at_call 47; (with_reducible refine (HW5.out _ ((Fr.refl NoF _).drew)).mono ?_); rintro e w5 ⟨v5, rfl, ho5, hf5⟩; obtain ⟨a5', c5', rfl, _, _⟩ := ho5.sl.shape; have HF5 := Lib.hid (((Fr.refl NoF wA).drew).trans hf5 (fun _ q => q.elim)); have HO5 := Lib.hid ho5; obtain ⟨r5, r6, r5f, r6f, rl⟩ := HP.out w5 HF5.out; clear ho5 hf5)
      | (go_at_call 47; (with_reducible refine (HW6.out _ HF5.out).mono ?_); rintro e w6 ⟨v6, rfl, ho6, hf6⟩; obtain ⟨a6', c6', rfl, _, _⟩ := ho6.sl.shape; have HF6 := Lib.hid hf6; have HO6 := Lib.hid ho6; obtain ⟨t5, t6, t5f, t6f, tl⟩ := HP.out w6 (HF5.out.trans hf6 (fun _ q => q.elim)); clear ho6 hf6))
    all_goals
      go_wp2
      go_returns
      exact ⟨rfl, KEY.out _ _ _ _ _ HF5.out HO5.out (Nat.le_refl _) HF6.out HO6.out⟩

theorem Res7.trans0 (f : Fr NoF w w') (h : Res7 w' pb gb ob n hc s s' w'') : Res7 w pb gb ob n hc s s' w'' := by
  obtain ⟨hc', h1, h2⟩ := h
  refine ⟨hc', ⟨h1.g, (f.mono (fun _ q => q.elim)).trans h1.f (fun _ q => .inl q), fun j q => (h1.d j q).imp id (fun q => Nat.le_trans f.size q)⟩, h2⟩
theorem s7_first1 (h : PG w pb 8 gb ob n hc (rows7 s) s.page s.on) (hh : H7 n s gb ob hc) (d : Nat) : Calls Try.prog 44 #[hc 3, .slice (some ⟨ob, 0, none⟩) n n] (w.drewN d) fun e w' => e = .returned (.int .i64 (fstI (s.t1.find? s.on))) ∧ w.drewN d = w' := by
  have hP := h.fr0 ((Fr.refl NoF w).drewN d)
  have := len_lt hh.n1 hh.l1
  have := h.hn
  exact First_calls (hP.sl 3 .i64 s.t1 rfl).1 (fun x hx => ⟨hh.l1 x hx, hP.co (hh.l1 x hx)⟩) (by omega) (by omega)
theorem s7_first2 (h : PG w pb 8 gb ob n hc (rows7 s) s.page s.on) (hh : H7 n s gb ob hc) (d : Nat) : Calls Try.prog 44 #[hc 4, .slice (some ⟨ob, 0, none⟩) n n] (w.drewN d) fun e w' => e = .returned (.int .i64 (fstI (s.t2.find? s.on))) ∧ w.drewN d = w' := by
  have hP := h.fr0 ((Fr.refl NoF w).drewN d)
  have := len_lt hh.n2 hh.l2
  have := h.hn
  exact First_calls (hP.sl 4 .i64 s.t2 rfl).1 (fun x hx => ⟨hh.l2 x hx, hP.co (hh.l2 x hx)⟩) (by omega) (by omega)
theorem vic7_some {s : S7} {id f : Nat} (hv : s.vic id = some f) : f ∈ s.t1 ∨ f ∈ s.t2 := by
  unfold S7.vic at hv
  split at hv
  · exact .inl (List.mem_of_find?_eq_some hv)
  · exact .inr (List.mem_of_find?_eq_some hv)
end
end Go.Proofs.Ytebhpihickmekaa

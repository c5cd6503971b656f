/-
  Pro's calls, said of the ring of entries: a hand moves, a frame's entry goes, a test ends.
-/
import Derived.Test.YtoainbdkhhblbaaK31
namespace Go.Proofs.Ytoainbdkhhblbaa
open Go.RowKit Go.Maps
set_option linter.unusedVariables false
set_option linter.unusedSimpArgs false

/-- In memory there stands s. -/
def PA (n b : Nat) (A : AP) (w : World) (s : PrS) : Prop := ∃ r, PC w b n A r ∧ Rf n r s
section
variable {w w' : World} {b n m : Nat} {A : AP} {r : Raw} {s : PrS} {i x f : Nat} {y : En}
theorem PA.fr0 (h : PA n b A w s) (f : Fr NoF w w') : PA n b A w' s := by
  obtain ⟨r, h1, h2⟩ := h; exact ⟨r, h1.fr0 f, h2⟩
theorem PA.pgs (h : PA n b A w s) (g : Nat → Nat) : PA n b A w { s with pg := g } := by
  obtain ⟨r, h1, h2⟩ := h; exact ⟨r, h1, h2.pgs g⟩
theorem pa_move (h : PA n b A w s) (hL : 0 < s.L.length) {j : Nat} (hj : j < 3) : Calls Try.prog 41 #[.pointer (some ⟨b, 0, none⟩), .int .i64 j] w fun e w' => e = .returned (.tuple #[]) ∧ PA n b A w' (s.mv j) ∧ Fr (FPr A b) w w' := by
  obtain ⟨r, h1, h2⟩ := h
  have hne : ¬ r.ids = [] := fun c => by have := h2.len; rw [c] at this; simp at this; rw [this] at hL; simp at hL
  have hh := List.mem_of_getElem? (h2.rl.hands hj hne)
  exact (ck_move h1 hj hh).mono fun e w' ⟨a1, a2, a3⟩ => ⟨a1, ⟨_, a2, h2.move j⟩, a3.mono (fun i q => .inl q)⟩
/-- A frame's page is in none any more. -/
theorem pa_remove (h : PA n b A w s) (hk : PK n m s) (hi : s.L[i]? = some y) (hf : y.fr = (f : Int)) (hn : n ≤ 30000) : Calls Try.prog 43 #[.pointer (some ⟨b, 0, none⟩), .int .i64 f] w fun e w' => e = .returned (.tuple #[]) ∧ PA n b A w' ((s.empty f).drop i) ∧ Fr (FPr A b) w w' := by
  obtain ⟨r, h1, h2⟩ := h
  obtain ⟨x, hx, ex⟩ := h2.rl.id hi
  subst ex
  have hxm := List.mem_of_getElem? hx
  obtain ⟨q1, q2, _, _⟩ := hk.el _ (mem_get hi)
  have hfn : f < n := by omega
  have hfm := h2.fm2 f hfn x hxm hf
  have hx2 := h1.lists.2.2.1 x hxm
  have hsz := h2.size_le
  have hht := h2.hot_le
  have HH := Lib.hid (pr_has h1 hfn x hfm)
  have HE := Lib.hid (pr_empty h1 hfn hfm hx2 (fun q => h2.size_pos hxm q) (by omega))
  obtain ⟨a1, a2, a3, a4, a5⟩ := setV_e (r := r) x false
  obtain ⟨b1, b2, b3, b4⟩ := setV_ids (r := r) x false
  have HD : Hid (∀ W, PC W b n A (r.empty f x) → Calls Try.prog 35 #[.pointer (some ⟨b, 0, none⟩), .int .i64 x] W fun e w' => e = .returned (.tuple #[]) ∧ PC w' b n A ((r.empty f x).pdrop x) ∧ Fr (FPr A b) W w') := fun W hW => by
    have ee : (r.empty f x).e x = { r.e x with fr := -1 } := by show upd r.e x _ x = _; rw [upd_same]
    have eh : (r.empty f x).hot = r.hot := b3
    refine pr_drop hW (by show x ∈ (r.setV x false).ids; rw [a3]; exact hxm) (by rw [ee]; exact q2.2) (fun q => ?_) (by rw [eh]; omega)
    rw [ee] at q
    rw [eh]; exact h2.hot_pos hxm q
  have HR := Lib.hid (h2.out hk hx hf)
  have c5 : w.cell? ⟨b, 5, none⟩ = some (.slice (some ⟨A.fb, 0, none⟩) n n) := h1.c 5 (by omega)
  have cf := h1.cf hfn
  rw [hfm] at cf
  have g0 : (0 : Int) ≤ (f : Int) := by omega
  have g1 : (f : Int) < (n : Int) := by omega
  clear hi hf hfm hx hxm q1 q2 hsz hht a1 a2 a3 a4 a5 b1 b2 b3 b4 h1 h2 hk
  go_enter Try.func43, Try.ntmps43
  go_wp2_with (go_at_call 37; refine HH.out.mono ?_; rintro e w' ⟨rfl, rfl⟩)
  refine HE.out.mono ?_
  clear HE HH c5 cf
  rintro e w1 ⟨rfl, h1, f1⟩
  have HD1 := Lib.hid (HD.out _ h1)
  have F1 := Lib.hid f1
  clear h1 f1 HD
  go_wp2_with fail
  refine HD1.out.mono ?_
  clear HD1
  rintro e w2 ⟨rfl, h2, f2⟩
  have KEY : Hid (PA n b A w2 ((s.empty f).drop i) ∧ Fr (FPr A b) w w2) := ⟨⟨_, h2, HR.out⟩, F1.out.trans f2 (fun i q => .inl q)⟩
  clear h2 f2 HR
  go_wp2
  go_returns
  exact ⟨rfl, KEY.out⟩
set_option maxHeartbeats 1000000 in
/-- A test ends. -/
theorem pa_fail (h1 : PC w b n A r) (h2 : Rf n r s) (hk : PK n m s) (hx : r.ids[i]? = some x) (hn : n ≤ 30000) : Calls Try.prog 76 #[.pointer (some ⟨b, 0, none⟩), .int .i64 x] w fun e w' => e = .returned (.bool (decide ((r.e x).fr < 0))) ∧ PA n b A w' (s.ends i (r.e x)) ∧ Fr (FPr A b) w w' := by
  have hi := h2.get hx
  have hxm := List.mem_of_getElem? hx
  obtain ⟨q1, q2, _, _⟩ := hk.el _ (mem_get hi)
  have hx2 := h1.lists.2.2.1 x hxm
  have hht := h2.hot_le
  have hgl := hk.gl
  have hgo := h2.goal
  have c1 : w.cell? ⟨b, 1, none⟩ = some (.slice (some ⟨A.eb, 0, none⟩) (2 * n) (2 * n)) := h1.c 1 (by omega)
  have c7 : w.cell? ⟨b, 7, none⟩ = some (.int .i64 (r.goal : Nat)) := h1.c 7 (by omega)
  obtain ⟨_, x1, _, _, x4, _⟩ := h1.ce hx2
  have fe := fun i => h1.en.frozen i
  have fb := h1.hd.frozen 7
  have lb := h1.hd.lt
  have le := h1.en.lt
  obtain ⟨n1, _, _, _, _, _, _⟩ := h1.lb.ne
  have n1' : ¬ b = A.eb := fun e => n1 e.symm
  have g0 : (0 : Int) ≤ (x : Int) := by omega
  have g1 : (x : Int) < 2 * (n : Int) := by omega
  have g2 : 1 ≤ (r.goal : Int) := by omega
  have g3 : (r.goal : Int) ≤ 70000 := by omega
  have h3 := h2.goals (max (s.goal - 1) 1)
  have h4 : Rf n { r with goal := max (s.goal - 1) 1, e := upd r.e x { r.e x with test := false }, hot := r.hot } (s.less.put i { r.e x with test := false }) := h3.put (y := { r.e x with test := false }) hx rfl rfl rfl
  have HP : Hid (∀ z : Int, z = ((max (s.goal - 1) 1 : Nat) : Int) → PC ((w.setCell ⟨b, 7, none⟩ (.int .i64 z)).setCell ⟨A.eb, x * 6 + 4, none⟩ (.bool false)) b n A { r with goal := max (s.goal - 1) 1, e := upd r.e x { r.e x with test := false } } ∧ Fr (FPr A b) w ((w.setCell ⟨b, 7, none⟩ (.int .i64 z)).setCell ⟨A.eb, x * 6 + 4, none⟩ (.bool false))) := fun z ez => by
    subst ez
    have a1 := h1.setHead (r' := { r with goal := max (s.goal - 1) 1 }) (prH_goal _ _ _ _ _) rfl
    exact ⟨a1.setEn (r' := { r with goal := max (s.goal - 1) 1, e := upd r.e x { r.e x with test := false } }) (en_test r.e r.v x false) rfl, ((Fr.refl (FPr A b) w).setCell (p := ⟨b, 7, none⟩) (.inl (.inl rfl)) _).setCell (p := ⟨A.eb, x * 6 + 4, none⟩) (.inl (.inr (.inl rfl))) _⟩
  have hg1 : 1 ≤ max (s.goal - 1) 1 := by omega
  have hg2 : r.goal ≤ max (s.goal - 1) 1 + 1 := by omega
  have hg3 : max (s.goal - 1) 1 = 1 ∨ max (s.goal - 1) 1 + 1 = r.goal := by omega
  by_cases hf : (r.e x).fr < 0
  · have HD : Hid (∀ W, PC W b n A { r with goal := max (s.goal - 1) 1, e := upd r.e x { r.e x with test := false } } → Calls Try.prog 35 #[.pointer (some ⟨b, 0, none⟩), .int .i64 x] W fun e w' => e = .returned (.tuple #[]) ∧ PA n b A w' (s.ends i (r.e x)) ∧ Fr (FPr A b) W w') := fun W hW => by
      have h5 := h4.ghost (i := i) (x := x) hx (by show (upd r.e x _ x).fr < 0; rw [upd_same]; exact hf)
      rw [put_drop] at h5
      refine (pr_drop hW (x := x) hxm (by show (upd r.e x _ x).pg < _; rw [upd_same]; exact q2.2) (fun q => ?_) (by show r.hot ≤ _; omega)).mono fun e w' ⟨b1, b2, b3⟩ => ⟨b1, ⟨_, b2, by unfold PrS.ends; rw [if_pos hf]; exact h5⟩, b3⟩
      have q : (upd r.e x { r.e x with test := false } x).hot = true := q
      rw [upd_same] at q
      exact h2.hot_pos hxm q
    have hm1 : (r.e x).fr = -1 := by omega
    rw [show decide ((r.e x).fr < 0) = true from by simpa using hf]
    rw [hm1] at x1
    clear h3 h4 h1 h2 hk hi hxm q1 q2 hx hf hm1 hgl hgo
    generalize max (s.goal - 1) 1 = gg at *
    go_enter Try.func76, Try.ntmps76
    go_wp2_with fail
    · obtain ⟨hp, fp⟩ := HP.out 1 (by omega)
      have HD1 := Lib.hid (HD.out _ hp)
      have F1 := Lib.hid fp
      clear hp fp HD HP hg1 hg2 hg3
      refine HD1.out.mono ?_
      clear HD1
      rintro e w2 ⟨rfl, h5, f5⟩
      have KEY := Lib.hid (And.intro h5 (F1.out.trans f5 (fun i q => .inl q)))
      clear h5 f5
      go_wp2
      go_returns
      exact ⟨rfl, KEY.out⟩
    · obtain ⟨hp, fp⟩ := HP.out ((r.goal : Int) - 1) (by omega)
      have HD1 := Lib.hid (HD.out _ hp)
      have F1 := Lib.hid fp
      clear hp fp HD HP hg1 hg2 hg3
      refine HD1.out.mono ?_
      clear HD1
      rintro e w2 ⟨rfl, h5, f5⟩
      have KEY := Lib.hid (And.intro h5 (F1.out.trans f5 (fun i q => .inl q)))
      clear h5 f5
      go_wp2
      go_returns
      exact ⟨rfl, KEY.out⟩
  · have HE : Hid (∀ W, PC W b n A { r with goal := max (s.goal - 1) 1, e := upd r.e x { r.e x with test := false } } → PA n b A W (s.ends i (r.e x))) := fun W hW => ⟨_, hW, by unfold PrS.ends; rw [if_neg hf]; exact h4⟩
    have hm1 : ((r.e x).fr == -1) = false := by simp; omega
    rw [show decide ((r.e x).fr < 0) = false from by simpa using hf]
    clear h3 h4 h1 h2 hk hi hxm q1 q2 hx hf hgl hgo
    generalize max (s.goal - 1) 1 = gg at *
    go_enter Try.func76, Try.ntmps76
    go_wp2_with fail
    · obtain ⟨hp, fp⟩ := HP.out 1 (by omega)
      have KEY := Lib.hid (And.intro (HE.out _ hp) fp)
      clear hp fp HE HP hg1 hg2 hg3
      go_returns
      exact ⟨rfl, KEY.out⟩
    · obtain ⟨hp, fp⟩ := HP.out ((r.goal : Int) - 1) (by omega)
      have KEY := Lib.hid (And.intro (HE.out _ hp) fp)
      clear hp fp HE HP hg1 hg2 hg3
      go_returns
      exact ⟨rfl, KEY.out⟩
end
end Go.Proofs.Ytoainbdkhhblbaa

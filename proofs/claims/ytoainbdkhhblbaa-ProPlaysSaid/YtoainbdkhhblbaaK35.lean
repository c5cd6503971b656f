/-
  Pro's calls, said of the ring of entries: a touched one is laid at the end; a page goes; the first that may go.
-/
import Derived.Test.YtoainbdkhhblbaaK34
namespace Go.Proofs.Ytoainbdkhhblbaa
open Go.RowKit Go.Maps
set_option linter.unusedVariables false
set_option linter.unusedSimpArgs false

section
variable {w w' : World} {b n m : Nat} {A : AP} {r : Raw} {s : PrS} {i x f : Nat} {y : En}
theorem upd_upd {α : Type} (c : Nat → α) (i : Nat) (u v : α) : upd (upd c i u) i v = upd c i v := by
  funext j
  by_cases e : j = i
  · subst e; rw [upd_same, upd_same]
  · rw [upd_other _ _ e, upd_other _ _ e, upd_other _ _ e]
set_option maxRecDepth 100000 in
set_option maxHeartbeats 2000000 in
theorem pa_turn (h1 : PC w b n A r) (h2 : Rf n r s) (hk : PK n m s) (hx : r.ids[s.hd 1]? = some x) (hf : 0 ≤ (r.e x).fr) (hh : (r.e x).hot = false) (hn : n ≤ 30000) :
    Calls Try.prog 39 #[.pointer (some ⟨b, 0, none⟩), .int .i64 x] w fun e w' => e = .returned (.tuple #[]) ∧ PA n b A w' (s.turn n (s.hd 1) (r.e x)) ∧ Fr (FPr A b) w w' := by
  have hi := h2.get hx
  have hxm := List.mem_of_getElem? hx
  have hx2 := h1.lists.2.2.1 x hxm
  have hns := h1.lists.2.2.2.2 x hxm
  have hht := h2.hot_le
  obtain ⟨pk1, kp1⟩ := turn_pre hk hi hf
  have emv : (s.mv 1).drop (s.hd 1) = s.drop (s.hd 1) := mv_drop (get_lt hi)
  have c1 : w.cell? ⟨b, 1, none⟩ = some (.slice (some ⟨A.eb, 0, none⟩) (2 * n) (2 * n)) := h1.c 1 (by omega)
  have c8 : w.cell? ⟨b, 8, none⟩ = some (.int .i64 (r.hot : Nat)) := h1.c 8 (by omega)
  obtain ⟨_, x1, x2, x3, x4, _⟩ := h1.ce hx2
  have fe := fun i => h1.en.frozen i
  have fb8 := h1.hd.frozen 8
  have lb := h1.hd.lt
  have le := h1.en.lt
  obtain ⟨n1, _, _, _, _, _, _⟩ := h1.lb.ne
  have n1' : ¬ b = A.eb := fun e => n1 e.symm
  have g0 : (0 : Int) ≤ (x : Int) := by omega
  have g1 : (x : Int) < 2 * (n : Int) := by omega
  have g3 : (r.hot : Int) ≤ 70000 := by omega
  -- the three flags
  have hp3 : ∀ t : Bool, (r.e x).test = t → PC (((w.setCell ⟨A.eb, x * 6 + 3, none⟩ (.bool false)).setCell ⟨A.eb, x * 6 + 2, none⟩ (.bool t)).setCell ⟨A.eb, x * 6 + 4, none⟩ (.bool (!t))) b n A { r with e := upd r.e x (r.e x).turn } := by
    intro t et
    have a1 := h1.setEn (r' := { r with e := upd r.e x { r.e x with ref := false } }) (en_ref r.e r.v x false) rfl
    have a2 := a1.setEn (i := x * 6 + 2) (u := .bool t) (r' := { r with e := upd r.e x { r.e x with ref := false, hot := t } }) (by
      have := en_hot (upd r.e x { r.e x with ref := false }) r.v x t
      rw [upd_same, upd_upd] at this; exact this) rfl
    have a3 := a2.setEn (i := x * 6 + 4) (u := .bool (!t)) (r' := { r with e := upd r.e x { r.e x with ref := false, hot := t, test := !t } }) (by
      have := en_test (upd r.e x { r.e x with ref := false, hot := t }) r.v x (!t)
      rw [upd_same, upd_upd] at this; exact this) rfl
    have : (r.e x).turn = { r.e x with ref := false, hot := t, test := !t } := by unfold En.turn; rw [et]
    rw [this]; exact a3
  have hf3 : ∀ t : Bool, Fr (FPr A b) w (((w.setCell ⟨A.eb, x * 6 + 3, none⟩ (.bool false)).setCell ⟨A.eb, x * 6 + 2, none⟩ (.bool t)).setCell ⟨A.eb, x * 6 + 4, none⟩ (.bool (!t))) := fun t =>
    (((Fr.refl (FPr A b) w).setCell (p := ⟨A.eb, x * 6 + 3, none⟩) (.inl (.inr (.inl rfl))) _).setCell (p := ⟨A.eb, x * 6 + 2, none⟩) (.inl (.inr (.inl rfl))) _).setCell (p := ⟨A.eb, x * 6 + 4, none⟩) (.inl (.inr (.inl rfl))) _
  -- what follows
  have HREST : Hid (∀ (z : Nat) W, z + (if (r.e x).hot = true then 1 else 0) = r.hot + (if (r.e x).test = true then 1 else 0) → PC W b n A { r with e := upd r.e x (r.e x).turn, hot := z } → Fr (FPr A b) w W →
      Calls Try.prog 64 #[.pointer (some ⟨b, 0, none⟩), .int .i64 x] W fun e w' => e = .returned (.tuple #[]) ∧ PA n b A w' (((s.mv 1).drop (s.hd 1)).lay (r.e x).turn) ∧ Fr (FPr A b) w w') := fun z W hz hW fW => by
    have hl := h2.rl.put hx (r.e x).turn
    have hrl := RL.leave (r := { r with e := upd r.e x (r.e x).turn, hot := z }) (s := s.put (s.hd 1) (r.e x).turn) hl hx
    refine (ck_again hW hxm ?_).mono fun e w' ⟨b1, b2, b3⟩ => ⟨b1, ⟨_, b2, by rw [emv]; exact h2.turn hx hns hz⟩, fW.trans b3 (fun i q => .inl (q.elim .inl (fun q => .inr (.inr (.inr (.inr q))))))⟩
    rcases hrl.hd with q | q
    · exact .inl q
    · exact .inr (List.mem_of_getElem? (q 0 (by omega)))
  have HCOOL : Hid (∀ W, PA n b A W (((s.mv 1).drop (s.hd 1)).lay (r.e x).turn) → Calls Try.prog 36 #[.pointer (some ⟨b, 0, none⟩)] W fun e w' => e = .returned (.tuple #[]) ∧ PA n b A w' (s.turn n (s.hd 1) (r.e x)) ∧ Fr (FPr A b) W w') := fun W hW => pa_cool hW pk1 hn
  generalize ht : (r.e x).test = t at *
  cases t
  · have HZ := Lib.hid (HREST.out r.hot _ (by simp [hh]) (hp3 false rfl) (hf3 false))
    clear hp3 hf3 HREST h1 h2 hk hx hi hxm hns pk1 kp1 emv hf
    rw [hh] at x2
    clear hh ht
    go_enter Try.func39, Try.ntmps39
    go_wp2_with fail
    refine HZ.out.mono ?_
    clear HZ
    rintro e w2 ⟨rfl, h3, f3⟩
    have HC2 := Lib.hid (HCOOL.out _ h3)
    have F3 := Lib.hid f3
    clear h3 f3 HCOOL c1 c8 x1 x2 x3 x4 fe
    go_wp2_with fail
    refine HC2.out.mono ?_
    clear HC2
    rintro e w4 ⟨rfl, h4, f4⟩
    have KEY := Lib.hid (And.intro h4 (F3.out.trans f4 (fun i q => .inl q)))
    clear h4 f4
    go_wp2
    go_returns
    exact ⟨rfl, KEY.out⟩
  · have a4 := (hp3 true rfl).setHead (i := 8) (u := .int .i64 ((r.hot + 1 : Nat) : Int)) (r' := { r with e := upd r.e x (r.e x).turn, hot := r.hot + 1 }) (prH_hot _ _ _ _ _) rfl
    have f4 := (hf3 true).setCell (p := ⟨b, 8, none⟩) (.inl (.inl rfl)) (.int .i64 ((r.hot + 1 : Nat) : Int))
    have e8 : ((r.hot + 1 : Nat) : Int) = (r.hot : Int) + 1 := by omega
    rw [e8] at a4 f4
    have HZ := Lib.hid (HREST.out (r.hot + 1) _ (by simp [hh]) a4 f4)
    clear hp3 hf3 HREST h1 h2 hk hx hi hxm hns pk1 kp1 emv hf a4 f4 e8
    rw [hh] at x2
    clear hh ht
    go_enter Try.func39, Try.ntmps39
    go_wp2_with fail
    refine HZ.out.mono ?_
    clear HZ
    rintro e w2 ⟨rfl, h3, f3⟩
    have HC2 := Lib.hid (HCOOL.out _ h3)
    have F3 := Lib.hid f3
    clear h3 f3 HCOOL c1 c8 x1 x2 x3 x4 fe
    go_wp2_with fail
    refine HC2.out.mono ?_
    clear HC2
    rintro e w4 ⟨rfl, h4, f4⟩
    have KEY := Lib.hid (And.intro h4 (F3.out.trans f4 (fun i q => .inl q)))
    clear h4 f4
    go_wp2
    go_returns
    exact ⟨rfl, KEY.out⟩
set_option maxRecDepth 100000 in
set_option maxHeartbeats 2000000 in
theorem pr_remember (h : PC w b n A r) (hx2 : x < 2 * n) (hu : (r.e x).pg < 4294967296) (hno : r.mp ((r.e x).pg : Nat) = none) (hc : r.mc ≤ 200000) :
    Calls Try.prog 66 #[.pointer (some ⟨b, 0, none⟩), .int .i64 x] w fun e w' => e = .returned (.tuple #[]) ∧ PC w' b n A (r.told x) ∧ Fr (FPr A b) w w' := by
  have c1 : w.cell? ⟨b, 1, none⟩ = some (.slice (some ⟨A.eb, 0, none⟩) (2 * n) (2 * n)) := h.c 1 (by omega)
  have c6 : w.cell? ⟨b, 6, none⟩ = some (.map (some A.mb)) := h.c 6 (by omega)
  obtain ⟨x0, _, _, _, _, _⟩ := h.ce hx2
  have hwf := wfU hu
  have hlk := h.mp.look_ok_run MVg (x := ((r.e x).pg : Nat)) hwf
  have hmpn : mpF r.mp ((r.e x).pg : Nat) = none := by unfold mpF; rw [hno]; rfl
  rw [hmpn] at hlk
  simp only [Option.getD_none, Option.isSome_none] at hlk
  obtain ⟨w2, hrun, m1, f1⟩ := h.mp.put_run MVg (by omega) (x := ((r.e x).pg : Nat)) hwf (.int .i64 (x : Nat))
  rw [hmpn] at m1
  simp only [Option.isSome_none, Bool.false_eq_true, if_false] at m1
  rw [show some (Value.int .i64 (x : Nat)) = (some x).map fun (x : Nat) => Value.int .i64 (x : Nat) from rfl, mpF_upd] at m1
  have KEY : Hid (PC w2 b n A (r.told x) ∧ Fr (FPr A b) w w2) := ⟨h.setMp m1 f1, f1.mono (fun i q => .inr (.inr (.inr (.inl q))))⟩
  have g0 : (0 : Int) ≤ (x : Int) := by omega
  have g1 : (x : Int) < 2 * (n : Int) := by omega
  have lb := h.hd.lt
  have le := h.en.lt
  clear h hmpn m1 f1 hno hu
  go_enter Try.func66, Try.ntmps66
  go_wp2
  go_returns
  exact ⟨rfl, KEY.out⟩
end
end Go.Proofs.Ytoainbdkhhblbaa

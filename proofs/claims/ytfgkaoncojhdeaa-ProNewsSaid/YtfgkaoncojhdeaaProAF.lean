/-
  Pro: the law's own told.
-/
import Derived.Test.YtfgkaoncojhdeaaProAE
namespace Go.Proofs.Ytfgkaoncojhdeaa
open Go.RowKit Go.Maps
set_option linter.unusedVariables false
set_option linter.unusedSimpArgs false

theorem cool_id {n : Nat} {s : PrS} (h : s.hotN ≤ n - s.goal) : s.cool n = s := by
  unfold PrS.cool
  rw [coolO, if_pos h]; rfl
def PrS.setOn (s : PrS) (f : Nat) (u : Bool) : PrS := { s with on := upd s.on f u }
noncomputable def st1 : PrS := ((pr0 2).access 2 0 1).setOn 0 true
noncomputable def st2 : PrS := (st1.access 2 1 2).setOn 1 true
noncomputable def st3 : PrS := st2.access 2 0 1
def v3 : PrS := ⟨[⟨2, 1, false, false, true⟩, ⟨1, 0, false, true, true⟩], fun _ => 1, 1, upd (upd (upd (fun _ => 0) 0 1) 1 2) 0 1, upd (upd (fun _ => false) 0 true) 1 true⟩
theorem st1_eq : st1 = ⟨[⟨1, 0, false, false, true⟩], fun _ => 0, 1, upd (fun _ => 0) 0 1, upd (fun _ => false) 0 true⟩ := rfl
theorem st2_eq : st2 = ⟨[⟨2, 1, false, false, true⟩, ⟨1, 0, false, false, true⟩], fun _ => 1, 1, upd (upd (fun _ => 0) 0 1) 1 2, upd (upd (fun _ => false) 0 true) 1 true⟩ := by
  unfold st2
  rw [st1_eq]; rfl
theorem st3_eq : st3 = v3 := by
  unfold st3
  rw [st2_eq]; rfl
/-- Behind the turn. -/
def v4 : PrS := ⟨[⟨1, 0, true, false, false⟩, ⟨2, 1, false, false, true⟩], fun _ => 1, 1, v3.pg, v3.on⟩
def v5 : PrS := ⟨[⟨1, 0, true, false, false⟩, ⟨2, -1, false, false, true⟩], upd (fun _ => 1) 1 0, 1, upd v3.pg 1 0, upd v3.on 1 false⟩
theorem turn_eq : (((v3.mv 1).drop (v3.hd 1)).lay { (⟨1, 0, false, true, true⟩ : En) with ref := false, hot := true, test := !true }) = ⟨[⟨1, 0, true, false, false⟩, ⟨2, 1, false, false, true⟩], fun j => if (0 : Nat) ≤ (((v3.mv 1).drop (v3.hd 1)).hd j) then (((v3.mv 1).drop (v3.hd 1)).hd j) + 1 else (((v3.mv 1).drop (v3.hd 1)).hd j), 1, v3.pg, v3.on⟩ := rfl
theorem hd_all (j : Nat) : ((v3.mv 1).drop (v3.hd 1)).hd j = 0 := by
  show dropH 1 1 (upd (fun _ => 1) 1 0 j) = 0
  unfold dropH upd
  by_cases e : j = 1
  · simp [e]
  · simp [e]
theorem turn3 : v3.turn 2 (v3.hd 1) ⟨1, 0, false, true, true⟩ = v4 := by
  unfold PrS.turn
  have e1 : (((v3.mv 1).drop (v3.hd 1)).lay { (⟨1, 0, false, true, true⟩ : En) with ref := false, hot := true, test := !true }) = v4 := by
    rw [turn_eq]
    have : (fun j => if (0 : Nat) ≤ (((v3.mv 1).drop (v3.hd 1)).hd j) then (((v3.mv 1).drop (v3.hd 1)).hd j) + 1 else (((v3.mv 1).drop (v3.hd 1)).hd j)) = fun _ => 1 := by
      funext j; rw [hd_all]; rfl
    rw [this]; rfl
  show ((((v3.mv 1).drop (v3.hd 1)).lay { (⟨1, 0, false, true, true⟩ : En) with ref := false, hot := true, test := !true })).cool 2 = v4
  rw [e1]
  exact cool_id (by decide)
theorem send4 : v4.send 2 (v4.hd 1) ⟨2, 1, false, false, true⟩ = v5 := by
  unfold PrS.send
  rw [if_pos rfl]
  have e1 : ((v4.mv 1).empty (⟨2, 1, false, false, true⟩ : En).fr.toNat).put (v4.hd 1) { (⟨2, 1, false, false, true⟩ : En) with fr := -1 } = v5 := rfl
  rw [e1]
  exact tests_small (by decide)
theorem vic3 : v3.vic 2 = (v5, some 1) := by
  have h0 : v3.vic 2 = vicL 2 (11 + 1) v3 := rfl
  rw [h0, vic_step (y := ⟨1, 0, false, true, true⟩) rfl, if_neg (by decide), if_pos rfl, turn3, vic_step (k := 10) (y := ⟨2, 1, false, false, true⟩) rfl, if_neg (by decide), if_neg (by decide), send4]
  rfl
/-- A Pro of two frames that has been made since world w0. -/
def T8 (b : Nat) (w0 : World) (s : PrS) (w : World) : Prop := ∃ F, CRP b 2 w s F ∧ (∀ i, F i → w0.heap.size ≤ i) ∧ Fr NoF w0 w
theorem T8.step {b : Nat} {w0 w : World} {s s' : PrS} (h : T8 b w0 s w) {f : FuncId} {args : Array Value} {v : Value} (hc : ∀ F, CRP b 2 w s F → Calls Try.prog f args w fun e w' => e = .returned v ∧ CRP b 2 w' s' F ∧ Fr F w w') : Calls Try.prog f args w fun e w' => e = .returned v ∧ T8 b w0 s' w' := by
  obtain ⟨F, h1, h2, h3⟩ := h
  exact (hc F h1).mono fun e w' ⟨he, h', hf⟩ => ⟨he, F, h', h2, h3.trans hf (fun i q => .inr (h2 i q))⟩
theorem T8.fr0 {b : Nat} {w0 w w' : World} {s : PrS} (h : T8 b w0 s w) (f : Fr NoF w w') : T8 b w0 s w' := by
  obtain ⟨F, h1, h2, h3⟩ := h
  exact ⟨F, h1.fr f (fun _ _ q => q), h2, h3.trans f (fun _ q => q.elim)⟩
def TR8 (b : Nat) (w0 : World) (i : Value) (w : World) : Prop := (i = .int .i64 0 ∧ T8 b w0 (pr0 2) w) ∨ (i = .int .i64 1 ∧ T8 b w0 st1 w) ∨ (i = .int .i64 2 ∧ T8 b w0 st2 w)
set_option maxHeartbeats 4000000 in
theorem told8_calls (w : World) : Calls Try.prog 7 #[] w fun e w' => e = .returned (.bool true) ∧ Fr NoF w w' := by
  have N := Lib.hid (pr_new_yes 2 w (by omega) (by omega))
  go_enter Try.func7, Try.ntmps7
  go_wp2_with fail
  refine N.out.mono ?_
  clear N
  rintro e w1 ⟨b, F, rfl, hR1, hF, hf1⟩
  have HT : Hid (T8 b w (pr0 2) w1) := ⟨F, hR1, hF, hf1⟩
  clear hF hR1 hf1
  go_wp2
  go_loopw [3] (TR8 b w) (fun i _ => 2 - (intOf i).toNat)
  case atStart => exact .inl ⟨rfl, HT.out⟩
  case round =>
    clear HT
    rcases hrel with ⟨rfl, ht⟩ | ⟨rfl, ht⟩ | ⟨rfl, ht⟩
    · have H1 : Hid (Calls Try.prog 19 #[.pointer (some ⟨b, 0, none⟩), .int .i64 0, .int .u32 1] wr fun e w' => e = .returned (.tuple #[]) ∧ T8 b w ((pr0 2).access 2 0 1) w') :=
        ht.step (fun F h => cr_access (f := 0) (id := 1) h (by omega) (by omega) (by omega) (by omega) (.inr ⟨rfl, fun g _ q => by cases q⟩))
      clear ht
      go_wp2_with (go_at_call 18; refine (pr_miss _ _).mono ?_; rintro e w2 ⟨rfl, rfl⟩)
      refine H1.out.mono ?_
      clear H1
      rintro e w3 ⟨rfl, h3⟩
      have H1 : Hid (Calls Try.prog 20 #[.pointer (some ⟨b, 0, none⟩), .int .i64 0, .bool true] w3 fun e w' => e = .returned (.tuple #[]) ∧ T8 b w st1 w') :=
        h3.step (fun F h => cr_set (f := 0) h (by omega) (by omega) (by show ¬ (1 : Nat) = 0; omega) true)
      clear h3
      go_wp2_with fail
      refine H1.out.mono ?_
      clear H1
      rintro e w4 ⟨rfl, h4⟩
      have H4 := Lib.hid h4
      clear h4
      go_wp2
      go_roundw
      case rel => exact .inr (.inl ⟨rfl, H4.out⟩)
      case measure => simp [intOf]
    · have H1 : Hid (Calls Try.prog 19 #[.pointer (some ⟨b, 0, none⟩), .int .i64 1, .int .u32 2] wr fun e w' => e = .returned (.tuple #[]) ∧ T8 b w (st1.access 2 1 2) w') :=
        ht.step (fun F h => cr_access (f := 1) (id := 2) h (by omega) (by omega) (by omega) (by omega) (.inr ⟨rfl, fun g hg q => by
          rw [st1_eq] at q
          have q : upd (fun _ => 0) 0 1 g = 2 := q
          unfold upd at q
          by_cases c : g = 0
          · rw [if_pos c] at q; cases q
          · rw [if_neg c] at q; cases q⟩))
      clear ht
      go_wp2_with (go_at_call 18; refine (pr_miss _ _).mono ?_; rintro e w2 ⟨rfl, rfl⟩)
      refine H1.out.mono ?_
      clear H1
      rintro e w3 ⟨rfl, h3⟩
      have H1 : Hid (Calls Try.prog 20 #[.pointer (some ⟨b, 0, none⟩), .int .i64 1, .bool true] w3 fun e w' => e = .returned (.tuple #[]) ∧ T8 b w st2 w') :=
        h3.step (fun F h => cr_set (f := 1) h (by omega) (by omega) (by rw [st1_eq]; show ¬ (2 : Nat) = 0; omega) true)
      clear h3
      go_wp2_with fail
      refine H1.out.mono ?_
      clear H1
      rintro e w4 ⟨rfl, h4⟩
      have H4 := Lib.hid h4
      clear h4
      go_wp2
      go_roundw
      case rel => exact .inr (.inr ⟨rfl, H4.out⟩)
      case measure => simp [intOf]
    · have H1 : Hid (Calls Try.prog 19 #[.pointer (some ⟨b, 0, none⟩), .int .i64 0, .int .u32 1] wr fun e w' => e = .returned (.tuple #[]) ∧ T8 b w st3 w') :=
        ht.step (fun F h => cr_access (f := 0) (id := 1) h (by omega) (by omega) (by omega) (by omega) (.inl (by rw [st2_eq]; rfl)))
      clear ht
      go_wp2_with fail
      refine H1.out.mono ?_
      clear H1
      rintro e w3 ⟨rfl, h3⟩
      rw [st3_eq] at h3
      have H1 : Hid (Calls Try.prog 21 #[.pointer (some ⟨b, 0, none⟩), .int .u32 3] w3 fun e w' => e = .returned (.tuple #[.int .i64 1, .bool true]) ∧ T8 b w v5 w') := by
        refine h3.step (fun F h => ?_)
        have := cr_victim h (by omega) (by decide) 3
        rw [vic3] at this
        exact this
      clear h3
      go_wp2_with (go_at_call 18; refine (pr_miss _ _).mono ?_; rintro e w2 ⟨rfl, rfl⟩)
      refine H1.out.mono ?_
      clear H1
      rintro e w4 ⟨rfl, h4⟩
      have H4 := Lib.hid h4
      obtain ⟨F4, c4, _, _⟩ := h4
      have HG : Hid (Calls Try.prog 22 #[.pointer (some ⟨b, 0, none⟩)] w4 fun e w' => ∃ v, e = .returned v ∧ SlK .u32 w' v [2] ∧ Fr NoF w4 w') := by
        obtain ⟨A, hA, hk, _, _⟩ := c4
        exact pa_ghosts hA hk (by omega)
      clear c4
      go_wp2_with fail
      refine HG.out.mono ?_
      clear HG
      rintro e w5 ⟨gv, rfl, hs, f5⟩
      have H5 : Hid (T8 b w v5 w5) := H4.out.fr0 f5
      obtain ⟨gb, go, gc, rfl, q1, q2, gl, g0⟩ := hs.at (i := 0) (by simp)
      have g0 : w5.cell? ⟨gb, go, none⟩ = some (.int .u32 2) := g0
      have HS : Hid (Calls Try.prog 23 #[.pointer (some ⟨b, 0, none⟩)] w5 fun e w' => e = .returned (.int .i64 1) ∧ w5 = w') := by obtain ⟨F5, c5, _, _⟩ := H5.out; exact cr_size c5
      have HTG : Hid (Calls Try.prog 13 #[.pointer (some ⟨b, 0, none⟩)] w5 fun e w' => e = .returned (.int .i64 1) ∧ w5 = w') := by obtain ⟨F5, c5, _, _⟩ := H5.out; exact cr_target c5
      have HHT : Hid (Calls Try.prog 14 #[.pointer (some ⟨b, 0, none⟩)] w5 fun e w' => e = .returned (.int .i64 1) ∧ w5 = w') := by obtain ⟨F5, c5, _, _⟩ := H5.out; exact cr_hot c5
      have HFR : Hid (Fr NoF w w5) := by obtain ⟨_, _, _, f⟩ := H5.out; exact f
      clear hs f5 H4 H5
      go_wp2_with (first
        | (go_at_call 23; refine HS.out.mono ?_; rintro e w' ⟨rfl, rfl⟩)
        | (go_at_call 13; refine HTG.out.mono ?_; rintro e w' ⟨rfl, rfl⟩)
        | (go_at_call 14; refine HHT.out.mono ?_; rintro e w' ⟨rfl, rfl⟩))
      go_returns
      exact ⟨rfl, HFR.out⟩
end Go.Proofs.Ytfgkaoncojhdeaa

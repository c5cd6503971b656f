/-
  Pro's own small calls: isFrame, has, greatest, Size, Target, Hot, Miss, Set, empty.
-/
import Derived.Test.YtoainbdkhhblbaaK26
namespace Go.Proofs.Ytoainbdkhhblbaa
open Go.RowKit Go.Maps
set_option linter.unusedVariables false
set_option linter.unusedSimpArgs false

section
variable {w w' : World} {b n : Nat} {A : AP} {r : Raw}
theorem pr_isFrame (h : PC w b n A r) {f : Nat} (hf : f < n) : Calls Try.prog 33 #[.pointer (some ⟨b, 0, none⟩), .int .i64 f] w fun e w' => e = .returned (.bool true) ∧ w = w' := by
  have c5 : w.cell? ⟨b, 5, none⟩ = some (.slice (some ⟨A.fb, 0, none⟩) n n) := h.c 5 (by omega)
  have hd : decide ((f : Int) < (n : Int)) = true := by simp; omega
  have hd2 : decide (f < n) = true := by simp; omega
  clear h
  go_enter Try.func33, Try.ntmps33
  go_wp2
  go_returns
  exact ⟨rfl, rfl⟩
theorem pr_has (h : PC w b n A r) {f : Nat} (hf : f < n) (x : Nat) (hx : r.fm f = x) : Calls Try.prog 37 #[.pointer (some ⟨b, 0, none⟩), .int .i64 f] w fun e w' => e = .returned (.bool true) ∧ w = w' := by
  have c5 : w.cell? ⟨b, 5, none⟩ = some (.slice (some ⟨A.fb, 0, none⟩) n n) := h.c 5 (by omega)
  have cf := h.cf hf
  rw [hx] at cf
  have HI := Lib.hid (pr_isFrame h hf)
  have hne : ((x : Int) == -1) = false := by simp
  have h0 : (0 : Int) ≤ (f : Int) := by omega
  have h1 : (f : Int) < (n : Int) := by omega
  clear h hx
  go_enter Try.func37, Try.ntmps37
  go_wp2_with (go_at_call 33; refine HI.out.mono ?_; rintro e w' ⟨rfl, rfl⟩)
  go_returns
  exact ⟨rfl, rfl⟩
theorem pr_greatest (h : PC w b n A r) (h1 : 1 ≤ n) : Calls Try.prog 17 #[.pointer (some ⟨b, 0, none⟩)] w fun e w' => e = .returned (.int .i64 ((max (n - 1) 1 : Nat) : Int)) ∧ w = w' := by
  have c5 : w.cell? ⟨b, 5, none⟩ = some (.slice (some ⟨A.fb, 0, none⟩) n n) := h.c 5 (by omega)
  have hn := h.hn
  clear h
  go_enter Try.func17, Try.ntmps17
  go_wp2
  all_goals go_returns
  all_goals exact ⟨congrArg (fun z => Ending.returned (.int .i64 z)) (by omega), rfl⟩
theorem pr_size (h : PC w b n A r) : Calls Try.prog 23 #[.pointer (some ⟨b, 0, none⟩)] w fun e w' => e = .returned (.int .i64 (r.size : Nat)) ∧ w = w' := by
  have c9 : w.cell? ⟨b, 9, none⟩ = some (.int .i64 (r.size : Nat)) := h.c 9 (by omega)
  clear h
  go_enter Try.func23, Try.ntmps23
  go_wp2
  go_returns
  exact ⟨rfl, rfl⟩
theorem pr_target (h : PC w b n A r) : Calls Try.prog 13 #[.pointer (some ⟨b, 0, none⟩)] w fun e w' => e = .returned (.int .i64 (r.goal : Nat)) ∧ w = w' := by
  have c9 : w.cell? ⟨b, 7, none⟩ = some (.int .i64 (r.goal : Nat)) := h.c 7 (by omega)
  clear h
  go_enter Try.func13, Try.ntmps13
  go_wp2
  go_returns
  exact ⟨rfl, rfl⟩
theorem pr_hot (h : PC w b n A r) : Calls Try.prog 14 #[.pointer (some ⟨b, 0, none⟩)] w fun e w' => e = .returned (.int .i64 (r.hot : Nat)) ∧ w = w' := by
  have c9 : w.cell? ⟨b, 8, none⟩ = some (.int .i64 (r.hot : Nat)) := h.c 8 (by omega)
  clear h
  go_enter Try.func14, Try.ntmps14
  go_wp2
  go_returns
  exact ⟨rfl, rfl⟩
theorem pr_miss (a : Option Addr) (p : Int) : Calls Try.prog 18 #[.pointer a, .int .u32 p] w fun e w' => e = .returned (.tuple #[]) ∧ w = w' := by
  go_enter Try.func18, Try.ntmps18
  go_wp2
  go_returns
  exact ⟨rfl, rfl⟩
def Raw.setV (r : Raw) (x : Nat) (u : Bool) : Raw := if r.v x = u then r else { r with v := upd r.v x u, size := if u = true then r.size + 1 else r.size - 1 }
theorem PC.setV (h : PC w b n A r) {x z : Nat} (u : Bool) : PC ((w.setCell ⟨A.eb, x * 6 + 5, none⟩ (.bool u)).setCell ⟨b, 9, none⟩ (.int .i64 (z : Nat))) b n A { r with v := upd r.v x u, size := z } := by
  have h1 := h.setEn (r' := { r with v := upd r.v x u }) (en_v r.e r.v x u) rfl
  exact h1.setHead (r' := { r with v := upd r.v x u, size := z }) (prH_size _ _ _ _ _) rfl
set_option maxHeartbeats 1000000 in
theorem pr_set (h : PC w b n A r) {f : Nat} (hf : f < n) {x : Nat} (hx : r.fm f = x) (hx2 : x < 2 * n) (u : Bool) (hz : u = false → r.v x = true → 1 ≤ r.size) (hz2 : r.size ≤ 70000) :
    Calls Try.prog 20 #[.pointer (some ⟨b, 0, none⟩), .int .i64 f, .bool u] w fun e w' => e = .returned (.tuple #[]) ∧ PC w' b n A (r.setV x u) ∧ Fr (FPr A b) w w' := by
  have HH := Lib.hid (pr_has h hf x hx)
  have c1 : w.cell? ⟨b, 1, none⟩ = some (.slice (some ⟨A.eb, 0, none⟩) (2 * n) (2 * n)) := h.c 1 (by omega)
  have c5 : w.cell? ⟨b, 5, none⟩ = some (.slice (some ⟨A.fb, 0, none⟩) n n) := h.c 5 (by omega)
  have c9 : w.cell? ⟨b, 9, none⟩ = some (.int .i64 (r.size : Nat)) := h.c 9 (by omega)
  have cf := h.cf hf
  rw [hx] at cf
  obtain ⟨_, _, _, _, _, x5⟩ := h.ce hx2
  have fe := fun i => h.en.frozen i
  have fb9 := h.hd.frozen 9
  have lb := h.hd.lt
  have le := h.en.lt
  obtain ⟨n1, _, _, _, _, _, _⟩ := h.lb.ne
  have n1' : ¬ b = A.eb := fun e => n1 e.symm
  have h0 : (0 : Int) ≤ (f : Int) := by omega
  have h1 : (f : Int) < (n : Int) := by omega
  have g0 : (0 : Int) ≤ (x : Int) := by omega
  have g1 : (x : Int) < 2 * (n : Int) := by omega
  have H := Lib.hid h
  have HK : Hid (∀ d z : Nat, PC (((w.drewN d).setCell ⟨A.eb, x * 6 + 5, none⟩ (.bool u)).setCell ⟨b, 9, none⟩ (.int .i64 (z : Nat))) b n A { r with v := upd r.v x u, size := z } ∧ Fr (FPr A b) w (((w.drewN d).setCell ⟨A.eb, x * 6 + 5, none⟩ (.bool u)).setCell ⟨b, 9, none⟩ (.int .i64 (z : Nat)))) := fun d z =>
    ⟨(h.fr0 ((Fr.refl NoF w).drewN d)).setV u, (((Fr.refl (FPr A b) w).drewN d).setCell (p := ⟨A.eb, x * 6 + 5, none⟩) (.inl (.inr (.inl rfl))) _).setCell (p := ⟨b, 9, none⟩) (.inl (.inl rfl)) _⟩
  have HX := Lib.hid hx
  clear h hx
  unfold Raw.setV
  generalize hv : r.v x = v0 at *
  cases v0 <;> cases u
  · rw [if_pos rfl]
    have HV := Lib.hid hv
    clear hv
    go_enter Try.func20, Try.ntmps20
    go_wp2_with (go_at_call 37; refine HH.out.mono ?_; rintro e w' ⟨rfl, rfl⟩)
    go_quiet (fail)
    go_wp2
    go_returns
    exact ⟨rfl, H.out.fr0 (by repeat (first | exact Fr.refl NoF _ | apply Fr.drew | apply Fr.drewN)), by repeat (first | exact Fr.refl _ _ | apply Fr.drew | apply Fr.drewN)⟩
  · rw [if_neg (by simp), if_pos rfl]
    have HV := Lib.hid hv
    clear hv
    go_enter Try.func20, Try.ntmps20
    go_wp2_with (go_at_call 37; refine HH.out.mono ?_; rintro e w' ⟨rfl, rfl⟩)
    go_quiet (fail)
    go_wp2
    go_returns
    exact ⟨rfl, HK.out _ (r.size + 1)⟩
  · rw [if_neg (by simp), if_neg (by simp)]
    have hz1 : 1 ≤ r.size := hz rfl rfl
    have hz3 : 1 ≤ (r.size : Int) := by omega
    clear hz
    have HV := Lib.hid hv
    clear hv
    go_enter Try.func20, Try.ntmps20
    go_wp2_with (go_at_call 37; refine HH.out.mono ?_; rintro e w' ⟨rfl, rfl⟩)
    go_quiet (fail)
    go_wp2
    go_returns
    have e1 : ((r.size : Int) - 1) = ((r.size - 1 : Nat) : Int) := by omega
    rw [e1]
    exact ⟨rfl, HK.out _ (r.size - 1)⟩
  · rw [if_pos rfl]
    have HV := Lib.hid hv
    clear hv
    go_enter Try.func20, Try.ntmps20
    go_wp2_with (go_at_call 37; refine HH.out.mono ?_; rintro e w' ⟨rfl, rfl⟩)
    go_quiet (fail)
    go_wp2
    go_returns
    exact ⟨rfl, H.out.fr0 (by repeat (first | exact Fr.refl NoF _ | apply Fr.drew | apply Fr.drewN)), by repeat (first | exact Fr.refl _ _ | apply Fr.drew | apply Fr.drewN)⟩
end
end Go.Proofs.Ytoainbdkhhblbaa

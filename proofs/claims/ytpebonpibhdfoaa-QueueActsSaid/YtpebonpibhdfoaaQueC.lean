/-
  queue's things in memory: Swap.
-/
import Derived.Test.YtpebonpibhdfoaaQueB
namespace Go.Proofs.Ytpebonpibhdfoaa
open Go.RowKit Go.Maps
set_option linter.unusedVariables false

section
variable {w w' : World} {qb n : Nat} {a : Nat → Th} {lv : Value} {mo : Option Nat} {g : Int → Option Int} {F : Nat → Prop}
set_option maxRecDepth 100000 in
set_option maxHeartbeats 4000000 in
theorem q_swap (h : QC w qb a n lv mo g) {i j : Nat} (hi : i < n) (hj : j < n) : Calls Try.prog 71 #[.pointer (some ⟨qb, 0, none⟩), .int .i64 i, .int .i64 j] w fun e w' => e = .returned (.tuple #[]) ∧ HRq qb w' (swp a i j) n (FQ qb lv mo) ∧ Fr (FQ qb lv mo) w w' := by
  have hn := h.sm
  have c0 := h.c0
  have lb := h.hd.lt
  obtain ⟨gb, cap, rfl, h1, h2, h3, h4, i0, i1, i2⟩ := h.el hi
  obtain ⟨gb', cap', e, _, _, _, _, j0, j1, j2⟩ := h.el hj
  simp only [Value.slice.injEq, Option.some.injEq, Addr.mk.injEq] at e
  obtain ⟨⟨rfl, _⟩, _, rfl⟩ := e
  obtain ⟨k1, k2⟩ := h.n1 gb rfl
  obtain ⟨w1, hw1⟩ : ∃ w1, w1 = (((((w.setCell ⟨gb, i * 3, none⟩ (.int .i64 (a j).x)).setCell ⟨gb, i * 3 + 1, none⟩ (.int .i64 (a j).a)).setCell ⟨gb, i * 3 + 2, none⟩ (.int .i64 (a j).b)).setCell ⟨gb, j * 3, none⟩ (.int .i64 (a i).x)).setCell ⟨gb, j * 3 + 1, none⟩ (.int .i64 (a i).a)).setCell ⟨gb, j * 3 + 2, none⟩ (.int .i64 (a i).b) := ⟨_, rfl⟩
  obtain ⟨s1, fr, mb, hmo, hm1, c0', c1', okx, oky, K⟩ := h.swap hi hj hw1
  have k3 := h.n2 mb hmo
  have k2' : ¬ mb = gb := fun q => k2 (by rw [hmo, q])
  have HK := K
  have lw1 := fr.size
  have HS : Hid (∀ W, Fr (fun k => k = mb) w1 W → W.cell? ⟨qb, 0, none⟩ = some (.slice (some ⟨gb, 0, none⟩) n cap) ∧ W.cell? ⟨qb, 1, none⟩ = some (.map (some mb)) ∧ W.cell? ⟨gb, i * 3, none⟩ = some (.int .i64 (a j).x) ∧ W.cell? ⟨gb, j * 3, none⟩ = some (.int .i64 (a i).x)) := by
    intro W f
    obtain ⟨g2, cap2, e2, _, _, l2, _, ce⟩ := s1.at (by omega)
    simp only [Value.slice.injEq, Option.some.injEq, Addr.mk.injEq] at e2
    obtain ⟨⟨rfl, _⟩, _, rfl⟩ := e2
    refine ⟨?_, ?_, ?_, ?_⟩
    · rw [f.cell (p := ⟨qb, 0, none⟩) (by show qb < _; omega) (fun q => k3 q.symm)]; exact c0'
    · rw [f.cell (p := ⟨qb, 1, none⟩) (by show qb < _; omega) (fun q => k3 q.symm)]; exact c1'
    · rw [f.cell (p := ⟨gb, i * 3, none⟩) l2 (fun q => k2' q.symm), ce _ (by omega), thF_0]
      congr 2; unfold swp; rw [if_pos rfl]
    · rw [f.cell (p := ⟨gb, j * 3, none⟩) l2 (fun q => k2' q.symm), ce _ (by omega), thF_0]
      congr 2; unfold swp; split
      · rename_i q; rw [q]
      · rw [if_pos rfl]
  have wfi : (Lit.int .i64 (i : Int)).wf = true := WalkArith.wf_i64 ⟨by omega, by omega⟩
  have wfj : (Lit.int .i64 (j : Int)).wf = true := WalkArith.wf_i64 ⟨by omega, by omega⟩
  have HE : Hid (∀ W, Fr NoF w1 W → ∃ (v0 : Value) (st : Nat) (w2 w3 : World) (v1 : Value) (st' : Nat) (w4 w5 : World), (Instr.mapEntry 48 (.map (some mb)) (.int .i64 (a j).x)).run Try.prog W = .ok (.tuple #[v0, .int .i64 (st : Int)]) w2 ∧ (Instr.entryStore 48 (.map (some mb)) (.int .i64 (st : Int)) (.int .i64 (i : Int))).run Try.prog w2 = .ok () w3 ∧
      (Instr.mapEntry 48 (.map (some mb)) (.int .i64 (a i).x)).run Try.prog w3 = .ok (.tuple #[v1, .int .i64 (st' : Int)]) w4 ∧ (Instr.entryStore 48 (.map (some mb)) (.int .i64 (st' : Int)) (.int .i64 (j : Int))).run Try.prog w4 = .ok () w5 ∧
      Hid (Fr (fun k => k = mb) w1 w2 ∧ Fr (fun k => k = mb) w1 w3 ∧ Fr (fun k => k = mb) w1 w4 ∧ Fr (fun k => k = mb) w1 w5 ∧ MpN Try.prog 3 3 .i64 .i64 w5 mb n (updI (updI g (a j).x (some (i : Int))) (a i).x (some (j : Int))))) := by
    intro W f
    have fm : Fr (fun k => k = mb) w1 W := f.mono (fun _ q => q.elim)
    obtain ⟨v0, st, w2, w3, e1, e2, f2, m3, f3⟩ := (hm1.fr f (fun q => q)).entry MIq hn (x := (a j).x) (y := (i : Int)) oky wfi
    have hg1 : (g (a j).x).isSome = true := by rw [(h.pl (a j).x (j : Int)).2 ⟨j, rfl, hj, rfl⟩]; rfl
    rw [if_pos hg1] at m3
    obtain ⟨v1, st', w4, w5, e3, e4, f4, m5, f5⟩ := m3.entry MIq hn (x := (a i).x) (y := (j : Int)) okx wfj
    have hg2 : (updI g (a j).x (some (i : Int)) (a i).x).isSome = true := by
      by_cases q : (a i).x = (a j).x
      · rw [q, updI_same]; rfl
      · rw [updI_other _ _ q, (h.pl (a i).x (i : Int)).2 ⟨i, rfl, hi, rfl⟩]; rfl
    rw [if_pos hg2] at m5
    have g3 := fm.trans f3 (fun i q => .inl q)
    exact ⟨v0, st, w2, w3, v1, st', w4, w5, e1, e2, e3, e4, fm.trans f2 (fun i q => .inl q), g3, g3.trans f4 (fun i q => .inl q), g3.trans f5 (fun i q => .inl q), m5⟩
  have HW1 := Lib.hid hw1
  clear s1 fr hm1 c0' c1' okx oky K wfi wfj h k2 hw1
  by_cases hij : i = j
  · subst hij
    clear j0 j1 j2
    generalize (a i).x = ix at *
    generalize (a i).a = ia at *
    generalize (a i).b = ib at *
    go_enter Try.func71, Try.ntmps71
    go_wp2
    go_region
    go_wp2
    rw [← HW1.out]
    obtain ⟨v0, st, w2, w3, v1, st', w4, w5, e1, e2, e3, e4, HX⟩ := HE.out w1.drew.drew (((Fr.refl NoF w1).drew).drew)
    go_region_held3 (fun w' => w'.cell? ⟨qb, 0, none⟩ = some (.slice (some ⟨gb, 0, none⟩) n cap) ∧ w'.cell? ⟨qb, 1, none⟩ = some (.map (some mb)) ∧ w'.cell? ⟨gb, i * 3, none⟩ = some (.int .i64 ix) ∧ w'.cell? ⟨gb, i * 3, none⟩ = some (.int .i64 ix))
      (exact HS.out _ (by first | exact HX.out.1 | exact HX.out.2.1 | exact HX.out.2.2.1 | exact HX.out.2.2.2.1 | exact ((Fr.refl _ w1).drew).drew))
      (fail)
    go_wp2
    go_returns
    exact ⟨rfl, HK.out w5 HX.out.2.2.2.2 HX.out.2.2.2.1⟩
  · have hji : ¬ j = i := fun e => hij e.symm
    generalize (a i).x = ix at *
    generalize (a i).a = ia at *
    generalize (a i).b = ib at *
    generalize (a j).x = jx at *
    generalize (a j).a = ja at *
    generalize (a j).b = jb at *
    go_enter Try.func71, Try.ntmps71
    go_wp2
    go_region
    go_wp2
    rw [← HW1.out]
    obtain ⟨v0, st, w2, w3, v1, st', w4, w5, e1, e2, e3, e4, HX⟩ := HE.out w1.drew.drew (((Fr.refl NoF w1).drew).drew)
    go_region_held3 (fun w' => w'.cell? ⟨qb, 0, none⟩ = some (.slice (some ⟨gb, 0, none⟩) n cap) ∧ w'.cell? ⟨qb, 1, none⟩ = some (.map (some mb)) ∧ w'.cell? ⟨gb, i * 3, none⟩ = some (.int .i64 jx) ∧ w'.cell? ⟨gb, j * 3, none⟩ = some (.int .i64 ix))
      (exact HS.out _ (by first | exact HX.out.1 | exact HX.out.2.1 | exact HX.out.2.2.1 | exact HX.out.2.2.2.1 | exact ((Fr.refl _ w1).drew).drew))
      (fail)
    go_wp2
    go_returns
    exact ⟨rfl, HK.out w5 HX.out.2.2.2.2 HX.out.2.2.2.1⟩
end
end Go.Proofs.Ytpebonpibhdfoaa

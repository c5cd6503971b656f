/-
  Pro's calls, said of the ring of entries: the hot hand works.
-/
import Derived.Test.YtoainbdkhhblbaaK32
namespace Go.Proofs.Ytoainbdkhhblbaa
open Go.RowKit Go.Maps
set_option linter.unusedVariables false
set_option linter.unusedSimpArgs false

section
variable {w w' : World} {b n m : Nat} {A : AP} {r : Raw} {s : PrS} {i x f : Nat} {y : En}
theorem work_step {g : Nat} {st fin : PrS} (h : workO g st = some fin) (h0 : ¬ st.hotN = 0) (hy : st.L[st.hd 0]? = some y) : ∃ g', g = g' + 1 ∧ ((hotStep st y).2 = true → fin = (hotStep st y).1) ∧ ((hotStep st y).2 = false → workO g' (hotStep st y).1 = some fin) := by
  cases g with
  | zero => cases h
  | succ g =>
    unfold workO at h
    rw [if_neg h0, hy] at h
    simp only at h
    refine ⟨g, rfl, fun e => ?_, fun e => ?_⟩
    · rw [if_pos e] at h; simpa using h.symm
    · rw [if_neg (by simp [e])] at h; exact h
theorem work_stop {g : Nat} {st fin : PrS} (h : workO g st = some fin) (h0 : st.hotN = 0) : fin = st := by
  cases g with
  | zero => cases h
  | succ g => unfold workO at h; rw [if_pos h0] at h; simpa using h.symm
set_option maxRecDepth 100000 in
set_option maxHeartbeats 4000000 in
theorem pa_workHot (h : PA n b A w s) (hk : PK n m s) (h0 : ¬ s.hotN = 0) (hn : n ≤ 30000) : Calls Try.prog 62 #[.pointer (some ⟨b, 0, none⟩)] w fun e w' => e = .returned (.tuple #[]) ∧ PA n b A w' s.work ∧ Fr (FPr A b) w w' := by
  obtain ⟨k0, hk0⟩ := work_some hk h0
  have H := Lib.hid h
  have HK := Lib.hid hk
  have HK0 := Lib.hid hk0
  clear h hk h0 hk0
  generalize s.work = fin at *
  go_enter Try.func62, Try.ntmps62
  go_wp2_with fail
  go_loopg [] k0 (fun g wr => ∃ st, PA n b A wr st ∧ PK n m st ∧ workO g st = some fin ∧ Fr (FPr A b) w wr)
  case atStart => exact ⟨s, H.out, HK.out, HK0.out, Fr.refl _ _⟩
  case round =>
    obtain ⟨st, h1, hk1, ho, f1⟩ := hrel
    obtain ⟨r, hc, hr⟩ := h1
    clear H HK HK0
    have c8 : wr.cell? ⟨b, 8, none⟩ = some (.int .i64 (r.hot : Nat)) := hc.c 8 (by omega)
    have hht := hr.hot_le
    have F1 := Lib.hid f1
    by_cases hz : st.hotN = 0
    · have hfin := work_stop ho hz
      have hrz : r.hot = 0 := by rw [hr.hot]; exact hz
      rw [hrz] at c8
      have KEY : Hid (PA n b A wr fin ∧ Fr (FPr A b) w wr) := ⟨by rw [hfin]; exact ⟨r, hc, hr⟩, f1⟩
      clear hz hfin hrz hc hr hk1 ho f1 F1
      go_wp2
      go_returns
      exact ⟨rfl, KEY.out⟩
    · obtain ⟨y, hy⟩ := hk1.at (hot_pos hz) (j := 0) (by omega)
      obtain ⟨hxm, hx, ex⟩ := hr.rl.at (j := 0) (by omega) hy
      obtain ⟨g', eg, st1, st2⟩ := work_step ho hz hy
      have hgk := Lib.hid eg
      obtain ⟨q1, q2, q3, q4⟩ := hk1.el y (mem_get hy)
      obtain ⟨pk2, kp2, _⟩ := hotStep_kept hk1 hy
      have hlen : 0 < st.L.length := hot_pos hz
      have hrp : (0 : Int) < (r.hot : Int) := by have := hr.hot; omega
      have hr1 : 1 ≤ r.hot := by omega
      have c1 : wr.cell? ⟨b, 1, none⟩ = some (.slice (some ⟨A.eb, 0, none⟩) (2 * n) (2 * n)) := hc.c 1 (by omega)
      have c2 : wr.cell? ⟨b, 2, none⟩ = some (.int .i64 (r.h 0 : Nat)) := hc.hand (j := 0) (by omega)
      have hx2 := hc.lists.2.2.1 _ hxm
      obtain ⟨_, x1, x2, x3, x4, _⟩ := hc.ce hx2
      rw [ex] at x1 x2 x3 x4
      have fe := fun i => hc.en.frozen i
      have fb8 := hc.hd.frozen 8
      have lb := hc.hd.lt
      have le := hc.en.lt
      obtain ⟨n1, _, _, _, _, _, _⟩ := hc.lb.ne
      have n1' : ¬ b = A.eb := fun e => n1 e.symm
      have g0 : (0 : Int) ≤ (r.h 0 : Int) := by omega
      have g1 : (r.h 0 : Int) < 2 * (n : Int) := by omega
      have HC := Lib.hid hc
      have HR := Lib.hid hr
      have HXX := Lib.hid hx
      have HEX := Lib.hid ex
      have HY := Lib.hid hy
      have HPK1 := Lib.hid hk1
      clear hc hr hx ex hk1 ho f1 hz eg hxm
      unfold hotStep at st1 st2 pk2
      by_cases hh : y.hot = true
      · rw [if_pos hh] at st1 st2 pk2
        rw [hh] at x2
        by_cases hrf : y.ref = true
        · rw [if_pos hrf] at st2 pk2
          rw [hrf] at x3
          have S2 := Lib.hid (st2 rfl)
          have PK2 := Lib.hid pk2
          have HP : Hid (PA n b A (wr.setCell ⟨A.eb, r.h 0 * 6 + 3, none⟩ (.bool false)) (st.put (st.hd 0) { y with ref := false }) ∧ Fr (FPr A b) w (wr.setCell ⟨A.eb, r.h 0 * 6 + 3, none⟩ (.bool false))) := by
            refine ⟨⟨{ r with e := upd r.e (r.h 0) { r.e (r.h 0) with ref := false } }, HC.out.setEn (r' := { r with e := upd r.e (r.h 0) { r.e (r.h 0) with ref := false } }) (en_ref r.e r.v _ false) rfl, ?_⟩, F1.out.setCell (p := ⟨A.eb, r.h 0 * 6 + 3, none⟩) (.inl (.inr (.inl rfl))) _⟩
            have := HR.out.put (y := { r.e (r.h 0) with ref := false }) (z := r.hot) HXX.out rfl rfl rfl
            rw [HEX.out] at this ⊢
            exact this
          have HM := Lib.hid (pa_move (j := 0) HP.out.1 (by show 0 < (st.L.set _ _).length; rw [List.length_set]; exact hlen) (by omega))
          clear st1 st2 pk2 hh hrf q3 q4 HC HR HXX HEX HY HPK1 kp2
          go_wp2_with fail
          refine HM.out.mono ?_
          clear HM
          rintro e w2 ⟨rfl, h2, f2⟩
          have H2 := Lib.hid h2
          have F2 := Lib.hid (HP.out.2.trans f2 (fun i q => .inl q))
          clear h2 f2 HP
          go_wp2
          go_roundg g'
          case measure => have := hgk.out; omega
          case rel => exact ⟨_, H2.out, PK2.out, S2.out, F2.out⟩
        · have hrf : y.ref = false := by simpa using hrf
          rw [if_neg (by simp [hrf])] at st1
          rw [hrf] at x3
          have S1 := Lib.hid (st1 rfl)
          have HP : Hid (PA n b A ((wr.setCell ⟨A.eb, r.h 0 * 6 + 2, none⟩ (.bool false)).setCell ⟨b, 8, none⟩ (.int .i64 ((r.hot : Int) - 1))) (st.put (st.hd 0) { y with hot := false }) ∧ Fr (FPr A b) w ((wr.setCell ⟨A.eb, r.h 0 * 6 + 2, none⟩ (.bool false)).setCell ⟨b, 8, none⟩ (.int .i64 ((r.hot : Int) - 1)))) := by
            have e8 : (r.hot : Int) - 1 = ((r.hot - 1 : Nat) : Int) := by omega
            rw [e8]
            have a1 := HC.out.setEn (r' := { r with e := upd r.e (r.h 0) { r.e (r.h 0) with hot := false } }) (en_hot r.e r.v _ false) rfl
            have a2 := a1.setHead (r' := { r with e := upd r.e (r.h 0) { r.e (r.h 0) with hot := false }, hot := r.hot - 1 }) (prH_hot _ _ _ _ _) rfl
            refine ⟨⟨_, a2, ?_⟩, (F1.out.setCell (p := ⟨A.eb, r.h 0 * 6 + 2, none⟩) (.inl (.inr (.inl rfl))) _).setCell (p := ⟨b, 8, none⟩) (.inl (.inl rfl)) _⟩
            have := HR.out.put (y := { r.e (r.h 0) with hot := false }) (z := r.hot - 1) HXX.out rfl rfl (by rw [HEX.out, hh]; simp; omega)
            rw [HEX.out] at this ⊢
            exact this
          have HM := Lib.hid (pa_move (j := 0) HP.out.1 (by show 0 < (st.L.set _ _).length; rw [List.length_set]; exact hlen) (by omega))
          clear st1 st2 pk2 hh hrf q3 q4 HC HR HXX HEX HY HPK1 kp2
          go_wp2_with fail
          refine HM.out.mono ?_
          clear HM
          rintro e w2 ⟨rfl, h2, f2⟩
          have KEY : Hid (PA n b A w2 fin ∧ Fr (FPr A b) w w2) := ⟨by rw [S1.out]; exact h2, HP.out.2.trans f2 (fun i q => .inl q)⟩
          clear h2 f2 HP
          go_wp2
          go_returns
          exact ⟨rfl, KEY.out⟩
      · have hh : y.hot = false := by simpa using hh
        rw [if_neg (by simp [hh])] at st1 st2 pk2
        rw [hh] at x2
        by_cases ht : y.test = true
        · rw [if_pos ht] at st2 pk2
          rw [ht] at x4
          have HF0 := pa_fail HC.out HR.out HPK1.out HXX.out hn
          rw [HEX.out] at HF0
          by_cases hg : y.fr < 0
          · rw [if_pos hg] at st2 pk2
            rw [show decide (y.fr < 0) = true from by simpa using hg] at HF0
            have HF := Lib.hid HF0
            have S2 := Lib.hid (st2 rfl)
            have PK2 := Lib.hid pk2
            clear HF0 st1 st2 pk2 hh ht hg q3 q4 HC HR HXX HEX HY HPK1 kp2 q1
            go_wp2_with fail
            refine HF.out.mono ?_
            clear HF
            rintro e w2 ⟨rfl, h2, f2⟩
            have H2 := Lib.hid h2
            have F2 := Lib.hid (F1.out.trans f2 (fun i q => .inl q))
            clear h2 f2
            go_wp2
            go_roundg g'
            case measure => have := hgk.out; omega
            case rel => exact ⟨_, H2.out, PK2.out, S2.out, F2.out⟩
          · rw [if_neg hg] at st2 pk2
            rw [show decide (y.fr < 0) = false from by simpa using hg] at HF0
            have HF := Lib.hid HF0
            have S2 := Lib.hid (st2 rfl)
            have PK2 := Lib.hid pk2
            have hl2 : 0 < (st.ends (st.hd 0) y).L.length := by unfold PrS.ends; rw [if_neg hg]; show 0 < (st.L.set _ _).length; rw [List.length_set]; exact hlen
            clear HF0 st1 st2 pk2 hh ht hg q3 q4 HC HR HXX HEX HY HPK1 kp2 q1
            go_wp2_with fail
            refine HF.out.mono ?_
            clear HF
            rintro e w2 ⟨rfl, h2, f2⟩
            have HM := Lib.hid (pa_move (j := 0) h2 hl2 (by omega))
            have F2 := Lib.hid (F1.out.trans f2 (fun i q => .inl q))
            clear h2 f2
            go_wp2_with fail
            refine HM.out.mono ?_
            clear HM
            rintro e w3 ⟨rfl, h3, f3⟩
            have H3 := Lib.hid h3
            have F3 := Lib.hid (F2.out.trans f3 (fun i q => .inl q))
            clear h3 f3
            go_wp2
            go_roundg g'
            case measure => have := hgk.out; omega
            case rel => exact ⟨_, H3.out, PK2.out, S2.out, F3.out⟩
        · have ht : y.test = false := by simpa using ht
          rw [if_neg (by simp [ht])] at st2 pk2
          rw [ht] at x4
          have S2 := Lib.hid (st2 rfl)
          have PK2 := Lib.hid pk2
          have HM := Lib.hid (pa_move (j := 0) (⟨r, HC.out, HR.out⟩ : PA n b A wr st) hlen (by omega))
          clear st1 st2 pk2 hh ht q3 q4 HC HR HXX HEX HY HPK1 kp2 q1
          go_wp2_with fail
          refine HM.out.mono ?_
          clear HM
          rintro e w3 ⟨rfl, h3, f3⟩
          have H3 := Lib.hid h3
          have F3 := Lib.hid (F1.out.trans f3 (fun i q => .inl q))
          clear h3 f3
          go_wp2
          go_roundg g'
          case measure => have := hgk.out; omega
          case rel => exact ⟨_, H3.out, PK2.out, S2.out, F3.out⟩
end
end Go.Proofs.Ytoainbdkhhblbaa

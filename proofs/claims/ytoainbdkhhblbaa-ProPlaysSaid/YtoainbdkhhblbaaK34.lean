/-
  Pro's calls, said of the ring of entries: the hot hand works as long as too many are hot; the test hand works.
-/
import Derived.Test.YtoainbdkhhblbaaK33
namespace Go.Proofs.Ytoainbdkhhblbaa
open Go.RowKit Go.Maps
set_option linter.unusedVariables false
set_option linter.unusedSimpArgs false

section
variable {w w' : World} {b n m : Nat} {A : AP} {r : Raw} {s : PrS} {i x f : Nat} {y : En}
theorem wrap_small {z : Int} (h1 : -1000000 ≤ z) (h2 : z ≤ 1000000) : IntKind.i64.wrap z = z := IntWalk.i64_in _ ⟨by omega, by omega⟩
set_option maxRecDepth 100000 in
set_option maxHeartbeats 4000000 in
theorem pa_cool (h : PA n b A w s) (hk : PK n m s) (hn : n ≤ 30000) : Calls Try.prog 36 #[.pointer (some ⟨b, 0, none⟩)] w fun e w' => e = .returned (.tuple #[]) ∧ PA n b A w' (s.cool n) ∧ Fr (FPr A b) w w' := by
  have hk0 := (cool_ok (n := n) hk).1
  have H := Lib.hid h
  have HK := Lib.hid hk
  have HK0 := Lib.hid hk0
  clear h hk hk0
  generalize s.cool n = fin at *
  generalize s.hotN + 1 = k0 at *
  go_enter Try.func36, Try.ntmps36
  go_wp2_with fail
  go_loopg [] k0 (fun g wr => ∃ st, PA n b A wr st ∧ PK n m st ∧ coolO n g st = some fin ∧ Fr (FPr A b) w wr)
  case atStart => exact ⟨s, H.out, HK.out, HK0.out, Fr.refl _ _⟩
  case round =>
    obtain ⟨st, h1, hk1, ho, f1⟩ := hrel
    obtain ⟨r, hc, hr⟩ := h1
    clear H HK HK0
    have c8 : wr.cell? ⟨b, 8, none⟩ = some (.int .i64 (r.hot : Nat)) := hc.c 8 (by omega)
    have c7 : wr.cell? ⟨b, 7, none⟩ = some (.int .i64 (r.goal : Nat)) := hc.c 7 (by omega)
    have c5 : wr.cell? ⟨b, 5, none⟩ = some (.slice (some ⟨A.fb, 0, none⟩) n n) := hc.c 5 (by omega)
    have lb := hc.hd.lt
    have hht := hr.hot_le
    have hgl := hk1.gl
    have hgo := hr.goal
    have h1n := hk1.n1
    have F1 := Lib.hid f1
    have hw := wrap_small (z := (n : Int) - (r.goal : Int)) (by omega) (by omega)
    by_cases hz : st.hotN ≤ n - st.goal
    · have hfin : fin = st := by
        cases gk with
        | zero => cases ho
        | succ g => unfold coolO at ho; rw [if_pos hz] at ho; simpa using ho.symm
      have hlt : (r.hot : Int) ≤ (n : Int) - (r.goal : Int) := by have := hr.hot; omega
      have KEY : Hid (PA n b A wr fin ∧ Fr (FPr A b) w wr) := ⟨by rw [hfin]; exact ⟨r, hc, hr⟩, f1⟩
      clear hz hfin hc hr hk1 ho f1 F1 hgl hgo h1n
      go_wp2_with fail
      go_quiet (fail)
      go_wp2
      go_returns
      exact ⟨rfl, KEY.out.1.fr0 (by repeat (first | exact Fr.refl NoF _ | apply Fr.drew | apply Fr.drewN)), KEY.out.2.trans (G := NoF) (by repeat (first | exact Fr.refl NoF _ | apply Fr.drew | apply Fr.drewN)) (fun _ q => q.elim)⟩
    · obtain ⟨g', eg, st2⟩ : ∃ g', gk = g' + 1 ∧ coolO n g' st.work = some fin := by
        cases gk with
        | zero => cases ho
        | succ g => unfold coolO at ho; rw [if_neg hz] at ho; exact ⟨g, rfl, ho⟩
      have hgk := Lib.hid eg
      have S2 := Lib.hid st2
      have hlt : (n : Int) - (r.goal : Int) < (r.hot : Int) := by have := hr.hot; omega
      have hne : ¬ st.hotN = 0 := by omega
      obtain ⟨j, hj⟩ := work_some hk1 hne
      have PK2 := Lib.hid (workO_kept hk1 hj).1
      have HW : Hid (∀ W, Fr NoF wr W → Calls Try.prog 62 #[.pointer (some ⟨b, 0, none⟩)] W fun e w' => e = .returned (.tuple #[]) ∧ PA n b A w' st.work ∧ Fr (FPr A b) W w') := fun W g => pa_workHot (⟨r, hc.fr0 g, hr⟩ : PA n b A W st) hk1 hne hn
      clear hz hc hr hk1 ho f1 eg st2 hne hj hgl hgo h1n
      go_wp2_with fail
      go_quiet (fail)
      go_wp2_with fail
      refine (HW.out _ (by repeat (first | exact Fr.refl NoF _ | apply Fr.drew | apply Fr.drewN))).mono ?_
      clear HW
      rintro e w3 ⟨rfl, h3, f3⟩
      have H3 := Lib.hid h3
      have F3 : Hid (Fr (FPr A b) w w3) := (F1.out.trans (G := NoF) (by repeat (first | exact Fr.refl NoF _ | apply Fr.drew | apply Fr.drewN)) (fun _ q => q.elim)).trans f3 (fun i q => .inl q)
      clear h3 f3
      go_wp2
      go_roundg g'
      case measure => have := hgk.out; omega
      case rel => exact ⟨_, H3.out, PK2.out, S2.out, F3.out⟩
theorem MpV.len_run {k : TypeId} {e t : TypeId} {kq : IntKind} {z0 : Value} {c : Nat} {mf : Int → Option Value} {mb : Nat} (M : MV Try.prog t k e kq z0) (h : MpV Try.prog k kq z0 w mb c mf) (ty : TypeId) : (Builtin.len_ #[t] ty #[.map (some mb)]).run Try.prog w = .ok (.int .i64 c) w := by
  obtain ⟨D, h1, h2, h3⟩ := h
  rw [h1.len M.ut ty, h2]
theorem test_step {g : Nat} {st fin : PrS} (h : testO n g st = some fin) (h0 : n < st.gone) (hy : st.L[st.hd 2]? = some y) : ∃ g', g = g' + 1 ∧ testO n g' (testStep st y) = some fin := by
  cases g with
  | zero => cases h
  | succ g =>
    unfold testO at h
    rw [if_neg (by omega), hy] at h
    exact ⟨g, rfl, h⟩
theorem test_stop {g : Nat} {st fin : PrS} (h : testO n g st = some fin) (h0 : st.gone ≤ n) : fin = st := by
  cases g with
  | zero => cases h
  | succ g => unfold testO at h; rw [if_pos h0] at h; simpa using h.symm
set_option maxRecDepth 100000 in
set_option maxHeartbeats 4000000 in
theorem pa_workTest (h : PA n b A w s) (hk : PK n (n + 1) s) (h0 : n < s.gone) (hn : n ≤ 30000) : Calls Try.prog 67 #[.pointer (some ⟨b, 0, none⟩)] w fun e w' => e = .returned (.tuple #[]) ∧ PA n b A w' (s.tests n) ∧ Fr (FPr A b) w w' := by
  obtain ⟨⟨k0, hk0⟩, _, _⟩ := tests_ok hk
  have H := Lib.hid h
  have HK := Lib.hid hk
  have HK0 := Lib.hid hk0
  have HG0 := Lib.hid h0
  clear h hk h0 hk0
  generalize s.tests n = fin at *
  go_enter Try.func67, Try.ntmps67
  go_wp2_with fail
  go_loopg [] k0 (fun g wr => ∃ st, PA n b A wr st ∧ PK n (n + 1) st ∧ n < st.gone ∧ testO n g st = some fin ∧ Fr (FPr A b) w wr)
  case atStart => exact ⟨s, H.out, HK.out, HG0.out, HK0.out, Fr.refl _ _⟩
  case round =>
    obtain ⟨st, h1, hk1, hgn, ho, f1⟩ := hrel
    obtain ⟨r, hc, hr⟩ := h1
    clear H HK HK0 HG0
    have F1 := Lib.hid f1
    obtain ⟨y, hy⟩ := hk1.at (gone_pos (by omega)) (j := 2) (by omega)
    have hlen : 0 < st.L.length := gone_pos (by omega)
    obtain ⟨hxm, hx, ex⟩ := hr.rl.at (j := 2) (by omega) hy
    obtain ⟨g', eg, st2⟩ := test_step ho hgn hy
    have hgk := Lib.hid eg
    obtain ⟨q1, q2, q3, q4⟩ := hk1.el y (mem_get hy)
    obtain ⟨pk2, kp2⟩ := testStep_kept hk1 hy
    have c6 : wr.cell? ⟨b, 6, none⟩ = some (.map (some A.mb)) := hc.c 6 (by omega)
    have c1 : wr.cell? ⟨b, 1, none⟩ = some (.slice (some ⟨A.eb, 0, none⟩) (2 * n) (2 * n)) := hc.c 1 (by omega)
    have c4 : wr.cell? ⟨b, 4, none⟩ = some (.int .i64 (r.h 2 : Nat)) := hc.hand (j := 2) (by omega)
    have hlr := MpV.len_run MVg hc.mp 3
    have hmp : (0 : Int) < (r.mc : Int) := by have := hr.mc; omega
    have hx2 := hc.lists.2.2.1 _ hxm
    obtain ⟨_, x1, x2, x3, x4, _⟩ := hc.ce hx2
    rw [ex] at x1 x2 x3 x4
    have lb := hc.hd.lt
    have le := hc.en.lt
    have g0 : (0 : Int) ≤ (r.h 2 : Int) := by omega
    have g1 : (r.h 2 : Int) < 2 * (n : Int) := by omega
    have HC := Lib.hid hc
    have HR := Lib.hid hr
    have HXX := Lib.hid hx
    have HEX := Lib.hid ex
    have HPK1 := Lib.hid hk1
    have HGN := Lib.hid hgn
    have HYY := Lib.hid hy
    clear hc hr hx ex hk1 ho f1 eg hxm hgn hy
    unfold testStep at st2 pk2
    by_cases ht : y.test = true
    · rw [if_pos ht] at st2 pk2
      rw [ht] at x4
      have HF0 := pa_fail HC.out HR.out HPK1.out HXX.out hn
      rw [HEX.out] at HF0
      by_cases hg : y.fr < 0
      · rw [if_pos hg] at st2 pk2
        rw [show decide (y.fr < 0) = true from by simpa using hg] at HF0
        have HF := Lib.hid HF0
        have hgone : (st.ends (st.hd 2) y).gone ≤ n := by
          have e1 : st.ends (st.hd 2) y = st.less.drop (st.hd 2) := by unfold PrS.ends; rw [if_pos hg]
          have e2 := drop_gone (s := st.less) (i := st.hd 2) (x := y) HYY.out
          rw [if_pos hg] at e2
          have e3 : st.less.gone = st.gone := rfl
          have := HPK1.out.ng
          rw [e1]; omega
        have S2 := Lib.hid (test_stop st2 hgone)
        clear HF0 st2 pk2 ht hg q3 q4 HC HR HXX HEX HPK1 kp2 q1 HGN HYY hgone
        go_wp2_with fail
        refine HF.out.mono ?_
        clear HF
        rintro e w2 ⟨rfl, h2, f2⟩
        have KEY : Hid (PA n b A w2 fin ∧ Fr (FPr A b) w w2) := ⟨by rw [S2.out]; exact h2, F1.out.trans f2 (fun i q => .inl q)⟩
        clear h2 f2 hlr
        go_wp2
        go_returns
        exact ⟨rfl, KEY.out⟩
      · rw [if_neg hg] at st2 pk2
        rw [show decide (y.fr < 0) = false from by simpa using hg] at HF0
        have HF := Lib.hid HF0
        have S2 := Lib.hid st2
        have PK2 := Lib.hid pk2
        have hl2 : 0 < (st.ends (st.hd 2) y).L.length := by unfold PrS.ends; rw [if_neg hg]; show 0 < (st.L.set _ _).length; rw [List.length_set]; exact hlen
        have GN2 : Hid (n < ((st.ends (st.hd 2) y).mv 2).gone) := by
          have e1 : st.ends (st.hd 2) y = st.less.put (st.hd 2) { y with test := false } := by unfold PrS.ends; rw [if_neg hg]
          have e2 := put_gone (s := st.less) (i := st.hd 2) (x := y) (y := { y with test := false }) HYY.out rfl
          have e3 : st.less.gone = st.gone := rfl
          have e4 : ((st.ends (st.hd 2) y).mv 2).gone = (st.ends (st.hd 2) y).gone := rfl
          have := HGN.out
          unfold Hid
          rw [e4, e1]; omega
        clear HF0 st2 pk2 ht hg q3 q4 HC HR HXX HEX HPK1 kp2 q1 HGN HYY
        go_wp2_with fail
        refine HF.out.mono ?_
        clear HF
        rintro e w2 ⟨rfl, h2, f2⟩
        have HM := Lib.hid (pa_move (j := 2) h2 hl2 (by omega))
        have F2 := Lib.hid (F1.out.trans f2 (fun i q => .inl q))
        clear h2 f2 hlr
        go_wp2_with fail
        refine HM.out.mono ?_
        clear HM
        rintro e w3 ⟨rfl, h3, f3⟩
        have H3 := Lib.hid h3
        have F3 := Lib.hid (F2.out.trans f3 (fun i q => .inl q))
        clear h3 f3
        go_wp2
        go_roundg g'
        case measure => have := hgk.out; omega
        case rel => exact ⟨_, H3.out, PK2.out, GN2.out, S2.out, F3.out⟩
    · have ht : y.test = false := by simpa using ht
      rw [if_neg (by simp [ht])] at st2 pk2
      rw [ht] at x4
      have S2 := Lib.hid st2
      have PK2 := Lib.hid pk2
      have HM := Lib.hid (pa_move (j := 2) (⟨r, HC.out, HR.out⟩ : PA n b A wr st) hlen (by omega))
      clear st2 pk2 ht q3 q4 HC HR HXX HEX HPK1 kp2 q1 HYY
      go_wp2_with fail
      refine HM.out.mono ?_
      clear HM
      rintro e w3 ⟨rfl, h3, f3⟩
      have H3 := Lib.hid h3
      have F3 := Lib.hid (F1.out.trans f3 (fun i q => .inl q))
      clear h3 f3 hlr
      go_wp2
      go_roundg g'
      case measure => have := hgk.out; omega
      case rel => exact ⟨_, H3.out, PK2.out, HGN.out, S2.out, F3.out⟩
end
end Go.Proofs.Ytoainbdkhhblbaa

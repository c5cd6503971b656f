/-
  Pro's Victim, said of the ring of entries.
-/
import Derived.Test.YtoainbdkhhblbaaK36
namespace Go.Proofs.Ytoainbdkhhblbaa
open Go.RowKit Go.Maps
set_option linter.unusedVariables false
set_option linter.unusedSimpArgs false

def resF (V : PrS × Option Nat) : Nat := match V.2 with
  | some f => f
  | none => V.1.first
def resS (V : PrS × Option Nat) : PrS := match V.2 with
  | some _ => V.1
  | none => V.1.rem V.1.first
section
variable {w w' : World} {b n m : Nat} {A : AP} {r : Raw} {s : PrS} {i x f : Nat} {y : En}
theorem vic_step {k : Nat} {st : PrS} (hy : st.L[st.hd 1]? = some y) : vicL n (k + 1) st = if st.idle y = true then vicL n k (st.mv 1) else if y.ref = true then vicL n k (st.turn n (st.hd 1) y) else (st.send n (st.hd 1) y, some y.fr.toNat) := by
  rw [vicL]
  simp only [hy]
theorem kept_size {st st' : PrS} (k : Kept st st') : st'.sizeN n = st.sizeN n := by unfold PrS.sizeN; rw [k.pg, k.on]
theorem pa_victim_no (h : PA n b A w s) (hk : PK n m s) (hm : PM n s) (hz : s.sizeN n = 0) (p : Int) : Calls Try.prog 21 #[.pointer (some ⟨b, 0, none⟩), .int .u32 p] w fun e w' => e = .returned (.tuple #[.int .i64 0, .bool false]) ∧ w = w' := by
  obtain ⟨r, h1, h2⟩ := h
  have hs := pr_size h1
  rw [h2.size, ← size_eq hk hm, hz] at hs
  have HS := Lib.hid hs
  clear h1 h2 hk hm hz hs
  go_enter Try.func21, Try.ntmps21
  go_wp2_with (go_at_call 23; refine HS.out.mono ?_; rintro e w' ⟨rfl, rfl⟩)
  go_returns
  exact ⟨rfl, rfl⟩
set_option maxRecDepth 100000 in
set_option maxHeartbeats 8000000 in
theorem pa_victim_yes (h : PA n b A w s) (hk : PK n n s) (hm : PM n s) (hz : ¬ s.sizeN n = 0) (hn : n ≤ 30000) (p : Int) : Calls Try.prog 21 #[.pointer (some ⟨b, 0, none⟩), .int .u32 p] w fun e w' => e = .returned (.tuple #[.int .i64 (resF (s.vic n) : Nat), .bool true]) ∧ PA n b A w' (resS (s.vic n)) ∧ Fr (FPr A b) w w' := by
  have H := Lib.hid h
  obtain ⟨r, h1, h2⟩ := h
  have HS := Lib.hid (pr_size h1)
  have hs0 : 0 < (r.size : Int) := by have := size_eq hk hm; have := h2.size; omega
  have HL := Lib.hid (ck_len h1)
  have hlen := h2.len
  have hll : r.ids.length ≤ 70000 := by have := h2.tot; omega
  have HV0 : Hid (vicL n (4 * r.ids.length + 4) s = s.vic n) := by unfold Hid PrS.vic; rw [hlen]
  have HK := Lib.hid hk
  have HM := Lib.hid hm
  have HZ := Lib.hid hz
  clear h1 h2 hk hm hz hlen
  generalize r.size = sz at *
  generalize r.ids.length = len at *
  generalize s.vic n = V at *
  have hne : ((sz : Int) == 0) = false := by simp; omega
  go_enter Try.func21, Try.ntmps21
  go_wp2_with (first
    | (go_at_call 23; refine HS.out.mono ?_; rintro e w' ⟨rfl, rfl⟩)
    | (go_at_call 38; refine HL.out.mono ?_; rintro e w' ⟨rfl, rfl⟩)
    | fail)
  clear HS HL hne hs0
  obtain ⟨T, hT⟩ : ∃ T, 4 * len + 4 = T := ⟨_, rfl⟩
  rw [hT] at HV0
  have HT := Lib.hid hT
  clear hT
  go_loopg [18] T (fun g v wr => ∃ (j : Nat) (st : PrS), j ≤ T ∧ g = T - j ∧ v = .int .i64 j ∧ PA n b A wr st ∧ PK n n st ∧ PM n st ∧ (¬ st.sizeN n = 0) ∧ vicL n (T - j) st = V ∧ Fr (FPr A b) w wr)
  case atStart => exact ⟨0, s, Nat.zero_le _, by omega, rfl, H.out, HK.out, HM.out, HZ.out, HV0.out, Fr.refl _ _⟩
  case round =>
    obtain ⟨j, st, hj, hg, rfl, h1, hk1, hm1, hz1, hv, f1⟩ := hrel
    have HG := Lib.hid hg
    have F1 := Lib.hid f1
    clear H HK HM HZ HV0 hg f1
    by_cases hlt : j < T
    · obtain ⟨r1, hc, hr⟩ := h1
      have hlp : 0 < st.L.length := by
        obtain ⟨e0, he0, _⟩ := first_ok hk1 hm1 hz1
        exact List.length_pos_of_mem he0
      obtain ⟨y, hy⟩ := hk1.at hlp (j := 1) (by omega)
      obtain ⟨hxm, hx, ex⟩ := hr.rl.at (j := 1) (by omega) hy
      obtain ⟨q1, q2, q3, q4⟩ := hk1.el y (mem_get hy)
      have hJ : (j : Int) < 4 * (len : Int) + 4 := by have := HT.out; omega
      have hj0 : j ≤ 400000 := by have := HT.out; omega
      have ek : T - j = (T - (j + 1)) + 1 := by omega
      rw [ek, vic_step hy] at hv
      have c1 : wr.cell? ⟨b, 1, none⟩ = some (.slice (some ⟨A.eb, 0, none⟩) (2 * n) (2 * n)) := hc.c 1 (by omega)
      have c3 : wr.cell? ⟨b, 3, none⟩ = some (.int .i64 (r1.h 1 : Nat)) := hc.hand (j := 1) (by omega)
      have hx2 := hc.lists.2.2.1 _ hxm
      obtain ⟨_, _, x2, x3, _, x5⟩ := hc.ce hx2
      rw [hr.v _ hxm, ex] at x5
      rw [ex] at x2 x3
      have lb := hc.hd.lt
      have le := hc.en.lt
      have g0 : (0 : Int) ≤ (r1.h 1 : Int) := by omega
      have g1 : (r1.h 1 : Int) < 2 * (n : Int) := by omega
      have HMV := Lib.hid (pa_move (j := 1) (⟨r1, hc, hr⟩ : PA n b A wr st) hlp (by omega))
      have KMV : Hid (PK n n (st.mv 1) ∧ PM n (st.mv 1) ∧ ¬ (st.mv 1).sizeN n = 0) := ⟨hk1.mv hlp 1, hm1.of rfl rfl (fun _ _ => Iff.rfl), hz1⟩
      have HLT := Lib.hid hlt
      clear hj hll ek
      by_cases hh : y.hot = true
      · have hid : st.idle y = true := by unfold PrS.idle; rw [hh]; rfl
        rw [if_pos hid] at hv
        rw [hh] at x2
        have HV := Lib.hid hv
        clear hv hid hh q1 q2 q3 q4 hx hxm ex hy hc hr hk1 hm1 hz1 hlt x3 x5
        go_wp2_with fail
        refine HMV.out.mono ?_
        clear HMV
        rintro e w2 ⟨rfl, h3, f3⟩
        have H3 := Lib.hid h3
        have F3 := Lib.hid (F1.out.trans f3 (fun i q => .inl q))
        clear h3 f3
        go_wp2
        go_roundg (T - (j + 1))
        case measure => have := HG.out; have := HLT.out; omega
        case rel => exact ⟨j + 1, _, HLT.out, rfl, by go_num, H3.out, KMV.out.1, KMV.out.2.1, KMV.out.2.2, HV.out, F3.out⟩
      · have hh : y.hot = false := by simpa using hh
        rw [hh] at x2
        by_cases hrf : y.ref = true
        · rw [hrf] at x3
          have hf0 : 0 ≤ y.fr := by
            rcases Int.lt_or_le y.fr 0 with c | c
            · have := (q3 c).2; rw [hrf] at this; cases this
            · exact c
          have hid : ¬ st.idle y = true := by unfold PrS.idle; rw [hh, hrf]; simp; omega
          rw [if_neg hid, if_pos hrf] at hv
          have HT0 := pa_turn hc hr hk1 hx (by rw [ex]; exact hf0) (by rw [ex]; exact hh) hn
          rw [ex] at HT0
          have HT := Lib.hid HT0
          obtain ⟨t1, t2⟩ := turn_ok hk1 hy hf0
          have KT : Hid (PK n n (st.turn n (st.hd 1) y) ∧ PM n (st.turn n (st.hd 1) y) ∧ ¬ (st.turn n (st.hd 1) y).sizeN n = 0) := ⟨t1, hm1.kept t2, by rw [kept_size t2]; exact hz1⟩
          have HV := Lib.hid hv
          clear hv hid hh hrf hf0 q1 q2 q3 q4 hx hxm ex hy hc hr hk1 hm1 hz1 hlt x5 HT0 t1 t2 HMV KMV
          go_wp2_with fail
          refine HT.out.mono ?_
          clear HT
          rintro e w2 ⟨rfl, h3, f3⟩
          have H3 := Lib.hid h3
          have F3 := Lib.hid (F1.out.trans f3 (fun i q => .inl q))
          clear h3 f3
          go_wp2
          go_roundg (T - (j + 1))
          case measure => have := HG.out; have := HLT.out; omega
          case rel => exact ⟨j + 1, _, HLT.out, rfl, by go_num, H3.out, KT.out.1, KT.out.2.1, KT.out.2.2, HV.out, F3.out⟩
        · have hrf : y.ref = false := by simpa using hrf
          rw [hrf] at x3
          by_cases hgo : st.mayGo y = true
          · rw [hgo] at x5
            have hgo2 := hgo
            unfold PrS.mayGo at hgo2
            simp only [Bool.and_eq_true, decide_eq_true_eq] at hgo2
            have hid : ¬ st.idle y = true := by unfold PrS.idle; rw [hh, hrf, hgo2.2]; simp; omega
            rw [if_neg hid, if_neg (by simp [hrf])] at hv
            obtain ⟨f, hf⟩ := Int.eq_ofNat_of_zero_le hgo2.1
            have HS0 := pa_send hc hr hk1 hm1 hx (by rw [ex]; exact hf) (by rw [ex]; exact hrf) hn
            rw [ex] at HS0
            have HSD := Lib.hid HS0
            have HRF : Hid (resF V = f) := by
              unfold Hid resF
              rw [← hv]
              show y.fr.toNat = f
              rw [hf]; rfl
            have HRS : Hid (resS V = st.send n (st.hd 1) y) := by
              unfold Hid resS
              rw [← hv]
            clear hv hid hh hrf hgo hgo2 q1 q2 q3 q4 hx hxm ex hy hc hr hk1 hm1 hz1 hlt HS0 HMV KMV hf
            go_wp2_with fail
            refine HSD.out.mono ?_
            clear HSD
            rintro e w2 ⟨rfl, h3, f3⟩
            have KEY := Lib.hid (And.intro h3 (F1.out.trans f3 (fun i q => .inl q)))
            clear h3 f3
            go_wp2
            go_returns
            exact ⟨by rw [HRF.out]; rfl, by rw [HRS.out]; exact KEY.out.1, KEY.out.2⟩
          · have hgo : st.mayGo y = false := by simpa using hgo
            rw [hgo] at x5
            have hid : st.idle y = true := by
              unfold PrS.mayGo at hgo
              unfold PrS.idle
              rw [hh, hrf]
              by_cases c : y.fr < 0
              · simp [c]
              · have c2 : 0 ≤ y.fr := by omega
                rw [show decide (0 ≤ y.fr) = true from by simpa using c2] at hgo
                simp at hgo
                simp [hgo]
            rw [if_pos hid] at hv
            have HV := Lib.hid hv
            clear hv hid hh hrf hgo q1 q2 q3 q4 hx hxm ex hy hc hr hk1 hm1 hz1 hlt
            go_wp2_with fail
            refine HMV.out.mono ?_
            clear HMV
            rintro e w2 ⟨rfl, h3, f3⟩
            have H3 := Lib.hid h3
            have F3 := Lib.hid (F1.out.trans f3 (fun i q => .inl q))
            clear h3 f3
            go_wp2
            go_roundg (T - (j + 1))
            case measure => have := HG.out; have := HLT.out; omega
            case rel => exact ⟨j + 1, _, HLT.out, rfl, by go_num, H3.out, KMV.out.1, KMV.out.2.1, KMV.out.2.2, HV.out, F3.out⟩
    · obtain rfl : j = T := by omega
      rw [Nat.sub_self, vicL] at hv
      have HF := Lib.hid (pa_first h1 hk1 hm1 hz1)
      obtain ⟨p1, p2⟩ : st.first < n ∧ ¬ st.pg st.first = 0 := by
        obtain ⟨_, _, _, _, _, p1, p2, _⟩ := first_ok hk1 hm1 hz1
        exact ⟨p1, p2⟩
      obtain ⟨i, y, ei, hy, hyf⟩ := ofF_of hm1 p1 p2
      have HRF : Hid (resF V = st.first) := by unfold Hid resF; rw [← hv]
      have HRS : Hid (resS V = (st.empty st.first).drop i) := by
        unfold Hid resS
        rw [← hv]
        show st.rem st.first = _
        unfold PrS.rem
        rw [ei]
      have HRM : Hid (∀ W, Fr NoF wr W → Calls Try.prog 43 #[.pointer (some ⟨b, 0, none⟩), .int .i64 (st.first : Nat)] W fun e w' => e = .returned (.tuple #[]) ∧ PA n b A w' ((st.empty st.first).drop i) ∧ Fr (FPr A b) W w') := fun W g => pa_remove (h1.fr0 g) hk1 hy hyf hn
      have hJ : 4 * (len : Int) + 4 ≤ (j : Int) := by have := HT.out; omega
      clear hv h1 hk1 hm1 hz1 p1 p2 ei hy hyf hj hlt hll
      generalize st.first = fi at *
      go_wp2_with fail
      (with_reducible refine HF.out.mono ?_)
      clear HF
      rintro e w2 ⟨rfl, d, rfl⟩
      go_wp2_with fail
      refine (HRM.out _ (by repeat (first | exact Fr.refl NoF _ | apply Fr.drew | apply Fr.drewN))).mono ?_
      clear HRM
      rintro e w3 ⟨rfl, h3, f3⟩
      have KEY : Hid (PA n b A w3 ((st.empty fi).drop i) ∧ Fr (FPr A b) w w3) := ⟨h3, (F1.out.trans (G := NoF) (by repeat (first | exact Fr.refl NoF _ | apply Fr.drew | apply Fr.drewN)) (fun _ q => q.elim)).trans f3 (fun i q => .inl q)⟩
      clear h3 f3
      go_wp2
      go_returns
      exact ⟨by rw [HRF.out]; rfl, by rw [HRS.out]; exact KEY.out.1, KEY.out.2⟩
end
end Go.Proofs.Ytoainbdkhhblbaa

/-
  Pro's calls, said of the ring of entries: a page goes; the first that may go.
-/
import Derived.Test.YtoainbdkhhblbaaK35
namespace Go.Proofs.Ytoainbdkhhblbaa
open Go.RowKit Go.Maps
set_option linter.unusedVariables false
set_option linter.unusedSimpArgs false

section
variable {w w' : World} {b n m : Nat} {A : AP} {r : Raw} {s : PrS} {i x f : Nat} {y : En}
theorem tests_small (h : s.gone ≤ n) : s.tests n = s := by
  have hex : ∃ p : Nat × PrS, testO n p.1 s = some p.2 := ⟨(1, s), by rw [testO, if_pos h]⟩
  have : s.tests n = hex.choose.2 := by unfold PrS.tests; rw [dif_pos hex]
  rw [this]
  exact test_stop hex.choose_spec h
theorem send_mv (s : PrS) (i f : Nat) (y : En) : ((s.mv 1).empty f).put i y = ((s.empty f).put i y).mv 1 := by
  unfold PrS.mv PrS.empty PrS.put
  simp only [List.length_set]
set_option maxRecDepth 100000 in
set_option maxHeartbeats 4000000 in
theorem pa_send (h1 : PC w b n A r) (h2 : Rf n r s) (hk : PK n n s) (hm : PM n s) (hx : r.ids[s.hd 1]? = some x) (hf : (r.e x).fr = (f : Int)) (hrf : (r.e x).ref = false) (hn : n ≤ 30000) :
    Calls Try.prog 40 #[.pointer (some ⟨b, 0, none⟩), .int .i64 x] w fun e w' => e = .returned (.int .i64 f) ∧ PA n b A w' (s.send n (s.hd 1) (r.e x)) ∧ Fr (FPr A b) w w' := by
  have hi := h2.get hx
  have hxm := List.mem_of_getElem? hx
  have hx2 := h1.lists.2.2.1 x hxm
  obtain ⟨q1, q2, _, _⟩ := hk.el _ (mem_get hi)
  have hfn : f < n := by omega
  have hto : (r.e x).fr.toNat = f := by omega
  have emv : (s.mv 1).drop (s.hd 1) = s.drop (s.hd 1) := mv_drop (get_lt hi)
  have c1 : w.cell? ⟨b, 1, none⟩ = some (.slice (some ⟨A.eb, 0, none⟩) (2 * n) (2 * n)) := h1.c 1 (by omega)
  obtain ⟨_, x1, _, _, x4, _⟩ := h1.ce hx2
  rw [hf] at x1
  have lb := h1.hd.lt
  have le := h1.en.lt
  have g0 : (0 : Int) ≤ (x : Int) := by omega
  have g1 : (x : Int) < 2 * (n : Int) := by omega
  by_cases ht : (r.e x).test = true
  · obtain ⟨sp1, sp2⟩ := send_pre hk hm hi (by omega) hrf ht
    rw [hto] at sp1 sp2
    have hS : s.send n (s.hd 1) (r.e x) = (((s.mv 1).empty f).put (s.hd 1) { r.e x with fr := -1 }).tests n := by unfold PrS.send; rw [if_pos ht, hto]
    rw [hS]
    have hlv := (h2.leaves hk hx hf).move 1
    rw [← send_mv] at hlv
    have hno := h2.mp_none hk hx (by omega)
    obtain ⟨a1, a2, a3, a4, a5⟩ := setV_e (r := r) x false
    obtain ⟨b1, b2, b3, b4⟩ := setV_ids (r := r) x false
    have HE := Lib.hid (pr_empty h1 hfn (h2.fm2 f hfn x hxm hf) hx2 (fun q => h2.size_pos hxm q) (by have := h2.size_le; omega))
    have hhd : (r.empty f x).h 1 ∈ (r.empty f x).ids := by
      show (r.setV x false).h 1 ∈ (r.setV x false).ids
      rw [a3, a4]
      have := h2.rl.hands (j := 1) (by omega) (fun c => by rw [c] at hx; cases hx)
      exact List.mem_of_getElem? this
    have HM : Hid (∀ W, PC W b n A (r.empty f x) → Calls Try.prog 41 #[.pointer (some ⟨b, 0, none⟩), .int .i64 1] W fun e w' => e = .returned (.tuple #[]) ∧ PC w' b n A ((r.empty f x).move 1) ∧ Fr (fun i => i = b) W w') := fun W hW => ck_move (j := 1) hW (by omega) hhd
    have HR : Hid (∀ W, PC W b n A ((r.empty f x).move 1) → Calls Try.prog 66 #[.pointer (some ⟨b, 0, none⟩), .int .i64 x] W fun e w' => e = .returned (.tuple #[]) ∧ PC w' b n A (((r.empty f x).told x).move 1) ∧ Fr (FPr A b) W w') := fun W hW => by
      have ee : ((r.empty f x).move 1).e x = { r.e x with fr := -1 } := by show upd r.e x _ x = _; rw [upd_same]
      exact pr_remember hW hx2 (by rw [ee]; exact q2.2) (by rw [ee]; show (r.setV x false).mp _ = none; rw [a5]; exact hno) (by
        show (r.setV x false).mc ≤ _
        rw [b4, h2.mc]
        have := List.countP_le_length (p := fun e : En => decide (e.fr < 0)) (l := s.L)
        have := h2.len
        have := h2.tot
        unfold PrS.gone
        omega)
    have HLV := Lib.hid hlv
    have SP1 := Lib.hid sp1
    rw [ht] at x4
    clear hi hxm q1 q2 hto emv sp1 sp2 hS hlv hno a1 a2 a3 a4 a5 b1 b2 b3 b4 hhd hk hm hx hf hrf ht h1 h2
    generalize ((s.mv 1).empty f).put (s.hd 1) { r.e x with fr := -1 } = s1 at *
    generalize ((r.empty f x).told x).move 1 = r1 at *
    go_enter Try.func40, Try.ntmps40
    go_wp2_with fail
    refine HE.out.mono ?_
    clear HE c1 x1 x4
    rintro e w1 ⟨rfl, h3, f3⟩
    have HM1 := Lib.hid (HM.out _ h3)
    have F3 := Lib.hid f3
    clear h3 f3 HM
    go_wp2_with fail
    refine HM1.out.mono ?_
    clear HM1
    rintro e w2 ⟨rfl, h4, f4⟩
    have HR1 := Lib.hid (HR.out _ h4)
    have F4 := Lib.hid (F3.out.trans f4 (fun i q => .inl (.inl q)))
    clear h4 f4 HR F3
    go_wp2_with fail
    refine HR1.out.mono ?_
    clear HR1
    rintro e w3 ⟨rfl, h5, f5⟩
    have HA : Hid (PA n b A w3 s1) := ⟨r1, h5, HLV.out⟩
    have F5 := Lib.hid (F4.out.trans f5 (fun i q => .inl q))
    clear h5 f5 HLV F4
    go_wp2_with fail
    go_loopg [] 1 (fun g wr => ∃ st, PA n b A wr st ∧ PK n (n + 1) st ∧ st.tests n = s1.tests n ∧ (g = 0 → st.gone ≤ n) ∧ Fr (FPr A b) w wr)
    case atStart => exact ⟨s1, HA.out, SP1.out, rfl, fun q => by omega, F5.out⟩
    case round =>
      obtain ⟨st, h6, hk6, e6, z6, f6⟩ := hrel
      obtain ⟨r6, hc, hr⟩ := h6
      clear HA F5 SP1
      have F6 := Lib.hid f6
      have c6 : wr.cell? ⟨b, 6, none⟩ = some (.map (some A.mb)) := hc.c 6 (by omega)
      have c5 : wr.cell? ⟨b, 5, none⟩ = some (.slice (some ⟨A.fb, 0, none⟩) n n) := hc.c 5 (by omega)
      have hlr : ∀ d, (Builtin.len_ #[56] 3 #[.map (some A.mb)]).run Try.prog (wr.drewN d) = .ok (.int .i64 r6.mc) (wr.drewN d) := fun d => MpV.len_run MVg (hc.fr0 ((Fr.refl NoF wr).drewN d)).mp 3
      have lb := hc.hd.lt
      by_cases hz : st.gone ≤ n
      · have hle : (r6.mc : Int) ≤ (n : Int) := by have := hr.mc; omega
        have KEY : Hid (PA n b A wr (s1.tests n) ∧ Fr (FPr A b) w wr) := ⟨by rw [← e6, tests_small hz]; exact ⟨r6, hc, hr⟩, f6⟩
        clear hz hc hr hk6 e6 z6 f6 F6
        go_wp2_with fail
        go_quiet (fail)
        go_wp2
        go_returns
        exact ⟨rfl, KEY.out.1.fr0 (by repeat (first | exact Fr.refl NoF _ | apply Fr.drew | apply Fr.drewN)), KEY.out.2.trans (G := NoF) (by repeat (first | exact Fr.refl NoF _ | apply Fr.drew | apply Fr.drewN)) (fun _ q => q.elim)⟩
      · have hle : (n : Int) < (r6.mc : Int) := by have := hr.mc; omega
        have hgk : 0 < gk := by
          rcases Nat.eq_zero_or_pos gk with q | q
          · exact (hz (z6 q)).elim
          · exact q
        obtain ⟨_, t1, t2⟩ := tests_ok hk6
        have PK2 : Hid (PK n (n + 1) (st.tests n)) := t1.le (by have := t1.ng; omega)
        have E2 : Hid ((st.tests n).tests n = s1.tests n) := by unfold Hid; rw [tests_small t1.ng]; exact e6
        have G2 := Lib.hid t1.ng
        have HW : Hid (∀ W, Fr NoF wr W → Calls Try.prog 67 #[.pointer (some ⟨b, 0, none⟩)] W fun e w' => e = .returned (.tuple #[]) ∧ PA n b A w' (st.tests n) ∧ Fr (FPr A b) W w') := fun W g => pa_workTest (⟨r6, hc.fr0 g, hr⟩ : PA n b A W st) hk6 (by omega) hn
        clear hz hc hr hk6 e6 z6 f6 t1 t2
        go_wp2_with fail
        go_quiet (fail)
        clear hlr
        go_wp2_with fail
        refine (HW.out _ (by repeat (first | exact Fr.refl NoF _ | apply Fr.drew | apply Fr.drewN))).mono ?_
        clear HW
        rintro e w7 ⟨rfl, h7, f7⟩
        have H7 := Lib.hid h7
        have F7 : Hid (Fr (FPr A b) w w7) := (F6.out.trans (G := NoF) (by repeat (first | exact Fr.refl NoF _ | apply Fr.drew | apply Fr.drewN)) (fun _ q => q.elim)).trans f7 (fun i q => .inl q)
        clear h7 f7
        go_wp2
        go_roundg 0
        case measure => omega
        case rel => exact ⟨_, H7.out, PK2.out, E2.out, fun _ => G2.out, F7.out⟩
  · have hS : s.send n (s.hd 1) (r.e x) = (s.empty f).drop (s.hd 1) := by
      have e1 : s.send n (s.hd 1) (r.e x) = ((s.mv 1).empty f).drop (s.hd 1) := by unfold PrS.send; rw [if_neg ht, hto]
      have e2 : ((s.mv 1).empty f).drop (s.hd 1) = ((s.mv 1).drop (s.hd 1)).empty f := rfl
      rw [e1, e2, emv]; rfl
    rw [hS]
    have ht : (r.e x).test = false := by simpa using ht
    rw [ht] at x4
    have HR := Lib.hid (pa_remove (⟨r, h1, h2⟩ : PA n b A w s) hk hi hf hn)
    clear hi hxm q1 q2 hto emv hS hk hm hx hf hrf ht h1 h2
    go_enter Try.func40, Try.ntmps40
    go_wp2_with fail
    refine HR.out.mono ?_
    clear HR
    rintro e w1 ⟨rfl, h3, f3⟩
    have KEY := Lib.hid (And.intro h3 f3)
    clear h3 f3
    go_wp2
    go_returns
    exact ⟨rfl, KEY.out⟩
theorem rot_get {j k : Nat} (hj : s.hd j < s.L.length) (hk : k < s.L.length) : (s.rot j)[k]? = s.L[(s.hd j + k) % s.L.length]? := by
  unfold PrS.rot
  by_cases e : s.hd j + k < s.L.length
  · rw [Nat.mod_eq_of_lt e, List.getElem?_append_left (by rw [List.length_drop]; omega), List.getElem?_drop]
  · rw [List.getElem?_append_right (by rw [List.length_drop]; omega), List.length_drop, List.getElem?_take, if_pos (by omega)]
    congr 1
    rw [Nat.mod_eq_sub_mod (by omega), Nat.mod_eq_of_lt (by omega)]; omega
set_option maxRecDepth 100000 in
set_option maxHeartbeats 2000000 in
theorem pa_first (h : PA n b A w s) (hk : PK n m s) (hm : PM n s) (hz : ¬ s.sizeN n = 0) : Calls Try.prog 42 #[.pointer (some ⟨b, 0, none⟩)] w fun e w' => e = .returned (.int .i64 s.first) ∧ ∃ d, w.drewN d = w' := by
  obtain ⟨r, h1, h2⟩ := h
  obtain ⟨e0, he0, hfind, hfirst, hf0, _, _, _⟩ := first_ok hk hm hz
  have hlen : 0 < s.L.length := List.length_pos_of_mem he0
  have hd1 := hk.lt hlen (j := 1) (by omega)
  obtain ⟨hgo, xs1, ys1, hrot, has⟩ := List.find?_eq_some_iff_append.1 hfind
  have hrl : (s.rot 1).length = s.L.length := by unfold PrS.rot; rw [List.length_append, List.length_drop, List.length_take]; omega
  have hal : xs1.length < s.L.length := by rw [← hrl, hrot]; simp
  have hle := h2.len
  have hne : ¬ r.ids = [] := fun c => by rw [c] at hle; simp at hle; rw [hle] at hlen; simp at hlen
  -- the entry k steps on
  have HAT : Hid (∀ k, k ≤ xs1.length → ∃ x, r.ids[(s.hd 1 + k) % s.L.length]? = some x ∧ x < 2 * n ∧ x ∈ r.ids ∧ r.v x = (decide (k = xs1.length)) ∧ (k = xs1.length → (r.e x).fr = (s.first : Int))) := by
    intro k hka
    have hlt : (s.hd 1 + k) % s.L.length < r.ids.length := by rw [← hle]; exact Nat.mod_lt _ hlen
    refine ⟨r.ids[(s.hd 1 + k) % s.L.length], List.getElem?_eq_getElem hlt, h1.lists.2.2.1 _ (List.getElem_mem hlt), List.getElem_mem hlt, ?_, ?_⟩
    · have hg := h2.get (List.getElem?_eq_getElem hlt)
      rw [← rot_get hd1 (by omega), hrot] at hg
      rw [h2.v _ (List.getElem_mem hlt)]
      by_cases c : k = xs1.length
      · subst c
        rw [List.getElem?_append_right (Nat.le_refl _), Nat.sub_self] at hg
        simp only [List.getElem?_cons_zero, Option.some.injEq] at hg
        rw [← hg, hgo]; simp
      · rw [List.getElem?_append_left (by omega)] at hg
        have := has _ (List.mem_of_getElem? hg)
        simp only [Bool.not_eq_true'] at this
        rw [this]; simp [c]
    · rintro rfl
      have hg := h2.get (List.getElem?_eq_getElem hlt)
      rw [← rot_get hd1 (by omega), hrot, List.getElem?_append_right (Nat.le_refl _), Nat.sub_self] at hg
      simp only [List.getElem?_cons_zero, Option.some.injEq] at hg
      rw [← hg, hfirst]; omega
  have HN : Hid (∀ k x, r.ids[(s.hd 1 + k) % s.L.length]? = some x → r.ids[(s.hd 1 + (k + 1)) % s.L.length]? = some (nxt r.ids x)) := by
    intro k x hx
    have := nxt_at h2.rl.nd hx
    rw [← hle, Nat.mod_add_mod] at this
    rw [← Nat.add_assoc]; exact this
  have H1 := Lib.hid h1
  have HX0 : Hid (r.ids[(s.hd 1 + 0) % s.L.length]? = some (r.h 1)) := by
    unfold Hid
    rw [Nat.add_zero, Nat.mod_eq_of_lt hd1]; exact h2.rl.hands (by omega) hne
  have c3 : w.cell? ⟨b, 3, none⟩ = some (.int .i64 (r.h 1 : Nat)) := h1.hand (j := 1) (by omega)
  clear h1 h2 hk hm hz he0 hfind hfirst hf0 hlen hd1 hgo hrot has hrl hal hle hne
  generalize xs1.length = al at *
  generalize s.first = fi at *
  generalize s.L.length = sl at *
  generalize s.hd 1 = hd at *
  go_enter Try.func42, Try.ntmps42
  go_wp2_with fail
  go_loopg [3] al (fun g v wr => ∃ k x : Nat, k ≤ al ∧ g = al - k ∧ v = .int .i64 x ∧ r.ids[(hd + k) % sl]? = some x ∧ ∃ d, w.drewN d = wr)
  case atStart => exact ⟨0, r.h 1, Nat.zero_le _, by omega, rfl, HX0.out, 0, rfl⟩
  case round =>
    obtain ⟨k, x, hka, hg, rfl, hx, d, rfl⟩ := hrel
    have HG := Lib.hid hg
    obtain ⟨x', hx', hx2, hxm, hv, hfr⟩ := HAT.out k hka
    rw [hx] at hx'
    simp only [Option.some.injEq] at hx'
    subst hx'
    have hc : PC (w.drewN d) b n A r := H1.out.fr0 ((Fr.refl NoF w).drewN d)
    have c1 : (w.drewN d).cell? ⟨b, 1, none⟩ = some (.slice (some ⟨A.eb, 0, none⟩) (2 * n) (2 * n)) := hc.c 1 (by omega)
    obtain ⟨_, x1, _, _, _, x5⟩ := hc.ce hx2
    have g0 : (0 : Int) ≤ (x : Int) := by omega
    have g1 : (x : Int) < 2 * (n : Int) := by omega
    have HNX := Lib.hid (HN.out k x hx)
    by_cases c : k = al
    · rw [hv, show decide (k = al) = true from by simpa using c] at x5
      rw [hfr c] at x1
      clear hx hxm hv hfr hc hg c c3
      go_wp2
      go_returns
      exact ⟨rfl, d, rfl⟩
    · rw [hv, show decide (k = al) = false from by simpa using c] at x5
      have HNE := Lib.hid (ck_next hc hxm)
      have HKA : Hid (k < al) := by unfold Hid; omega
      clear hx hxm hv hfr hc hg c c3
      go_wp2_with fail
      refine HNE.out.mono ?_
      clear HNE
      rintro e w2 ⟨rfl, d2, rfl⟩
      go_wp2
      go_roundg (al - (k + 1))
      case measure => have := HG.out; have := HKA.out; omega
      case rel => exact ⟨k + 1, _, HKA.out, rfl, rfl, HNX.out, d + d2, by first | rfl | rw [World.drewN_drewN]⟩
end
end Go.Proofs.Ytoainbdkhhblbaa

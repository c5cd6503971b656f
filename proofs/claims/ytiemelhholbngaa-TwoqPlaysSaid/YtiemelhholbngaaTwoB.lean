/-
  twoq's remembered pages: forgetEldest, remember, all.
-/
import Derived.Test.YtiemelhholbngaaTwoA
import Derived.Test.YtiemelhholbngaaCut
import Derived.OwnWalk
namespace Go.Proofs.Ytiemelhholbngaa
open Go.RowKit Go.Maps
set_option linter.unusedVariables false

section
variable {w w' : World} {b gr gpb mb out : Nat} {tk sp : List Nat} {gp : Nat → Nat} {gh : List Nat} {FG : Nat → Prop}
theorem first_0 (h : GR w gr gpb mb out tk sp gp gh FG) : Calls Try.prog 48 #[.pointer (some ⟨gr, 0, none⟩), .int .i64 0] w fun e w' => e = .returned (.int .i64 (ixI tk.head?)) ∧ ∃ d, w.drewN d = w' := First_all h.rr 0
theorem first_1 (h : GR w gr gpb mb out tk sp gp gh FG) : Calls Try.prog 48 #[.pointer (some ⟨gr, 0, none⟩), .int .i64 1] w fun e w' => e = .returned (.int .i64 (ixI sp.head?)) ∧ ∃ d, w.drewN d = w' := First_all h.rr 1

theorem eldest_no (h : GR w gr gpb mb out [] sp gp gh FG) (g : GH w b gr gpb mb out FG) : Calls Try.prog 49 #[.pointer (some ⟨b, 5, none⟩)] w fun e w' => e = .returned (.int .i64 (-1)) ∧ ∃ d, w.drewN d = w' := by
  have c5 := g.c5
  have HF := Lib.hid (first_0 h)
  simp only [List.head?_nil, ixI] at HF
  clear h g
  go_enter Try.func49, Try.ntmps49
  go_wp2_with fail
  refine HF.out.mono ?_
  clear HF
  rintro e w1 ⟨rfl, d, rfl⟩
  go_wp2
  go_returns
  exact ⟨rfl, _, rfl⟩

theorem eldest_yes {p : Nat} (h : GR w gr gpb mb out (p :: tk) sp gp gh FG) (g : GH w b gr gpb mb out FG) : Calls Try.prog 49 #[.pointer (some ⟨b, 5, none⟩)] w fun e w' => e = .returned (.int .i64 p) ∧ GR w' gr gpb mb out (awayN (p :: tk) p) (sp ++ [p]) gp (awayN gh (gp p)) FG ∧ Fr (FGm FG gpb mb) w w' := by
  have c5 := g.c5
  have c6 := g.c6
  have hp : p < out := h.rr.row2.2.2.1 p (List.mem_cons_self ..)
  have hn := h.hn
  have cp : w.cell? ⟨gpb, p, none⟩ = some (.int .u32 (gp p : Nat)) := h.pg.cell hp
  have HF := Lib.hid (first_0 h)
  simp only [List.head?_cons, ixI] at HF
  have HY : Hid (∀ d, Calls Try.prog 45 #[.pointer (some ⟨b, 5, none⟩), .int .u32 (gp p : Nat)] (w.drewN d) fun e w' => e = .returned (.bool true) ∧ GR w' gr gpb mb out (awayN (p :: tk) p) (sp ++ [p]) gp (awayN gh (gp p)) FG ∧ Fr (FGm FG gpb mb) w w') := by
    intro d
    have f : Fr NoF w (w.drewN d) := (Fr.refl NoF w).drewN d
    exact (forget_yes (h.fr f (fun _ _ q => q) id id) (g.fr f id) (List.mem_cons_self ..)).mono fun e w' ⟨he, h1, h2⟩ => ⟨he, h1, (f.mono (fun _ q => q.elim)).trans h2 (fun _ q => .inl q)⟩
  clear h g
  generalize gp p = x at *
  go_enter Try.func49, Try.ntmps49
  go_wp2_with fail
  refine HF.out.mono ?_
  clear HF
  rintro e w1 ⟨rfl, d, rfl⟩
  go_wp2_with fail
  refine (HY.out d).mono ?_
  rintro e w2 ⟨rfl, h2⟩
  have H2 := Lib.hid h2
  clear h2 HY
  go_wp2
  go_returns
  exact ⟨rfl, H2.out⟩

/-- A page is laid into a spare place. -/
theorem GR.laid (h : GR w gr gpb mb out tk sp gp gh FG) {p x : Nat} (hp : p ∈ sp) (hx : isU32 x) (hm : ¬ x ∈ gh) {w1 w2 : World} (hR : RR w1 gr out 2 (putL [tk, sp] 0 p false) FG) (f1 : Fr FG w w1)
    (hM : MpN Try.prog 35 3 .u32 .i64 w2 mb (if (mOf tk gp (x : Int)).isSome then tk.length else tk.length + 1) (updI (mOf tk gp) (x : Int) (some (p : Int)))) (f2 : Fr (fun i => i = mb) (w1.setCell ⟨gpb, p, none⟩ (.int .u32 (x : Nat))) w2) :
    GR w2 gr gpb mb out (tk ++ [p]) (awayN sp p) (upd gp p x) (gh ++ [x]) FG ∧ Fr (FGm FG gpb mb) w w2 := by
  have hr2 := h.rr.row2
  have hpt : ¬ p ∈ tk := fun q => hr2.2.2.2.2 p q hp
  rw [putL2_0 hr2.2.2.2.2, awayN_not hpt] at hR
  have hmo := mOf_none (tk := tk) (gp := gp) (x := x) (h.hg ▸ hm)
  rw [hmo] at hM
  have hmap : (tk ++ [p]).map (upd gp p x) = gh ++ [x] := by
    rw [List.map_append, h.hg]
    congr 1
    · apply List.map_congr_left
      intro q hq
      rw [upd_other]
      rintro rfl; exact hpt hq
    · simp [upd_same]
  have hnd : (gh ++ [x]).Nodup := by
    rw [List.nodup_append]
    refine ⟨h.nd, by simp, fun y hy z hz e => ?_⟩
    rw [List.mem_singleton.1 hz] at e
    exact hm (e ▸ hy)
  have e1 : updI (mOf tk gp) (x : Int) (some (p : Int)) = mOf (tk ++ [p]) (upd gp p x) := by
    refine mOf_eq (by rw [hmap]; exact hnd) ?_ ?_
    · intro q hq
      rcases List.mem_append.1 hq with hq1 | hq1
      · have hqp : ¬ q = p := fun e => hpt (e ▸ hq1)
        rw [upd_other _ _ hqp]
        have : ¬ ((gp q : Nat) : Int) = (x : Int) := fun e => hm (by rw [h.hg]; exact List.mem_map.2 ⟨q, hq1, by omega⟩)
        rw [updI_other _ _ this]
        exact mOf_some (h.hg ▸ h.nd) hq1
      · rw [List.mem_singleton.1 hq1, upd_same, updI_same]
    · intro z hz
      have hzx : ¬ z = (x : Int) := fun e => hz p (by simp) (by rw [upd_same, e])
      rw [updI_other _ _ hzx]
      unfold mOf
      rw [Option.map_eq_none_iff, List.find?_eq_none]
      intro q hq e2
      have e2 : ((gp q : Nat) : Int) = z := by simpa using e2
      have hqp : ¬ q = p := by rintro rfl; exact hpt hq
      exact hz q (by simp [hq]) (by rw [upd_other _ _ hqp]; exact e2)
  rw [e1] at hM
  have fs : Fr (fun i => i = gpb) w1 (w1.setCell ⟨gpb, p, none⟩ (.int .u32 (x : Nat))) := (Fr.refl (fun i => i = gpb) w1).setCell (p := ⟨gpb, p, none⟩) (.inl rfl) _
  refine ⟨⟨(hR.fr fs (fun i hi e => h.d1 (e ▸ hi))).fr f2 (fun i hi e => h.d2 (e ▸ hi)), ?_, ?_, hmap.symm, hnd, ?_, ?_, h.hn, h.d1, h.d2, h.d3⟩, ((f1.mono (fun i q => .inl q)).trans fs (fun i q => .inl (.inr (.inl q)))).trans f2 (fun i q => .inl (.inr (.inr q)))⟩
  · rw [← uN_set]
    exact ((h.pg.fr f1 h.d1).set _ _).fr f2 h.d3
  · rw [List.length_append]; exact hM
  · have := awayN_len hr2.2.1 hp
    have := h.tl
    rw [List.length_append]; simp; omega
  · intro y hy
    rcases List.mem_append.1 hy with q | q
    · exact h.lt y q
    · rw [List.mem_singleton.1 q]; exact hx

/-- What remembering leaves. -/
def Remd (w : World) (gr gpb mb out : Nat) (gh' : List Nat) (FG : Nat → Prop) (w' : World) : Prop := ∃ tk' sp' gp', GR w' gr gpb mb out tk' sp' gp' gh' FG ∧ Fr (FGm FG gpb mb) w w'

set_option maxHeartbeats 1000000 in
theorem remember_none (h : GR w gr gpb mb out [] [] gp gh FG) (g : GH w b gr gpb mb out FG) {x : Nat} : Calls Try.prog 33 #[.pointer (some ⟨b, 5, none⟩), .int .u32 x] w fun e w' => e = .returned (.tuple #[]) ∧ Remd w gr gpb mb out (cutOld out (gh ++ [x])) FG w' := by
  have c5 := g.c5
  have HF := Lib.hid (first_1 h)
  simp only [List.head?_nil, ixI] at HF
  have HY : Hid (∀ d, Calls Try.prog 49 #[.pointer (some ⟨b, 5, none⟩)] (w.drewN d) fun e w' => e = .returned (.int .i64 (-1)) ∧ ∃ d, w.drewN d = w') := by
    intro d
    have f : Fr NoF w (w.drewN d) := (Fr.refl NoF w).drewN d
    exact (eldest_no (h.fr f (fun _ _ q => q) id id) (g.fr f id)).mono fun e w' ⟨he, d', hw⟩ => ⟨he, d + d', by rw [← hw, World.drewN_drewN]⟩
  have R : Hid (∀ d, Remd w gr gpb mb out (cutOld out (gh ++ [x])) FG (w.drewN d)) := by
    intro d
    have hgh : gh = [] := h.hg
    have ho : out = 0 := by have := h.tl; simpa using this.symm
    have : cutOld out (gh ++ [x]) = gh := by rw [hgh, ho]; rfl
    rw [this]
    have f : Fr NoF w (w.drewN d) := (Fr.refl NoF w).drewN d
    exact ⟨_, _, _, h.fr f (fun _ _ q => q) id id, f.mono (fun _ q => q.elim)⟩
  clear h g
  go_enter Try.func33, Try.ntmps33
  go_wp2_with fail
  refine HF.out.mono ?_
  clear HF
  rintro e w1 ⟨rfl, d, rfl⟩
  go_wp2_with fail
  refine (HY.out d).mono ?_
  clear HY
  rintro e w2 ⟨rfl, d2, rfl⟩
  go_wp2
  go_returns
  exact ⟨rfl, R.out _⟩

set_option maxHeartbeats 1000000 in
theorem remember_spare {p : Nat} (h : GR w gr gpb mb out tk (p :: sp) gp gh FG) (g : GH w b gr gpb mb out FG) {x : Nat} (hx : isU32 x) (hm : ¬ x ∈ gh) : Calls Try.prog 33 #[.pointer (some ⟨b, 5, none⟩), .int .u32 x] w fun e w' => e = .returned (.tuple #[]) ∧ Remd w gr gpb mb out (cutOld out (gh ++ [x])) FG w' := by
  have c5 := g.c5
  have c6 := g.c6
  have hp : p < out := h.rr.row2.2.2.2.1 p (List.mem_cons_self ..)
  have hn := h.hn
  have hlen := h.tl
  have HF := Lib.hid (first_1 h)
  simp only [List.head?_cons, ixI] at HF
  have HB : Hid (∀ d, Calls Try.prog 28 #[.pointer (some ⟨gr, 0, none⟩), .int .i64 0, .int .i64 p] (w.drewN d) fun e w' => e = .returned (.bool true) ∧ RR w' gr out 2 (putL [tk, p :: sp] 0 p false) FG ∧ Fr FG w w') := by
    intro d
    have f : Fr NoF w (w.drewN d) := (Fr.refl NoF w).drewN d
    exact (back_yes (h.rr.fr f (fun _ _ q => q)) 0 p (by omega) hp).mono fun e w' ⟨he, h1, h2⟩ => ⟨he, h1, (f.mono (fun _ q => q.elim)).trans h2 (fun _ q => .inl q)⟩
  have HH := Lib.hid h
  have HG := Lib.hid g
  have HX := Lib.hid hx
  have HM := Lib.hid hm
  have HW := Lib.hid hx.wf
  clear h g hx hm
  go_enter Try.func33, Try.ntmps33
  go_wp2_with fail
  refine HF.out.mono ?_
  clear HF
  rintro e w1 ⟨rfl, d, rfl⟩
  go_wp2_with fail
  refine (HB.out d).mono ?_
  clear HB
  rintro e w2 ⟨rfl, hR, f1⟩
  have hg2 := HG.out.fr f1 HG.out.n1
  have e6 := hg2.c6
  have e7 := hg2.c7
  have lb := hg2.lb
  have n2 := hg2.n2
  have hpg := HH.out.pg.fr f1 HH.out.d1
  have cp : w2.cell? ⟨gpb, p, none⟩ = some (.int .u32 (gp p : Nat)) := hpg.cell hp
  have fp := hpg.frozen p
  have lg := hpg.lt
  have HM2 : Hid (MpN Try.prog 35 3 .u32 .i64 (w2.setCell ⟨gpb, p, none⟩ (.int .u32 x)) mb tk.length (mOf tk gp)) := (HH.out.mp.fr f1 HH.out.d2).fr ((Fr.refl (fun i => i = gpb) w2).setCell (p := ⟨gpb, p, none⟩) (.inl rfl) _) (fun e => HH.out.d3 e.symm)
  have HR := Lib.hid hR
  have HF1 := Lib.hid f1
  have hc : tk.length < 1000000 := by omega
  have HWp : Hid ((Lit.int .i64 (p : Int)).wf = true) := WalkArith.wf_i64 ⟨by omega, by omega⟩
  generalize gp p = z at cp
  clear hR f1 hg2 hpg
  go_wp2_with (at_mapUpdate; go_must (refine wp_putN MIg HM2.out hc rfl _ _ _ rfl (by rfl) (by rfl) (by rfl) HW.out HWp.out ?_); intro w3 hm3 f3; have K := Lib.hid (HH.out.laid (List.mem_cons_self ..) HX.out HM.out HR.out HF1.out hm3 f3); clear hm3 f3)
  go_returns
  refine ⟨rfl, ?_⟩
  have hl : gh.length = tk.length := by rw [HH.out.hg, List.length_map]
  have : cutOld out (gh ++ [x]) = gh ++ [x] := by
    unfold cutOld
    rw [if_neg]
    rw [List.length_append]; simp at hlen ⊢; omega
  rw [this]
  exact ⟨_, _, _, K.out⟩

set_option maxHeartbeats 1000000 in
theorem remember_full {p : Nat} (h : GR w gr gpb mb out (p :: tk) [] gp gh FG) (g : GH w b gr gpb mb out FG) {x : Nat} (hx : isU32 x) (hm : ¬ x ∈ gh) : Calls Try.prog 33 #[.pointer (some ⟨b, 5, none⟩), .int .u32 x] w fun e w' => e = .returned (.tuple #[]) ∧ Remd w gr gpb mb out (cutOld out (gh ++ [x])) FG w' := by
  have c5 := g.c5
  have c6 := g.c6
  have hp : p < out := h.rr.row2.2.2.1 p (List.mem_cons_self ..)
  have hn := h.hn
  have hlen := h.tl
  have HF := Lib.hid (first_1 h)
  simp only [List.head?_nil, ixI] at HF
  have HY : Hid (∀ d, Calls Try.prog 49 #[.pointer (some ⟨b, 5, none⟩)] (w.drewN d) fun e w' => e = .returned (.int .i64 p) ∧ GR w' gr gpb mb out (awayN (p :: tk) p) ([] ++ [p]) gp (awayN gh (gp p)) FG ∧ Fr (FGm FG gpb mb) w w') := by
    intro d
    have f : Fr NoF w (w.drewN d) := (Fr.refl NoF w).drewN d
    exact (eldest_yes (h.fr f (fun _ _ q => q) id id) (g.fr f id)).mono fun e w' ⟨he, h1, h2⟩ => ⟨he, h1, (f.mono (fun _ q => q.elim)).trans h2 (fun _ q => .inl q)⟩
  have hgh : gh = gp p :: tk.map gp := h.hg
  have hnd := h.nd
  have hcut : cutOld out (gh ++ [x]) = awayN gh (gp p) ++ [x] := by
    have hl : gh.length = out := by rw [h.hg, List.length_map]; simpa using h.tl
    unfold cutOld
    rw [if_pos (by rw [List.length_append]; simp; omega)]
    rw [hgh] at hnd ⊢
    have hn1 := List.nodup_cons.1 hnd
    have : awayN (gp p :: tk.map gp) (gp p) = tk.map gp := by
      have e2 : awayN (gp p :: tk.map gp) (gp p) = awayN (tk.map gp) (gp p) := by simp [awayN]
      rw [e2, awayN_not hn1.1]
    rw [this]; rfl
  have hm' : ¬ x ∈ awayN gh (gp p) := fun q => hm (List.mem_filter.1 q).1
  have HCUT := Lib.hid hcut
  have HG := Lib.hid g
  have HX := Lib.hid hx
  have HM := Lib.hid hm'
  have HW := Lib.hid hx.wf
  clear h g hx hm hgh hnd hcut hm'
  go_enter Try.func33, Try.ntmps33
  go_wp2_with fail
  refine HF.out.mono ?_
  clear HF
  rintro e w1 ⟨rfl, d, rfl⟩
  go_wp2_with fail
  refine (HY.out d).mono ?_
  clear HY
  rintro e wy ⟨rfl, hy, fy⟩
  have hgy := HG.out.fr fy (fun q => by
    rcases q with q | q | q
    · exact HG.out.n1 q
    · exact HG.out.n2 q
    · exact HG.out.n3 q)
  have y5 := hgy.c5
  have HH := Lib.hid hy
  have HGY := Lib.hid hgy
  have HFY := Lib.hid fy
  have HB := Lib.hid (back_yes hy.rr 0 p (by omega) hp)
  have hlen2 := hy.tl
  clear hy fy hgy
  go_wp2_with fail
  refine HB.out.mono ?_
  clear HB
  rintro e w2 ⟨rfl, hR, f1⟩
  have hg2 := HGY.out.fr f1 HG.out.n1
  have e6 := hg2.c6
  have e7 := hg2.c7
  have lb := hg2.lb
  have n2 := hg2.n2
  have hpg := HH.out.pg.fr f1 HH.out.d1
  have cp : w2.cell? ⟨gpb, p, none⟩ = some (.int .u32 (gp p : Nat)) := hpg.cell hp
  have fp := hpg.frozen p
  have lg := hpg.lt
  have HM2 : Hid (MpN Try.prog 35 3 .u32 .i64 (w2.setCell ⟨gpb, p, none⟩ (.int .u32 x)) mb (awayN (p :: tk) p).length (mOf (awayN (p :: tk) p) gp)) := (HH.out.mp.fr f1 HH.out.d2).fr ((Fr.refl (fun i => i = gpb) w2).setCell (p := ⟨gpb, p, none⟩) (.inl rfl) _) (fun e => HH.out.d3 e.symm)
  have HR := Lib.hid hR
  have HF1 := Lib.hid f1
  have hc : (awayN (p :: tk) p).length < 1000000 := by omega
  have HWp : Hid ((Lit.int .i64 (p : Int)).wf = true) := WalkArith.wf_i64 ⟨by omega, by omega⟩
  generalize gp p = z at *
  clear hR f1 hg2 hpg
  go_wp2_with (at_mapUpdate; go_must (refine wp_putN MIg HM2.out hc rfl _ _ _ rfl (by rfl) (by rfl) (by rfl) HW.out HWp.out ?_); intro w3 hm3 f3; have K := Lib.hid (HH.out.laid (by simp) HX.out HM.out HR.out HF1.out hm3 f3); clear hm3 f3)
  go_returns
  refine ⟨rfl, ?_⟩
  rw [HCUT.out]
  exact ⟨_, _, _, K.out.1, HFY.out.trans K.out.2 (fun _ q => .inl q)⟩

theorem remember_any (h : GR w gr gpb mb out tk sp gp gh FG) (g : GH w b gr gpb mb out FG) {x : Nat} (hx : isU32 x) (hm : ¬ x ∈ gh) : Calls Try.prog 33 #[.pointer (some ⟨b, 5, none⟩), .int .u32 x] w fun e w' => e = .returned (.tuple #[]) ∧ Remd w gr gpb mb out (cutOld out (gh ++ [x])) FG w' := by
  cases sp with
  | cons p sp => exact remember_spare h g hx hm
  | nil =>
    cases tk with
    | nil => exact remember_none h g
    | cons p tk => exact remember_full h g hx hm

set_option maxHeartbeats 1000000 in
theorem all_calls (h : GR w gr gpb mb out tk sp gp gh FG) (g : GH w b gr gpb mb out FG) : Calls Try.prog 35 #[.pointer (some ⟨b, 5, none⟩)] w fun e w' => ∃ v, e = .returned v ∧ SlK .u32 w' v gh ∧ Fr NoF w w' := by
  obtain ⟨i0, hi, hz0, hz1, hz2⟩ := info_parts' (P := Try.prog) (e := 35) (z := .int .u32 0) (s := 1) (b := 4) (by kernel_rfl)
  have c5 := g.c5
  have hgl : gh.length = tk.length := by rw [h.hg, List.length_map]
  have htl := h.tl
  have hon := h.hn
  have lb := g.lb
  have HL := Lib.hid (Len_all h.rr 0)
  rw [show rowZ [tk, sp] 0 = tk from rfl] at HL
  have HA : Hid (∀ w', Fr NoF w w' → Calls Try.prog 50 #[.pointer (some ⟨gr, 0, none⟩), .int .i64 0] w' fun e w'' => ∃ v, e = .returned v ∧ w''.ownsRow w'.heap.size 3 1 v tk.length (ints tk) ∧ Fr NoF w' w'') := by
    intro w' f
    exact (All_all (h.rr.fr f (fun _ _ q => q)) 0).mono fun e w'' ⟨v, he, h1, _, h3⟩ => ⟨v, he, h1, h3⟩
  have HP : Hid (∀ w', Fr NoF w w' → w'.cell? ⟨b, 5, none⟩ = some (.pointer (some ⟨gr, 0, none⟩)) ∧ w'.cell? ⟨b, 6, none⟩ = some (.slice (some ⟨gpb, 0, none⟩) out out) ∧ ∀ p, p < out → w'.cell? ⟨gpb, p, none⟩ = some (.int .u32 (gp p : Nat))) := fun w' f => ⟨(g.fr f id).c5, (g.fr f id).c6, fun p hp => (h.pg.fr f id).cell hp⟩
  have HT : Hid (∀ p ∈ tk, p < out) := h.rr.row2.2.2.1
  have HG := Lib.hid h.hg
  have HLB : Hid (∀ w', Fr NoF w w' → b < w'.heap.size ∧ gpb < w'.heap.size) := fun w' f => ⟨Nat.lt_of_lt_of_le g.lb f.size, Nat.lt_of_lt_of_le h.pg.lt f.size⟩
  clear h g
  go_enter Try.func35, Try.ntmps35
  go_wp2_with (first
    | (go_at_call 46; refine HL.out.mono ?_; rintro e w' ⟨rfl, rfl⟩)
    | (at_make; refine wpList_make_own _ rfl _ _ 36 rfl w.heap.size 35 i0 (.int .u32 0) 1 Try.underlying36 hi hz0 hz1 .i64 .i64 _ tk.length rfl rfl rfl (by rw [hz2]; omega) (by unfold maxLen; omega) (Nat.le_refl _) ?_; intro w1 hown hgrow; have hf1 := (Fr.refl NoF w).grown hgrow (by intro k hk; cases hk); have e5 := (HP.out w1 hf1).1; have HOW := Lib.hid hown; have HF1 := Lib.hid hf1; clear hown hgrow hf1)
    | (go_at_call 50; refine (HA.out _ HF1.out).mono ?_; rintro e w2 ⟨v2, rfl, ho2, hf2⟩; obtain ⟨a2, k2, rfl, _, _⟩ := SlC.shape (SlC.ofOwn ho2 (by intro u hu; obtain ⟨z, _, rfl⟩ := List.mem_map.1 hu; rfl)); have HO2 := Lib.hid ho2; have HF2 := Lib.hid hf2; clear ho2 hf2))
  have hF2 := HF1.out.trans HF2.out (fun _ q => q.elim)
  have hs2 : SlK .i64 w2 (.slice a2 tk.length k2) tk := SlC.ofOwn HO2.out (by intro u hu; obtain ⟨z, _, rfl⟩ := List.mem_map.1 hu; rfl)
  have hst : OwK .u32 w.heap.size 35 w2 (.slice (some ⟨w.heap.size, 0, none⟩) 0 tk.length) (gh.take 0) := own_keep HOW.out HF2.out (fun _ _ q => q)
  have hdj : ∀ i, (Value.slice (some ⟨w.heap.size, 0, none⟩) 0 tk.length).ownBlock = some i → ¬ (Value.slice a2 tk.length k2).ownBlock = some i := by
    intro i h1 h2
    have h3 := ownBlock_own HO2.out i h2
    have h4 := HOW.out
    obtain ⟨_, h4 | ⟨g, cap, cur, _, _, h5, _⟩⟩ := h4
    · simp at h4
    · simp [Value.ownBlock] at h1
      have h6 := World.ownsRow.lt HOW.out w.heap.size (by simp [Value.ownBlock])
      omega
  have HS2 := Lib.hid hs2
  have HST := Lib.hid (And.intro hst (And.intro hF2 (And.intro hs2 hdj)))
  clear hF2 hs2 hst hdj HOW HO2 HF1 HF2 HL HA e5
  go_loopw [3, 18] (fun v i wr => ∃ k : Nat, k ≤ tk.length ∧ i = .int .i64 k ∧ OwK .u32 w.heap.size 35 wr v (gh.take k) ∧ Fr NoF w wr ∧ SlK .i64 wr (.slice a2 tk.length k2) tk ∧ ∀ i, v.ownBlock = some i → ¬ (Value.slice a2 tk.length k2).ownBlock = some i) (fun _ i _ => tk.length - (intOf i).toNat)
  case atStart => exact ⟨0, Nat.zero_le _, rfl, HST.out⟩
  case round =>
    obtain ⟨k, hk, rfl, ho, hf0, hs, hdj⟩ := hrel
    have HO := Lib.hid ho
    have HF := Lib.hid hf0
    have HS := Lib.hid hs
    have HDJ := Lib.hid hdj
    by_cases hlt : k < tk.length
    · obtain ⟨bb, off, c', ev', _, _, hbb, cy⟩ := hs.at hlt
      simp only [Value.slice.injEq] at ev'
      obtain ⟨rfl, _, rfl⟩ := ev'
      have hkg : k < gh.length := by omega
      have HTK := Lib.hid (List.take_succ_eq_append_getElem hkg)
      have hgk : gh[k] = gp tk[k] := by simp [HG.out]
      rw [hgk] at HTK
      have hpk : tk[k] < out := HT.out _ (List.getElem_mem hlt)
      obtain ⟨r5, r6, rp⟩ := HP.out wr hf0
      obtain ⟨rl, rl2⟩ := HLB.out wr hf0
      have rp' := rp _ hpk
      clear rp
      have hlk : (gh.take k).length = k := by rw [List.length_take]; omega
      have hsz := hf0.size
      generalize tk[k] = y at *
      generalize gp y = z at *
      have HLK := Lib.hid hlk
      clear ho hf0 HST hgk hlk hs hdj
      go_wp2_with (at_builtin; go_must (refine appLB (base := w.heap.size) EIu rfl _ _ rfl (by rfl) (by rfl) (by simp; omega) (own_keep HO.out ((Fr.refl NoF _).alloc _) (fun _ _ q => q)) (SlC.ofOwn (own_new (w0 := wr) (Nat.le_refl _) #[.int .u32 z] 35 1 1 _ rfl rfl (by unfold maxLen; omega)) (by simp [Value.oneCell'])) (by rw [HLK.out]; unfold maxLen; omega) (by rw [HLK.out]; omega) ?_); intro v' w6 hown' hf6 hob6; have HN := Lib.hid (OwK.snoc hown'); have HF6 := Lib.hid hf6; have HOB := Lib.hid hob6; clear hown' hf6 hob6)
      go_roundw
      case rel =>
        refine ⟨k + 1, hlt, by go_num, by rw [HTK.out]; exact HN.out, (HF.out.alloc _).trans HF6.out (fun i hi => .inr (HO.out.base i hi)), (HS.out.keep ((Fr.refl NoF _).alloc _)).fr HF6.out (fun i h1 h2 => HDJ.out i h2 h1), fun i h1 h2 => ?_⟩
        rcases HOB.out i h1 with q | q
        · exact HDJ.out i q h2
        · have := HS.out.lt i h2
          simp at q; omega
      case measure => first | (simp [intOf]; done) | (simp [intOf]; omega)
    · obtain rfl : k = tk.length := by omega
      have ht : gh.take tk.length = gh := List.take_of_length_le (by omega)
      rw [ht] at ho
      obtain ⟨va, vc, rfl, _, _⟩ := ho.sl.shape
      have HO2 := Lib.hid ho
      clear ho hf0 hs hdj HST HO HDJ ht
      go_wp2
      go_returns
      exact ⟨_, rfl, HO2.out.sl, HF.out⟩
end
end Go.Proofs.Ytiemelhholbngaa

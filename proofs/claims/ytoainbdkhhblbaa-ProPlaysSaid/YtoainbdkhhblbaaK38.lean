/-
  Pro's Access and Set, said of the ring of entries.
  Pro's Ghosts, said of the ring of entries.
  Pro's New: the clock.
  Pro's New.
  Replay, and Nones: calls that were told are called of a policy, one behind the other: the walks.
  Two policies that go alike: what was told of the one is answered by the other. Plain facts, with no program in sight.
-/
import Derived.Test.YtoainbdkhhblbaaK37
import Derived.Test.YtoainbdkhhblbaaK07
import Derived.Deep.RegionHeld3
import Derived.Deep.RegionWith
import Derived.IntWalk
import Derived.Deep.QuietTactic
import Derived.BigQuiet
namespace Go.Proofs.Ytoainbdkhhblbaa
open Go.RowKit Go.Maps
set_option linter.unusedVariables false
set_option linter.unusedSimpArgs false

section
variable {w w' : World} {b n m : Nat} {A : AP} {r : Raw} {s : PrS} {i x f id : Nat} {y : En}
theorem pa_set (h : PA n b A w s) (hk : PK n m s) (hi : s.L[i]? = some y) (hf : y.fr = (f : Int)) (u : Bool) (hn : n ≤ 30000) : Calls Try.prog 20 #[.pointer (some ⟨b, 0, none⟩), .int .i64 f, .bool u] w fun e w' => e = .returned (.tuple #[]) ∧ PA n b A w' { s with on := upd s.on f u } ∧ Fr (FPr A b) w w' := by
  obtain ⟨r, h1, h2⟩ := h
  obtain ⟨x, hx, ex⟩ := h2.rl.id hi
  subst ex
  have hxm := List.mem_of_getElem? hx
  obtain ⟨q1, q2, _, _⟩ := hk.el _ (mem_get hi)
  have hfn : f < n := by omega
  refine (pr_set h1 hfn (h2.fm2 f hfn x hxm hf) (h1.lists.2.2.1 x hxm) u (fun _ q => h2.size_pos hxm q) (by have := h2.size_le; omega)).mono fun e w' ⟨a1, a2, a3⟩ => ⟨a1, ⟨_, a2, h2.setV hk hx hf u⟩, a3⟩
set_option maxHeartbeats 2000000 in
theorem pa_touch (h : PA n b A w s) (hk : PK n m s) (hi : s.L[i]? = some y) (hf : y.fr = (f : Int)) (hn : n ≤ 30000) (p : Int) : Calls Try.prog 19 #[.pointer (some ⟨b, 0, none⟩), .int .i64 f, .int .u32 p] w fun e w' => e = .returned (.tuple #[]) ∧ PA n b A w' (s.put i { y with ref := true }) ∧ Fr (FPr A b) w w' := by
  obtain ⟨r, h1, h2⟩ := h
  obtain ⟨x, hx, ex⟩ := h2.rl.id hi
  subst ex
  have hxm := List.mem_of_getElem? hx
  obtain ⟨q1, q2, _, _⟩ := hk.el _ (mem_get hi)
  have hfn : f < n := by omega
  have hfm := h2.fm2 f hfn x hxm hf
  have hx2 := h1.lists.2.2.1 x hxm
  have HI := Lib.hid (pr_isFrame h1 hfn)
  have c1 : w.cell? ⟨b, 1, none⟩ = some (.slice (some ⟨A.eb, 0, none⟩) (2 * n) (2 * n)) := h1.c 1 (by omega)
  have c5 : w.cell? ⟨b, 5, none⟩ = some (.slice (some ⟨A.fb, 0, none⟩) n n) := h1.c 5 (by omega)
  have cf := h1.cf hfn
  rw [hfm] at cf
  obtain ⟨_, _, _, x3, _, _⟩ := h1.ce hx2
  have fe := fun i => h1.en.frozen i
  have lb := h1.hd.lt
  have le := h1.en.lt
  have hne : ((x : Int) == -1) = false := by simp
  have g0 : (0 : Int) ≤ (x : Int) := by omega
  have g1 : (x : Int) < 2 * (n : Int) := by omega
  have g2 : (0 : Int) ≤ (f : Int) := by omega
  have g3 : (f : Int) < (n : Int) := by omega
  have KEY : Hid (PA n b A (w.setCell ⟨A.eb, x * 6 + 3, none⟩ (.bool true)) (s.put i { r.e x with ref := true }) ∧ Fr (FPr A b) w (w.setCell ⟨A.eb, x * 6 + 3, none⟩ (.bool true))) :=
    ⟨⟨_, h1.setEn (r' := { r with e := upd r.e x { r.e x with ref := true } }) (en_ref r.e r.v x true) rfl, h2.put (y := { r.e x with ref := true }) hx rfl rfl rfl⟩, (Fr.refl (FPr A b) w).setCell (p := ⟨A.eb, x * 6 + 3, none⟩) (.inl (.inr (.inl rfl))) _⟩
  clear h1 h2 hk hi hf hx hxm q1 q2 hfm
  go_enter Try.func19, Try.ntmps19
  go_wp2_with (go_at_call 33; refine HI.out.mono ?_; rintro e w' ⟨rfl, rfl⟩)
  go_returns
  exact ⟨rfl, KEY.out⟩
theorem spare_one (h1 : PC w b n A r) (h2 : Rf n r s) (hl : s.L.length < 2 * n) : ∃ x sp', r.sp = x :: sp' ∧ (¬ x ∈ r.ids) ∧ ¬ x ∈ sp' := by
  have h3 := h2.tot
  have h4 := h2.len
  cases e : r.sp with
  | nil => rw [e] at h3; simp at h3; omega
  | cons x sp' =>
    obtain ⟨_, hnd, _, _, hd⟩ := h1.lists
    refine ⟨x, sp', rfl, fun q => hd x q (by rw [e]; simp), fun q => ?_⟩
    rw [e] at hnd
    exact (List.nodup_cons.1 hnd).1 q
theorem fm_none (h2 : Rf n r s) (hfn : f < n) (hno : ∀ z ∈ s.L, ¬ z.fr = (f : Int)) : r.fm f = -1 := by
  rcases h2.fm0 f hfn with q | ⟨x, q⟩
  · exact q
  · obtain ⟨a1, a2⟩ := h2.fm1 f hfn x q
    obtain ⟨j, hj⟩ := List.getElem?_of_mem a1
    exact (hno _ (List.mem_of_getElem? (h2.get hj)) a2).elim
theorem ids_or (h2 : Rf n r s) : r.ids = [] ∨ r.h 0 ∈ r.ids := by
  rcases h2.rl.hd with q | q
  · exact .inl q
  · exact .inr (List.mem_of_getElem? (q 0 (by omega)))
set_option maxRecDepth 100000 in
set_option maxHeartbeats 4000000 in
theorem pa_come0 (h : PA n b A w s) (hk : PK n n s) (hfn : f < n) (hno : ∀ z ∈ s.L, ¬ z.fr = (f : Int)) (hong : ∀ z ∈ s.L, z.fr = -1 → ¬ z.pg = id) (hon : s.on f = false) (hl : s.L.length < 2 * n) (hu : id < 4294967296) (hn : n ≤ 30000) :
    Calls Try.prog 19 #[.pointer (some ⟨b, 0, none⟩), .int .i64 f, .int .u32 id] w fun e w' => e = .returned (.tuple #[]) ∧ PA n b A w' (s.lay ⟨id, f, false, false, true⟩) ∧ Fr (FPr A b) w w' := by
  obtain ⟨r, h1, h2⟩ := h
  have hfm := fm_none h2 hfn hno
  obtain ⟨x, sp', hs, hni, hns⟩ := spare_one h1 h2 hl
  have HI := Lib.hid (pr_isFrame h1 hfn)
  have c5 : w.cell? ⟨b, 5, none⟩ = some (.slice (some ⟨A.fb, 0, none⟩) n n) := h1.c 5 (by omega)
  have c6 : w.cell? ⟨b, 6, none⟩ = some (.map (some A.mb)) := h1.c 6 (by omega)
  have cf := h1.cf hfn
  rw [hfm] at cf
  have hmp : r.mp (id : Int) = none := by
    cases e : r.mp (id : Int) with
    | none => rfl
    | some a =>
      obtain ⟨a1, a2, a3⟩ := (h2.mp _ a).1 e
      obtain ⟨j, hj⟩ := List.getElem?_of_mem a1
      have hL := h2.get hj
      have := (hk.el _ (mem_get hL)).1
      exact (hong _ (mem_get hL) (by omega) (by omega)).elim
  have hlk := h1.mp.look_ok_run MVg (x := (id : Nat)) (wfU hu)
  have hmpn : mpF r.mp (id : Int) = none := by unfold mpF; rw [hmp]; rfl
  rw [hmpn] at hlk
  simp only [Option.getD_none, Option.isSome_none] at hlk
  have HCO := Lib.hid (fun W (g : Fr NoF w W) => ck_come (h1.fr0 g) ⟨id, f, false, false, true⟩ hs (ids_or h2))
  have hr0 := h2.come (y := ⟨id, f, false, false, true⟩) hk hs hni hns rfl hfn hfm hon
  have lb := h1.hd.lt
  have lf := h1.fb.lt
  have g2 : (0 : Int) ≤ (f : Int) := by omega
  have g3 : (f : Int) < (n : Int) := by omega
  have HK : Hid (∀ W, PC W b n A (r.come ⟨id, f, false, false, true⟩) → Fr (FPr A b) w W → PA n b A (W.setCell ⟨A.fb, f, none⟩ (.int .i64 (x : Nat))) (s.lay ⟨id, f, false, false, true⟩) ∧ Fr (FPr A b) w (W.setCell ⟨A.fb, f, none⟩ (.int .i64 (x : Nat)))) := fun W hW fW => by
    refine ⟨⟨_, hW.setFm (i := f) (x : Int), ?_⟩, fW.setCell (p := ⟨A.fb, f, none⟩) (.inl (.inr (.inr (.inl rfl)))) _⟩
    have e1 : (r.come ⟨id, f, false, false, true⟩).hot = r.hot := by
      unfold Raw.come
      exact (lay_ids_e _).2.2.2.1
    have e2 : (r.come ⟨id, f, false, false, true⟩).fm = r.fm := by
      unfold Raw.come
      exact (lay_ids_e _).2.2.2.2.2.1
    rw [e2]
    have e3 : ({ r.come ⟨id, f, false, false, true⟩ with fm := upd r.fm f (x : Int) } : Raw) = { r.come ⟨id, f, false, false, true⟩ with fm := upd r.fm f (x : Int), hot := r.hot + (if (⟨id, f, false, false, true⟩ : En).hot = true then 1 else 0) } := by
      rw [← e1]; rfl
    rw [e3]; exact hr0
  unfold enV at HCO
  clear h1 h2 hk hno hong hl hu hfm hmp hmpn hs hni hns hr0
  generalize s.lay ⟨id, f, false, false, true⟩ = s1 at *
  go_enter Try.func19, Try.ntmps19
  go_wp2_with (go_at_call 33; refine HI.out.mono ?_; rintro e w' ⟨rfl, rfl⟩)
  clear hlk cf
  go_region_with (go_at_call 34; (with_reducible refine (HCO.out _ (by repeat (first | exact Fr.refl NoF _ | apply Fr.drew | apply Fr.drewN))).mono ?_); rintro e w1 ⟨rfl, h3, f3⟩; have d5 : w1.cell? ⟨b, 5, none⟩ = some (.slice (some ⟨A.fb, 0, none⟩) n n) := h3.c 5 (by omega); have fz := h3.fb.frozen f; have cf3 := h3.cf hfn; have lf1 := h3.fb.lt; have lb1 := h3.hd.lt; have H3 := Lib.hid h3; have F3 := Lib.hid f3; clear h3 f3)
  all_goals
    have KEY := Lib.hid (HK.out _ H3.out (((Fr.refl (FPr A b) w).drew).trans F3.out (fun i q => .inl q)))
    clear HK H3 F3 HCO c5 c6
    go_wp2
    go_returns
    exact ⟨rfl, KEY.out⟩
set_option maxRecDepth 100000 in
set_option maxHeartbeats 8000000 in
theorem pa_come1 (h : PA n b A w s) (hk : PK n n s) (hfn : f < n) (hno : ∀ z ∈ s.L, ¬ z.fr = (f : Int)) (hon : s.on f = false) (hl : s.L.length < 2 * n) (hu : id < 4294967296) (hg : s.L[i]? = some y) (hg1 : y.fr = -1) (hg2 : y.pg = id) (h0 : 1 ≤ id) (hn : n ≤ 30000)
    (hpk : PK n n (({ s with goal := min (s.goal + 1) (max (n - 1) 1) }.drop i).lay ⟨id, f, true, false, false⟩)) :
    Calls Try.prog 19 #[.pointer (some ⟨b, 0, none⟩), .int .i64 f, .int .u32 id] w fun e w' => e = .returned (.tuple #[]) ∧ PA n b A w' ((({ s with goal := min (s.goal + 1) (max (n - 1) 1) }.drop i).lay ⟨id, f, true, false, false⟩).cool n) ∧ Fr (FPr A b) w w' := by
  obtain ⟨r, h1, h2⟩ := h
  have hfm := fm_none h2 hfn hno
  obtain ⟨g, hgx, eg⟩ := h2.rl.id hg
  subst eg
  have hgm := List.mem_of_getElem? hgx
  have hg2x := h1.lists.2.2.1 g hgm
  have HI := Lib.hid (pr_isFrame h1 hfn)
  have c5 : w.cell? ⟨b, 5, none⟩ = some (.slice (some ⟨A.fb, 0, none⟩) n n) := h1.c 5 (by omega)
  have c6 : w.cell? ⟨b, 6, none⟩ = some (.map (some A.mb)) := h1.c 6 (by omega)
  have c7 : w.cell? ⟨b, 7, none⟩ = some (.int .i64 (r.goal : Nat)) := h1.c 7 (by omega)
  have fb7 := h1.hd.frozen 7
  have cf := h1.cf hfn
  rw [hfm] at cf
  have hmp : r.mp (id : Int) = some g := (h2.mp _ g).2 ⟨hgm, by omega, by omega⟩
  have hlk := h1.mp.look_ok_run MVg (x := (id : Nat)) (wfU hu)
  have hmpn : mpF r.mp (id : Int) = some (.int .i64 (g : Nat)) := by unfold mpF; rw [hmp]; rfl
  rw [hmpn] at hlk
  simp only [Option.getD_some, Option.isSome_some] at hlk
  have hn1 := hk.n1
  have hgl := hk.gl
  have hgo := h2.goal
  have HGR := Lib.hid (fun W (g : Fr NoF w W) => pr_greatest (h1.fr0 g) hn1)
  have hht := h2.hot_le
  -- behind the goal
  have hr1 : Rf n { r with goal := min (s.goal + 1) (max (n - 1) 1) } { s with goal := min (s.goal + 1) (max (n - 1) 1) } := h2.goals _
  have hr2 := hr1.ghost (i := i) (x := g) hgx (by show (r.e g).fr < 0; omega)
  have HDROP : Hid (∀ W, PC W b n A { r with goal := min (s.goal + 1) (max (n - 1) 1) } → Calls Try.prog 35 #[.pointer (some ⟨b, 0, none⟩), .int .i64 g] W fun e w' => e = .returned (.tuple #[]) ∧ PC w' b n A (Raw.pdrop { r with goal := min (s.goal + 1) (max (n - 1) 1) } g) ∧ Fr (FPr A b) W w') := fun W hW => by
    obtain ⟨_, q2, _, _⟩ := hk.el _ (mem_get hg)
    exact pr_drop hW (x := g) hgm (by show (r.e g).pg < _; exact q2.2) (fun q => h2.hot_pos hgm q) (by show r.hot ≤ _; omega)
  have hno2 : ∀ z ∈ ({ s with goal := min (s.goal + 1) (max (n - 1) 1) }.drop i).L, ¬ z.fr = (f : Int) := fun z hz => hno z (List.mem_of_mem_eraseIdx hz)
  have hfm2 := fm_none hr2 hfn hno2
  have hl2 : ({ s with goal := min (s.goal + 1) (max (n - 1) 1) }.drop i).L.length < 2 * n := by show (s.L.eraseIdx i).length < _; have := List.length_eraseIdx_le (l := s.L) (i := i); omega
  have hk2 : PK n n ({ s with goal := min (s.goal + 1) (max (n - 1) 1) }.drop i) := PK.drop (s := { s with goal := min (s.goal + 1) (max (n - 1) 1) }) ⟨hk.hl, hk.uq, hk.el, hk.ng, by show 1 ≤ min (s.goal + 1) (max (n - 1) 1) ∧ min (s.goal + 1) (max (n - 1) 1) ≤ _; omega, hk.n1⟩ hg
  generalize hr3e : Raw.pdrop { r with goal := min (s.goal + 1) (max (n - 1) 1) } g = r3 at *
  have hon2 : ({ s with goal := min (s.goal + 1) (max (n - 1) 1) }.drop i).on f = false := hon
  generalize hs3e : ({ s with goal := min (s.goal + 1) (max (n - 1) 1) } : PrS).drop i = s3 at *
  have HCOME : Hid (∀ W, PC W b n A r3 → ∃ x : Nat, (∀ W', Fr NoF W W' → Calls Try.prog 34 #[.pointer (some ⟨b, 0, none⟩), enV ⟨id, f, true, false, false⟩ false] W' fun e w' => e = .returned (.int .i64 (x : Nat)) ∧ PC w' b n A (r3.come ⟨id, f, true, false, false⟩) ∧ Fr (FPr A b) W' w') ∧
      Rf n { r3.come ⟨id, f, true, false, false⟩ with fm := upd r3.fm f (x : Int), hot := r3.hot + 1 } (s3.lay ⟨id, f, true, false, false⟩)) := fun W hW => by
    obtain ⟨x, sp', hs, hni, hns⟩ := spare_one hW hr2 hl2
    exact ⟨x, fun W' g => ck_come (hW.fr0 g) _ hs (ids_or hr2), hr2.come (y := ⟨id, f, true, false, false⟩) hk2 hs hni hns rfl hfn hfm2 hon2⟩
  have hh3 := hr2.hot_le
  have HCE : Hid ((r3.come ⟨id, f, true, false, false⟩).hot = r3.hot ∧ (r3.come ⟨id, f, true, false, false⟩).fm = r3.fm) := by
    unfold Raw.come
    exact ⟨(lay_ids_e _).2.2.2.1, (lay_ids_e _).2.2.2.2.2.1⟩
  have HCOOL : Hid (∀ W, PA n b A W (s3.lay ⟨id, f, true, false, false⟩) → Calls Try.prog 36 #[.pointer (some ⟨b, 0, none⟩)] W fun e w' => e = .returned (.tuple #[]) ∧ PA n b A w' ((s3.lay ⟨id, f, true, false, false⟩).cool n) ∧ Fr (FPr A b) W w') := fun W hW => pa_cool hW hpk hn
  have HG7 : Hid (∀ (W : World) (z : Int), Fr NoF w W → z = ((min (s.goal + 1) (max (n - 1) 1) : Nat) : Int) → PC (W.setCell ⟨b, 7, none⟩ (.int .i64 z)) b n A { r with goal := min (s.goal + 1) (max (n - 1) 1) } ∧ Fr (FPr A b) w (W.setCell ⟨b, 7, none⟩ (.int .i64 z))) := fun W z g e => by
    subst e
    exact ⟨(h1.fr0 g).setHead (r' := { r with goal := min (s.goal + 1) (max (n - 1) 1) }) (prH_goal _ _ _ _ _) rfl, (g.mono (fun _ q => q.elim)).setCell (p := ⟨b, 7, none⟩) (.inl (.inl rfl)) _⟩
  have lb := h1.hd.lt
  have g2 : (0 : Int) ≤ (f : Int) := by omega
  have g3 : (f : Int) < (n : Int) := by omega
  have k1 : (r.goal : Int) ≤ 70000 := by omega
  have k2 : IntKind.i64.wrap ((r.goal : Int) + 1) = (r.goal : Int) + 1 := wrap_small (by omega) (by omega)
  have k3 : min (s.goal + 1) (max (n - 1) 1) = r.goal + 1 ∨ min (s.goal + 1) (max (n - 1) 1) = max (n - 1) 1 := by omega
  have k4 : min (s.goal + 1) (max (n - 1) 1) ≤ r.goal + 1 := by omega
  have k5 : min (s.goal + 1) (max (n - 1) 1) ≤ max (n - 1) 1 := by omega
  have K345 := Lib.hid (And.intro k3 (And.intro k4 k5))
  clear h1 h2 hk hno hon hl hu hg hg1 hg2 h0 hpk hfm hmp hmpn hr1 hr2 hno2 hfm2 hl2 hk2 hon2 hr3e hs3e hgm hgx hgl hgo hn1 k3 k4 k5
  generalize min (s.goal + 1) (max (n - 1) 1) = gg at *
  generalize max (n - 1) 1 = gm at *
  generalize (s3.lay ⟨id, f, true, false, false⟩).cool n = fin at *
  unfold enV at HCOME
  go_enter Try.func19, Try.ntmps19
  go_wp2_with (go_at_call 33; refine HI.out.mono ?_; rintro e w' ⟨rfl, rfl⟩)
  clear hlk cf HI
  go_region_with (go_at_call 17; (with_reducible refine (HGR.out _ (by repeat (first | exact Fr.refl NoF _ | apply Fr.drew | apply Fr.drewN))).mono ?_); rintro e w1 ⟨rfl, rfl⟩)
  all_goals
    have e7 : (if ((gm : Nat) : Int) < (r.goal : Int) + 1 then (gm : Int) else (r.goal : Int) + 1) = ((gg : Nat) : Int) := by
      obtain ⟨a1, a2, a3⟩ := K345.out
      split <;> omega
    rw [e7]
    obtain ⟨hp, fp⟩ := HG7.out w _ (Fr.refl NoF w) rfl
    have hp1 := hp.fr0 (Fr.refl NoF _).drew
    have FP1 := Lib.hid fp.drew
    have HD1 := Lib.hid (HDROP.out _ hp1)
    clear hp fp hp1 HG7 HDROP K345 HGR e7 k1 k2 c5 c6 c7 fb7 hht
    generalize (w.setCell ⟨b, 7, none⟩ (.int .i64 ((gg : Nat) : Int))).drew = wd at *
    go_wp2_with fail
    refine HD1.out.mono ?_
    clear HD1
    rintro e w2 ⟨rfl, h3, f3⟩
    obtain ⟨x, hco, hrf⟩ := HCOME.out _ h3
    have HCO := Lib.hid hco
    have HRF := Lib.hid hrf
    have F3 := Lib.hid (FP1.out.trans f3 (fun i q => .inl q))
    have c5 : w2.cell? ⟨b, 5, none⟩ = some (.slice (some ⟨A.fb, 0, none⟩) n n) := h3.c 5 (by omega)
    have lb2 := h3.hd.lt
    clear h3 f3 hco hrf HCOME
    go_wp2_with fail
    go_region_with (go_at_call 34; (with_reducible refine (HCO.out _ (by repeat (first | exact Fr.refl NoF _ | apply Fr.drew | apply Fr.drewN))).mono ?_); rintro e w1 ⟨rfl, h3, f3⟩; have d5 : w1.cell? ⟨b, 5, none⟩ = some (.slice (some ⟨A.fb, 0, none⟩) n n) := h3.c 5 (by omega); have fz := h3.fb.frozen f; have cf3 := h3.cf hfn; have lf1 := h3.fb.lt; have lb1 := h3.hd.lt; have H3 := Lib.hid h3; have F4 := Lib.hid f3; clear h3 f3)
    all_goals
      have h4 := H3.out.setFm (i := f) (x : Int)
      have f4 : Fr (FPr A b) w _ := (((F3.out.trans (G := NoF) ((Fr.refl NoF w2).drew) (fun _ q => q.elim)).trans F4.out (fun i q => .inl q))).setCell (p := ⟨A.fb, f, none⟩) (.inl (.inr (.inr (.inl rfl)))) (.int .i64 (x : Int))
      have hc2 := HCE.out.2
      have hc1 := HCE.out.1
      rw [hc2] at h4
      have c8 := h4.c 8 (by omega)
      have c8' : (w1.setCell ⟨A.fb, f, none⟩ (.int .i64 (x : Int))).cell? ⟨b, 8, none⟩ = some (.int .i64 (r3.hot : Nat)) := by rw [c8, ← hc1]; rfl
      have fz8 := h4.hd.frozen 8
      have lb8 := h4.hd.lt
      have h5 := h4.setHead (i := 8) (u := .int .i64 ((r3.hot + 1 : Nat) : Int)) (r' := { r3.come ⟨id, f, true, false, false⟩ with fm := upd r3.fm f (x : Int), hot := r3.hot + 1 }) (prH_hot _ _ _ _ _) rfl
      have f5 := f4.setCell (p := ⟨b, 8, none⟩) (.inl (.inl rfl)) (.int .i64 ((r3.hot + 1 : Nat) : Int))
      have e8 : ((r3.hot + 1 : Nat) : Int) = (r3.hot : Int) + 1 := by omega
      rw [e8] at h5 f5
      have HC5 := Lib.hid (HCOOL.out _ (⟨_, h5, HRF.out⟩ : PA n b A _ (s3.lay ⟨id, f, true, false, false⟩)))
      have F5 := Lib.hid f5
      have h3b : (r3.hot : Int) ≤ 70000 := by omega
      clear h4 f4 hc1 hc2 c8 h5 f5 e8 H3 F4 HCO HRF HCE HCOOL d5 fz cf3 lf1 lb1 c5 lb2 F3
      generalize w1.setCell ⟨A.fb, f, none⟩ (.int .i64 (x : Int)) = w5 at *
      go_wp2_with fail
      refine HC5.out.mono ?_
      clear HC5
      rintro e w6 ⟨rfl, h6, f6⟩
      have KEY := Lib.hid (And.intro h6 (F5.out.trans f6 (fun i q => .inl q)))
      clear h6 f6
      go_wp2
      go_returns
      exact ⟨rfl, KEY.out⟩
end
end Go.Proofs.Ytoainbdkhhblbaa
namespace Go.Proofs.Ytoainbdkhhblbaa
open Go.RowKit Go.Maps
set_option linter.unusedVariables false
set_option linter.unusedSimpArgs false

def ghF (l : List En) : List Nat := (l.filter (fun e => decide (e.fr < 0))).map (fun e => e.pg)
theorem ghF_snoc (l : List En) (y : En) : ghF (l ++ [y]) = ghF l ++ (if y.fr < 0 then [y.pg] else []) := by
  unfold ghF
  rw [List.filter_append, List.map_append]
  congr 1
  by_cases h : y.fr < 0
  · simp [List.filter_cons, h]
  · simp [List.filter_cons, h]
section
variable {w w' : World} {b n m : Nat} {A : AP} {r : Raw} {s : PrS} {i x f id : Nat} {y : En}
set_option maxRecDepth 100000 in
set_option maxHeartbeats 8000000 in
theorem pa_ghosts (h : PA n b A w s) (hk : PK n m s) (hn : n ≤ 30000) : Calls Try.prog 22 #[.pointer (some ⟨b, 0, none⟩)] w fun e w' => ∃ v, e = .returned v ∧ SlK .u32 w' v s.ghR ∧ Fr NoF w w' := by
  obtain ⟨r, h1, h2⟩ := h
  obtain ⟨i0, hi0, hz0, hz1, hz2⟩ := info_parts' (P := Try.prog) (e := 34) (z := .int .u32 0) (s := 1) (b := 4) (by kernel_rfl)
  have hmc : r.mc ≤ 70000 := by
    rw [h2.mc]
    have := List.countP_le_length (p := fun e : En => decide (e.fr < 0)) (l := s.L)
    have := h2.len
    have := h2.tot
    unfold PrS.gone
    omega
  have mk1 : ∀ (w : World), (Instr.makeSlice 35 (.int .i64 0) (.int .i64 (r.mc : Int))).run Try.prog w =
      .ok (.slice (some ⟨w.heap.size, 0, none⟩) 0 r.mc) (w.alloc (.cells (madeCells #[.int .u32 0] r.mc) 34)) := by
    intro w
    have := run_make (P := Try.prog) w 35 34 i0 _ Try.underlying35 hi0 hz0 .i64 .i64 (0 : Int) (r.mc : Int) (by omega) (by omega) (by rw [hz2]; omega) (by omega)
    rw [show (r.mc : Int).toNat = r.mc from by omega, hz1, Nat.mul_one] at this
    exact this
  have hle := h2.len
  have hll : r.ids.length ≤ 70000 := by have := h2.tot; omega
  have c6 : w.cell? ⟨b, 6, none⟩ = some (.map (some A.mb)) := h1.c 6 (by omega)
  have hlr := MpV.len_run MVg h1.mp 3
  have H1 := Lib.hid h1
  have HL := Lib.hid (fun W (g : Fr NoF w W) => ck_len (h1.fr0 g))
  -- what stands k steps on
  have HAT : Hid (∀ k, k < s.L.length → ∃ x, r.ids[(s.hd 0 + k) % s.L.length]? = some x ∧ x < 2 * n ∧ x ∈ r.ids ∧ (s.rot 0)[k]? = some (r.e x) ∧ (r.e x).pg < 4294967296 ∧ -1 ≤ (r.e x).fr) := by
    intro k hkl
    have hlt : (s.hd 0 + k) % s.L.length < r.ids.length := by rw [← hle]; exact Nat.mod_lt _ (by omega)
    have hg := h2.get (List.getElem?_eq_getElem hlt)
    have hd0 := hk.lt (by omega : 0 < s.L.length) (j := 0) (by omega)
    obtain ⟨q1, q2, _, _⟩ := hk.el _ (mem_get hg)
    exact ⟨r.ids[(s.hd 0 + k) % s.L.length], List.getElem?_eq_getElem hlt, h1.lists.2.2.1 _ (List.getElem_mem hlt), List.getElem_mem hlt, by rw [rot_get hd0 hkl]; exact hg, q2.2, q1.1⟩
  have HN : Hid (∀ k x, r.ids[(s.hd 0 + k) % s.L.length]? = some x → r.ids[(s.hd 0 + (k + 1)) % s.L.length]? = some (nxt r.ids x)) := by
    intro k x hx
    have := nxt_at h2.rl.nd hx
    rw [← hle, Nat.mod_add_mod] at this
    rw [← Nat.add_assoc]; exact this
  have HX0 : Hid (0 < s.L.length → r.ids[(s.hd 0 + 0) % s.L.length]? = some (r.h 0)) := by
    intro hp
    have hd0 := hk.lt hp (j := 0) (by omega)
    rw [Nat.add_zero, Nat.mod_eq_of_lt hd0]
    exact h2.rl.hands (by omega) (fun c => by rw [c] at hle; simp at hle; rw [hle] at hp; simp at hp)
  have HRL : Hid ((s.rot 0).length = s.L.length) := by
    unfold Hid PrS.rot
    rw [List.length_append, List.length_drop, List.length_take]
    rcases hk.hl 0 (by omega) with q | ⟨q, q2⟩
    · omega
    · rw [q, q2]; rfl
  have HGR : Hid (s.ghR = ghF (s.rot 0)) := rfl
  have HHL : Hid (s.L.length = r.ids.length) := hle
  have lb := h1.hd.lt
  clear h1 h2 hk hle
  generalize s.rot 0 = rt at *
  generalize s.L.length = sl at *
  generalize s.hd 0 = hd at *
  rw [HHL.out] at HAT HN HX0 HRL
  clear HHL
  generalize r.mc = mc at *
  have mk := mk1 w
  clear mk1
  go_enter Try.func22, Try.ntmps22
  go_upto_region 4 with fail
  have fA : Fr NoF w (w.alloc (.cells (madeCells #[.int .u32 0] mc) 34)) := (Fr.refl NoF w).alloc _
  have hro : (w.alloc (.cells (madeCells #[.int .u32 0] mc) 34)).ownsRow w.heap.size 34 1 (.slice (some ⟨w.heap.size, 0, none⟩) 0 mc) 0 [] :=
    ⟨rfl, .inr ⟨w.heap.size, mc, _, rfl, Nat.le_refl _, heap_alloc_new _ _ _ rfl, Nat.zero_le _, by unfold maxLen; omega, by simp [size_madeCells], by simp⟩⟩
  have FA := Lib.hid fA
  have HRO := Lib.hid hro
  clear fA hro mk c6 hlr
  generalize w.alloc (.cells (madeCells #[.int .u32 0] mc) 34) = wA at *
  have c2 : wA.cell? ⟨b, 2, none⟩ = some (.int .i64 (r.h 0 : Nat)) := (H1.out.fr0 FA.out).hand (j := 0) (by omega)
  have lbA := (H1.out.fr0 FA.out).hd.lt
  go_wp2_with (go_at_call 38; refine (HL.out _ FA.out).mono ?_; rintro e w' ⟨rfl, rfl⟩)
  clear c2 lbA HL
  have HLEN := Lib.hid hll
  generalize hlen : r.ids.length = len at *
  have HLN := Lib.hid hlen
  clear hlen hll
  go_loopw [3, 4, 24] (fun o v i wr => ∃ k x : Nat, k ≤ len ∧ i = .int .i64 k ∧ v = .int .i64 x ∧ (k < len → r.ids[(hd + k) % len]? = some x) ∧ wr.ownsRow w.heap.size 34 1 o (ghF (rt.take k)).length ((ghF (rt.take k)).map fun (x : Nat) => Value.int .u32 (x : Int)) ∧ Fr NoF w wr) (fun _ _ i _ => len - (intOf i).toNat)
  case atStart => exact ⟨0, r.h 0, Nat.zero_le _, rfl, rfl, fun q => HX0.out q, HRO.out, FA.out⟩
  case round =>
    obtain ⟨k, x, hkl, rfl, rfl, hx, ho, hf⟩ := hrel
    clear HX0 HRO FA
    have HO := Lib.hid ho
    have HF := Lib.hid hf
    by_cases hlt : k < len
    · have HX := Lib.hid (HN.out k x (hx hlt))
      obtain ⟨x', hx', hx2, hxm, hrt, hpg, hfr⟩ := HAT.out k hlt
      rw [hx hlt] at hx'
      simp only [Option.some.injEq] at hx'
      subst hx'
      have hc := H1.out.fr0 hf
      have c1 : wr.cell? ⟨b, 1, none⟩ = some (.slice (some ⟨A.eb, 0, none⟩) (2 * n) (2 * n)) := hc.c 1 (by omega)
      obtain ⟨x0, x1, x2, x3, x4, x5⟩ := hc.ce hx2
      have lbr := hc.hd.lt
      have ler := hc.en.lt
      have g0 : (0 : Int) ≤ (x : Int) := by omega
      have g1 : (x : Int) < 2 * (n : Int) := by omega
      have hgl : (ghF (rt.take k)).length ≤ k := by unfold ghF; rw [List.length_map]; exact Nat.le_trans (List.length_filter_le _ _) (List.length_take_le _ _)
      have HT : Hid (rt.take (k + 1) = rt.take k ++ [r.e x]) := by
        unfold Hid
        have hl : k < rt.length := (List.getElem?_eq_some_iff.1 hrt).1
        rw [List.take_succ_eq_append_getElem hl]
        rw [List.getElem?_eq_getElem hl] at hrt
        simp only [Option.some.injEq] at hrt
        rw [hrt]
      have HNE : Hid (∀ W, Fr NoF w W → Calls Try.prog 44 #[.pointer (some ⟨b, 0, none⟩), .int .i64 x] W fun e w' => e = .returned (.int .i64 (nxt r.ids x : Nat)) ∧ ∃ d, W.drewN d = w') := fun W g => ck_next (H1.out.fr0 g) hxm
      have HB : Hid (∀ u0 u1 u2 u3 u4 u5 : Value, Blk (wr.alloc (.cells #[u0, u1, u2, u3, u4, u5] 79)) wr.heap.size 6 (fun i => #[u0, u1, u2, u3, u4, u5].getD i undef)) := fun u0 u1 u2 u3 u4 u5 => Blk.new _ _ _ 6 _ _ rfl rfl (fun i hi => by
        match i, hi with
        | 0, _ => rfl
        | 1, _ => rfl
        | 2, _ => rfl
        | 3, _ => rfl
        | 4, _ => rfl
        | 5, _ => rfl)
      have HLT := Lib.hid hlt
      have HTG : Hid (ghF (rt.take (k + 1)) = ghF (rt.take k) ++ (if (r.e x).fr < 0 then [(r.e x).pg] else [])) := by unfold Hid; rw [HT.out, ghF_snoc]
      clear hc hx hxm hrt ho hf HT
      generalize ghF (rt.take k) = gl at *
      go_upto_region 8 with fail
      have b3 := HB.out (.int .u32 ((r.e x).pg : Nat)) (.int .i64 (r.e x).fr) (.bool (r.e x).hot) (.bool (r.e x).ref) (.bool (r.e x).test) (.bool (r.v x))
      have f3 : Fr NoF w (wr.alloc (.cells #[.int .u32 ((r.e x).pg : Nat), .int .i64 (r.e x).fr, .bool (r.e x).hot, .bool (r.e x).ref, .bool (r.e x).test, .bool (r.v x)] 79)) := HF.out.alloc _
      have o3 : (wr.alloc (.cells #[.int .u32 ((r.e x).pg : Nat), .int .i64 (r.e x).fr, .bool (r.e x).hot, .bool (r.e x).ref, .bool (r.e x).test, .bool (r.v x)] 79)).ownsRow w.heap.size 34 1 u3 gl.length (gl.map fun (x : Nat) => Value.int .u32 (x : Int)) := HO.out.alloc _
      clear HB c1 x0 x1 x2 x3 x4 x5 HO HF
      generalize wr.alloc (.cells #[.int .u32 ((r.e x).pg : Nat), .int .i64 (r.e x).fr, .bool (r.e x).hot, .bool (r.e x).ref, .bool (r.e x).test, .bool (r.v x)] 79) = w3 at *
      have d0 := b3.cell (i := 0) (by omega)
      have d1 := b3.cell (i := 1) (by omega)
      simp only [Array.getD, List.getElem_toArray, List.getElem_cons_zero, List.getElem_cons_succ] at d0 d1
      have ld := b3.lt
      have O3 := Lib.hid o3
      have F3 := Lib.hid f3
      clear b3 o3 f3
      generalize hgg : (r.e x).pg = pg at *
      generalize hff : (r.e x).fr = fr at *
      have HGG := Lib.hid hgg
      have HFF := Lib.hid hff
      clear hgg hff
      have hkb : k ≤ 70000 := by have := HLT.out; have := HLEN.out; omega
      have hgl2 : gl.length ≤ 70000 := by have := HLT.out; have := HLEN.out; omega
      by_cases hg : fr < 0
      · obtain rfl : fr = -1 := by omega
        have HU : Hid (ghF (rt.take (k + 1)) = gl ++ [pg]) := by have := HTG.out; rw [if_pos (show (-1 : Int) < 0 by omega)] at this; exact this
        clear HTG
        go_wp2_with (first
          | (at_builtin; go_must (refine app1 (w0 := w) rfl _ _ 35 rfl 34 i0 (.int .u32 0) 1 4 Try.underlying35 hi0 hz0 hz1 hz2 rfl (by decide) u3 gl.length _ (by rfl) F3.out #[.int .u32 (pg : Nat)] O3.out w3.heap.size rfl (by rfl) rfl (by simp [Value.oneCell']) (by omega) (by omega) 34 ?_); intro v' w2 hown' hf'; clear F3 O3)
          | (go_at_call 44; (refine (HNE.out _ hf').mono ?_); rintro e w' ⟨rfl, d, rfl⟩))
        go_roundw
        case rel => exact ⟨k + 1, _, HLT.out, by go_num, rfl, fun _ => HX.out, by rw [HU.out, List.length_append, List.map_append]; exact own_keep hown' ((Fr.refl NoF _).drewN d) (fun _ _ q => q), hf'.drewN d⟩
        case measure => have := HLT.out; simp [intOf]; omega
      · have HU : Hid (ghF (rt.take (k + 1)) = gl) := by have := HTG.out; rw [if_neg hg, List.append_nil] at this; exact this
        have hne : (fr == -1) = false := by simp; omega
        clear HTG
        go_wp2_with (go_at_call 44; (refine (HNE.out _ F3.out).mono ?_); rintro e w' ⟨rfl, d, rfl⟩)
        go_roundw
        case rel => exact ⟨k + 1, _, HLT.out, by go_num, rfl, fun _ => HX.out, by rw [HU.out]; exact own_keep O3.out ((Fr.refl NoF _).drewN d) (fun _ _ q => q), F3.out.drewN d⟩
        case measure => have := HLT.out; simp [intOf]; omega
    · obtain rfl : k = len := by omega
      have HV : Hid (SlK .u32 wr u3 (ghF rt)) := by
        have e1 : rt.take k = rt := List.take_of_length_le (by have := HRL.out; have := HLN.out; omega)
        have := HO.out
        rw [e1] at this
        exact OwK.sl this
      clear ho hf hx hlt hkl
      go_wp2
      go_returns
      exact ⟨_, rfl, by rw [HGR.out]; exact HV.out, HF.out⟩
end
end Go.Proofs.Ytoainbdkhhblbaa
namespace Go.Proofs.Ytoainbdkhhblbaa
open Go.RowKit Go.Maps
set_option linter.unusedVariables false
set_option linter.unusedSimpArgs false

theorem made_at6 {N i : Nat} (hi : i < N) : (madeCells #[Value.int .u32 0, .int .i64 0, .bool false, .bool false, .bool false, .bool false] N)[i]? = some (enF (fun _ => ⟨0, 0, false, false, false⟩) (fun _ => false) i) := by
  rw [made_get hi]
  have h6 : i % 6 < 6 := Nat.mod_lt _ (by omega)
  show some (#[Value.int .u32 0, .int .i64 0, .bool false, .bool false, .bool false, .bool false] : Array Value)[i % 6]! = _
  unfold enF
  generalize i % 6 = k at *
  match k, h6 with
  | 0, _ => rfl
  | 1, _ => rfl
  | 2, _ => rfl
  | 3, _ => rfl
  | 4, _ => rfl
  | 5, _ => rfl
theorem range_put2 (k : Nat) : putL [[], List.range k] 1 k false = [[], List.range (k + 1)] := by
  rw [putL2_1 (by simp)]
  rw [awayN_not (l := List.range k) (fun q => by have := List.mem_range.1 q; omega), List.range_succ]
  rfl
theorem infoEntry : (Try.prog.info? 79).map (fun i => (i.zero, i.size, i.bytes)) = some (some (.agg #[.int .u32 0, .int .i64 0, .bool false, .bool false, .bool false, .bool false]), 6, 24) := by kernel_rfl
set_option maxRecDepth 100000 in
set_option maxHeartbeats 2000000 in
theorem ck_new (N : Nat) (w : World) (hN : N ≤ 200000) :
    Calls Try.prog 16 #[.int .i64 N] w fun e w' => ∃ rb eb FR, e = .returned (.tuple #[.agg #[.pointer (some ⟨rb, 0, none⟩), .slice (some ⟨eb, 0, none⟩) N N, .int .i64 0, .int .i64 0, .int .i64 0], .int .i64 0]) ∧
      RR w' rb N 2 [[], List.range N] FR ∧ Blk w' eb (N * 6) (enF (fun _ => ⟨0, 0, false, false, false⟩) (fun _ => false)) ∧ (∀ i, FR i → w.heap.size ≤ i ∧ ¬ i = eb) ∧ w.heap.size ≤ eb ∧ Fr NoF w w' := by
  obtain ⟨i0, hi0, hz0, hz1, hz2⟩ := info_parts infoEntry
  have mk1 : ∀ w : World, (Instr.makeSlice 50 (.int .i64 (N : Int)) (.int .i64 (N : Int))).run Try.prog w =
      .ok (.slice (some ⟨w.heap.size, 0, none⟩) N N) (w.alloc (.cells (madeCells #[.int .u32 0, .int .i64 0, .bool false, .bool false, .bool false, .bool false] (N * 6)) 79)) := by
    intro w
    have := run_make (P := Try.prog) w 50 79 i0 _ Try.underlying50 hi0 hz0 .i64 .i64 (N : Int) (N : Int) (by omega) (Int.le_refl _) (by rw [hz2]; omega) (by omega)
    rw [show ((N : Int)).toNat = N from by omega, hz1] at this
    exact this
  have HN : Hid (∀ w : World, Calls Try.prog 31 #[.int .i64 N, .int .i64 2] w fun e w' => ∃ b F, e = .returned (.tuple #[.pointer (some ⟨b, 0, none⟩), .int .i64 0]) ∧ RR w' b N 2 (List.replicate 2 []) F ∧ (∀ i, F i → w.heap.size ≤ i) ∧ Fr NoF w w') := fun w => new_yes N 2 w (by omega) (by omega) (by omega)
  clear hi0 hz0 hz1 hz2
  go_enter Try.func16, Try.ntmps16
  go_wp2_with fail
  refine (HN.out _).mono ?_
  clear HN
  rintro e w1 ⟨gr, FG, rfl, hR, hFG, hf⟩
  have hw0 : ¬ FG w.heap.size := fun q => by have := hFG _ q; simp at this; omega
  have hgs := hR.lt
  have hsz := hf.size
  simp only [World.size_alloc] at hsz
  have lw : w.heap.size < w1.heap.size := by omega
  have HFG := Lib.hid hFG
  have HF := Lib.hid hf
  have HR := Lib.hid hR
  have HW0 := Lib.hid hw0
  clear hR hFG hf hw0 hgs
  go_wp2
  go_loopw [6, 17] (fun _ i wr => ∃ k : Nat, k ≤ N ∧ i = .int .i64 k ∧ RR wr gr N 2 [[], List.range k] FG ∧ Fr FG w1 wr) (fun _ i _ => N - (intOf i).toNat)
  case atStart => exact ⟨0, Nat.zero_le _, rfl, HR.out, Fr.refl _ _⟩
  case round =>
    obtain ⟨k, hk, rfl, hR, hf⟩ := hrel
    by_cases hlt : k < N
    · have HB := back_yes hR 1 k (by omega) hlt
      rw [range_put2] at HB
      have HB := Lib.hid HB
      have HF2 := Lib.hid hf
      clear hR hf
      go_wp2_with fail
      refine HB.out.mono ?_
      rintro e w2 ⟨rfl, hR2, f2⟩
      have KEY := Lib.hid (And.intro hR2 (HF2.out.trans f2 (fun _ q => .inl q)))
      clear hR2 f2 HB HF2
      go_wp2
      go_roundw
      case rel => exact ⟨k + 1, hlt, by go_num, KEY.out⟩
      case measure => first | (simp [intOf]; done) | (simp [intOf]; omega)
    · obtain rfl : k = N := by omega
      have hB0 : Blk (w.alloc (.cells #[.pointer none, .slice none 0 0, .int .i64 0, .int .i64 0, .int .i64 0] 52)) w.heap.size 5 (fun i => (#[.pointer none, .slice none 0 0, .int .i64 0, .int .i64 0, .int .i64 0] : Array Value).getD i undef) := Blk.new _ _ _ 5 _ _ rfl rfl (fun i hi => by
        match i, hi with
        | 0, _ => rfl
        | 1, _ => rfl
        | 2, _ => rfl
        | 3, _ => rfl
        | 4, _ => rfl)
      have hB := (hB0.fr HF.out id).fr hf HW0.out
      have r0 : wr.cell? ⟨w.heap.size, 0, none⟩ = some (.pointer none) := hB.cell (i := 0) (by omega)
      have r1 : wr.cell? ⟨w.heap.size, 1, none⟩ = some (.slice none 0 0) := hB.cell (i := 1) (by omega)
      have r2 : wr.cell? ⟨w.heap.size, 2, none⟩ = some (.int .i64 0) := hB.cell (i := 2) (by omega)
      have r3 : wr.cell? ⟨w.heap.size, 3, none⟩ = some (.int .i64 0) := hB.cell (i := 3) (by omega)
      have r4 : wr.cell? ⟨w.heap.size, 4, none⟩ = some (.int .i64 0) := hB.cell (i := 4) (by omega)
      have rf : ∀ i, wr.frozen? ⟨w.heap.size, i, none⟩ = false := hB.frozen
      have hs2 := hf.size
      have lw2 : w.heap.size < wr.heap.size := by omega
      have HRR := Lib.hid hR
      have HF2 := Lib.hid hf
      have HB := Lib.hid hB
      clear hR hf hB hB0
      have hG : Blk ((((((wr.setCell ⟨w.heap.size, 0, none⟩ (.pointer (some ⟨gr, 0, none⟩))).setCell ⟨w.heap.size, 1, none⟩ (.slice (some ⟨wr.heap.size, 0, none⟩) k k)).setCell ⟨w.heap.size, 2, none⟩ (.int .i64 0)).setCell ⟨w.heap.size, 3, none⟩ (.int .i64 0)).setCell ⟨w.heap.size, 4, none⟩ (.int .i64 0)).alloc (.cells (madeCells #[.int .u32 0, .int .i64 0, .bool false, .bool false, .bool false, .bool false] (k * 6)) 79)) w.heap.size 5 _ := (((((HB.out.set 0 _).set 1 _).set 2 _).set 3 _).set 4 _).alloc _
      have r0' : ((((((wr.setCell ⟨w.heap.size, 0, none⟩ (.pointer (some ⟨gr, 0, none⟩))).setCell ⟨w.heap.size, 1, none⟩ (.slice (some ⟨wr.heap.size, 0, none⟩) k k)).setCell ⟨w.heap.size, 2, none⟩ (.int .i64 0)).setCell ⟨w.heap.size, 3, none⟩ (.int .i64 0)).setCell ⟨w.heap.size, 4, none⟩ (.int .i64 0)).alloc (.cells (madeCells #[.int .u32 0, .int .i64 0, .bool false, .bool false, .bool false, .bool false] (k * 6)) 79)).cell? ⟨w.heap.size, 0, none⟩ = some (.pointer (some ⟨gr, 0, none⟩)) := by have := hG.cell (i := 0) (by omega); simpa [upd] using this
      have r1' : ((((((wr.setCell ⟨w.heap.size, 0, none⟩ (.pointer (some ⟨gr, 0, none⟩))).setCell ⟨w.heap.size, 1, none⟩ (.slice (some ⟨wr.heap.size, 0, none⟩) k k)).setCell ⟨w.heap.size, 2, none⟩ (.int .i64 0)).setCell ⟨w.heap.size, 3, none⟩ (.int .i64 0)).setCell ⟨w.heap.size, 4, none⟩ (.int .i64 0)).alloc (.cells (madeCells #[.int .u32 0, .int .i64 0, .bool false, .bool false, .bool false, .bool false] (k * 6)) 79)).cell? ⟨w.heap.size, 1, none⟩ = some (.slice (some ⟨wr.heap.size, 0, none⟩) k k) := by have := hG.cell (i := 1) (by omega); simpa [upd] using this
      have r2' : ((((((wr.setCell ⟨w.heap.size, 0, none⟩ (.pointer (some ⟨gr, 0, none⟩))).setCell ⟨w.heap.size, 1, none⟩ (.slice (some ⟨wr.heap.size, 0, none⟩) k k)).setCell ⟨w.heap.size, 2, none⟩ (.int .i64 0)).setCell ⟨w.heap.size, 3, none⟩ (.int .i64 0)).setCell ⟨w.heap.size, 4, none⟩ (.int .i64 0)).alloc (.cells (madeCells #[.int .u32 0, .int .i64 0, .bool false, .bool false, .bool false, .bool false] (k * 6)) 79)).cell? ⟨w.heap.size, 2, none⟩ = some (.int .i64 0) := by have := hG.cell (i := 2) (by omega); simpa [upd] using this
      have r3' : ((((((wr.setCell ⟨w.heap.size, 0, none⟩ (.pointer (some ⟨gr, 0, none⟩))).setCell ⟨w.heap.size, 1, none⟩ (.slice (some ⟨wr.heap.size, 0, none⟩) k k)).setCell ⟨w.heap.size, 2, none⟩ (.int .i64 0)).setCell ⟨w.heap.size, 3, none⟩ (.int .i64 0)).setCell ⟨w.heap.size, 4, none⟩ (.int .i64 0)).alloc (.cells (madeCells #[.int .u32 0, .int .i64 0, .bool false, .bool false, .bool false, .bool false] (k * 6)) 79)).cell? ⟨w.heap.size, 3, none⟩ = some (.int .i64 0) := by have := hG.cell (i := 3) (by omega); simpa [upd] using this
      have r4' : ((((((wr.setCell ⟨w.heap.size, 0, none⟩ (.pointer (some ⟨gr, 0, none⟩))).setCell ⟨w.heap.size, 1, none⟩ (.slice (some ⟨wr.heap.size, 0, none⟩) k k)).setCell ⟨w.heap.size, 2, none⟩ (.int .i64 0)).setCell ⟨w.heap.size, 3, none⟩ (.int .i64 0)).setCell ⟨w.heap.size, 4, none⟩ (.int .i64 0)).alloc (.cells (madeCells #[.int .u32 0, .int .i64 0, .bool false, .bool false, .bool false, .bool false] (k * 6)) 79)).cell? ⟨w.heap.size, 4, none⟩ = some (.int .i64 0) := by have := hG.cell (i := 4) (by omega); simpa [upd] using this
      have KEY : Hid (RR ((((((wr.setCell ⟨w.heap.size, 0, none⟩ (.pointer (some ⟨gr, 0, none⟩))).setCell ⟨w.heap.size, 1, none⟩ (.slice (some ⟨wr.heap.size, 0, none⟩) k k)).setCell ⟨w.heap.size, 2, none⟩ (.int .i64 0)).setCell ⟨w.heap.size, 3, none⟩ (.int .i64 0)).setCell ⟨w.heap.size, 4, none⟩ (.int .i64 0)).alloc (.cells (madeCells #[.int .u32 0, .int .i64 0, .bool false, .bool false, .bool false, .bool false] (k * 6)) 79)) gr k 2 [[], List.range k] FG ∧ Blk ((((((wr.setCell ⟨w.heap.size, 0, none⟩ (.pointer (some ⟨gr, 0, none⟩))).setCell ⟨w.heap.size, 1, none⟩ (.slice (some ⟨wr.heap.size, 0, none⟩) k k)).setCell ⟨w.heap.size, 2, none⟩ (.int .i64 0)).setCell ⟨w.heap.size, 3, none⟩ (.int .i64 0)).setCell ⟨w.heap.size, 4, none⟩ (.int .i64 0)).alloc (.cells (madeCells #[.int .u32 0, .int .i64 0, .bool false, .bool false, .bool false, .bool false] (k * 6)) 79)) wr.heap.size (k * 6) (enF (fun _ => ⟨0, 0, false, false, false⟩) (fun _ => false)) ∧ (∀ i, FG i → w.heap.size ≤ i ∧ ¬ i = wr.heap.size) ∧ w.heap.size ≤ wr.heap.size ∧ Fr NoF w ((((((wr.setCell ⟨w.heap.size, 0, none⟩ (.pointer (some ⟨gr, 0, none⟩))).setCell ⟨w.heap.size, 1, none⟩ (.slice (some ⟨wr.heap.size, 0, none⟩) k k)).setCell ⟨w.heap.size, 2, none⟩ (.int .i64 0)).setCell ⟨w.heap.size, 3, none⟩ (.int .i64 0)).setCell ⟨w.heap.size, 4, none⟩ (.int .i64 0)).alloc (.cells (madeCells #[.int .u32 0, .int .i64 0, .bool false, .bool false, .bool false, .bool false] (k * 6)) 79))) := by
        have hlt := HRR.out.lt
        have f5 : Fr (fun i => i = w.heap.size) wr (((((wr.setCell ⟨w.heap.size, 0, none⟩ (.pointer (some ⟨gr, 0, none⟩))).setCell ⟨w.heap.size, 1, none⟩ (.slice (some ⟨wr.heap.size, 0, none⟩) k k)).setCell ⟨w.heap.size, 2, none⟩ (.int .i64 0)).setCell ⟨w.heap.size, 3, none⟩ (.int .i64 0)).setCell ⟨w.heap.size, 4, none⟩ (.int .i64 0)) := (((((Fr.refl (fun i => i = w.heap.size) wr).setCell (p := ⟨w.heap.size, 0, none⟩) (.inl rfl) _).setCell (p := ⟨w.heap.size, 1, none⟩) (.inl rfl) _).setCell (p := ⟨w.heap.size, 2, none⟩) (.inl rfl) _).setCell (p := ⟨w.heap.size, 3, none⟩) (.inl rfl) _).setCell (p := ⟨w.heap.size, 4, none⟩) (.inl rfl) _
        have f6 := f5.alloc (.cells (madeCells #[.int .u32 0, .int .i64 0, .bool false, .bool false, .bool false, .bool false] (k * 6)) 79)
        have hsz5 : (((((wr.setCell ⟨w.heap.size, 0, none⟩ (.pointer (some ⟨gr, 0, none⟩))).setCell ⟨w.heap.size, 1, none⟩ (.slice (some ⟨wr.heap.size, 0, none⟩) k k)).setCell ⟨w.heap.size, 2, none⟩ (.int .i64 0)).setCell ⟨w.heap.size, 3, none⟩ (.int .i64 0)).setCell ⟨w.heap.size, 4, none⟩ (.int .i64 0)).heap.size = wr.heap.size := by simp
        have f0 : Fr NoF w wr := ((((Fr.refl NoF w).alloc _).trans HF.out (fun _ q => q.elim))).trans HF2.out (fun i q => .inr (by have := HFG.out i q; simp at this; omega))
        refine ⟨HRR.out.fr f6 (fun i hi e => HW0.out (e ▸ hi)), Blk.new _ _ _ _ _ _ hsz5.symm (by simp [size_madeCells]) (fun i hi => made_at6 hi), fun i q => ⟨by have := HFG.out i q; simp at this; omega, fun e => by have := hlt i q; omega⟩, by omega, f0.trans f6 (fun i e => .inr (by omega))⟩
      clear hG
      go_wp2
      refine bodyPost_ret (v := .tuple #[.agg #[.pointer (some ⟨gr, 0, none⟩), .slice (some ⟨wr.heap.size, 0, none⟩) k k, .int .i64 0, .int .i64 0, .int .i64 0], .int .i64 0]) (by simp only [results, Try.results16, go_sem]; simp [go_sem, r0', r1', r2', r3', r4']) rfl ⟨gr, wr.heap.size, FG, rfl, KEY.out⟩
end Go.Proofs.Ytoainbdkhhblbaa
namespace Go.Proofs.Ytoainbdkhhblbaa
open Go.RowKit Go.Maps
set_option linter.unusedVariables false
set_option linter.unusedSimpArgs false

def raw0 (n k g : Nat) : Raw := ⟨[], List.range (2 * n), fun _ => 0, fun _ => ⟨0, 0, false, false, false⟩, fun _ => false, g, 0, 0, fun i => if i < k then -1 else 0, fun _ => none, 0⟩
def pr0 (n : Nat) : PrS := ⟨[], fun _ => 0, max (n - 1) 1, fun _ => 0, fun _ => false⟩
theorem raw0_step (n k g : Nat) : upd (raw0 n k g).fm k (-1) = (raw0 n (k + 1) g).fm := by
  funext j
  show upd (fun i => if i < k then (-1 : Int) else 0) k (-1) j = if j < k + 1 then (-1 : Int) else 0
  by_cases e : j = k
  · subst e; rw [upd_same, if_pos (by omega)]
  · rw [upd_other _ _ e]
    by_cases q : j < k
    · rw [if_pos (show j < k + 1 by omega)]; exact if_pos q
    · rw [if_neg (show ¬ j < k + 1 by omega)]; exact if_neg q
theorem rf0 (n : Nat) : Rf n (raw0 n n (max (n - 1) 1)) (pr0 n) := by
  refine ⟨⟨rfl, List.nodup_nil, .inl rfl⟩, rfl, rfl, fun x hx => (by cases hx), rfl, fun f hf x hx => ?_, fun f hf x hx => (by cases hx), fun f hf => .inl (if_pos hf), fun p x => ⟨fun q => (by cases q), fun q => (by cases q.1)⟩, rfl, by simp [raw0]⟩
  have hx : (if f < n then (-1 : Int) else 0) = x := hx
  rw [if_pos hf] at hx
  omega
theorem pk0 {n : Nat} (h1 : 1 ≤ n) : PK n n (pr0 n) ∧ PM n (pr0 n) :=
  ⟨⟨fun j hj => .inr ⟨rfl, rfl⟩, fun i j x y hx => by simp [pr0] at hx, fun x hx => (by cases hx), Nat.zero_le _, by show 1 ≤ max (n - 1) 1 ∧ max (n - 1) 1 ≤ max (n - 1) 1; omega, h1⟩, ⟨fun a b k => (by obtain ⟨x, hx, _⟩ := k; cases hx), fun f hf k => ⟨rfl, rfl⟩⟩⟩
/-- Pro in memory, all its blocks. -/
def CRP (b n : Nat) (w : World) (s : PrS) (F : Nat → Prop) : Prop := ∃ A, PA n b A w s ∧ PK n n s ∧ PM n s ∧ ∀ i, F i ↔ FPr A b i
theorem CRP.fr {b n : Nat} {w w' : World} {s : PrS} {F G : Nat → Prop} (h : CRP b n w s F) (f : Fr G w w') (hG : ∀ i, F i → ¬ G i) : CRP b n w' s F := by
  obtain ⟨A, ⟨r, h1, h2⟩, h3, h4, h5⟩ := h
  exact ⟨A, ⟨r, h1.fr f (fun i q => hG i ((h5 i).2 q)), h2⟩, h3, h4, h5⟩
theorem CRP.lt {b n : Nat} {w : World} {s : PrS} {F : Nat → Prop} (h : CRP b n w s F) : ∀ i, F i → i < w.heap.size := by
  obtain ⟨A, ⟨r, h1, h2⟩, h3, h4, h5⟩ := h
  exact fun i q => h1.lt i ((h5 i).1 q)
theorem pr_new_no (n : Int) (w : World) (h : n < 1 ∨ 65535 < n) :
    Calls Try.prog 6 #[.int .i64 n] w fun e w' => e = .returned (.tuple #[.pointer none, .int .i64 1]) ∧ w = w' := by
  by_cases h1 : n < 1
  · clear h
    go_enter Try.func6, Try.ntmps6
    go_wp2
    go_returns
    exact ⟨rfl, rfl⟩
  · have h2 : 65535 < n := by omega
    clear h
    go_enter Try.func6, Try.ntmps6
    go_wp2
    go_returns
    exact ⟨rfl, rfl⟩
theorem MpV.madeP (w : World) : MpV Try.prog 34 .u32 (.int .i64 0) (w.alloc (.map #[] 0)) w.heap.size 0 (mpF fun _ => none) := MpV.made Try.prog 34 .u32 (.int .i64 0) w
theorem pc0 {n : Nat} {w w1 wz : World} {rb eb b fb mb : Nat} {FR : Nat → Prop} (hn : n ≤ 65535) (hR : RR w1 rb (2 * n) 2 [[], List.range (2 * n)] FR) (hE : Blk w1 eb (2 * n * 6) (enF (fun _ => ⟨0, 0, false, false, false⟩) (fun _ => false))) (hFR : ∀ i, FR i → w.heap.size ≤ i ∧ ¬ i = eb) (heb : w.heap.size ≤ eb) (hs : w.heap.size ≤ w1.heap.size)
    (fz : Fr NoF w1 wz) (g1 : wz.heap[fb]? = some (.cells (madeCells #[.int .i64 0] n) 3 (0, 0))) (g2 : MpV Try.prog 34 .u32 (.int .i64 0) wz mb 0 (mpF fun _ => none))
    (g3 : wz.heap[b]? = some (.cells #[.pointer (some ⟨rb, 0, none⟩), .slice (some ⟨eb, 0, none⟩) (2 * n) (2 * n), .int .i64 0, .int .i64 0, .int .i64 0, .slice (some ⟨fb, 0, none⟩) n n, .map (some mb), .int .i64 0, .int .i64 0, .int .i64 0] 58 (0, 0)))
    (d1 : ¬ b = fb) (d2 : ¬ b = mb) (d3 : ¬ fb = mb) (l1 : w1.heap.size ≤ b) (l2 : w1.heap.size ≤ fb) (l3 : w1.heap.size ≤ mb) : ∃ A, PC wz b n A (raw0 n 0 0) ∧ ∀ i, FPr A b i → w.heap.size ≤ i := by
  have hrl := hR.lt
  have hel := hE.lt
  let A : AP := ⟨rb, eb, fb, mb, FR, fun i => open Classical in if i = b then 0 else if i = eb then 1 else if i = fb then 2 else if i = mb then 3 else 4⟩
  have hL : LP b A := by
    refine ⟨if_pos rfl, ?_, ?_, ?_, fun i q => ?_⟩
    · show (if eb = b then 0 else _) = 1
      rw [if_neg (show ¬ eb = b by omega), if_pos rfl]
    · show (if fb = b then 0 else _) = 2
      rw [if_neg (fun e => d1 e.symm), if_neg (show ¬ fb = eb by omega), if_pos rfl]
    · show (if mb = b then 0 else _) = 3
      rw [if_neg (fun e => d2 e.symm), if_neg (show ¬ mb = eb by omega), if_neg (fun e => d3 e.symm), if_pos rfl]
    · have := hrl i q
      have := (hFR i q).2
      show (if i = b then 0 else _) = 4
      rw [if_neg (show ¬ i = b by omega), if_neg this, if_neg (show ¬ i = fb by omega), if_neg (show ¬ i = mb by omega)]
  refine ⟨A, ⟨⟨_, _, g3, rfl, fun i hi => ?_⟩, hR.fr fz (fun _ _ q => q), hE.fr fz id, ⟨_, _, g1, by simp [size_madeCells], fun i hi => ?_⟩, g2, hL, hn⟩, fun i q => ?_⟩
  · match i, hi with
    | 0, _ => rfl
    | 1, _ => rfl
    | 2, _ => rfl
    | 3, _ => rfl
    | 4, _ => rfl
    | 5, _ => rfl
    | 6, _ => rfl
    | 7, _ => rfl
    | 8, _ => rfl
    | 9, _ => rfl
  · rw [made_at hi, show (#[Value.int .i64 0] : Array Value).size = 1 from rfl, Nat.mod_one]; rfl
  · rcases q with e | e | e | e | q
    · rw [e]; omega
    · rw [e]; exact heb
    · rw [e]; show w.heap.size ≤ fb; omega
    · rw [e]; show w.heap.size ≤ mb; omega
    · exact (hFR i q).1
set_option maxRecDepth 100000 in
set_option maxHeartbeats 4000000 in
theorem pr_new_yes (n : Nat) (w : World) (h1 : 1 ≤ n) (hn : n ≤ 65535) :
    Calls Try.prog 6 #[.int .i64 n] w fun e w' => ∃ b F, e = .returned (.tuple #[.pointer (some ⟨b, 0, none⟩), .int .i64 0]) ∧ CRP b n w' (pr0 n) F ∧ (∀ i, F i → w.heap.size ≤ i) ∧ Fr NoF w w' := by
  obtain ⟨i0, hi0, hz0, hz1, hz2⟩ := info_parts' (P := Try.prog) (e := 3) (z := .int .i64 0) (s := 1) (b := 8) (by kernel_rfl)
  have mk1 : ∀ w : World, (Instr.makeSlice 55 (.int .i64 (n : Int)) (.int .i64 (n : Int))).run Try.prog w =
      .ok (.slice (some ⟨w.heap.size, 0, none⟩) n n) (w.alloc (.cells (madeCells #[.int .i64 0] n) 3)) := by
    intro w
    have := run_make (P := Try.prog) w 55 3 i0 _ Try.underlying55 hi0 hz0 .i64 .i64 (n : Int) (n : Int) (by omega) (Int.le_refl _) (by rw [hz2]; omega) (by omega)
    rw [show ((n : Int)).toNat = n from by omega, hz1, Nat.mul_one] at this
    exact this
  have HC0 := ck_new (2 * n) w (by omega)
  rw [show (((2 * n : Nat)) : Int) = 2 * (n : Int) from by omega] at HC0
  have HC := Lib.hid HC0
  have hmm := @run_makeMap Try.prog
  clear hi0 hz0 hz1 hz2 HC0
  go_enter Try.func6, Try.ntmps6
  go_wp2_with fail
  refine HC.out.mono ?_
  clear HC
  rintro e w1 ⟨rb, eb, FR, rfl, hR, hE, hFR, heb, hf1⟩
  have HR := Lib.hid hR
  have HE := Lib.hid hE
  have HFR := Lib.hid (And.intro hFR heb)
  have HF1 := Lib.hid hf1
  clear hR hE hFR heb hf1
  go_wp2_with fail
  go_region
  · skip
    have hmb := (MpV.madeP ((w1.alloc (.cells #[.pointer (some ⟨rb, 0, none⟩), .slice (some ⟨eb, 0, none⟩) (2 * n) (2 * n), .int .i64 0, .int .i64 0, .int .i64 0] 52)).alloc (.cells (madeCells #[.int .i64 0] n) 3))).fr (Fr.refl NoF _ |>.alloc (.cells #[.pointer (some ⟨rb, 0, none⟩), .slice (some ⟨eb, 0, none⟩) (2 * n) (2 * n), .int .i64 0, .int .i64 0, .int .i64 0, .slice (some ⟨w1.heap.size + 1, 0, none⟩) n n, .map (some (w1.heap.size + 1 + 1)), .int .i64 0, .int .i64 0, .int .i64 0] 58)) id
    rw [show ((w1.alloc (.cells #[.pointer (some ⟨rb, 0, none⟩), .slice (some ⟨eb, 0, none⟩) (2 * n) (2 * n), .int .i64 0, .int .i64 0, .int .i64 0] 52)).alloc (.cells (madeCells #[.int .i64 0] n) 3)).heap.size = w1.heap.size + 1 + 1 from by simp] at hmb
    have HPC := Lib.hid (pc0 (w := w) (b := w1.heap.size + 1 + 1 + 1) (fb := w1.heap.size + 1) (mb := w1.heap.size + 1 + 1) hn HR.out HE.out HFR.out.1 HFR.out.2 HF1.out.size (wz := ((((w1.alloc (.cells #[.pointer (some ⟨rb, 0, none⟩), .slice (some ⟨eb, 0, none⟩) (2 * n) (2 * n), .int .i64 0, .int .i64 0, .int .i64 0] 52)).alloc (.cells (madeCells #[.int .i64 0] n) 3)).alloc (.map #[] 0)).alloc (.cells #[.pointer (some ⟨rb, 0, none⟩), .slice (some ⟨eb, 0, none⟩) (2 * n) (2 * n), .int .i64 0, .int .i64 0, .int .i64 0, .slice (some ⟨w1.heap.size + 1, 0, none⟩) n n, .map (some (w1.heap.size + 1 + 1)), .int .i64 0, .int .i64 0, .int .i64 0] 58))) ((((Fr.refl NoF w1).alloc _).alloc _).alloc _ |>.alloc _)
      (heap_step _ _ _ _ (heap_step _ _ _ _ (heap_alloc_new _ _ _ (by simp)))) hmb (heap_alloc_new _ _ _ (by simp)) (by omega) (by omega) (by omega) (by omega) (by omega) (by omega))
    have F2 : Hid (Fr NoF w ((((w1.alloc (.cells #[.pointer (some ⟨rb, 0, none⟩), .slice (some ⟨eb, 0, none⟩) (2 * n) (2 * n), .int .i64 0, .int .i64 0, .int .i64 0] 52)).alloc (.cells (madeCells #[.int .i64 0] n) 3)).alloc (.map #[] 0)).alloc (.cells #[.pointer (some ⟨rb, 0, none⟩), .slice (some ⟨eb, 0, none⟩) (2 * n) (2 * n), .int .i64 0, .int .i64 0, .int .i64 0, .slice (some ⟨w1.heap.size + 1, 0, none⟩) n n, .map (some (w1.heap.size + 1 + 1)), .int .i64 0, .int .i64 0, .int .i64 0] 58))) := ((HF1.out.alloc _).alloc _).alloc _ |>.alloc _
    clear hmb HR HE HFR HF1 hmm
    obtain ⟨A, hpc, hAF⟩ := HPC.out
    have H0 := Lib.hid (hpc.fr0 (Fr.refl NoF _).drew)
    have F0 := Lib.hid F2.out.drew
    have HAF := Lib.hid hAF
    clear HPC F2 hpc hAF
    generalize ((((w1.alloc (.cells #[.pointer (some ⟨rb, 0, none⟩), .slice (some ⟨eb, 0, none⟩) (2 * n) (2 * n), .int .i64 0, .int .i64 0, .int .i64 0] 52)).alloc (.cells (madeCells #[.int .i64 0] n) 3)).alloc (.map #[] 0)).alloc (.cells #[.pointer (some ⟨rb, 0, none⟩), .slice (some ⟨eb, 0, none⟩) (2 * n) (2 * n), .int .i64 0, .int .i64 0, .int .i64 0, .slice (some ⟨w1.heap.size + 1, 0, none⟩) n n, .map (some (w1.heap.size + 1 + 1)), .int .i64 0, .int .i64 0, .int .i64 0] 58)).drew = wz at *
    have c5 : wz.cell? ⟨w1.heap.size + 1 + 1 + 1, 5, none⟩ = some (.slice (some ⟨A.fb, 0, none⟩) n n) := H0.out.c 5 (by omega)
    have lbz := H0.out.hd.lt
    generalize w1.heap.size + 1 + 1 + 1 = b at *
    go_wp2
    go_loopw [7, 34] (fun _ i wr => ∃ k : Nat, k ≤ n ∧ i = .int .i64 k ∧ PC wr b n A (raw0 n k 0) ∧ Fr (FPr A b) wz wr) (fun _ i _ => n - (intOf i).toNat)
    case atStart => exact ⟨0, Nat.zero_le _, rfl, H0.out, Fr.refl _ _⟩
    case round =>
      obtain ⟨k, hk, rfl, hc, hf⟩ := hrel
      clear c5 lbz
      have d5 : wr.cell? ⟨b, 5, none⟩ = some (.slice (some ⟨A.fb, 0, none⟩) n n) := hc.c 5 (by omega)
      have lbr := hc.hd.lt
      have lfr := hc.fb.lt
      by_cases hlt : k < n
      · have cf := hc.cf hlt
        have fz := hc.fb.frozen k
        have g0 : (0 : Int) ≤ (k : Int) := by omega
        have g1 : (k : Int) < (n : Int) := by omega
        have h4 := hc.setFm (i := k) (-1)
        rw [raw0_step] at h4
        have H4 : Hid (PC (wr.setCell ⟨A.fb, k, none⟩ (.int .i64 (-1))) b n A (raw0 n (k + 1) 0) ∧ Fr (FPr A b) wz (wr.setCell ⟨A.fb, k, none⟩ (.int .i64 (-1)))) := ⟨h4, hf.setCell (p := ⟨A.fb, k, none⟩) (.inl (.inr (.inr (.inl rfl)))) _⟩
        clear h4 hc hf
        go_wp2
        go_roundw
        case rel => exact ⟨k + 1, hlt, by go_num, H4.out⟩
        case measure => first | (simp [intOf]; done) | (simp [intOf]; omega)
      · obtain rfl : k = n := by omega
        have HG := Lib.hid (pr_greatest hc h1)
        have c7 : wr.cell? ⟨b, 7, none⟩ = some (.int .i64 (0 : Nat)) := hc.c 7 (by omega)
        have fz7 := hc.hd.frozen 7
        have h5 := hc.setHead (i := 7) (u := .int .i64 ((max (k - 1) 1 : Nat) : Int)) (r' := raw0 k k (max (k - 1) 1)) (prH_goal _ _ _ _ _) rfl
        have KEY : Hid (CRP b k (wr.setCell ⟨b, 7, none⟩ (.int .i64 ((max (k - 1) 1 : Nat) : Int))) (pr0 k) (FPr A b) ∧ Fr NoF w (wr.setCell ⟨b, 7, none⟩ (.int .i64 ((max (k - 1) 1 : Nat) : Int)))) :=
          ⟨⟨A, ⟨_, h5, rf0 k⟩, (pk0 h1).1, (pk0 h1).2, fun _ => Iff.rfl⟩, (F0.out.trans hf (fun i q => .inr (HAF.out i q))).setCell (p := ⟨b, 7, none⟩) (.inr (HAF.out _ (.inl rfl))) _⟩
        clear h5 hc hf
        generalize max (k - 1) 1 = gg at *
        go_wp2_with (go_at_call 17; refine HG.out.mono ?_; rintro e w' ⟨rfl, rfl⟩)
        go_returns
        exact ⟨b, FPr A b, rfl, KEY.out.1, HAF.out, KEY.out.2⟩
  · skip
    have hmb := (MpV.madeP (w1.alloc (.cells #[.pointer (some ⟨rb, 0, none⟩), .slice (some ⟨eb, 0, none⟩) (2 * n) (2 * n), .int .i64 0, .int .i64 0, .int .i64 0] 52))).fr ((Fr.refl NoF _ |>.alloc (.cells (madeCells #[.int .i64 0] n) 3)).alloc (.cells #[.pointer (some ⟨rb, 0, none⟩), .slice (some ⟨eb, 0, none⟩) (2 * n) (2 * n), .int .i64 0, .int .i64 0, .int .i64 0, .slice (some ⟨w1.heap.size + 1 + 1, 0, none⟩) n n, .map (some (w1.heap.size + 1)), .int .i64 0, .int .i64 0, .int .i64 0] 58)) id
    rw [show (w1.alloc (.cells #[.pointer (some ⟨rb, 0, none⟩), .slice (some ⟨eb, 0, none⟩) (2 * n) (2 * n), .int .i64 0, .int .i64 0, .int .i64 0] 52)).heap.size = w1.heap.size + 1 from by simp] at hmb
    have HPC := Lib.hid (pc0 (w := w) (b := w1.heap.size + 1 + 1 + 1) (fb := w1.heap.size + 1 + 1) (mb := w1.heap.size + 1) hn HR.out HE.out HFR.out.1 HFR.out.2 HF1.out.size (wz := ((((w1.alloc (.cells #[.pointer (some ⟨rb, 0, none⟩), .slice (some ⟨eb, 0, none⟩) (2 * n) (2 * n), .int .i64 0, .int .i64 0, .int .i64 0] 52)).alloc (.map #[] 0)).alloc (.cells (madeCells #[.int .i64 0] n) 3)).alloc (.cells #[.pointer (some ⟨rb, 0, none⟩), .slice (some ⟨eb, 0, none⟩) (2 * n) (2 * n), .int .i64 0, .int .i64 0, .int .i64 0, .slice (some ⟨w1.heap.size + 1 + 1, 0, none⟩) n n, .map (some (w1.heap.size + 1)), .int .i64 0, .int .i64 0, .int .i64 0] 58))) ((((Fr.refl NoF w1).alloc _).alloc _).alloc _ |>.alloc _)
      (heap_step _ _ _ _ (heap_alloc_new _ _ _ (by simp))) hmb (heap_alloc_new _ _ _ (by simp)) (by omega) (by omega) (by omega) (by omega) (by omega) (by omega))
    have F2 : Hid (Fr NoF w ((((w1.alloc (.cells #[.pointer (some ⟨rb, 0, none⟩), .slice (some ⟨eb, 0, none⟩) (2 * n) (2 * n), .int .i64 0, .int .i64 0, .int .i64 0] 52)).alloc (.map #[] 0)).alloc (.cells (madeCells #[.int .i64 0] n) 3)).alloc (.cells #[.pointer (some ⟨rb, 0, none⟩), .slice (some ⟨eb, 0, none⟩) (2 * n) (2 * n), .int .i64 0, .int .i64 0, .int .i64 0, .slice (some ⟨w1.heap.size + 1 + 1, 0, none⟩) n n, .map (some (w1.heap.size + 1)), .int .i64 0, .int .i64 0, .int .i64 0] 58))) := ((HF1.out.alloc _).alloc _).alloc _ |>.alloc _
    clear hmb HR HE HFR HF1 hmm
    obtain ⟨A, hpc, hAF⟩ := HPC.out
    have H0 := Lib.hid (hpc.fr0 (Fr.refl NoF _).drew)
    have F0 := Lib.hid F2.out.drew
    have HAF := Lib.hid hAF
    clear HPC F2 hpc hAF
    generalize ((((w1.alloc (.cells #[.pointer (some ⟨rb, 0, none⟩), .slice (some ⟨eb, 0, none⟩) (2 * n) (2 * n), .int .i64 0, .int .i64 0, .int .i64 0] 52)).alloc (.map #[] 0)).alloc (.cells (madeCells #[.int .i64 0] n) 3)).alloc (.cells #[.pointer (some ⟨rb, 0, none⟩), .slice (some ⟨eb, 0, none⟩) (2 * n) (2 * n), .int .i64 0, .int .i64 0, .int .i64 0, .slice (some ⟨w1.heap.size + 1 + 1, 0, none⟩) n n, .map (some (w1.heap.size + 1)), .int .i64 0, .int .i64 0, .int .i64 0] 58)).drew = wz at *
    have c5 : wz.cell? ⟨w1.heap.size + 1 + 1 + 1, 5, none⟩ = some (.slice (some ⟨A.fb, 0, none⟩) n n) := H0.out.c 5 (by omega)
    have lbz := H0.out.hd.lt
    generalize w1.heap.size + 1 + 1 + 1 = b at *
    go_wp2
    go_loopw [7, 34] (fun _ i wr => ∃ k : Nat, k ≤ n ∧ i = .int .i64 k ∧ PC wr b n A (raw0 n k 0) ∧ Fr (FPr A b) wz wr) (fun _ i _ => n - (intOf i).toNat)
    case atStart => exact ⟨0, Nat.zero_le _, rfl, H0.out, Fr.refl _ _⟩
    case round =>
      obtain ⟨k, hk, rfl, hc, hf⟩ := hrel
      clear c5 lbz
      have d5 : wr.cell? ⟨b, 5, none⟩ = some (.slice (some ⟨A.fb, 0, none⟩) n n) := hc.c 5 (by omega)
      have lbr := hc.hd.lt
      have lfr := hc.fb.lt
      by_cases hlt : k < n
      · have cf := hc.cf hlt
        have fz := hc.fb.frozen k
        have g0 : (0 : Int) ≤ (k : Int) := by omega
        have g1 : (k : Int) < (n : Int) := by omega
        have h4 := hc.setFm (i := k) (-1)
        rw [raw0_step] at h4
        have H4 : Hid (PC (wr.setCell ⟨A.fb, k, none⟩ (.int .i64 (-1))) b n A (raw0 n (k + 1) 0) ∧ Fr (FPr A b) wz (wr.setCell ⟨A.fb, k, none⟩ (.int .i64 (-1)))) := ⟨h4, hf.setCell (p := ⟨A.fb, k, none⟩) (.inl (.inr (.inr (.inl rfl)))) _⟩
        clear h4 hc hf
        go_wp2
        go_roundw
        case rel => exact ⟨k + 1, hlt, by go_num, H4.out⟩
        case measure => first | (simp [intOf]; done) | (simp [intOf]; omega)
      · obtain rfl : k = n := by omega
        have HG := Lib.hid (pr_greatest hc h1)
        have c7 : wr.cell? ⟨b, 7, none⟩ = some (.int .i64 (0 : Nat)) := hc.c 7 (by omega)
        have fz7 := hc.hd.frozen 7
        have h5 := hc.setHead (i := 7) (u := .int .i64 ((max (k - 1) 1 : Nat) : Int)) (r' := raw0 k k (max (k - 1) 1)) (prH_goal _ _ _ _ _) rfl
        have KEY : Hid (CRP b k (wr.setCell ⟨b, 7, none⟩ (.int .i64 ((max (k - 1) 1 : Nat) : Int))) (pr0 k) (FPr A b) ∧ Fr NoF w (wr.setCell ⟨b, 7, none⟩ (.int .i64 ((max (k - 1) 1 : Nat) : Int)))) :=
          ⟨⟨A, ⟨_, h5, rf0 k⟩, (pk0 h1).1, (pk0 h1).2, fun _ => Iff.rfl⟩, (F0.out.trans hf (fun i q => .inr (HAF.out i q))).setCell (p := ⟨b, 7, none⟩) (.inr (HAF.out _ (.inl rfl))) _⟩
        clear h5 hc hf
        generalize max (k - 1) 1 = gg at *
        go_wp2_with (go_at_call 17; refine HG.out.mono ?_; rintro e w' ⟨rfl, rfl⟩)
        go_returns
        exact ⟨b, FPr A b, rfl, KEY.out.1, HAF.out, KEY.out.2⟩
end Go.Proofs.Ytoainbdkhhblbaa
namespace Go.Proofs.Ytoainbdkhhblbaa
open Go.RowKit
set_option linter.unusedVariables false

/-- Calls that were told, in memory; X: the blocks in which they lie. -/
def CRep (w : World) (v : Value) (cs : List Cl) (X : Nat → Prop) : Prop :=
  ∃ gs, gs.length = cs.length ∧ SlC w 7 v cs.length (flatC cs gs) ∧ (∀ (i : Nat) (c : Cl) (g : Value), cs[i]? = some c → gs[i]? = some g → SlK .u32 w g c.ghosts ∧ ∀ b, g.ownBlock = some b → X b) ∧ ∀ b, v.ownBlock = some b → X b
theorem CRep.fr {w w' : World} {v : Value} {cs : List Cl} {X G : Nat → Prop} (h : CRep w v cs X) (f : Fr G w w') (hX : ∀ i, X i → ¬ G i) : CRep w' v cs X := by
  obtain ⟨gs, h1, h2, h3, h4⟩ := h
  exact ⟨gs, h1, h2.fr f (fun b hb => hX b (h4 b hb)), fun i c g e1 e2 => ⟨(h3 i c g e1 e2).1.fr f (fun b hb => hX b ((h3 i c g e1 e2).2 b hb)), (h3 i c g e1 e2).2⟩, h4⟩
theorem CRep.of {σ : Type} {PR : PRel σ} {w0 w : World} {F0 : Nat → Prop} {n fb hb : Nat} {s : σ} {fr : List Nat} {hd : Nat → Bool} {cs : List Cl} {out : Value} (h : St PR w0 F0 n fb hb w s fr hd cs out) : CRep w out cs (fun b => F0 b ∨ w0.heap.size ≤ b) := by
  obtain ⟨F, D, gs, h⟩ := h
  refine ⟨gs, h.gl, SlC.ofOwn h.own (flatC_one (fun g hg => ?_)), fun i c g h1 h2 => ⟨(h.gh i c g h1 h2).1, fun b hb => ((h.gh i c g h1 h2).2 b hb).2⟩, fun b hb => .inr (ownBlock_own h.own b hb)⟩
  obtain ⟨i, hi⟩ := List.getElem?_of_mem hg
  have hil : i < cs.length := by have := (List.getElem?_eq_some_iff.1 hi).1; have := h.gl; omega
  obtain ⟨a, c, rfl, _, _⟩ := (h.gh i cs[i] g (List.getElem?_eq_getElem hil) hi).1.shape
  rfl
/-- What stands at call i. -/
theorem CRep.at {w : World} {v : Value} {cs : List Cl} {X : Nat → Prop} (h : CRep w v cs X) {i : Nat} (hi : i < cs.length) : ∃ b off c gv, v = .slice (some ⟨b, off, none⟩) cs.length c ∧ cs.length ≤ c ∧ c ≤ maxLen ∧ b < w.heap.size ∧
    (∀ j u, (clCells cs[i] gv)[j]? = some u → w.cell? ⟨b, off + i * 7 + j, none⟩ = some u) ∧ SlK .u32 w gv cs[i].ghosts ∧ (∀ b, gv.ownBlock = some b → X b) ∧ X b := by
  obtain ⟨gs, h1, h2, h3, h4⟩ := h
  obtain ⟨b, off, c, rfl, q1, q2, hb, hc⟩ := h2.at hi (by omega)
  have hg : i < gs.length := by omega
  have e1 : cs[i]? = some cs[i] := List.getElem?_eq_getElem hi
  have e2 : gs[i]? = some gs[i] := List.getElem?_eq_getElem hg
  refine ⟨b, off, c, gs[i], rfl, q1, q2, hb, fun j u hj => ?_, (h3 i _ _ e1 e2).1, (h3 i _ _ e1 e2).2, h4 b rfl⟩
  have hj7 : j < 7 := by have := (List.getElem?_eq_some_iff.1 hj).1; simpa [clCells] using this
  have := hc (i * 7 + j) u (by rw [flatC_get e1 e2 hj7]; exact hj)
  rw [← Nat.add_assoc] at this
  exact this

section
variable {τ : Type} (P : Pol τ)
/-- What a call leaves. -/
def Pol.next (s : τ) (c : Cl) : τ :=
  if c.kind = 0 then P.miss s c.page else if c.kind = 1 then P.access s c.frame c.page else if c.kind = 2 then P.set s c.frame c.on
  else if c.kind = 3 then (if P.victim s c.page = none then s else P.gone s c.page) else P.remove s c.frame
def Pol.nexts (s : τ) (cs : List Cl) : τ := cs.foldl P.next s
/-- The calls are answered as they were told; pre: how they may be called. -/
def Good (pre : τ → Cl → Prop) : τ → List Cl → Prop
  | _, [] => True
  | s, c :: cs => c.kind < 5 ∧ pre s c ∧ (c.kind = 3 → c.want = fstI (P.victim s c.page)) ∧ P.size (P.next s c) = c.size ∧ c.size < 1000000 ∧ (P.ghosts (P.next s c)).Perm c.ghosts ∧ c.ghosts.Nodup ∧ c.ghosts.length < 1000000 ∧ Good pre (P.next s c) cs
end

/-- What is told of the code's policy in memory. -/
structure CodSys {τ : Type} (P : Pol τ) (CR : World → τ → (Nat → Prop) → Prop) (b : Nat) (pre : τ → Cl → Prop) : Prop where
  fr : ∀ {w w' : World} {s : τ} {F G : Nat → Prop}, CR w s F → Fr G w w' → (∀ i, F i → ¬ G i) → CR w' s F
  lt : ∀ {w : World} {s : τ} {F : Nat → Prop}, CR w s F → ∀ i, F i → i < w.heap.size
  miss : ∀ {w : World} {s : τ} {F : Nat → Prop} {c : Cl}, CR w s F → pre s c → c.kind = 0 →
    Calls Try.prog 18 #[.pointer (some ⟨b, 0, none⟩), .int .u32 c.page] w fun e w' => e = .returned (.tuple #[]) ∧ ∃ F', CR w' (P.miss s c.page) F' ∧ Fr F w w' ∧ ∀ i, F' i → F i ∨ w.heap.size ≤ i
  access : ∀ {w : World} {s : τ} {F : Nat → Prop} {c : Cl}, CR w s F → pre s c → c.kind = 1 →
    Calls Try.prog 19 #[.pointer (some ⟨b, 0, none⟩), .int .i64 c.frame, .int .u32 c.page] w fun e w' => e = .returned (.tuple #[]) ∧ ∃ F', CR w' (P.access s c.frame c.page) F' ∧ Fr F w w' ∧ ∀ i, F' i → F i ∨ w.heap.size ≤ i
  set : ∀ {w : World} {s : τ} {F : Nat → Prop} {c : Cl}, CR w s F → pre s c → c.kind = 2 →
    Calls Try.prog 20 #[.pointer (some ⟨b, 0, none⟩), .int .i64 c.frame, .bool c.on] w fun e w' => e = .returned (.tuple #[]) ∧ ∃ F', CR w' (P.set s c.frame c.on) F' ∧ Fr F w w' ∧ ∀ i, F' i → F i ∨ w.heap.size ≤ i
  victimNo : ∀ {w : World} {s : τ} {F : Nat → Prop} {c : Cl}, CR w s F → pre s c → c.kind = 3 → P.victim s c.page = none →
    Calls Try.prog 21 #[.pointer (some ⟨b, 0, none⟩), .int .u32 c.page] w fun e w' => e = .returned (.tuple #[.int .i64 0, .bool false]) ∧ ∃ F', CR w' s F' ∧ Fr F w w' ∧ ∀ i, F' i → F i ∨ w.heap.size ≤ i
  victimYes : ∀ {w : World} {s : τ} {F : Nat → Prop} {c : Cl} {a : Nat}, CR w s F → pre s c → c.kind = 3 → P.victim s c.page = some a →
    Calls Try.prog 21 #[.pointer (some ⟨b, 0, none⟩), .int .u32 c.page] w fun e w' => e = .returned (.tuple #[.int .i64 a, .bool true]) ∧ ∃ F', CR w' (P.gone s c.page) F' ∧ Fr F w w' ∧ ∀ i, F' i → F i ∨ w.heap.size ≤ i
  remove : ∀ {w : World} {s : τ} {F : Nat → Prop} {c : Cl}, CR w s F → pre s c → c.kind = 4 →
    Calls Try.prog 43 #[.pointer (some ⟨b, 0, none⟩), .int .i64 c.frame] w fun e w' => e = .returned (.tuple #[]) ∧ ∃ F', CR w' (P.remove s c.frame) F' ∧ Fr F w w' ∧ ∀ i, F' i → F i ∨ w.heap.size ≤ i
  size : ∀ {w : World} {s : τ} {F : Nat → Prop}, CR w s F →
    Calls Try.prog 23 #[.pointer (some ⟨b, 0, none⟩)] w fun e w' => e = .returned (.int .i64 (P.size s : Nat)) ∧ Fr NoF w w'
  ghosts : ∀ {w : World} {s : τ} {F : Nat → Prop}, CR w s F →
    Calls Try.prog 22 #[.pointer (some ⟨b, 0, none⟩)] w fun e w' => ∃ gv, e = .returned gv ∧ SlK .u32 w' gv (P.ghosts s) ∧ Fr NoF w w'

/-- What Replay has done behind k calls. -/
def ReplayRel {τ : Type} (P : Pol τ) (CR : World → τ → (Nat → Prop) → Prop) (pre : τ → Cl → Prop) (w0 : World) (F0 : Nat → Prop) (s0 : τ) (cs : List Cl) (i : Value) (wr : World) : Prop :=
  ∃ (k : Nat) (s : τ) (F : Nat → Prop), k ≤ cs.length ∧ i = .int .i64 k ∧ CR wr s F ∧ s = P.nexts s0 (cs.take k) ∧ Good P pre s (cs.drop k) ∧ Fr F0 w0 wr ∧ ∀ i, F i → F0 i ∨ w0.heap.size ≤ i

theorem ReplayRel_step {τ : Type} {P : Pol τ} {CR : World → τ → (Nat → Prop) → Prop} {pre : τ → Cl → Prop} {w0 wr wA w2 w5 : World} {F0 Fk F2 : Nat → Prop} {s0 t t' : τ} {cs : List Cl} {c : Cl} {k : Nat} (hk : k < cs.length)
    (hN : P.next t c = P.nexts s0 (cs.take (k + 1))) (hT : P.next t c = t') (hR : Good P pre (P.next t c) (cs.drop (k + 1))) (hf : Fr F0 w0 wr) (hF : ∀ i, Fk i → F0 i ∨ w0.heap.size ≤ i) (hA : Fr NoF wr wA) (h2 : Fr Fk wA w2) (hF2 : ∀ i, F2 i → Fk i ∨ wA.heap.size ≤ i)
    (hC : CR w2 t' F2) (h5 : Fr NoF w2 w5) (hfr : ∀ {w w' : World} {s : τ} {F G : Nat → Prop}, CR w s F → Fr G w w' → (∀ i, F i → ¬ G i) → CR w' s F) : ReplayRel P CR pre w0 F0 s0 cs (.int .i64 ((k : Int) + 1)) w5 := by
  subst hT
  refine ⟨k + 1, P.next t c, F2, hk, rfl, hfr hC h5 (fun _ _ q => q), hN, hR, ((hf.trans hA (fun _ q => q.elim)).trans h2 hF).trans h5 (fun _ q => q.elim), fun i hi => ?_⟩
  rcases hF2 i hi with q | q
  · exact hF i q
  · right; have := hf.size; have := hA.size; omega

set_option maxRecDepth 100000 in
set_option maxHeartbeats 4000000 in
theorem Replay_walk {τ : Type} {P : Pol τ} {CR : World → τ → (Nat → Prop) → Prop} {b : Nat} {pre : τ → Cl → Prop} (C : CodSys P CR b pre) {w : World} {s : τ} {F X : Nat → Prop} {v : Value} {cs : List Cl}
    (h : CR w s F) (hv : CRep w v cs X) (hX : ∀ i, X i → ¬ F i) (hXl : ∀ i, X i → i < w.heap.size) (hl : cs.length < 1000000) (hG : Good P pre s cs) :
    Calls Try.prog 12 #[.iface 24 (.pointer (some ⟨b, 0, none⟩)), v] w fun e w' => e = .returned (.bool true) ∧ ∃ F', CR w' (P.nexts s cs) F' ∧ Fr F w w' ∧ ∀ i, F' i → F i ∨ w.heap.size ≤ i := by
  obtain ⟨av, cv, rfl, q1, q2⟩ : ∃ a c, v = .slice a cs.length c ∧ cs.length ≤ c ∧ c ≤ maxLen := by obtain ⟨gs, _, h2, _, _⟩ := hv; exact h2.shape
  unfold maxLen at q2
  have HV := Lib.hid hv
  have HH := Lib.hid h
  have HX := Lib.hid hX
  have HXL := Lib.hid hXl
  have HG := Lib.hid hG
  have HC := Lib.hid C
  clear hv h hX hXl hG C
  go_enter Try.func12, Try.ntmps12
  go_wp2
  go_loopw [5] (ReplayRel P CR pre w F s cs) (fun i _ => cs.length - (intOf i).toNat)
  case atStart => exact ⟨0, s, F, Nat.zero_le _, rfl, HH.out, rfl, by simpa using HG.out, Fr.refl _ _, fun i hi => .inl hi⟩
  case round =>
    obtain ⟨k, t, Fk, hk, rfl, hcr, hn, hg, hf, hF⟩ := hrel
    have HCR := Lib.hid hcr
    have HN := Lib.hid hn
    have HF := Lib.hid hf
    have HFk := Lib.hid hF
    clear hcr hn hf hF HG HH
    by_cases hlt : k < cs.length
    · rw [List.drop_eq_getElem_cons hlt] at hg
      obtain ⟨hkind, hpre, hwant, hsz, hszl, hgh, hghn, hghl, hrest⟩ := hg
      have HNX : Hid (P.next t cs[k] = P.nexts s (cs.take (k + 1))) := by
        unfold Hid Pol.nexts; rw [List.take_succ_eq_append_getElem hlt, List.foldl_append, HN.out]; rfl
      have hxF : ∀ i, X i → ¬ Fk i := fun i hx hi => (HFk.out i hi).elim (HX.out i hx) (fun q => by have := HXL.out i hx; omega)
      have hv1 : CRep wr (.slice av cs.length cv) cs X := HV.out.fr HF.out HX.out
      obtain ⟨bv, off, cv', gv, ev', _, _, hbv, hcell, hgv, hgX, hbX⟩ := hv1.at hlt
      simp only [Value.slice.injEq] at ev'
      obtain ⟨rfl, _, rfl⟩ := ev'
      have hXF := HX.out
      generalize cs[k] = c at *
      obtain ⟨kind, frame, page, on, want, size, ghosts⟩ := c
      simp only at hkind hwant hsz hszl hgh hghn hghl hgv
      have c0 : wr.cell? ⟨bv, off + k * 7, none⟩ = some (.int .i64 kind) := hcell 0 _ rfl
      have c1 : wr.cell? ⟨bv, off + k * 7 + 1, none⟩ = some (.int .i64 frame) := hcell 1 _ rfl
      have c2 : wr.cell? ⟨bv, off + k * 7 + 2, none⟩ = some (.int .u32 page) := hcell 2 _ rfl
      have c3 : wr.cell? ⟨bv, off + k * 7 + 3, none⟩ = some (.bool on) := hcell 3 _ rfl
      have c4 : wr.cell? ⟨bv, off + k * 7 + 4, none⟩ = some (.int .i64 want) := hcell 4 _ rfl
      have c5 : wr.cell? ⟨bv, off + k * 7 + 5, none⟩ = some (.int .i64 size) := hcell 5 _ rfl
      have c6 : wr.cell? ⟨bv, off + k * 7 + 6, none⟩ = some gv := hcell 6 _ rfl
      obtain ⟨ga, gc, rfl, _, _⟩ := hgv.shape
      have HP := Lib.hid hpre
      have HW := Lib.hid hwant
      have HSZ := Lib.hid hsz
      have HGH := Lib.hid (And.intro hgh (And.intro hghn (And.intro hghl hgv)))
      have HGX := Lib.hid hgX
      have HR := Lib.hid hrest
      have HXF := Lib.hid hxF
      clear hcell hpre hwant hsz hgh hghn hghl hgv hgX hrest hxF hXF hbX hv1
      have fA : Fr NoF wr (wr.alloc (.cells #[.int .i64 kind, .int .i64 frame, .int .u32 page, .bool on, .int .i64 want, .int .i64 size, .slice ga ghosts.length gc] 37)) := (Fr.refl _ _).alloc _
      have HA : Hid (CR (wr.alloc (.cells #[.int .i64 kind, .int .i64 frame, .int .u32 page, .bool on, .int .i64 want, .int .i64 size, .slice ga ghosts.length gc] 37)) t Fk) := HC.out.fr HCR.out fA (fun _ _ q => q)
      have HFA := Lib.hid fA
      clear fA
      obtain rfl | rfl | rfl | rfl | rfl : kind = 0 ∨ kind = 1 ∨ kind = 2 ∨ kind = 3 ∨ kind = 4 := by omega
      · replace c0 : wr.cell? ⟨bv, off + k * 7, none⟩ = some (.int .i64 0) := c0
        have HN' : Hid (P.next t ⟨0, frame, page, on, want, size, ghosts⟩ = P.miss t page) := by simp [Hid, Pol.next]
        have HCL := Lib.hid (HC.out.miss (c := ⟨0, frame, page, on, want, size, ghosts⟩) HA.out HP.out rfl)
        go_wp2_with fail
        refine HCL.out.mono ?_
        clear HCL
        rintro e w2 ⟨rfl, F2, hcr2, hf2, hF2⟩
        have hblk : wr.heap.size < (wr.alloc (.cells #[.int .i64 0, .int .i64 frame, .int .u32 page, .bool on, .int .i64 want, .int .i64 size, .slice ga ghosts.length gc] 37)).heap.size := by simp
        have hnb : ¬ Fk wr.heap.size := fun q => by have := HC.out.lt HCR.out _ q; omega
        have d5 : w2.cell? ⟨wr.heap.size, 5, none⟩ = some (.int .i64 size) := by rw [hf2.cell (p := ⟨wr.heap.size, 5, none⟩) hblk hnb]; simp
        have d6 : w2.cell? ⟨wr.heap.size, 6, none⟩ = some (.slice ga ghosts.length gc) := by rw [hf2.cell (p := ⟨wr.heap.size, 6, none⟩) hblk hnb]; simp
        have hsz2 : wr.heap.size < w2.heap.size := Nat.lt_of_lt_of_le hblk hf2.size
        have KS : Hid (∀ w', Fr NoF w2 w' → Calls Try.prog 23 #[.pointer (some ⟨b, 0, none⟩)] w' fun e w'' => e = .returned (.int .i64 (size : Nat)) ∧ Fr NoF w2 w'') := by
          intro w' f
          have := HC.out.size (HC.out.fr hcr2 f (fun _ _ q => q))
          rw [← HSZ.out, HN'.out]; exact this.mono fun e w'' ⟨he, hf⟩ => ⟨he, f.trans hf (fun _ q => q.elim)⟩
        have KG : Hid (∀ w', Fr NoF w2 w' → Calls Try.prog 22 #[.pointer (some ⟨b, 0, none⟩)] w' fun e w'' => ∃ gv, e = .returned gv ∧ (SlK .u32 w'' gv (P.ghosts (P.miss t page)) ∧ Fr NoF w2 w'')) := by
          intro w' f
          exact (HC.out.ghosts (HC.out.fr hcr2 f (fun _ _ q => q))).mono fun e w'' ⟨gv, he, hs, hf⟩ => ⟨gv, he, hs, f.trans hf (fun _ q => q.elim)⟩
        have KP : Hid (∀ w' gv', (SlK .u32 w' gv' (P.ghosts (P.miss t page)) ∧ Fr NoF w2 w') → Calls Try.prog 30 #[gv', .slice ga ghosts.length gc] w' fun e w'' => e = .returned (.bool true) ∧ Fr NoF w2 w'') := by
          intro w' gv' ⟨hs, f⟩
          obtain ⟨g1, g2, g3, g4⟩ := HGH.out
          have f0 : Fr Fk wr w' := ((HFA.out.none).trans hf2 (fun _ q => .inl q)).trans f (fun _ q => q.elim)
          rw [← HN'.out] at hs
          exact (SamePages_calls hs (g4.fr f0 (fun b hb => HXF.out b (HGX.out b hb))) (by rw [g1.length_eq]; exact g3) g1 g2).mono fun e w'' ⟨he, hf⟩ => ⟨he, f.trans hf (fun _ q => q.elim)⟩
        have HC2 := Lib.hid hcr2
        have HF2 := Lib.hid hf2
        have HFF2 := Lib.hid hF2
        clear hcr2 hf2 hF2 hblk hnb
        go_wp2_with fail
        go_region_held3 (fun w' => w'.cell? ⟨wr.heap.size, 5, none⟩ = some (.int .i64 size) ∧ w'.cell? ⟨wr.heap.size, 6, none⟩ = some (.slice ga ghosts.length gc))
          (first | exact ⟨d5, d6⟩ | exact ⟨e5, e6⟩ | exact ⟨g5, g6⟩ | exact ⟨p5, p6⟩)
          (first
            | (go_at_call 23; refine (KS.out _ ((Fr.refl NoF w2).drew)).mono ?_; rintro e w3 ⟨rfl, hf3⟩; have e5 := (hf3.cell (p := ⟨wr.heap.size, 5, none⟩) hsz2 id).trans d5; have e6 := (hf3.cell (p := ⟨wr.heap.size, 6, none⟩) hsz2 id).trans d6; have HF3 := Lib.hid hf3; clear hf3)
            | (go_at_call 22; refine (KG.out _ HF3.out).mono ?_; rintro e w4 ⟨gv4, rfl, hf4⟩; have g5 := (hf4.2.cell (p := ⟨wr.heap.size, 5, none⟩) hsz2 id).trans d5; have g6 := (hf4.2.cell (p := ⟨wr.heap.size, 6, none⟩) hsz2 id).trans d6; have HF4 := Lib.hid hf4; clear hf4)
            | (go_at_call 30; refine (KP.out _ _ HF4.out).mono ?_; rintro e w5 ⟨rfl, hf5⟩; have p5 := (hf5.cell (p := ⟨wr.heap.size, 5, none⟩) hsz2 id).trans d5; have p6 := (hf5.cell (p := ⟨wr.heap.size, 6, none⟩) hsz2 id).trans d6; have HF5 := Lib.hid hf5; clear hf5))
        go_wp2
        go_roundw
        case rel => exact ReplayRel_step hlt HNX.out HN'.out HR.out HF.out HFk.out HFA.out HF2.out HFF2.out HC2.out HF5.out HC.out.fr
        case measure => first | (simp [intOf]; done) | (simp [intOf]; omega)
      · replace c0 : wr.cell? ⟨bv, off + k * 7, none⟩ = some (.int .i64 1) := c0
        have HN' : Hid (P.next t ⟨1, frame, page, on, want, size, ghosts⟩ = P.access t frame page) := by simp [Hid, Pol.next]
        have HCL := Lib.hid (HC.out.access (c := ⟨1, frame, page, on, want, size, ghosts⟩) HA.out HP.out rfl)
        go_wp2_with fail
        refine HCL.out.mono ?_
        clear HCL
        rintro e w2 ⟨rfl, F2, hcr2, hf2, hF2⟩
        have hblk : wr.heap.size < (wr.alloc (.cells #[.int .i64 1, .int .i64 frame, .int .u32 page, .bool on, .int .i64 want, .int .i64 size, .slice ga ghosts.length gc] 37)).heap.size := by simp
        have hnb : ¬ Fk wr.heap.size := fun q => by have := HC.out.lt HCR.out _ q; omega
        have d5 : w2.cell? ⟨wr.heap.size, 5, none⟩ = some (.int .i64 size) := by rw [hf2.cell (p := ⟨wr.heap.size, 5, none⟩) hblk hnb]; simp
        have d6 : w2.cell? ⟨wr.heap.size, 6, none⟩ = some (.slice ga ghosts.length gc) := by rw [hf2.cell (p := ⟨wr.heap.size, 6, none⟩) hblk hnb]; simp
        have hsz2 : wr.heap.size < w2.heap.size := Nat.lt_of_lt_of_le hblk hf2.size
        have KS : Hid (∀ w', Fr NoF w2 w' → Calls Try.prog 23 #[.pointer (some ⟨b, 0, none⟩)] w' fun e w'' => e = .returned (.int .i64 (size : Nat)) ∧ Fr NoF w2 w'') := by
          intro w' f
          have := HC.out.size (HC.out.fr hcr2 f (fun _ _ q => q))
          rw [← HSZ.out, HN'.out]; exact this.mono fun e w'' ⟨he, hf⟩ => ⟨he, f.trans hf (fun _ q => q.elim)⟩
        have KG : Hid (∀ w', Fr NoF w2 w' → Calls Try.prog 22 #[.pointer (some ⟨b, 0, none⟩)] w' fun e w'' => ∃ gv, e = .returned gv ∧ (SlK .u32 w'' gv (P.ghosts (P.access t frame page)) ∧ Fr NoF w2 w'')) := by
          intro w' f
          exact (HC.out.ghosts (HC.out.fr hcr2 f (fun _ _ q => q))).mono fun e w'' ⟨gv, he, hs, hf⟩ => ⟨gv, he, hs, f.trans hf (fun _ q => q.elim)⟩
        have KP : Hid (∀ w' gv', (SlK .u32 w' gv' (P.ghosts (P.access t frame page)) ∧ Fr NoF w2 w') → Calls Try.prog 30 #[gv', .slice ga ghosts.length gc] w' fun e w'' => e = .returned (.bool true) ∧ Fr NoF w2 w'') := by
          intro w' gv' ⟨hs, f⟩
          obtain ⟨g1, g2, g3, g4⟩ := HGH.out
          have f0 : Fr Fk wr w' := ((HFA.out.none).trans hf2 (fun _ q => .inl q)).trans f (fun _ q => q.elim)
          rw [← HN'.out] at hs
          exact (SamePages_calls hs (g4.fr f0 (fun b hb => HXF.out b (HGX.out b hb))) (by rw [g1.length_eq]; exact g3) g1 g2).mono fun e w'' ⟨he, hf⟩ => ⟨he, f.trans hf (fun _ q => q.elim)⟩
        have HC2 := Lib.hid hcr2
        have HF2 := Lib.hid hf2
        have HFF2 := Lib.hid hF2
        clear hcr2 hf2 hF2 hblk hnb
        go_wp2_with fail
        go_region_held3 (fun w' => w'.cell? ⟨wr.heap.size, 5, none⟩ = some (.int .i64 size) ∧ w'.cell? ⟨wr.heap.size, 6, none⟩ = some (.slice ga ghosts.length gc))
          (first | exact ⟨d5, d6⟩ | exact ⟨e5, e6⟩ | exact ⟨g5, g6⟩ | exact ⟨p5, p6⟩)
          (first
            | (go_at_call 23; refine (KS.out _ ((Fr.refl NoF w2).drew)).mono ?_; rintro e w3 ⟨rfl, hf3⟩; have e5 := (hf3.cell (p := ⟨wr.heap.size, 5, none⟩) hsz2 id).trans d5; have e6 := (hf3.cell (p := ⟨wr.heap.size, 6, none⟩) hsz2 id).trans d6; have HF3 := Lib.hid hf3; clear hf3)
            | (go_at_call 22; refine (KG.out _ HF3.out).mono ?_; rintro e w4 ⟨gv4, rfl, hf4⟩; have g5 := (hf4.2.cell (p := ⟨wr.heap.size, 5, none⟩) hsz2 id).trans d5; have g6 := (hf4.2.cell (p := ⟨wr.heap.size, 6, none⟩) hsz2 id).trans d6; have HF4 := Lib.hid hf4; clear hf4)
            | (go_at_call 30; refine (KP.out _ _ HF4.out).mono ?_; rintro e w5 ⟨rfl, hf5⟩; have p5 := (hf5.cell (p := ⟨wr.heap.size, 5, none⟩) hsz2 id).trans d5; have p6 := (hf5.cell (p := ⟨wr.heap.size, 6, none⟩) hsz2 id).trans d6; have HF5 := Lib.hid hf5; clear hf5))
        go_wp2
        go_roundw
        case rel => exact ReplayRel_step hlt HNX.out HN'.out HR.out HF.out HFk.out HFA.out HF2.out HFF2.out HC2.out HF5.out HC.out.fr
        case measure => first | (simp [intOf]; done) | (simp [intOf]; omega)
      · replace c0 : wr.cell? ⟨bv, off + k * 7, none⟩ = some (.int .i64 2) := c0
        have HN' : Hid (P.next t ⟨2, frame, page, on, want, size, ghosts⟩ = P.set t frame on) := by simp [Hid, Pol.next]
        have HCL := Lib.hid (HC.out.set (c := ⟨2, frame, page, on, want, size, ghosts⟩) HA.out HP.out rfl)
        go_wp2_with fail
        refine HCL.out.mono ?_
        clear HCL
        rintro e w2 ⟨rfl, F2, hcr2, hf2, hF2⟩
        have hblk : wr.heap.size < (wr.alloc (.cells #[.int .i64 2, .int .i64 frame, .int .u32 page, .bool on, .int .i64 want, .int .i64 size, .slice ga ghosts.length gc] 37)).heap.size := by simp
        have hnb : ¬ Fk wr.heap.size := fun q => by have := HC.out.lt HCR.out _ q; omega
        have d5 : w2.cell? ⟨wr.heap.size, 5, none⟩ = some (.int .i64 size) := by rw [hf2.cell (p := ⟨wr.heap.size, 5, none⟩) hblk hnb]; simp
        have d6 : w2.cell? ⟨wr.heap.size, 6, none⟩ = some (.slice ga ghosts.length gc) := by rw [hf2.cell (p := ⟨wr.heap.size, 6, none⟩) hblk hnb]; simp
        have hsz2 : wr.heap.size < w2.heap.size := Nat.lt_of_lt_of_le hblk hf2.size
        have KS : Hid (∀ w', Fr NoF w2 w' → Calls Try.prog 23 #[.pointer (some ⟨b, 0, none⟩)] w' fun e w'' => e = .returned (.int .i64 (size : Nat)) ∧ Fr NoF w2 w'') := by
          intro w' f
          have := HC.out.size (HC.out.fr hcr2 f (fun _ _ q => q))
          rw [← HSZ.out, HN'.out]; exact this.mono fun e w'' ⟨he, hf⟩ => ⟨he, f.trans hf (fun _ q => q.elim)⟩
        have KG : Hid (∀ w', Fr NoF w2 w' → Calls Try.prog 22 #[.pointer (some ⟨b, 0, none⟩)] w' fun e w'' => ∃ gv, e = .returned gv ∧ (SlK .u32 w'' gv (P.ghosts (P.set t frame on)) ∧ Fr NoF w2 w'')) := by
          intro w' f
          exact (HC.out.ghosts (HC.out.fr hcr2 f (fun _ _ q => q))).mono fun e w'' ⟨gv, he, hs, hf⟩ => ⟨gv, he, hs, f.trans hf (fun _ q => q.elim)⟩
        have KP : Hid (∀ w' gv', (SlK .u32 w' gv' (P.ghosts (P.set t frame on)) ∧ Fr NoF w2 w') → Calls Try.prog 30 #[gv', .slice ga ghosts.length gc] w' fun e w'' => e = .returned (.bool true) ∧ Fr NoF w2 w'') := by
          intro w' gv' ⟨hs, f⟩
          obtain ⟨g1, g2, g3, g4⟩ := HGH.out
          have f0 : Fr Fk wr w' := ((HFA.out.none).trans hf2 (fun _ q => .inl q)).trans f (fun _ q => q.elim)
          rw [← HN'.out] at hs
          exact (SamePages_calls hs (g4.fr f0 (fun b hb => HXF.out b (HGX.out b hb))) (by rw [g1.length_eq]; exact g3) g1 g2).mono fun e w'' ⟨he, hf⟩ => ⟨he, f.trans hf (fun _ q => q.elim)⟩
        have HC2 := Lib.hid hcr2
        have HF2 := Lib.hid hf2
        have HFF2 := Lib.hid hF2
        clear hcr2 hf2 hF2 hblk hnb
        go_wp2_with fail
        go_region_held3 (fun w' => w'.cell? ⟨wr.heap.size, 5, none⟩ = some (.int .i64 size) ∧ w'.cell? ⟨wr.heap.size, 6, none⟩ = some (.slice ga ghosts.length gc))
          (first | exact ⟨d5, d6⟩ | exact ⟨e5, e6⟩ | exact ⟨g5, g6⟩ | exact ⟨p5, p6⟩)
          (first
            | (go_at_call 23; refine (KS.out _ ((Fr.refl NoF w2).drew)).mono ?_; rintro e w3 ⟨rfl, hf3⟩; have e5 := (hf3.cell (p := ⟨wr.heap.size, 5, none⟩) hsz2 id).trans d5; have e6 := (hf3.cell (p := ⟨wr.heap.size, 6, none⟩) hsz2 id).trans d6; have HF3 := Lib.hid hf3; clear hf3)
            | (go_at_call 22; refine (KG.out _ HF3.out).mono ?_; rintro e w4 ⟨gv4, rfl, hf4⟩; have g5 := (hf4.2.cell (p := ⟨wr.heap.size, 5, none⟩) hsz2 id).trans d5; have g6 := (hf4.2.cell (p := ⟨wr.heap.size, 6, none⟩) hsz2 id).trans d6; have HF4 := Lib.hid hf4; clear hf4)
            | (go_at_call 30; refine (KP.out _ _ HF4.out).mono ?_; rintro e w5 ⟨rfl, hf5⟩; have p5 := (hf5.cell (p := ⟨wr.heap.size, 5, none⟩) hsz2 id).trans d5; have p6 := (hf5.cell (p := ⟨wr.heap.size, 6, none⟩) hsz2 id).trans d6; have HF5 := Lib.hid hf5; clear hf5))
        go_wp2
        go_roundw
        case rel => exact ReplayRel_step hlt HNX.out HN'.out HR.out HF.out HFk.out HFA.out HF2.out HFF2.out HC2.out HF5.out HC.out.fr
        case measure => first | (simp [intOf]; done) | (simp [intOf]; omega)
      · replace c0 : wr.cell? ⟨bv, off + k * 7, none⟩ = some (.int .i64 3) := c0
        cases ev : P.victim t page with
        | none =>
          have HEV := Lib.hid ev
          obtain rfl : want = -1 := by have := HW.out rfl; rw [ev] at this; exact this
          clear ev
          have HN' : Hid (P.next t ⟨3, frame, page, on, (-1), size, ghosts⟩ = t) := by simp [Hid, Pol.next, HEV.out]
          have HCL := Lib.hid (HC.out.victimNo (c := ⟨3, frame, page, on, (-1), size, ghosts⟩) HA.out HP.out rfl HEV.out)
          go_wp2_with fail
          refine HCL.out.mono ?_
          clear HCL
          rintro e w2 ⟨rfl, F2, hcr2, hf2, hF2⟩
          have hblk : wr.heap.size < (wr.alloc (.cells #[.int .i64 3, .int .i64 frame, .int .u32 page, .bool on, .int .i64 (-1), .int .i64 size, .slice ga ghosts.length gc] 37)).heap.size := by simp
          have hnb : ¬ Fk wr.heap.size := fun q => by have := HC.out.lt HCR.out _ q; omega
          have d4 : w2.cell? ⟨wr.heap.size, 4, none⟩ = some (.int .i64 (-1)) := by rw [hf2.cell (p := ⟨wr.heap.size, 4, none⟩) hblk hnb]; simp
          have d5 : w2.cell? ⟨wr.heap.size, 5, none⟩ = some (.int .i64 size) := by rw [hf2.cell (p := ⟨wr.heap.size, 5, none⟩) hblk hnb]; simp
          have d6 : w2.cell? ⟨wr.heap.size, 6, none⟩ = some (.slice ga ghosts.length gc) := by rw [hf2.cell (p := ⟨wr.heap.size, 6, none⟩) hblk hnb]; simp
          have hsz2 : wr.heap.size < w2.heap.size := Nat.lt_of_lt_of_le hblk hf2.size
          have KS : Hid (∀ w', Fr NoF w2 w' → Calls Try.prog 23 #[.pointer (some ⟨b, 0, none⟩)] w' fun e w'' => e = .returned (.int .i64 (size : Nat)) ∧ Fr NoF w2 w'') := by
            intro w' f
            have := HC.out.size (HC.out.fr hcr2 f (fun _ _ q => q))
            rw [← HSZ.out, HN'.out]; exact this.mono fun e w'' ⟨he, hf⟩ => ⟨he, f.trans hf (fun _ q => q.elim)⟩
          have KG : Hid (∀ w', Fr NoF w2 w' → Calls Try.prog 22 #[.pointer (some ⟨b, 0, none⟩)] w' fun e w'' => ∃ gv, e = .returned gv ∧ (SlK .u32 w'' gv (P.ghosts (t)) ∧ Fr NoF w2 w'')) := by
            intro w' f
            exact (HC.out.ghosts (HC.out.fr hcr2 f (fun _ _ q => q))).mono fun e w'' ⟨gv, he, hs, hf⟩ => ⟨gv, he, hs, f.trans hf (fun _ q => q.elim)⟩
          have KP : Hid (∀ w' gv', (SlK .u32 w' gv' (P.ghosts (t)) ∧ Fr NoF w2 w') → Calls Try.prog 30 #[gv', .slice ga ghosts.length gc] w' fun e w'' => e = .returned (.bool true) ∧ Fr NoF w2 w'') := by
            intro w' gv' ⟨hs, f⟩
            obtain ⟨g1, g2, g3, g4⟩ := HGH.out
            have f0 : Fr Fk wr w' := ((HFA.out.none).trans hf2 (fun _ q => .inl q)).trans f (fun _ q => q.elim)
            rw [← HN'.out] at hs
            exact (SamePages_calls hs (g4.fr f0 (fun b hb => HXF.out b (HGX.out b hb))) (by rw [g1.length_eq]; exact g3) g1 g2).mono fun e w'' ⟨he, hf⟩ => ⟨he, f.trans hf (fun _ q => q.elim)⟩
          have HC2 := Lib.hid hcr2
          have HF2 := Lib.hid hf2
          have HFF2 := Lib.hid hF2
          clear hcr2 hf2 hF2 hblk hnb
          go_wp2_with fail
          go_region_held3 (fun w' => w'.cell? ⟨wr.heap.size, 5, none⟩ = some (.int .i64 size) ∧ w'.cell? ⟨wr.heap.size, 6, none⟩ = some (.slice ga ghosts.length gc))
            (first | exact ⟨d5, d6⟩ | exact ⟨e5, e6⟩ | exact ⟨g5, g6⟩ | exact ⟨p5, p6⟩)
            (first
              | (go_at_call 23; refine (KS.out _ ((Fr.refl NoF w2).drew)).mono ?_; rintro e w3 ⟨rfl, hf3⟩; have e5 := (hf3.cell (p := ⟨wr.heap.size, 5, none⟩) hsz2 id).trans d5; have e6 := (hf3.cell (p := ⟨wr.heap.size, 6, none⟩) hsz2 id).trans d6; have HF3 := Lib.hid hf3; clear hf3)
              | (go_at_call 22; refine (KG.out _ HF3.out).mono ?_; rintro e w4 ⟨gv4, rfl, hf4⟩; have g5 := (hf4.2.cell (p := ⟨wr.heap.size, 5, none⟩) hsz2 id).trans d5; have g6 := (hf4.2.cell (p := ⟨wr.heap.size, 6, none⟩) hsz2 id).trans d6; have HF4 := Lib.hid hf4; clear hf4)
              | (go_at_call 30; refine (KP.out _ _ HF4.out).mono ?_; rintro e w5 ⟨rfl, hf5⟩; have p5 := (hf5.cell (p := ⟨wr.heap.size, 5, none⟩) hsz2 id).trans d5; have p6 := (hf5.cell (p := ⟨wr.heap.size, 6, none⟩) hsz2 id).trans d6; have HF5 := Lib.hid hf5; clear hf5))
          go_wp2
          go_roundw
          case rel => exact ReplayRel_step hlt HNX.out HN'.out HR.out HF.out HFk.out HFA.out HF2.out HFF2.out HC2.out HF5.out HC.out.fr
          case measure => first | (simp [intOf]; done) | (simp [intOf]; omega)
        | some a =>
          have HEV := Lib.hid ev
          obtain rfl : want = (a : Int) := by have := HW.out rfl; rw [ev] at this; exact this
          clear ev
          have HN' : Hid (P.next t ⟨3, frame, page, on, (a : Int), size, ghosts⟩ = P.gone t page) := by simp [Hid, Pol.next, HEV.out]
          have HCL := Lib.hid (HC.out.victimYes (c := ⟨3, frame, page, on, (a : Int), size, ghosts⟩) HA.out HP.out rfl HEV.out)
          go_wp2_with fail
          refine HCL.out.mono ?_
          clear HCL
          rintro e w2 ⟨rfl, F2, hcr2, hf2, hF2⟩
          have hblk : wr.heap.size < (wr.alloc (.cells #[.int .i64 3, .int .i64 frame, .int .u32 page, .bool on, .int .i64 (a : Int), .int .i64 size, .slice ga ghosts.length gc] 37)).heap.size := by simp
          have hnb : ¬ Fk wr.heap.size := fun q => by have := HC.out.lt HCR.out _ q; omega
          have d4 : w2.cell? ⟨wr.heap.size, 4, none⟩ = some (.int .i64 (a : Int)) := by rw [hf2.cell (p := ⟨wr.heap.size, 4, none⟩) hblk hnb]; simp
          have d5 : w2.cell? ⟨wr.heap.size, 5, none⟩ = some (.int .i64 size) := by rw [hf2.cell (p := ⟨wr.heap.size, 5, none⟩) hblk hnb]; simp
          have d6 : w2.cell? ⟨wr.heap.size, 6, none⟩ = some (.slice ga ghosts.length gc) := by rw [hf2.cell (p := ⟨wr.heap.size, 6, none⟩) hblk hnb]; simp
          have hsz2 : wr.heap.size < w2.heap.size := Nat.lt_of_lt_of_le hblk hf2.size
          have KS : Hid (∀ w', Fr NoF w2 w' → Calls Try.prog 23 #[.pointer (some ⟨b, 0, none⟩)] w' fun e w'' => e = .returned (.int .i64 (size : Nat)) ∧ Fr NoF w2 w'') := by
            intro w' f
            have := HC.out.size (HC.out.fr hcr2 f (fun _ _ q => q))
            rw [← HSZ.out, HN'.out]; exact this.mono fun e w'' ⟨he, hf⟩ => ⟨he, f.trans hf (fun _ q => q.elim)⟩
          have KG : Hid (∀ w', Fr NoF w2 w' → Calls Try.prog 22 #[.pointer (some ⟨b, 0, none⟩)] w' fun e w'' => ∃ gv, e = .returned gv ∧ (SlK .u32 w'' gv (P.ghosts (P.gone t page)) ∧ Fr NoF w2 w'')) := by
            intro w' f
            exact (HC.out.ghosts (HC.out.fr hcr2 f (fun _ _ q => q))).mono fun e w'' ⟨gv, he, hs, hf⟩ => ⟨gv, he, hs, f.trans hf (fun _ q => q.elim)⟩
          have KP : Hid (∀ w' gv', (SlK .u32 w' gv' (P.ghosts (P.gone t page)) ∧ Fr NoF w2 w') → Calls Try.prog 30 #[gv', .slice ga ghosts.length gc] w' fun e w'' => e = .returned (.bool true) ∧ Fr NoF w2 w'') := by
            intro w' gv' ⟨hs, f⟩
            obtain ⟨g1, g2, g3, g4⟩ := HGH.out
            have f0 : Fr Fk wr w' := ((HFA.out.none).trans hf2 (fun _ q => .inl q)).trans f (fun _ q => q.elim)
            rw [← HN'.out] at hs
            exact (SamePages_calls hs (g4.fr f0 (fun b hb => HXF.out b (HGX.out b hb))) (by rw [g1.length_eq]; exact g3) g1 g2).mono fun e w'' ⟨he, hf⟩ => ⟨he, f.trans hf (fun _ q => q.elim)⟩
          have HC2 := Lib.hid hcr2
          have HF2 := Lib.hid hf2
          have HFF2 := Lib.hid hF2
          clear hcr2 hf2 hF2 hblk hnb
          go_wp2_with fail
          go_region_held3 (fun w' => w'.cell? ⟨wr.heap.size, 5, none⟩ = some (.int .i64 size) ∧ w'.cell? ⟨wr.heap.size, 6, none⟩ = some (.slice ga ghosts.length gc))
            (first | exact ⟨d5, d6⟩ | exact ⟨e5, e6⟩ | exact ⟨g5, g6⟩ | exact ⟨p5, p6⟩)
            (first
              | (go_at_call 23; refine (KS.out _ ((Fr.refl NoF w2).drew)).mono ?_; rintro e w3 ⟨rfl, hf3⟩; have e5 := (hf3.cell (p := ⟨wr.heap.size, 5, none⟩) hsz2 id).trans d5; have e6 := (hf3.cell (p := ⟨wr.heap.size, 6, none⟩) hsz2 id).trans d6; have HF3 := Lib.hid hf3; clear hf3)
              | (go_at_call 22; refine (KG.out _ HF3.out).mono ?_; rintro e w4 ⟨gv4, rfl, hf4⟩; have g5 := (hf4.2.cell (p := ⟨wr.heap.size, 5, none⟩) hsz2 id).trans d5; have g6 := (hf4.2.cell (p := ⟨wr.heap.size, 6, none⟩) hsz2 id).trans d6; have HF4 := Lib.hid hf4; clear hf4)
              | (go_at_call 30; refine (KP.out _ _ HF4.out).mono ?_; rintro e w5 ⟨rfl, hf5⟩; have p5 := (hf5.cell (p := ⟨wr.heap.size, 5, none⟩) hsz2 id).trans d5; have p6 := (hf5.cell (p := ⟨wr.heap.size, 6, none⟩) hsz2 id).trans d6; have HF5 := Lib.hid hf5; clear hf5))
          go_wp2
          go_roundw
          case rel => exact ReplayRel_step hlt HNX.out HN'.out HR.out HF.out HFk.out HFA.out HF2.out HFF2.out HC2.out HF5.out HC.out.fr
          case measure => first | (simp [intOf]; done) | (simp [intOf]; omega)
      · replace c0 : wr.cell? ⟨bv, off + k * 7, none⟩ = some (.int .i64 4) := c0
        have HN' : Hid (P.next t ⟨4, frame, page, on, want, size, ghosts⟩ = P.remove t frame) := by simp [Hid, Pol.next]
        have HCL := Lib.hid (HC.out.remove (c := ⟨4, frame, page, on, want, size, ghosts⟩) HA.out HP.out rfl)
        go_wp2_with fail
        refine HCL.out.mono ?_
        clear HCL
        rintro e w2 ⟨rfl, F2, hcr2, hf2, hF2⟩
        have hblk : wr.heap.size < (wr.alloc (.cells #[.int .i64 4, .int .i64 frame, .int .u32 page, .bool on, .int .i64 want, .int .i64 size, .slice ga ghosts.length gc] 37)).heap.size := by simp
        have hnb : ¬ Fk wr.heap.size := fun q => by have := HC.out.lt HCR.out _ q; omega
        have d5 : w2.cell? ⟨wr.heap.size, 5, none⟩ = some (.int .i64 size) := by rw [hf2.cell (p := ⟨wr.heap.size, 5, none⟩) hblk hnb]; simp
        have d6 : w2.cell? ⟨wr.heap.size, 6, none⟩ = some (.slice ga ghosts.length gc) := by rw [hf2.cell (p := ⟨wr.heap.size, 6, none⟩) hblk hnb]; simp
        have hsz2 : wr.heap.size < w2.heap.size := Nat.lt_of_lt_of_le hblk hf2.size
        have KS : Hid (∀ w', Fr NoF w2 w' → Calls Try.prog 23 #[.pointer (some ⟨b, 0, none⟩)] w' fun e w'' => e = .returned (.int .i64 (size : Nat)) ∧ Fr NoF w2 w'') := by
          intro w' f
          have := HC.out.size (HC.out.fr hcr2 f (fun _ _ q => q))
          rw [← HSZ.out, HN'.out]; exact this.mono fun e w'' ⟨he, hf⟩ => ⟨he, f.trans hf (fun _ q => q.elim)⟩
        have KG : Hid (∀ w', Fr NoF w2 w' → Calls Try.prog 22 #[.pointer (some ⟨b, 0, none⟩)] w' fun e w'' => ∃ gv, e = .returned gv ∧ (SlK .u32 w'' gv (P.ghosts (P.remove t frame)) ∧ Fr NoF w2 w'')) := by
          intro w' f
          exact (HC.out.ghosts (HC.out.fr hcr2 f (fun _ _ q => q))).mono fun e w'' ⟨gv, he, hs, hf⟩ => ⟨gv, he, hs, f.trans hf (fun _ q => q.elim)⟩
        have KP : Hid (∀ w' gv', (SlK .u32 w' gv' (P.ghosts (P.remove t frame)) ∧ Fr NoF w2 w') → Calls Try.prog 30 #[gv', .slice ga ghosts.length gc] w' fun e w'' => e = .returned (.bool true) ∧ Fr NoF w2 w'') := by
          intro w' gv' ⟨hs, f⟩
          obtain ⟨g1, g2, g3, g4⟩ := HGH.out
          have f0 : Fr Fk wr w' := ((HFA.out.none).trans hf2 (fun _ q => .inl q)).trans f (fun _ q => q.elim)
          rw [← HN'.out] at hs
          exact (SamePages_calls hs (g4.fr f0 (fun b hb => HXF.out b (HGX.out b hb))) (by rw [g1.length_eq]; exact g3) g1 g2).mono fun e w'' ⟨he, hf⟩ => ⟨he, f.trans hf (fun _ q => q.elim)⟩
        have HC2 := Lib.hid hcr2
        have HF2 := Lib.hid hf2
        have HFF2 := Lib.hid hF2
        clear hcr2 hf2 hF2 hblk hnb
        go_wp2_with fail
        go_region_held3 (fun w' => w'.cell? ⟨wr.heap.size, 5, none⟩ = some (.int .i64 size) ∧ w'.cell? ⟨wr.heap.size, 6, none⟩ = some (.slice ga ghosts.length gc))
          (first | exact ⟨d5, d6⟩ | exact ⟨e5, e6⟩ | exact ⟨g5, g6⟩ | exact ⟨p5, p6⟩)
          (first
            | (go_at_call 23; refine (KS.out _ ((Fr.refl NoF w2).drew)).mono ?_; rintro e w3 ⟨rfl, hf3⟩; have e5 := (hf3.cell (p := ⟨wr.heap.size, 5, none⟩) hsz2 id).trans d5; have e6 := (hf3.cell (p := ⟨wr.heap.size, 6, none⟩) hsz2 id).trans d6; have HF3 := Lib.hid hf3; clear hf3)
            | (go_at_call 22; refine (KG.out _ HF3.out).mono ?_; rintro e w4 ⟨gv4, rfl, hf4⟩; have g5 := (hf4.2.cell (p := ⟨wr.heap.size, 5, none⟩) hsz2 id).trans d5; have g6 := (hf4.2.cell (p := ⟨wr.heap.size, 6, none⟩) hsz2 id).trans d6; have HF4 := Lib.hid hf4; clear hf4)
            | (go_at_call 30; refine (KP.out _ _ HF4.out).mono ?_; rintro e w5 ⟨rfl, hf5⟩; have p5 := (hf5.cell (p := ⟨wr.heap.size, 5, none⟩) hsz2 id).trans d5; have p6 := (hf5.cell (p := ⟨wr.heap.size, 6, none⟩) hsz2 id).trans d6; have HF5 := Lib.hid hf5; clear hf5))
        go_wp2
        go_roundw
        case rel => exact ReplayRel_step hlt HNX.out HN'.out HR.out HF.out HFk.out HFA.out HF2.out HFF2.out HC2.out HF5.out HC.out.fr
        case measure => first | (simp [intOf]; done) | (simp [intOf]; omega)
    · obtain rfl : k = cs.length := by omega
      have hn : t = P.nexts s cs := by have := HN.out; rw [List.take_length] at this; exact this
      have HT := Lib.hid hn
      clear hg hn
      go_wp2
      go_returns
      exact ⟨rfl, Fk, HT.out ▸ HCR.out, HF.out, HFk.out⟩

set_option maxRecDepth 100000 in
set_option maxHeartbeats 2000000 in
theorem Nones_walk {w : World} {v : Value} {cs : List Cl} {X : Nat → Prop} (hv : CRep w v cs X) (hl : cs.length < 1000000)
    (hno : ∀ (i : Nat) (c d : Cl), cs[i + 1]? = some c → cs[i]? = some d → c.kind = 3 → (c.want < 0 ↔ d.size = 0)) :
    Calls Try.prog 11 #[v] w fun e w' => e = .returned (.bool true) ∧ Fr NoF w w' := by
  obtain ⟨av, cv, rfl, q1, q2⟩ : ∃ a c, v = .slice a cs.length c ∧ cs.length ≤ c ∧ c ≤ maxLen := by obtain ⟨gs, _, h2, _, _⟩ := hv; exact h2.shape
  unfold maxLen at q2
  have HV := Lib.hid hv
  have HNO := Lib.hid hno
  clear hv hno
  go_enter Try.func11, Try.ntmps11
  go_wp2
  go_loopg [3] cs.length (fun g i wr => ∃ k : Nat, g = cs.length - k ∧ i = .int .i64 ((k : Int) + 1) ∧ k ≤ cs.length ∧ Fr NoF w wr)
  case atStart => exact ⟨0, rfl, rfl, Nat.zero_le _, Fr.refl _ _⟩
  case round =>
    obtain ⟨k, rfl, rfl, hk, hf⟩ := hrel
    by_cases hlt : k + 1 < cs.length
    · have h1 : k < cs.length := by omega
      have hv1 : CRep wr (.slice av cs.length cv) cs X := HV.out.fr hf (fun _ _ q => q)
      obtain ⟨b, off, c, gv, ev, _, _, hb, hcell, _⟩ := hv1.at hlt
      simp only [Value.slice.injEq] at ev
      obtain ⟨rfl, _, rfl⟩ := ev
      obtain ⟨b', off', c', gv', ev', _, _, _, hcell', _⟩ := hv1.at h1
      simp only [Value.slice.injEq, Option.some.injEq, Addr.mk.injEq] at ev'
      obtain ⟨⟨e1, e2, _⟩, _, e0⟩ := ev'
      rw [← e1, ← e2] at hcell'
      clear e1 e2 e0
      have hno := HNO.out k cs[k + 1] cs[k] (List.getElem?_eq_getElem hlt) (List.getElem?_eq_getElem h1)
      have c0 := hcell 0 _ rfl
      have c4 := hcell 4 _ rfl
      have c5 := hcell' 5 _ rfl
      simp only [Nat.add_zero] at c0
      generalize cs[k + 1] = x at *
      generalize cs[k] = y at *
      obtain ⟨kind, frame, page, on, want, size, ghosts⟩ := x
      obtain ⟨kind', frame', page', on', want', size', ghosts'⟩ := y
      simp only at hno c0 c4 c5
      have HF := Lib.hid hf
      have e3 : (k : Int) + 1 - 1 = k := by omega
      have e4 : ((k : Int) + 1).toNat = k + 1 := by omega
      have e5 : IntKind.i64.wrap ((k : Int) + 1 - 1) = (k : Int) := by rw [e3]; exact IntWalk.i64_in _ (by omega)
      have e6 : 0 ≤ (k : Int) + 1 := by omega
      have e7 : ((k : Int) + 1).toNat < cs.length := by omega
      clear hcell hcell' hv1 hf
      by_cases h3 : kind = 3
      · subst h3
        have hno := hno rfl
        replace c0 : wr.cell? ⟨b, off + (k + 1) * 7, none⟩ = some (.int .i64 3) := c0
        by_cases hw : want < 0
        · have h0 := hno.1 hw
          subst h0
          replace c5 : wr.cell? ⟨b, off + k * 7 + 5, none⟩ = some (.int .i64 0) := c5
          have b1 : decide (want < 0) = true := by simp [hw]
          clear hno
          go_wp2
          go_quiet (fail)
          go_wp2
          go_roundg (cs.length - (k + 1))
          case measure => omega
          case rel => exact ⟨k + 1, rfl, by go_num, by omega, HF.out.trans ((Fr.refl NoF wr).drewN _) (fun _ q => q.elim)⟩
        · have h0 : ¬ size' = 0 := fun e => hw (hno.2 e)
          have b1 : decide (want < 0) = false := by simp [hw]
          have b2 : ((size' : Int) == 0) = false := by simp; omega
          clear hno
          go_wp2
          go_quiet (fail)
          go_wp2
          go_roundg (cs.length - (k + 1))
          case measure => omega
          case rel => exact ⟨k + 1, rfl, by go_num, by omega, HF.out.trans ((Fr.refl NoF wr).drewN _) (fun _ q => q.elim)⟩
      · have b0 : ((kind : Int) == 3) = false := by simp; omega
        clear hno
        go_wp2
        go_quiet (fail)
        go_wp2
        go_roundg (cs.length - (k + 1))
        case measure => omega
        case rel => exact ⟨k + 1, rfl, by go_num, by omega, HF.out.trans ((Fr.refl NoF wr).drewN _) (fun _ q => q.elim)⟩
    · go_wp2
      go_returns
      exact ⟨rfl, hf⟩
end Go.Proofs.Ytoainbdkhhblbaa
namespace Go.Proofs.Ytoainbdkhhblbaa
open Go.RowKit
set_option linter.unusedVariables false

/-- Of calls in a row: nothing went just where nothing might go. -/
def NoneL : List Cl → Prop
  | c :: d :: r => (d.kind = 3 → (d.want < 0 ↔ c.size = 0)) ∧ NoneL (d :: r)
  | _ => True
theorem NoneL.at : ∀ {cs : List Cl}, NoneL cs → ∀ (i : Nat) (c d : Cl), cs[i + 1]? = some c → cs[i]? = some d → c.kind = 3 → (c.want < 0 ↔ d.size = 0)
  | [], _, i, c, d, h, _, _ => by simp at h
  | [a], _, i, c, d, h, _, _ => by simp at h
  | a :: b :: r, hN, 0, c, d, h1, h2, h3 => by
    simp at h1 h2; subst h1 h2; exact hN.1 h3
  | a :: b :: r, hN, i + 1, c, d, h1, h2, h3 => NoneL.at (cs := b :: r) hN.2 i c d (by simpa using h1) (by simpa using h2) h3
theorem NoneL.append : ∀ {a b : List Cl}, NoneL a → NoneL b → (∀ c r, b = c :: r → ¬ c.kind = 3) → NoneL (a ++ b)
  | [], b, _, hb, _ => hb
  | [x], [], _, _, _ => trivial
  | [x], y :: r, _, hb, h => ⟨fun q => (h y r rfl q).elim, hb⟩
  | x :: y :: r, b, ha, hb, h => ⟨ha.1, NoneL.append (a := y :: r) ha.2 hb h⟩

section
variable {σ τ : Type} {P : Pol σ} {Q : Pol τ} {pre : τ → Cl → Prop} {n : Nat} {R : σ → τ → List Nat → Prop}
theorem Good.append : ∀ {a b : List Cl} {t : τ}, Good Q pre t a → Good Q pre (Q.nexts t a) b → Good Q pre t (a ++ b)
  | [], b, t, _, hb => hb
  | c :: a, b, t, ⟨h1, h2, h3, h4, h5, h6, h7, h8, h9⟩, hb => ⟨h1, h2, h3, h4, h5, h6, h7, h8, Good.append h9 hb⟩
theorem Pol.nexts_append (t : τ) (a b : List Cl) : Q.nexts t (a ++ b) = Q.nexts (Q.nexts t a) b := by simp [Pol.nexts]

structure SimSys (P : Pol σ) (Q : Pol τ) (pre : τ → Cl → Prop) (n : Nat) (R : σ → τ → List Nat → Prop) : Prop where
  len : ∀ {s t fr}, R s t fr → fr.length = n
  size : ∀ {s t fr}, R s t fr → Q.size t = P.size s ∧ P.size s < 1000000
  ghosts : ∀ {s t fr}, R s t fr → (Q.ghosts t).Perm (P.ghosts s) ∧ (P.ghosts s).Nodup ∧ (P.ghosts s).length < 1000000
  miss : ∀ {s t fr id}, R s t fr → ¬ id ∈ fr → 1 ≤ id → id < 4294967296 → pre t (P.see (P.miss s id) (clMiss id)) ∧ R (P.miss s id) (Q.miss t id) fr
  access : ∀ {s t fr a id}, R s t fr → a < n → (fr[a]? = some id ∨ fr[a]? = some 0 ∧ ¬ id ∈ fr) → 1 ≤ id → id < 4294967296 → pre t (P.see (P.access s a id) (clAcc a id)) ∧ R (P.access s a id) (Q.access t a id) (fr.set a id)
  set : ∀ {s t fr a x} (v : Bool), R s t fr → a < n → fr[a]? = some x → 1 ≤ x → pre t (P.see (P.set s a v) (clSet a v)) ∧ R (P.set s a v) (Q.set t a v) fr
  victim : ∀ {s t fr id}, R s t fr → ¬ id ∈ fr → 1 ≤ id → id < 4294967296 → Q.victim t id = P.victim s id
  none : ∀ {s t fr id}, R s t fr → ¬ id ∈ fr → 1 ≤ id → id < 4294967296 → (P.victim s id = none ↔ P.size s = 0) ∧ pre t (P.see s (clVic id (-1)))
  gone : ∀ {s t fr a id}, R s t fr → ¬ id ∈ fr → 1 ≤ id → id < 4294967296 → P.victim s id = some a → a < n ∧ pre t (P.see (P.gone s id) (clVic id a)) ∧ R (P.gone s id) (Q.gone t id) (fr.set a 0)
  remove : ∀ {s t fr a x}, R s t fr → a < n → fr[a]? = some x → 1 ≤ x → pre t (P.see (P.remove s a) (clRem a)) ∧ R (P.remove s a) (Q.remove t a) (fr.set a 0)

variable (S : SimSys P Q pre n R)
include S
theorem SimSys.one {s' : σ} {t : τ} {fr : List Nat} {c : Cl} (hk : c.kind < 5) (hp : pre t (P.see s' c)) (hw : c.kind = 3 → c.want = fstI (Q.victim t c.page)) {t' : τ} (ht : Q.next t (P.see s' c) = t') (hR : R s' t' fr) {cs : List Cl} (hr : Good Q pre t' cs) :
    Good Q pre t (P.see s' c :: cs) := by
  subst ht
  obtain ⟨g1, g2, g3⟩ := S.ghosts hR
  exact ⟨hk, hp, hw, (S.size hR).1, (S.size hR).2, g1, g2, g3, hr⟩
theorem SimSys.come {s : σ} {t : τ} {fr fm : List Nat} {a id : Nat} (h : R s t fr) (ha : a < n) (hfa : fr[a]? = some 0 ∧ ¬ id ∈ fr) (h1 : 1 ≤ id) (h2 : id < 4294967296) (hm : fm.set a id = fr.set a id) (prel : List Cl) :
    ∃ x y, P.come s fm a id prel = (x, fr.set a id, prel ++ y) ∧ (∃ c d, y = [c, d] ∧ c.kind = 1 ∧ d.kind = 2) ∧ Good Q pre t y ∧ R x (Q.nexts t y) (fr.set a id) := by
  obtain ⟨p1, r1⟩ := S.access h ha (.inr hfa) h1 h2
  have hl := S.len h
  obtain ⟨p2, r2⟩ := S.set true r1 ha (x := id) (by rw [List.getElem?_set, if_pos rfl, if_pos (by omega)]) h1
  refine ⟨P.set (P.access s a id) a true, [P.see (P.access s a id) (clAcc a id), P.see (P.set (P.access s a id) a true) (clSet a true)], ?_, ⟨_, _, rfl, rfl, rfl⟩, ?_, ?_⟩
  · show (_, fm.set a id, _) = _; rw [hm]
  · exact S.one (by show 1 < 5; omega) p1 (fun q => (by cases q)) (by simp [Pol.next, Pol.see, clAcc]) r1 (S.one (by show 2 < 5; omega) p2 (fun q => (by cases q)) (by simp [Pol.next, Pol.see, clSet]) r2 trivial)
  · simpa [Pol.nexts, Pol.next, Pol.see, clAcc, clSet] using r2
/-- One thing that happens. -/
theorem SimSys.step {s : σ} {t : τ} {fr : List Nat} {k id : Nat} (h : R s t fr) (hk : k < 4) (h1 : 1 ≤ id) (h2 : id < 4294967296) :
    Good Q pre t (P.step s fr k id).2.2 ∧ NoneL (P.step s fr k id).2.2 ∧ (∀ c r, (P.step s fr k id).2.2 = c :: r → ¬ c.kind = 3) ∧ R (P.step s fr k id).1 (Q.nexts t (P.step s fr k id).2.2) (P.step s fr k id).2.1 := by
  have hl := S.len h
  by_cases h0 : k = 0
  · subst h0
    cases e : atL fr id with
    | some a =>
      obtain ⟨ha, hfa⟩ := atL_some e
      obtain ⟨p1, r1⟩ := S.access h (by omega) (.inl hfa) h1 h2
      rw [set_same' hfa] at r1
      have hs : P.step s fr 0 id = (P.access s a id, fr, [P.see (P.access s a id) (clAcc a id)]) := by simp [Pol.step, e]
      rw [hs]
      refine ⟨S.one (by show 1 < 5; omega) p1 (fun q => (by cases q)) (by simp [Pol.next, Pol.see, clAcc]) r1 trivial, trivial, fun c r q => ?_, ?_⟩
      · simp at q; rw [← q.1]; simp [Pol.see, clAcc]
      · simpa [Pol.nexts, Pol.next, Pol.see, clAcc] using r1
    | none =>
      have hni := atL_none e
      obtain ⟨pm, rm⟩ := S.miss h hni h1 h2
      have gm := @SimSys.one σ τ P Q pre n R S (P.miss s id) t fr (clMiss id) (by show 0 < 5; omega) pm (fun q => (by cases q)) (Q.miss t id) (by simp [Pol.next, Pol.see, clMiss]) rm
      have nm : Q.next t (P.see (P.miss s id) (clMiss id)) = Q.miss t id := by simp [Pol.next, Pol.see, clMiss]
      cases e0 : atL fr 0 with
      | some a =>
        obtain ⟨ha, hfa⟩ := atL_some e0
        obtain ⟨x, y, hc, ⟨c1, d1, rfl, k1, k2⟩, hg, hR⟩ := S.come rm (by omega) ⟨hfa, hni⟩ h1 h2 rfl [P.see (P.miss s id) (clMiss id)]
        have hs : P.step s fr 0 id = P.come (P.miss s id) fr a id [P.see (P.miss s id) (clMiss id)] := by simp [Pol.step, e, e0]
        rw [hs, hc]
        refine ⟨gm hg, ?_, fun c r q => ?_, ?_⟩
        · exact ⟨fun q => (by rw [k1] at q; cases q), fun q => (by rw [k2] at q; cases q), trivial⟩
        · simp at q; rw [← q.1]; simp [Pol.see, clMiss]
        · rw [Pol.nexts_append]; simpa [Pol.nexts, nm] using hR
      | none =>
        cases ev : P.victim (P.miss s id) id with
        | none =>
          obtain ⟨pn, pv⟩ := S.none rm hni h1 h2
          have hs : P.step s fr 0 id = (P.miss s id, fr, [P.see (P.miss s id) (clMiss id), P.see (P.miss s id) (clVic id (-1))]) := by simp [Pol.step, e, e0, ev]
          have hv := S.victim rm hni h1 h2
          rw [hs]
          have nv : Q.next (Q.miss t id) (P.see (P.miss s id) (clVic id (-1))) = Q.miss t id := by simp [Pol.next, Pol.see, clVic, hv, ev]
          refine ⟨gm (S.one (by show 3 < 5; omega) pv (fun q => ?_) nv rm trivial), ⟨fun q => ?_, trivial⟩, fun c r q => ?_, ?_⟩
          · show (-1 : Int) = fstI (Q.victim (Q.miss t id) id); rw [hv, ev]; rfl
          · have := pn.1 ev
            show (-1 : Int) < 0 ↔ P.size (P.miss s id) = 0
            simp [this]
          · simp at q; rw [← q.1]; simp [Pol.see, clMiss]
          · simpa [Pol.nexts, nm, nv] using rm
        | some a =>
          obtain ⟨ha, pv, rv⟩ := S.gone rm hni h1 h2 ev
          have hv := S.victim rm hni h1 h2
          have hl2 := S.len rm
          have hfa : (fr.set a 0)[a]? = some 0 ∧ ¬ id ∈ fr.set a 0 := ⟨by rw [List.getElem?_set, if_pos rfl, if_pos (by omega)], fun q => by
            rcases List.mem_or_eq_of_mem_set q with q | q
            · exact hni q
            · omega⟩
          obtain ⟨x, y, hc, ⟨c1, d1, rfl, k1, k2⟩, hg, hR⟩ := S.come (fm := fr) rv ha hfa h1 h2 (by rw [List.set_set]) [P.see (P.miss s id) (clMiss id), P.see (P.gone (P.miss s id) id) (clVic id a)]
          have hs : P.step s fr 0 id = P.come (P.gone (P.miss s id) id) fr a id [P.see (P.miss s id) (clMiss id), P.see (P.gone (P.miss s id) id) (clVic id a)] := by simp [Pol.step, e, e0, ev]
          rw [hs, hc]
          have nv : Q.next (Q.miss t id) (P.see (P.gone (P.miss s id) id) (clVic id a)) = Q.gone (Q.miss t id) id := by simp [Pol.next, Pol.see, clVic, hv, ev]
          refine ⟨gm (S.one (by show 3 < 5; omega) pv (fun q => ?_) nv rv hg), ?_, fun c r q => ?_, ?_⟩
          · show (a : Int) = fstI (Q.victim (Q.miss t id) id); rw [hv, ev]; rfl
          · refine ⟨fun q => ?_, fun q => (by rw [k1] at q; cases q), fun q => (by rw [k2] at q; cases q), trivial⟩
            have hz : ¬ P.size (P.miss s id) = 0 := fun z => by
              have := (S.none rm hni h1 h2).1.2 z
              rw [ev] at this; cases this
            show (a : Int) < 0 ↔ P.size (P.miss s id) = 0
            constructor
            · intro q; omega
            · intro q; exact (hz q).elim
          · simp at q; rw [← q.1]; simp [Pol.see, clMiss]
          · rw [Pol.nexts_append]; simpa [Pol.nexts, nm, nv, List.set_set] using hR
  · cases e : atL fr id with
    | none =>
      have hs : P.step s fr k id = (s, fr, []) := by simp [Pol.step, h0, e]
      rw [hs]
      exact ⟨trivial, trivial, fun c r q => (by cases q), h⟩
    | some a =>
      obtain ⟨ha, hfa⟩ := atL_some e
      by_cases h3 : k = 3
      · obtain ⟨p1, r1⟩ := S.remove h (by omega) hfa h1
        have hs : P.step s fr k id = (P.remove s a, fr.set a 0, [P.see (P.remove s a) (clRem a)]) := by simp [Pol.step, e, h3]
        rw [hs]
        refine ⟨S.one (by show 4 < 5; omega) p1 (fun q => (by cases q)) (by simp [Pol.next, Pol.see, clRem]) r1 trivial, trivial, fun c r q => ?_, ?_⟩
        · simp at q; rw [← q.1]; simp [Pol.see, clRem]
        · simpa [Pol.nexts, Pol.next, Pol.see, clRem] using r1
      · obtain ⟨p1, r1⟩ := S.set (!decide (k = 1)) h (by omega) hfa h1
        have hs : P.step s fr k id = (P.set s a (!decide (k = 1)), fr, [P.see (P.set s a (!decide (k = 1))) (clSet a (!decide (k = 1)))]) := by simp [Pol.step, e, h0, h3]
        rw [hs]
        refine ⟨S.one (by show 2 < 5; omega) p1 (fun q => (by cases q)) (by simp [Pol.next, Pol.see, clSet]) r1 trivial, trivial, fun c r q => ?_, ?_⟩
        · simp at q; rw [← q.1]; simp [Pol.see, clSet]
        · simpa [Pol.nexts, Pol.next, Pol.see, clSet] using r1
/-- All that happens. -/
theorem SimSys.run : ∀ {ops : List (Nat × Nat)} {s : σ} {t : τ} {fr : List Nat}, R s t fr → (∀ o ∈ ops, o.1 < 4 ∧ 1 ≤ o.2 ∧ o.2 < 4294967296) →
    Good Q pre t (P.run s fr ops).2.2 ∧ NoneL (P.run s fr ops).2.2 ∧ (∀ c r, (P.run s fr ops).2.2 = c :: r → ¬ c.kind = 3) ∧ R (P.run s fr ops).1 (Q.nexts t (P.run s fr ops).2.2) (P.run s fr ops).2.1
  | [], s, t, fr, h, _ => ⟨trivial, trivial, fun c r q => (by cases q), h⟩
  | (k, id) :: ops, s, t, fr, h, ho => by
    obtain ⟨a1, a2, a3⟩ := ho (k, id) (List.mem_cons_self ..)
    obtain ⟨g, nn, hh, r⟩ := S.step h a1 a2 a3
    obtain ⟨g', nn', hh', r'⟩ := SimSys.run (ops := ops) r (fun o q => ho o (List.mem_cons_of_mem _ q))
    refine ⟨Good.append g g', NoneL.append nn nn' hh', fun c rr q => ?_, ?_⟩
    · have q : (P.step s fr k id).2.2 ++ (P.run (P.step s fr k id).1 (P.step s fr k id).2.1 ops).2.2 = c :: rr := q
      cases e : (P.step s fr k id).2.2 with
      | nil => rw [e] at q; exact hh' c rr q
      | cons x y => rw [e] at q; simp at q; exact hh c y (by rw [e, q.1])
    · show R (P.run (P.step s fr k id).1 (P.step s fr k id).2.1 ops).1 (Q.nexts t ((P.step s fr k id).2.2 ++ (P.run (P.step s fr k id).1 (P.step s fr k id).2.1 ops).2.2)) _
      rw [Pol.nexts_append]
      exact r'
end
end Go.Proofs.Ytoainbdkhhblbaa

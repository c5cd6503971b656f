/-
  Pro's Access and Set, said of the ring of entries.
-/
import Derived.Test.YtfgkaoncojhdeaaProZ
namespace Go.Proofs.Ytfgkaoncojhdeaa
open Go.RowKit Go.Maps
set_option linter.unusedVariables false
set_option linter.unusedSimpArgs false

section
variable {w w' : World} {b n m : Nat} {A : AP} {r : Raw} {s : PrS} {i x f id : Nat} {y : En}
theorem pa_set (h : PA n b A w s) (hk : PK n m s) (hi : s.L[i]? = some y) (hf : y.fr = (f : Int)) (u : Bool) (hn : n ≤ 30000) : Calls Try.prog 20 #[.pointer (some ⟨b, 0, none⟩), .int .i64 f, .bool u] w fun e w' => e = .returned (.tuple #[]) ∧ PA n b A w' { s with on := upd s.on f u } ∧ Fr (FP A b) w w' := by
  obtain ⟨r, h1, h2⟩ := h
  obtain ⟨x, hx, ex⟩ := h2.rl.id hi
  subst ex
  have hxm := List.mem_of_getElem? hx
  obtain ⟨q1, q2, _, _⟩ := hk.el _ (mem_get hi)
  have hfn : f < n := by omega
  refine (pr_set h1 hfn (h2.fm2 f hfn x hxm hf) (h1.lists.2.2.1 x hxm) u (fun _ q => h2.size_pos hxm q) (by have := h2.size_le; omega)).mono fun e w' ⟨a1, a2, a3⟩ => ⟨a1, ⟨_, a2, h2.setV hk hx hf u⟩, a3⟩
set_option maxHeartbeats 2000000 in
theorem pa_touch (h : PA n b A w s) (hk : PK n m s) (hi : s.L[i]? = some y) (hf : y.fr = (f : Int)) (hn : n ≤ 30000) (p : Int) : Calls Try.prog 19 #[.pointer (some ⟨b, 0, none⟩), .int .i64 f, .int .u32 p] w fun e w' => e = .returned (.tuple #[]) ∧ PA n b A w' (s.put i { y with ref := true }) ∧ Fr (FP A b) w w' := by
  obtain ⟨r, h1, h2⟩ := h
  obtain ⟨x, hx, ex⟩ := h2.rl.id hi
  subst ex
  have hxm := List.mem_of_getElem? hx
  obtain ⟨q1, q2, _, _⟩ := hk.el _ (mem_get hi)
  have hfn : f < n := by omega
  have hfm := h2.fm2 f hfn x hxm hf
  have hx2 := h1.lists.2.2.1 x hxm
  have HI := Lib.hid (pr_isFrame h1 hfn)
  have c1 : w.cell? ⟨b, 1, none⟩ = some (.slice (some ⟨A.eb, 0, none⟩) (2 * n) (2 * n)) := h1.c 1 (by omega)
  have c5 : w.cell? ⟨b, 5, none⟩ = some (.slice (some ⟨A.fb, 0, none⟩) n n) := h1.c 5 (by omega)
  have cf := h1.cf hfn
  rw [hfm] at cf
  obtain ⟨_, _, _, x3, _, _⟩ := h1.ce hx2
  have fe := fun i => h1.en.frozen i
  have lb := h1.hd.lt
  have le := h1.en.lt
  have hne : ((x : Int) == -1) = false := by simp
  have g0 : (0 : Int) ≤ (x : Int) := by omega
  have g1 : (x : Int) < 2 * (n : Int) := by omega
  have g2 : (0 : Int) ≤ (f : Int) := by omega
  have g3 : (f : Int) < (n : Int) := by omega
  have KEY : Hid (PA n b A (w.setCell ⟨A.eb, x * 6 + 3, none⟩ (.bool true)) (s.put i { r.e x with ref := true }) ∧ Fr (FP A b) w (w.setCell ⟨A.eb, x * 6 + 3, none⟩ (.bool true))) :=
    ⟨⟨_, h1.setEn (r' := { r with e := upd r.e x { r.e x with ref := true } }) (en_ref r.e r.v x true) rfl, h2.put (y := { r.e x with ref := true }) hx rfl rfl rfl⟩, (Fr.refl (FP A b) w).setCell (p := ⟨A.eb, x * 6 + 3, none⟩) (.inl (.inr (.inl rfl))) _⟩
  clear h1 h2 hk hi hf hx hxm q1 q2 hfm
  go_enter Try.func19, Try.ntmps19
  go_wp2_with (go_at_call 33; refine HI.out.mono ?_; rintro e w' ⟨rfl, rfl⟩)
  go_returns
  exact ⟨rfl, KEY.out⟩
theorem spare_one (h1 : PC w b n A r) (h2 : Rf n r s) (hl : s.L.length < 2 * n) : ∃ x sp', r.sp = x :: sp' ∧ (¬ x ∈ r.ids) ∧ ¬ x ∈ sp' := by
  have h3 := h2.tot
  have h4 := h2.len
  cases e : r.sp with
  | nil => rw [e] at h3; simp at h3; omega
  | cons x sp' =>
    obtain ⟨_, hnd, _, _, hd⟩ := h1.lists
    refine ⟨x, sp', rfl, fun q => hd x q (by rw [e]; simp), fun q => ?_⟩
    rw [e] at hnd
    exact (List.nodup_cons.1 hnd).1 q
theorem fm_none (h2 : Rf n r s) (hfn : f < n) (hno : ∀ z ∈ s.L, ¬ z.fr = (f : Int)) : r.fm f = -1 := by
  rcases h2.fm0 f hfn with q | ⟨x, q⟩
  · exact q
  · obtain ⟨a1, a2⟩ := h2.fm1 f hfn x q
    obtain ⟨j, hj⟩ := List.getElem?_of_mem a1
    exact (hno _ (List.mem_of_getElem? (h2.get hj)) a2).elim
theorem ids_or (h2 : Rf n r s) : r.ids = [] ∨ r.h 0 ∈ r.ids := by
  rcases h2.rl.hd with q | q
  · exact .inl q
  · exact .inr (List.mem_of_getElem? (q 0 (by omega)))
set_option maxRecDepth 100000 in
set_option maxHeartbeats 4000000 in
theorem pa_come0 (h : PA n b A w s) (hk : PK n n s) (hfn : f < n) (hno : ∀ z ∈ s.L, ¬ z.fr = (f : Int)) (hong : ∀ z ∈ s.L, z.fr = -1 → ¬ z.pg = id) (hon : s.on f = false) (hl : s.L.length < 2 * n) (hu : id < 4294967296) (hn : n ≤ 30000) :
    Calls Try.prog 19 #[.pointer (some ⟨b, 0, none⟩), .int .i64 f, .int .u32 id] w fun e w' => e = .returned (.tuple #[]) ∧ PA n b A w' (s.lay ⟨id, f, false, false, true⟩) ∧ Fr (FP A b) w w' := by
  obtain ⟨r, h1, h2⟩ := h
  have hfm := fm_none h2 hfn hno
  obtain ⟨x, sp', hs, hni, hns⟩ := spare_one h1 h2 hl
  have HI := Lib.hid (pr_isFrame h1 hfn)
  have c5 : w.cell? ⟨b, 5, none⟩ = some (.slice (some ⟨A.fb, 0, none⟩) n n) := h1.c 5 (by omega)
  have c6 : w.cell? ⟨b, 6, none⟩ = some (.map (some A.mb)) := h1.c 6 (by omega)
  have cf := h1.cf hfn
  rw [hfm] at cf
  have hmp : r.mp (id : Int) = none := by
    cases e : r.mp (id : Int) with
    | none => rfl
    | some a =>
      obtain ⟨a1, a2, a3⟩ := (h2.mp _ a).1 e
      obtain ⟨j, hj⟩ := List.getElem?_of_mem a1
      have hL := h2.get hj
      have := (hk.el _ (mem_get hL)).1
      exact (hong _ (mem_get hL) (by omega) (by omega)).elim
  have hlk := h1.mp.look_ok_run MVg (x := (id : Nat)) (wfU hu)
  have hmpn : mpF r.mp (id : Int) = none := by unfold mpF; rw [hmp]; rfl
  rw [hmpn] at hlk
  simp only [Option.getD_none, Option.isSome_none] at hlk
  have HCO := Lib.hid (fun W (g : Fr NoF w W) => ck_come (h1.fr0 g) ⟨id, f, false, false, true⟩ hs (ids_or h2))
  have hr0 := h2.come (y := ⟨id, f, false, false, true⟩) hk hs hni hns rfl hfn hfm hon
  have lb := h1.hd.lt
  have lf := h1.fb.lt
  have g2 : (0 : Int) ≤ (f : Int) := by omega
  have g3 : (f : Int) < (n : Int) := by omega
  have HK : Hid (∀ W, PC W b n A (r.come ⟨id, f, false, false, true⟩) → Fr (FP A b) w W → PA n b A (W.setCell ⟨A.fb, f, none⟩ (.int .i64 (x : Nat))) (s.lay ⟨id, f, false, false, true⟩) ∧ Fr (FP A b) w (W.setCell ⟨A.fb, f, none⟩ (.int .i64 (x : Nat)))) := fun W hW fW => by
    refine ⟨⟨_, hW.setFm (i := f) (x : Int), ?_⟩, fW.setCell (p := ⟨A.fb, f, none⟩) (.inl (.inr (.inr (.inl rfl)))) _⟩
    have e1 : (r.come ⟨id, f, false, false, true⟩).hot = r.hot := by
      unfold Raw.come
      exact (lay_ids_e _).2.2.2.1
    have e2 : (r.come ⟨id, f, false, false, true⟩).fm = r.fm := by
      unfold Raw.come
      exact (lay_ids_e _).2.2.2.2.2.1
    rw [e2]
    have e3 : ({ r.come ⟨id, f, false, false, true⟩ with fm := upd r.fm f (x : Int) } : Raw) = { r.come ⟨id, f, false, false, true⟩ with fm := upd r.fm f (x : Int), hot := r.hot + (if (⟨id, f, false, false, true⟩ : En).hot = true then 1 else 0) } := by
      rw [← e1]; rfl
    rw [e3]; exact hr0
  unfold enV at HCO
  clear h1 h2 hk hno hong hl hu hfm hmp hmpn hs hni hns hr0
  generalize s.lay ⟨id, f, false, false, true⟩ = s1 at *
  go_enter Try.func19, Try.ntmps19
  go_wp2_with (go_at_call 33; refine HI.out.mono ?_; rintro e w' ⟨rfl, rfl⟩)
  clear hlk cf
  go_region_with (go_at_call 34; (with_reducible refine (HCO.out _ (by repeat (first | exact Fr.refl NoF _ | apply Fr.drew | apply Fr.drewN))).mono ?_); rintro e w1 ⟨rfl, h3, f3⟩; have d5 : w1.cell? ⟨b, 5, none⟩ = some (.slice (some ⟨A.fb, 0, none⟩) n n) := h3.c 5 (by omega); have fz := h3.fb.frozen f; have cf3 := h3.cf hfn; have lf1 := h3.fb.lt; have lb1 := h3.hd.lt; have H3 := Lib.hid h3; have F3 := Lib.hid f3; clear h3 f3)
  all_goals
    have KEY := Lib.hid (HK.out _ H3.out (((Fr.refl (FP A b) w).drew).trans F3.out (fun i q => .inl q)))
    clear HK H3 F3 HCO c5 c6
    go_wp2
    go_returns
    exact ⟨rfl, KEY.out⟩
set_option maxRecDepth 100000 in
set_option maxHeartbeats 8000000 in
theorem pa_come1 (h : PA n b A w s) (hk : PK n n s) (hfn : f < n) (hno : ∀ z ∈ s.L, ¬ z.fr = (f : Int)) (hon : s.on f = false) (hl : s.L.length < 2 * n) (hu : id < 4294967296) (hg : s.L[i]? = some y) (hg1 : y.fr = -1) (hg2 : y.pg = id) (h0 : 1 ≤ id) (hn : n ≤ 30000)
    (hpk : PK n n (({ s with goal := min (s.goal + 1) (max (n - 1) 1) }.drop i).lay ⟨id, f, true, false, false⟩)) :
    Calls Try.prog 19 #[.pointer (some ⟨b, 0, none⟩), .int .i64 f, .int .u32 id] w fun e w' => e = .returned (.tuple #[]) ∧ PA n b A w' ((({ s with goal := min (s.goal + 1) (max (n - 1) 1) }.drop i).lay ⟨id, f, true, false, false⟩).cool n) ∧ Fr (FP A b) w w' := by
  obtain ⟨r, h1, h2⟩ := h
  have hfm := fm_none h2 hfn hno
  obtain ⟨g, hgx, eg⟩ := h2.rl.id hg
  subst eg
  have hgm := List.mem_of_getElem? hgx
  have hg2x := h1.lists.2.2.1 g hgm
  have HI := Lib.hid (pr_isFrame h1 hfn)
  have c5 : w.cell? ⟨b, 5, none⟩ = some (.slice (some ⟨A.fb, 0, none⟩) n n) := h1.c 5 (by omega)
  have c6 : w.cell? ⟨b, 6, none⟩ = some (.map (some A.mb)) := h1.c 6 (by omega)
  have c7 : w.cell? ⟨b, 7, none⟩ = some (.int .i64 (r.goal : Nat)) := h1.c 7 (by omega)
  have fb7 := h1.hd.frozen 7
  have cf := h1.cf hfn
  rw [hfm] at cf
  have hmp : r.mp (id : Int) = some g := (h2.mp _ g).2 ⟨hgm, by omega, by omega⟩
  have hlk := h1.mp.look_ok_run MVg (x := (id : Nat)) (wfU hu)
  have hmpn : mpF r.mp (id : Int) = some (.int .i64 (g : Nat)) := by unfold mpF; rw [hmp]; rfl
  rw [hmpn] at hlk
  simp only [Option.getD_some, Option.isSome_some] at hlk
  have hn1 := hk.n1
  have hgl := hk.gl
  have hgo := h2.goal
  have HGR := Lib.hid (fun W (g : Fr NoF w W) => pr_greatest (h1.fr0 g) hn1)
  have hht := h2.hot_le
  -- behind the goal
  have hr1 : Rf n { r with goal := min (s.goal + 1) (max (n - 1) 1) } { s with goal := min (s.goal + 1) (max (n - 1) 1) } := h2.goals _
  have hr2 := hr1.ghost (i := i) (x := g) hgx (by show (r.e g).fr < 0; omega)
  have HDROP : Hid (∀ W, PC W b n A { r with goal := min (s.goal + 1) (max (n - 1) 1) } → Calls Try.prog 35 #[.pointer (some ⟨b, 0, none⟩), .int .i64 g] W fun e w' => e = .returned (.tuple #[]) ∧ PC w' b n A (Raw.pdrop { r with goal := min (s.goal + 1) (max (n - 1) 1) } g) ∧ Fr (FP A b) W w') := fun W hW => by
    obtain ⟨_, q2, _, _⟩ := hk.el _ (mem_get hg)
    exact pr_drop hW (x := g) hgm (by show (r.e g).pg < _; exact q2.2) (fun q => h2.hot_pos hgm q) (by show r.hot ≤ _; omega)
  have hno2 : ∀ z ∈ ({ s with goal := min (s.goal + 1) (max (n - 1) 1) }.drop i).L, ¬ z.fr = (f : Int) := fun z hz => hno z (List.mem_of_mem_eraseIdx hz)
  have hfm2 := fm_none hr2 hfn hno2
  have hl2 : ({ s with goal := min (s.goal + 1) (max (n - 1) 1) }.drop i).L.length < 2 * n := by show (s.L.eraseIdx i).length < _; have := List.length_eraseIdx_le (l := s.L) (i := i); omega
  have hk2 : PK n n ({ s with goal := min (s.goal + 1) (max (n - 1) 1) }.drop i) := PK.drop (s := { s with goal := min (s.goal + 1) (max (n - 1) 1) }) ⟨hk.hl, hk.uq, hk.el, hk.ng, by show 1 ≤ min (s.goal + 1) (max (n - 1) 1) ∧ min (s.goal + 1) (max (n - 1) 1) ≤ _; omega, hk.n1⟩ hg
  generalize hr3e : Raw.pdrop { r with goal := min (s.goal + 1) (max (n - 1) 1) } g = r3 at *
  have hon2 : ({ s with goal := min (s.goal + 1) (max (n - 1) 1) }.drop i).on f = false := hon
  generalize hs3e : ({ s with goal := min (s.goal + 1) (max (n - 1) 1) } : PrS).drop i = s3 at *
  have HCOME : Hid (∀ W, PC W b n A r3 → ∃ x : Nat, (∀ W', Fr NoF W W' → Calls Try.prog 34 #[.pointer (some ⟨b, 0, none⟩), enV ⟨id, f, true, false, false⟩ false] W' fun e w' => e = .returned (.int .i64 (x : Nat)) ∧ PC w' b n A (r3.come ⟨id, f, true, false, false⟩) ∧ Fr (FP A b) W' w') ∧
      Rf n { r3.come ⟨id, f, true, false, false⟩ with fm := upd r3.fm f (x : Int), hot := r3.hot + 1 } (s3.lay ⟨id, f, true, false, false⟩)) := fun W hW => by
    obtain ⟨x, sp', hs, hni, hns⟩ := spare_one hW hr2 hl2
    exact ⟨x, fun W' g => ck_come (hW.fr0 g) _ hs (ids_or hr2), hr2.come (y := ⟨id, f, true, false, false⟩) hk2 hs hni hns rfl hfn hfm2 hon2⟩
  have hh3 := hr2.hot_le
  have HCE : Hid ((r3.come ⟨id, f, true, false, false⟩).hot = r3.hot ∧ (r3.come ⟨id, f, true, false, false⟩).fm = r3.fm) := by
    unfold Raw.come
    exact ⟨(lay_ids_e _).2.2.2.1, (lay_ids_e _).2.2.2.2.2.1⟩
  have HCOOL : Hid (∀ W, PA n b A W (s3.lay ⟨id, f, true, false, false⟩) → Calls Try.prog 36 #[.pointer (some ⟨b, 0, none⟩)] W fun e w' => e = .returned (.tuple #[]) ∧ PA n b A w' ((s3.lay ⟨id, f, true, false, false⟩).cool n) ∧ Fr (FP A b) W w') := fun W hW => pa_cool hW hpk hn
  have HG7 : Hid (∀ (W : World) (z : Int), Fr NoF w W → z = ((min (s.goal + 1) (max (n - 1) 1) : Nat) : Int) → PC (W.setCell ⟨b, 7, none⟩ (.int .i64 z)) b n A { r with goal := min (s.goal + 1) (max (n - 1) 1) } ∧ Fr (FP A b) w (W.setCell ⟨b, 7, none⟩ (.int .i64 z))) := fun W z g e => by
    subst e
    exact ⟨(h1.fr0 g).setHead (r' := { r with goal := min (s.goal + 1) (max (n - 1) 1) }) (prH_goal _ _ _ _ _) rfl, (g.mono (fun _ q => q.elim)).setCell (p := ⟨b, 7, none⟩) (.inl (.inl rfl)) _⟩
  have lb := h1.hd.lt
  have g2 : (0 : Int) ≤ (f : Int) := by omega
  have g3 : (f : Int) < (n : Int) := by omega
  have k1 : (r.goal : Int) ≤ 70000 := by omega
  have k2 : IntKind.i64.wrap ((r.goal : Int) + 1) = (r.goal : Int) + 1 := wrap_small (by omega) (by omega)
  have k3 : min (s.goal + 1) (max (n - 1) 1) = r.goal + 1 ∨ min (s.goal + 1) (max (n - 1) 1) = max (n - 1) 1 := by omega
  have k4 : min (s.goal + 1) (max (n - 1) 1) ≤ r.goal + 1 := by omega
  have k5 : min (s.goal + 1) (max (n - 1) 1) ≤ max (n - 1) 1 := by omega
  have K345 := Lib.hid (And.intro k3 (And.intro k4 k5))
  clear h1 h2 hk hno hon hl hu hg hg1 hg2 h0 hpk hfm hmp hmpn hr1 hr2 hno2 hfm2 hl2 hk2 hon2 hr3e hs3e hgm hgx hgl hgo hn1 k3 k4 k5
  generalize min (s.goal + 1) (max (n - 1) 1) = gg at *
  generalize max (n - 1) 1 = gm at *
  generalize (s3.lay ⟨id, f, true, false, false⟩).cool n = fin at *
  unfold enV at HCOME
  go_enter Try.func19, Try.ntmps19
  go_wp2_with (go_at_call 33; refine HI.out.mono ?_; rintro e w' ⟨rfl, rfl⟩)
  clear hlk cf HI
  go_region_with (go_at_call 17; (with_reducible refine (HGR.out _ (by repeat (first | exact Fr.refl NoF _ | apply Fr.drew | apply Fr.drewN))).mono ?_); rintro e w1 ⟨rfl, rfl⟩)
  all_goals
    have e7 : (if ((gm : Nat) : Int) < (r.goal : Int) + 1 then (gm : Int) else (r.goal : Int) + 1) = ((gg : Nat) : Int) := by
      obtain ⟨a1, a2, a3⟩ := K345.out
      split <;> omega
    rw [e7]
    obtain ⟨hp, fp⟩ := HG7.out w _ (Fr.refl NoF w) rfl
    have hp1 := hp.fr0 (Fr.refl NoF _).drew
    have FP1 := Lib.hid fp.drew
    have HD1 := Lib.hid (HDROP.out _ hp1)
    clear hp fp hp1 HG7 HDROP K345 HGR e7 k1 k2 c5 c6 c7 fb7 hht
    generalize (w.setCell ⟨b, 7, none⟩ (.int .i64 ((gg : Nat) : Int))).drew = wd at *
    go_wp2_with fail
    refine HD1.out.mono ?_
    clear HD1
    rintro e w2 ⟨rfl, h3, f3⟩
    obtain ⟨x, hco, hrf⟩ := HCOME.out _ h3
    have HCO := Lib.hid hco
    have HRF := Lib.hid hrf
    have F3 := Lib.hid (FP1.out.trans f3 (fun i q => .inl q))
    have c5 : w2.cell? ⟨b, 5, none⟩ = some (.slice (some ⟨A.fb, 0, none⟩) n n) := h3.c 5 (by omega)
    have lb2 := h3.hd.lt
    clear h3 f3 hco hrf HCOME
    go_wp2_with fail
    go_region_with (go_at_call 34; (with_reducible refine (HCO.out _ (by repeat (first | exact Fr.refl NoF _ | apply Fr.drew | apply Fr.drewN))).mono ?_); rintro e w1 ⟨rfl, h3, f3⟩; have d5 : w1.cell? ⟨b, 5, none⟩ = some (.slice (some ⟨A.fb, 0, none⟩) n n) := h3.c 5 (by omega); have fz := h3.fb.frozen f; have cf3 := h3.cf hfn; have lf1 := h3.fb.lt; have lb1 := h3.hd.lt; have H3 := Lib.hid h3; have F4 := Lib.hid f3; clear h3 f3)
    all_goals
      have h4 := H3.out.setFm (i := f) (x : Int)
      have f4 : Fr (FP A b) w _ := (((F3.out.trans (G := NoF) ((Fr.refl NoF w2).drew) (fun _ q => q.elim)).trans F4.out (fun i q => .inl q))).setCell (p := ⟨A.fb, f, none⟩) (.inl (.inr (.inr (.inl rfl)))) (.int .i64 (x : Int))
      have hc2 := HCE.out.2
      have hc1 := HCE.out.1
      rw [hc2] at h4
      have c8 := h4.c 8 (by omega)
      have c8' : (w1.setCell ⟨A.fb, f, none⟩ (.int .i64 (x : Int))).cell? ⟨b, 8, none⟩ = some (.int .i64 (r3.hot : Nat)) := by rw [c8, ← hc1]; rfl
      have fz8 := h4.hd.frozen 8
      have lb8 := h4.hd.lt
      have h5 := h4.setHead (i := 8) (u := .int .i64 ((r3.hot + 1 : Nat) : Int)) (r' := { r3.come ⟨id, f, true, false, false⟩ with fm := upd r3.fm f (x : Int), hot := r3.hot + 1 }) (prH_hot _ _ _ _ _) rfl
      have f5 := f4.setCell (p := ⟨b, 8, none⟩) (.inl (.inl rfl)) (.int .i64 ((r3.hot + 1 : Nat) : Int))
      have e8 : ((r3.hot + 1 : Nat) : Int) = (r3.hot : Int) + 1 := by omega
      rw [e8] at h5 f5
      have HC5 := Lib.hid (HCOOL.out _ (⟨_, h5, HRF.out⟩ : PA n b A _ (s3.lay ⟨id, f, true, false, false⟩)))
      have F5 := Lib.hid f5
      have h3b : (r3.hot : Int) ≤ 70000 := by omega
      clear h4 f4 hc1 hc2 c8 h5 f5 e8 H3 F4 HCO HRF HCE HCOOL d5 fz cf3 lf1 lb1 c5 lb2 F3
      generalize w1.setCell ⟨A.fb, f, none⟩ (.int .i64 (x : Int)) = w5 at *
      go_wp2_with fail
      refine HC5.out.mono ?_
      clear HC5
      rintro e w6 ⟨rfl, h6, f6⟩
      have KEY := Lib.hid (And.intro h6 (F5.out.trans f6 (fun i q => .inl q)))
      clear h6 f6
      go_wp2
      go_returns
      exact ⟨rfl, KEY.out⟩
end
end Go.Proofs.Ytfgkaoncojhdeaa

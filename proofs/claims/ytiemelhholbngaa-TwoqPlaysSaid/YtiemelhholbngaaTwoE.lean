/-
  2Q: goes, Victim, New; and that it is what Replay is told of.
-/
import Derived.Test.YtiemelhholbngaaTwoD
import Derived.Test.YtiemelhholbngaaReplay
namespace Go.Proofs.Ytiemelhholbngaa
open Go.RowKit Go.Maps
set_option linter.unusedVariables false

section
variable {w w' : World} {b n inn out : Nat} {A : TA} {t : T6} {tk sp : List Nat} {gp : Nat → Nat}
theorem eldest_at (h : TC w b n inn out A t tk sp gp) (d : Nat) : (Calls Try.prog 47 #[.pointer (some ⟨b, 0, none⟩), .int .i64 0] (w.drewN d) fun e w' => e = .returned (.int .i64 (ixI (t.nw.find? t.ev))) ∧ ∃ d, w.drewN d = w') ∧
    Calls Try.prog 47 #[.pointer (some ⟨b, 0, none⟩), .int .i64 1] (w.drewN d) fun e w' => e = .returned (.int .i64 (ixI (t.mn.find? t.ev))) ∧ ∃ d, w.drewN d = w' := by
  have h1 := h.fr0 ((Fr.refl NoF w).drewN d)
  refine ⟨(eldest_any h1 0 (l := t.nw) rfl).mono fun e w' ⟨he, d', hw⟩ => ⟨he, d + d', ?_⟩, (eldest_any h1 1 (l := t.mn) rfl).mono fun e w' ⟨he, d', hw⟩ => ⟨he, d + d', ?_⟩⟩
  · rw [← hw, World.drewN_drewN]
  · rw [← hw, World.drewN_drewN]

set_option maxHeartbeats 1000000 in
theorem goes_calls (h : TC w b n inn out A t tk sp gp) : Calls Try.prog 32 #[.pointer (some ⟨b, 0, none⟩)] w fun e w' => e = .returned (.int .i64 (ixI (t.goes inn))) ∧ ∃ d, w.drewN d = w' := by
  have c0 : w.cell? ⟨b, 0, none⟩ = some (.int .i64 inn) := h.c 0 (by omega)
  have c1 : w.cell? ⟨b, 1, none⟩ = some (.pointer (some ⟨A.rb, 0, none⟩)) := h.c 1 (by omega)
  have HL : Hid (∀ d, Calls Try.prog 46 #[.pointer (some ⟨A.rb, 0, none⟩), .int .i64 0] (w.drewN d) fun e w' => e = .returned (.int .i64 (t.nw.length : Nat)) ∧ w.drewN d = w') := fun d => Len_all (h.rr.fr ((Fr.refl NoF w).drewN d) (fun _ _ q => q)) 0
  have HE0 := Lib.hid (fun d => (eldest_at h d).1)
  have HE1 := Lib.hid (fun d => (eldest_at h d).2)
  have hln := h.lists.2.2.2.2
  rw [List.length_append] at hln
  have hn := h.hn
  have hi := h.hi
  have HG : Hid (t.goes inn = if inn < t.nw.length then (t.nw.find? t.ev).or (t.mn.find? t.ev) else (t.mn.find? t.ev).or (t.nw.find? t.ev)) := rfl
  clear h
  rw [HG.out]
  clear HG
  generalize t.nw.length = L at *
  generalize t.nw.find? t.ev = X at *
  generalize t.mn.find? t.ev = Y at *
  by_cases hlt : inn < L
  · rw [if_pos hlt]
    cases X with
    | none =>
      rw [show ixI (none : Option Nat) = -1 from rfl] at HE0
      rw [show Option.or none Y = Y from rfl]
      go_enter Try.func32, Try.ntmps32
      go_wp2
      go_quiet ((go_at_call 46; exact qs (HL.out _)))
      go_wp2_with fail
      refine (HE0.out _).mono ?_
      rintro e w1 ⟨rfl, d1, rfl⟩
      go_wp2_with fail
      refine (HE1.out _).mono ?_
      rintro e w2 ⟨rfl, d2, rfl⟩
      go_wp2
      go_returns
      exact ⟨rfl, _, rfl⟩
    | some x =>
      rw [show ixI (some x) = (x : Int) from rfl] at HE0
      rw [show ixI (Option.or (some x) Y) = (x : Int) from rfl]
      go_enter Try.func32, Try.ntmps32
      go_wp2
      go_quiet ((go_at_call 46; exact qs (HL.out _)))
      go_wp2_with fail
      refine (HE0.out _).mono ?_
      rintro e w1 ⟨rfl, d1, rfl⟩
      go_wp2
      go_returns
      exact ⟨rfl, _, rfl⟩
  · rw [if_neg hlt]
    cases Y with
    | none =>
      rw [show ixI (none : Option Nat) = -1 from rfl] at HE1
      rw [show Option.or none X = X from rfl]
      go_enter Try.func32, Try.ntmps32
      go_wp2
      go_quiet ((go_at_call 46; exact qs (HL.out _)))
      go_wp2_with fail
      refine (HE1.out _).mono ?_
      rintro e w1 ⟨rfl, d1, rfl⟩
      go_wp2_with fail
      refine (HE0.out _).mono ?_
      rintro e w2 ⟨rfl, d2, rfl⟩
      go_wp2
      go_returns
      exact ⟨rfl, _, rfl⟩
    | some x =>
      rw [show ixI (some x) = (x : Int) from rfl] at HE1
      rw [show ixI (Option.or (some x) X) = (x : Int) from rfl]
      go_enter Try.func32, Try.ntmps32
      go_wp2
      go_quiet ((go_at_call 46; exact qs (HL.out _)))
      go_wp2_with fail
      refine (HE1.out _).mono ?_
      rintro e w1 ⟨rfl, d1, rfl⟩
      go_wp2
      go_returns
      exact ⟨rfl, _, rfl⟩

theorem goes_none {t : T6} {inn : Nat} : t.goes inn = none ↔ cntL (t.nw ++ t.mn) t.ev = 0 := by
  have h1 : t.goes inn = none ↔ (∀ x ∈ t.nw, ¬ t.ev x = true) ∧ ∀ x ∈ t.mn, ¬ t.ev x = true := by
    unfold T6.goes
    split <;> rw [Option.or_eq_none_iff, List.find?_eq_none, List.find?_eq_none]
    exact ⟨fun q => ⟨q.2, q.1⟩, fun q => ⟨q.2, q.1⟩⟩
  rw [h1]
  unfold cntL
  rw [List.length_eq_zero_iff, List.filter_eq_nil_iff]
  constructor
  · rintro ⟨q1, q2⟩ x hx
    exact (List.mem_append.1 hx).elim (q1 x) (q2 x)
  · intro q
    exact ⟨fun x hx => q x (List.mem_append.2 (.inl hx)), fun x hx => q x (List.mem_append.2 (.inr hx))⟩
theorem goes_mem {t : T6} {inn f : Nat} (h : t.goes inn = some f) : f ∈ t.nw ∨ f ∈ t.mn := by
  unfold T6.goes at h
  split at h
  · rcases Option.or_eq_some_iff.1 h with q | ⟨_, q⟩
    · exact .inl (List.mem_of_find?_eq_some q)
    · exact .inr (List.mem_of_find?_eq_some q)
  · rcases Option.or_eq_some_iff.1 h with q | ⟨_, q⟩
    · exact .inr (List.mem_of_find?_eq_some q)
    · exact .inl (List.mem_of_find?_eq_some q)

theorem tq_victim_no (h : TC w b n inn out A t tk sp gp) (p : Int) (hv : t.goes inn = none) : Calls Try.prog 17 #[.pointer (some ⟨b, 0, none⟩), .int .u32 p] w fun e w' => e = .returned (.tuple #[.int .i64 0, .bool false]) ∧ w = w' := by
  have HZ := tq_size h
  rw [goes_none.1 hv] at HZ
  have H := Lib.hid HZ
  clear HZ hv h
  go_enter Try.func17, Try.ntmps17
  go_wp2_with (go_at_call 19; refine H.out.mono ?_; rintro e w' ⟨rfl, rfl⟩)
  go_returns
  exact ⟨rfl, rfl⟩

/-- With other remembered pages. -/
theorem TC.remd (h : TC w b n inn out A t tk sp gp) {gh' : List Nat} (hr : Remd w A.gr A.gpb A.mb out gh' A.FG w') : ∃ tk' sp' gp', TC w' b n inn out A ⟨t.nw, t.mn, t.page, t.ev, gh'⟩ tk' sp' gp' ∧ Fr (FT A b) w w' := by
  obtain ⟨tk', sp', gp', hg, hf⟩ := hr
  obtain ⟨n1, n2, n3, n4, n5, n6, n7, n8, n9, n10⟩ := h.lb.ne
  exact ⟨tk', sp', gp', ⟨h.hd.fr hf n7, h.rr.fr hf n10, h.pg.fr hf n8, h.be.fr hf n9, hg, h.lb, h.ou, h.hn, h.hi⟩, hf.mono (fun i q => .inr (.inr (.inr (.inr q))))⟩

set_option maxHeartbeats 2000000 in
theorem tq_victim_yes (h : TC w b n inn out A t tk sp gp) (hi : TI t) (p : Int) {f : Nat} (hv : t.goes inn = some f) : Calls Try.prog 17 #[.pointer (some ⟨b, 0, none⟩), .int .u32 p] w fun e w' => e = .returned (.tuple #[.int .i64 f, .bool true]) ∧ (∃ tk' sp' gp', TC w' b n inn out A (t.gone out f) tk' sp' gp') ∧ Fr (FT A b) w w' := by
  have hm := goes_mem hv
  have hfn : f < n := hm.elim (h.lists.2.1 f) (h.lists.2.2.1 f)
  have hn := h.hn
  have hcnt : ¬ cntL (t.nw ++ t.mn) t.ev = 0 := fun q => by rw [goes_none.2 q] at hv; cases hv
  have hcl := cnt_le (t.nw ++ t.mn) t.ev
  have hln := h.lists.2.2.2.2
  have HZ := Lib.hid (tq_size h)
  have HGO := goes_calls h
  rw [hv, show ixI (some f) = (f : Int) from rfl] at HGO
  have HGO := Lib.hid HGO
  have HI : Hid (∀ d, Calls Try.prog 29 #[.pointer (some ⟨A.rb, 0, none⟩), .int .i64 f] (w.drewN d) fun e w' => e = .returned (.int .i64 (if f ∈ t.nw then 0 else if f ∈ t.mn then 1 else -1)) ∧ w.drewN d = w') := by
    intro d
    have := In_all (h.rr.fr ((Fr.refl NoF w).drewN d) (fun _ _ q => q)) f
    rw [ix2] at this
    exact this
  have c1 : w.cell? ⟨b, 1, none⟩ = some (.pointer (some ⟨A.rb, 0, none⟩)) := h.c 1 (by omega)
  have c2 : w.cell? ⟨b, 2, none⟩ = some (.slice (some ⟨A.pb, 0, none⟩) n n) := h.c 2 (by omega)
  have cp := h.cp hfn
  generalize hz : cntL (t.nw ++ t.mn) t.ev = z at *
  have hcnt2 : ((z : Int) == 0) = false := by simp; omega
  have hz0 : ¬ (z : Int) = 0 := by omega
  have HH := Lib.hid h
  have HTI := Lib.hid hi
  have HM := Lib.hid hm
  clear hz h hi hv hm
  by_cases hw : f ∈ t.nw
  · have HE : Hid (t.gone out f = (⟨t.nw, t.mn, t.page, t.ev, cutOld out (t.gh ++ [t.page f])⟩ : T6).rem f) := by unfold Hid T6.gone; rw [if_pos hw]
    have HREM : Hid (∀ w', Fr NoF w w' → Calls Try.prog 33 #[.pointer (some ⟨b, 5, none⟩), .int .u32 (t.page f : Nat)] w' fun e w'' => e = .returned (.tuple #[]) ∧ ∃ tk' sp' gp', TC w'' b n inn out A ⟨t.nw, t.mn, t.page, t.ev, cutOld out (t.gh ++ [t.page f])⟩ tk' sp' gp' ∧ Fr (FT A b) w w'') := by
      intro w' q
      have h1 := HH.out.fr0 q
      obtain ⟨u1, u2⟩ := HTI.out.u f (.inl hw)
      refine (remember_any h1.gg h1.gH u1 u2).mono fun e w'' ⟨he, hr⟩ => ⟨he, ?_⟩
      obtain ⟨tk', sp', gp', h2, f2⟩ := h1.remd hr
      exact ⟨tk', sp', gp', h2, (q.mono (fun _ q => q.elim)).trans f2 (fun _ q => .inl q)⟩
    have HI2 : Hid (∀ d, Calls Try.prog 29 #[.pointer (some ⟨A.rb, 0, none⟩), .int .i64 f] (w.drewN d) fun e w' => e = .returned (.int .i64 0) ∧ w.drewN d = w') := by
      intro d; have := HI.out d; rw [if_pos hw] at this; exact this
    generalize t.page f = x at *
    clear HI hw
    go_enter Try.func17, Try.ntmps17
    go_wp2_with (first
      | (go_at_call 19; refine HZ.out.mono ?_; rintro e w' ⟨rfl, rfl⟩)
      | (go_at_call 32; refine HGO.out.mono ?_; rintro e w' ⟨rfl, d, rfl⟩)
      | (go_at_call 29; refine (HI2.out _).mono ?_; rintro e w' ⟨rfl, rfl⟩))
    go_region_with (go_at_call 33; (with_reducible refine (HREM.out _ ((Fr.refl NoF w).drewN _)).mono ?_); rintro e w2 ⟨rfl, tk2, sp2, gp2, h2, f2⟩; have H2 := Lib.hid h2; have F2 := Lib.hid f2; clear h2 f2)
    all_goals
      have HR := Lib.hid (tq_remove H2.out f hfn)
      go_wp2_with fail
      refine HR.out.mono ?_
      rintro e w3 ⟨rfl, h3, f3⟩
      have KEY := Lib.hid (And.intro h3 (F2.out.trans f3 (fun _ q => .inl q)))
      clear h3 f3 HR
      go_wp2
      go_returns
      exact ⟨rfl, ⟨_, _, _, by rw [HE.out]; exact KEY.out.1⟩, KEY.out.2⟩
  · have HE : Hid (t.gone out f = t.rem f) := by unfold Hid T6.gone; rw [if_neg hw]
    have HI2 : Hid (∀ d, Calls Try.prog 29 #[.pointer (some ⟨A.rb, 0, none⟩), .int .i64 f] (w.drewN d) fun e w' => e = .returned (.int .i64 1) ∧ w.drewN d = w') := by
      intro d; have := HI.out d; rw [if_neg hw, if_pos (HM.out.resolve_left hw)] at this; exact this
    have HR : Hid (∀ d, Calls Try.prog 34 #[.pointer (some ⟨b, 0, none⟩), .int .i64 f] (w.drewN d) fun e w' => e = .returned (.tuple #[]) ∧ TC w' b n inn out A (t.rem f) tk sp gp ∧ Fr (FT A b) w w') := by
      intro d
      have q : Fr NoF w (w.drewN d) := (Fr.refl NoF w).drewN d
      exact (tq_remove (HH.out.fr0 q) f hfn).mono fun e w' ⟨he, h3, f3⟩ => ⟨he, h3, (q.mono (fun _ q => q.elim)).trans f3 (fun _ q => .inl q)⟩
    clear HI hw
    go_enter Try.func17, Try.ntmps17
    go_wp2_with (first
      | (go_at_call 19; refine HZ.out.mono ?_; rintro e w' ⟨rfl, rfl⟩)
      | (go_at_call 32; refine HGO.out.mono ?_; rintro e w' ⟨rfl, d, rfl⟩)
      | (go_at_call 29; refine (HI2.out _).mono ?_; rintro e w' ⟨rfl, rfl⟩))
    refine (HR.out _).mono ?_
    rintro e w3 ⟨rfl, h3, f3⟩
    have KEY := Lib.hid (And.intro h3 f3)
    clear h3 f3
    go_wp2
    go_returns
    exact ⟨rfl, ⟨_, _, _, by rw [HE.out]; exact KEY.out.1⟩, KEY.out.2⟩
end

/-! ### What stays true of the pages -/
theorem rem_mem {t : T6} {f x : Nat} (h : x ∈ (t.rem f).nw ∨ x ∈ (t.rem f).mn) : x ∈ t.nw ∨ x ∈ t.mn := by
  unfold T6.rem at h
  split at h
  · exact h.imp (fun q => (List.mem_filter.1 q).1) (fun q => (List.mem_filter.1 q).1)
  · exact h
theorem rem_ne {t : T6} {f x : Nat} (hf : f ∈ t.nw ∨ f ∈ t.mn) (h : x ∈ (t.rem f).nw ∨ x ∈ (t.rem f).mn) : ¬ x = f := by
  rintro rfl
  unfold T6.rem at h
  rw [if_pos hf] at h
  simp [awayN] at h
theorem rem_page (t : T6) (f : Nat) : (t.rem f).page = t.page ∧ (t.rem f).gh = t.gh := by unfold T6.rem; split <;> exact ⟨rfl, rfl⟩
theorem TI.rem {t : T6} (h : TI t) (f : Nat) : TI (t.rem f) := by
  obtain ⟨e1, e2⟩ := rem_page t f
  refine ⟨fun x hx => ?_, fun x y hx hy e => ?_⟩
  · rw [e1, e2]; exact h.u x (rem_mem hx)
  · rw [e1] at e; exact h.ij x y (rem_mem hx) (rem_mem hy) e
theorem TI.setE {t : T6} (h : TI t) (f : Nat) (v : Bool) : TI (t.setE f v) := by
  unfold T6.setE; split <;> exact ⟨h.u, h.ij⟩
theorem cutOld_mem {out : Nat} {l : List Nat} {x : Nat} (h : x ∈ cutOld out l) : x ∈ l := by
  unfold cutOld at h; split at h
  · exact List.mem_of_mem_drop h
  · exact h
theorem TI.gone {t : T6} (h : TI t) (out : Nat) {f : Nat} (hf : f ∈ t.nw ∨ f ∈ t.mn) : TI (t.gone out f) := by
  unfold T6.gone
  split
  · rename_i hw
    have hf' : f ∈ (⟨t.nw, t.mn, t.page, t.ev, cutOld out (t.gh ++ [t.page f])⟩ : T6).nw ∨ f ∈ (⟨t.nw, t.mn, t.page, t.ev, cutOld out (t.gh ++ [t.page f])⟩ : T6).mn := hf
    obtain ⟨e1, e2⟩ := rem_page (⟨t.nw, t.mn, t.page, t.ev, cutOld out (t.gh ++ [t.page f])⟩ : T6) f
    refine ⟨fun x hx => ?_, fun x y hx hy e => ?_⟩
    · have hx0 : x ∈ t.nw ∨ x ∈ t.mn := @rem_mem ⟨t.nw, t.mn, t.page, t.ev, cutOld out (t.gh ++ [t.page f])⟩ f x hx
      rw [e1, e2]
      refine ⟨(h.u x hx0).1, fun q => ?_⟩
      rcases List.mem_append.1 (cutOld_mem q) with q | q
      · exact (h.u x hx0).2 q
      · have q : t.page x = t.page f := by simpa using q
        exact rem_ne hf' hx (h.ij x f hx0 hf q)
    · rw [e1] at e
      exact h.ij x y (@rem_mem ⟨t.nw, t.mn, t.page, t.ev, cutOld out (t.gh ++ [t.page f])⟩ f x hx) (@rem_mem ⟨t.nw, t.mn, t.page, t.ev, cutOld out (t.gh ++ [t.page f])⟩ f y hy) e
  · exact h.rem f
theorem TI.acc {t : T6} (h : TI t) {f id : Nat} (hu : isU32 id) (hp : (f ∈ t.nw ∨ f ∈ t.mn) ∨ ∀ g, g ∈ t.nw ∨ g ∈ t.mn → ¬ t.page g = id) : TI (t.acc f id) := by
  unfold T6.acc
  split
  · exact h
  · rename_i h1
    split
    · rename_i h2
      have hmem : ∀ x, x ∈ t.nw ∨ x ∈ awayN t.mn f ++ [f] → x ∈ t.nw ∨ x ∈ t.mn := by
        intro x hx
        rcases hx with q | q
        · exact .inl q
        · rcases List.mem_append.1 q with q | q
          · exact .inr (List.mem_filter.1 q).1
          · rw [List.mem_singleton.1 q]; exact .inr h2
      exact ⟨fun x hx => h.u x (hmem x hx), fun x y hx hy e => h.ij x y (hmem x hx) (hmem y hy) e⟩
    · rename_i h2
      have hp' := hp.resolve_left (fun q => q.elim h1 h2)
      have key : ∀ (nw' mn' gh' : List Nat), (∀ x, x ∈ nw' ∨ x ∈ mn' → (x ∈ t.nw ∨ x ∈ t.mn) ∨ x = f) → (∀ y ∈ gh', y ∈ t.gh ∧ ¬ y = id) → TI ⟨nw', mn', upd t.page f id, t.ev, gh'⟩ := by
        intro nw' mn' gh' hmem hgh
        refine ⟨fun x hx => ?_, fun x y hx hy e => ?_⟩
        · show isU32 (upd t.page f id x) ∧ ¬ upd t.page f id x ∈ gh'
          by_cases e : x = f
          · subst e; rw [upd_same]; exact ⟨hu, fun q => (hgh _ q).2 rfl⟩
          · rw [upd_other _ _ e]
            have hx0 := (hmem x hx).resolve_right e
            exact ⟨(h.u x hx0).1, fun q => (h.u x hx0).2 (hgh _ q).1⟩
        · have e : upd t.page f id x = upd t.page f id y := e
          by_cases ex : x = f
          · by_cases ey : y = f
            · rw [ex, ey]
            · rw [ex, upd_same, upd_other _ _ ey] at e
              exact (hp' y ((hmem y hy).resolve_right ey) e.symm).elim
          · by_cases ey : y = f
            · rw [ey, upd_same, upd_other _ _ ex] at e
              exact (hp' x ((hmem x hx).resolve_right ex) e).elim
            · rw [upd_other _ _ ex, upd_other _ _ ey] at e
              exact h.ij x y ((hmem x hx).resolve_right ex) ((hmem y hy).resolve_right ey) e
      unfold T6.come
      split
      · refine key _ _ _ (fun x hx => ?_) (fun y hy => by simpa [awayN] using hy)
        rcases hx with q | q
        · exact .inl (.inl q)
        · rcases List.mem_append.1 q with q | q
          · exact .inl (.inr q)
          · exact .inr (List.mem_singleton.1 q)
      · rename_i hid
        refine key _ _ _ (fun x hx => ?_) (fun y hy => ⟨hy, fun e => hid (e ▸ hy)⟩)
        rcases hx with q | q
        · rcases List.mem_append.1 q with q | q
          · exact .inl (.inl q)
          · exact .inr (List.mem_singleton.1 q)
        · exact .inl (.inr q)

/-! ### Replay is told of it -/
def polT (inn out : Nat) : Pol T6 where
  miss t _ := t
  access t f id := t.acc f id
  set t f v := t.setE f v
  victim t _ := t.goes inn
  gone t _ := match t.goes inn with | none => t | some f => t.gone out f
  remove t f := t.rem f
  size t := cntL (t.nw ++ t.mn) t.ev
  ghosts t := t.gh
def preT (n : Nat) (t : T6) (c : Cl) : Prop := ((c.kind = 1 ∨ c.kind = 2 ∨ c.kind = 4) → c.frame < n) ∧ (c.kind = 1 → isU32 c.page ∧ ((c.frame ∈ t.nw ∨ c.frame ∈ t.mn) ∨ ∀ g, g ∈ t.nw ∨ g ∈ t.mn → ¬ t.page g = c.page))
def CRT (b n inn out : Nat) (w : World) (t : T6) (F : Nat → Prop) : Prop := ∃ A tk sp gp, TC w b n inn out A t tk sp gp ∧ TI t ∧ ∀ i, F i ↔ FT A b i

theorem cod6 (b n inn out : Nat) : CodSys (polT inn out) (CRT b n inn out) b (preT n) where
  fr := by
    rintro w w' t F G ⟨A, tk, sp, gp, h, hi, hF⟩ f hd
    exact ⟨A, tk, sp, gp, h.fr f (fun i q => hd i ((hF i).2 q)), hi, hF⟩
  lt := by
    rintro w t F ⟨A, tk, sp, gp, h, hi, hF⟩ i q
    exact h.lt i ((hF i).1 q)
  miss := by
    intro w t F c h hp hk
    exact (tq_miss _ _).mono fun e w' ⟨he, hw⟩ => ⟨he, F, hw ▸ h, hw ▸ Fr.refl _ _, fun i hi => .inl hi⟩
  access := by
    rintro w t F c ⟨A, tk, sp, gp, h, hi, hF⟩ hp hk
    obtain ⟨hu, hq⟩ := hp.2 hk
    exact (tq_access h (hp.1 (.inl hk)) hu).mono fun e w' ⟨he, ⟨tk', sp', gp', h'⟩, hf⟩ => ⟨he, F, ⟨A, tk', sp', gp', h', hi.acc hu hq, hF⟩, hf.mono (fun i q => (hF i).2 q), fun i hi => .inl hi⟩
  set := by
    rintro w t F c ⟨A, tk, sp, gp, h, hi, hF⟩ hp hk
    exact (tq_set h c.frame (hp.1 (.inr (.inl hk))) c.on).mono fun e w' ⟨he, h', hf⟩ => ⟨he, F, ⟨A, tk, sp, gp, h', hi.setE _ _, hF⟩, hf.mono (fun i q => (hF i).2 (q.elim (fun q => .inr (.inr (.inl q))) (fun q => .inl q))), fun i hi => .inl hi⟩
  victimNo := by
    rintro w t F c ⟨A, tk, sp, gp, h, hi, hF⟩ hp hk hv
    exact (tq_victim_no h _ hv).mono fun e w' ⟨he, hw⟩ => ⟨he, F, hw ▸ ⟨A, tk, sp, gp, h, hi, hF⟩, hw ▸ Fr.refl _ _, fun i hi => .inl hi⟩
  victimYes := by
    rintro w t F c a ⟨A, tk, sp, gp, h, hi, hF⟩ hp hk hv
    have hv : t.goes inn = some a := hv
    have hg : (polT inn out).gone t c.page = t.gone out a := by show (match t.goes inn with | none => t | some f => t.gone out f) = _; rw [hv]
    rw [hg]
    exact (tq_victim_yes h hi _ hv).mono fun e w' ⟨he, ⟨tk', sp', gp', h'⟩, hf⟩ => ⟨he, F, ⟨A, tk', sp', gp', h', hi.gone out (goes_mem hv), hF⟩, hf.mono (fun i q => (hF i).2 q), fun i hi => .inl hi⟩
  remove := by
    rintro w t F c ⟨A, tk, sp, gp, h, hi, hF⟩ hp hk
    exact (tq_remove h c.frame (hp.1 (.inr (.inr hk)))).mono fun e w' ⟨he, h', hf⟩ => ⟨he, F, ⟨A, tk, sp, gp, h', hi.rem _, hF⟩, hf.mono (fun i q => (hF i).2 q), fun i hi => .inl hi⟩
  size := by
    rintro w t F ⟨A, tk, sp, gp, h, hi, hF⟩
    exact (tq_size h).mono fun e w' ⟨he, hw⟩ => ⟨he, hw ▸ Fr.refl _ _⟩
  ghosts := by
    rintro w t F ⟨A, tk, sp, gp, h, hi, hF⟩
    exact tq_ghosts h
end Go.Proofs.Ytiemelhholbngaa

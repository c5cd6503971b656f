/-
  arc: Victim, where a page goes.
-/
import Derived.Test.YtebhpihickmekaaArcH
import Derived.RegionTactic
namespace Go.Proofs.Ytebhpihickmekaa
open Go.RowKit Go.Maps
set_option linter.unusedVariables false

section
variable {w w' : World} {b n : Nat} {A : TA} {t : T7} {k1 k2 sp : List Nat} {gp : Nat → Nat}
/-- Behind a page that is remembered, or isn't: the frame goes out of its row. -/
theorem ar_remove_res (h : ResA w b n A t w') {f : Nat} (hf : f < n) : Calls Try.prog 40 #[.pointer (some ⟨b, 0, none⟩), .int .i64 f] w' fun e w'' => e = .returned (.tuple #[]) ∧ ResA w b n A (t.rem f) w'' := by
  obtain ⟨⟨k1, k2, sp, gp, h1⟩, h2⟩ := h
  exact (ar_remove h1 f hf).mono fun e w'' ⟨he, q1, q2⟩ => ⟨he, ⟨_, _, _, _, q1⟩, h2.trans q2 (fun _ q => .inl q)⟩

set_option maxHeartbeats 4000000 in
theorem ar_victim_yes (h : AC w b n A t k1 k2 sp gp) (hi : TI7 t) {id : Nat} (hu : isU32 id) {f : Nat} (hv : t.goes id = some f) : Calls Try.prog 18 #[.pointer (some ⟨b, 0, none⟩), .int .u32 id] w fun e w' => e = .returned (.tuple #[.int .i64 f, .bool true]) ∧ ResA w b n A (t.gone n id f) w' := by
  have hm := goesC_mem hv
  have hfn : f < n := hm.elim (h.lists.2.1 f) (h.lists.2.2.1 f)
  have hn := h.hn
  have hb := h.hb
  have hcnt : ¬ cntL (t.nw ++ t.mn) t.ev = 0 := fun q => by
    have := (goesC_none (c := sideN t.b1 t.b2 id)).2 q
    rw [show t.goesC (sideN t.b1 t.b2 id) = some f from hv] at this
    cases this
  have hcl := cnt_le (t.nw ++ t.mn) t.ev
  have hln := h.lists.2.2.2.2
  have hln0 : t.nw.length ≤ n := by rw [List.length_append] at hln; omega
  have HZ := Lib.hid (ar_size h)
  have HSD := ga_side h.gg h.gH hu
  have HGO := ar_goes h (sideN t.b1 t.b2 id)
  rw [show t.goesC (sideN t.b1 t.b2 id) = some f from hv, show ixI (some f) = (f : Int) from rfl] at HGO
  obtain ⟨kk, hkk, hk2, hkp⟩ : ∃ kk : Nat, (if f ∈ t.nw then (0 : Int) else if f ∈ t.mn then 1 else -1) = (kk : Int) ∧ kk < 2 ∧ (t.put f) = ((if kk = 0 then t.b1 ++ [t.page f] else t.b1), (if kk = 0 then t.b2 else t.b2 ++ [t.page f])) := by
    by_cases q : f ∈ t.nw
    · exact ⟨0, by rw [if_pos q]; rfl, by omega, by unfold T7.put; rw [if_pos q, if_pos q]; rfl⟩
    · exact ⟨1, by rw [if_neg q, if_pos (hm.resolve_left q)]; rfl, by omega, by unfold T7.put; rw [if_neg q, if_neg q]; rfl⟩
  have HI : Hid (∀ w', Fr NoF w w' → Calls Try.prog 38 #[.pointer (some ⟨A.rb, 0, none⟩), .int .i64 f] w' fun e w'' => e = .returned (.int .i64 (kk : Int)) ∧ w' = w'') := by
    intro w' q
    have := In_all (h.rr.fr q (fun _ _ q => q)) f
    rw [ix2, hkk] at this
    exact this
  have L0 : Hid (∀ d, Calls Try.prog 36 #[.pointer (some ⟨A.rb, 0, none⟩), .int .i64 0] (w.drewN d) fun e w' => e = .returned (.int .i64 (t.nw.length : Nat)) ∧ w.drewN d = w') := fun d => Len_all (h.rr.fr ((Fr.refl NoF w).drewN d) (fun _ _ q => q)) 0
  obtain ⟨u1, u2⟩ := hi.u f hm
  have hplen : (t.put f).1.length + (t.put f).2.length = t.b1.length + t.b2.length + 1 := by
    unfold T7.put
    by_cases q : f ∈ t.nw
    · simp only [if_pos q, List.length_append, List.length_singleton]; omega
    · simp only [if_neg q, List.length_append, List.length_singleton]; omega
  have HREM : Hid (∀ w', Fr NoF w w' → Calls Try.prog 37 #[.pointer (some ⟨b, 5, none⟩), .int .i64 kk, .int .u32 (t.page f : Nat)] w' fun e w'' => e = .returned (.tuple #[]) ∧ RemA w A.gr A.gpb A.mb (n + 1) (t.put f).1 (t.put f).2 A.FG w'') := by
    intro w' q
    have h1 := h.fr0 q
    have := ga_remember h1.gg h1.gH u1 u2 kk hk2 (by omega)
    rw [hkp]
    exact this.mono fun e w'' ⟨he, hr⟩ => ⟨he, hr.trans0 q⟩
  have HHD : Hid (∀ w2, Fr (FGm A.FG A.gpb A.mb) w w2 → w2.cell? ⟨b, 2, none⟩ = some (.slice (some ⟨A.pb, 0, none⟩) n n) ∧ b < w2.heap.size ∧ GH w2 b A.gr A.gpb A.mb (n + 1) A.FG) := by
    intro w2 f2
    obtain ⟨n1, n2, n3, n4, n5, n6, n7, n8, n9, n10⟩ := h.lb.ne
    have hd2 := h.hd.fr f2 n7
    exact ⟨hd2.cell (i := 2) (by omega), hd2.lt, h.gH.fr f2 n7⟩
  have c1 : w.cell? ⟨b, 1, none⟩ = some (.pointer (some ⟨A.rb, 0, none⟩)) := h.c 1 (by omega)
  have c2 : w.cell? ⟨b, 2, none⟩ = some (.slice (some ⟨A.pb, 0, none⟩) n n) := h.c 2 (by omega)
  have cp := h.cp hfn
  have lb := h.hd.lt
  have HKEEP : Hid (∀ w2, RemA w A.gr A.gpb A.mb (n + 1) (bnd n (t.put f).1 (t.put f).2).1 (bnd n (t.put f).1 (t.put f).2).2 A.FG w2 → ResA w b n A (t.keep n f) w2) := fun w2 hr => h.res (bnd_len (by omega)) hr
  have HRM0 : Hid (∀ w', Fr NoF w w' → Calls Try.prog 40 #[.pointer (some ⟨b, 0, none⟩), .int .i64 f] w' fun e w'' => e = .returned (.tuple #[]) ∧ ResA w b n A (t.rem f) w'') := fun w' q => ar_remove_res ⟨⟨_, _, _, _, h.fr0 q⟩, q.mono (fun _ q => q.elim)⟩ hfn
  have HGN : Hid (t.gone n id f = (if 0 ≤ sideN t.b1 t.b2 id ∨ t.nw.length < n then t.keep n f else t).rem f) := rfl
  have hpl : (t.put f).1.length + (t.put f).2.length ≤ n + 1 := by omega
  have HPL := Lib.hid hpl
  have hz0 : cntL (t.nw ++ t.mn) t.ev ≤ 65535 := by omega
  generalize cntL (t.nw ++ t.mn) t.ev = z at *
  have hcnt2 : ((z : Int) == 0) = false := by simp; omega
  have hz1 : ¬ (z : Int) = 0 := by omega
  rw [HGN.out]
  clear HGN h hi hm hv hkk hkp hplen hpl u1 u2 hk2
  generalize sideN t.b1 t.b2 id = c at *
  generalize t.page f = x at *
  generalize t.put f = pt at *
  generalize t.nw.length = L at *
  by_cases hc : 0 ≤ c
  · rw [if_pos (.inl hc)]
    have HSD' := Lib.hid HSD
    have HGO' := Lib.hid HGO
    clear HSD HGO
    go_enter Try.func18, Try.ntmps18
    go_wp2_with (first
      | (go_at_call 20; refine HZ.out.mono ?_; rintro e w' ⟨rfl, rfl⟩)
      | (go_at_call 30; refine HSD'.out.mono ?_; rintro e w' ⟨rfl, rfl⟩)
      | (go_at_call 35; refine HGO'.out.mono ?_; rintro e w' ⟨rfl, d, rfl⟩))
    go_quiet (fail)
    go_wp2_with fail
    go_region_with (first
      | (go_at_call 38; (with_reducible refine (HI.out _ (by repeat (first | exact Fr.refl NoF _ | apply Fr.drew | apply Fr.drewN))).mono ?_); rintro e w' ⟨rfl, rfl⟩)
      | (go_at_call 37; (with_reducible refine (HREM.out _ (by repeat (first | exact Fr.refl NoF _ | apply Fr.drew | apply Fr.drewN))).mono ?_); rintro e w2 ⟨rfl, h2⟩; have H2 := Lib.hid h2; clear h2))
    all_goals
      obtain ⟨j1, j2, js, jp, hga, hf2⟩ := H2.out
      obtain ⟨e2, lb2, hgh⟩ := HHD.out w2 hf2
      have HB : Hid (∀ w', Fr NoF w2 w' → Calls Try.prog 39 #[.pointer (some ⟨b, 5, none⟩), .int .i64 n] w' fun e w'' => e = .returned (.tuple #[]) ∧ ResA w b n A (t.keep n f) w'') := by
        intro w' q
        refine (ga_bound (hga.fr0 q) (hgh.fr q (fun q => q)) n (by omega) HPL.out).mono fun e w'' ⟨he, r1, r2, rs, rp, g1, g2⟩ => ⟨he, HKEEP.out w'' ⟨r1, r2, rs, rp, g1, (hf2.trans q (fun _ q => q.elim)).trans g2 (fun _ q => .inl q)⟩⟩
      clear hga hf2 hgh
      go_wp2_with fail
      go_region_with (go_at_call 39; (with_reducible refine (HB.out _ (by repeat (first | exact Fr.refl NoF _ | apply Fr.drew | apply Fr.drewN))).mono ?_); rintro e w3 ⟨rfl, h3⟩; have H3 := Lib.hid h3; clear h3)
      all_goals
        have HR := Lib.hid (ar_remove_res H3.out hfn)
        go_wp2_with fail
        refine HR.out.mono ?_
        rintro e w4 ⟨rfl, h4⟩
        have K := Lib.hid h4
        clear h4 HR
        go_wp2
        go_returns
        exact ⟨rfl, K.out⟩
  · have hc' : c < 0 := by omega
    by_cases hL : L < n
    · rw [if_pos (.inr hL)]
      have hL' : (L : Int) < (n : Int) := by omega
      clear hL hc
      have HSD' := Lib.hid HSD
      have HGO' := Lib.hid HGO
      clear HSD HGO
      go_enter Try.func18, Try.ntmps18
      go_wp2_with (first
        | (go_at_call 20; refine HZ.out.mono ?_; rintro e w' ⟨rfl, rfl⟩)
        | (go_at_call 30; refine HSD'.out.mono ?_; rintro e w' ⟨rfl, rfl⟩)
        | (go_at_call 35; refine HGO'.out.mono ?_; rintro e w' ⟨rfl, d, rfl⟩))
      go_quiet ((first | (go_at_call 36; with_reducible exact qa (L0.out _)) | fail))
      go_wp2_with fail
      go_region_with (first
        | (go_at_call 38; (with_reducible refine (HI.out _ (by repeat (first | exact Fr.refl NoF _ | apply Fr.drew | apply Fr.drewN))).mono ?_); rintro e w' ⟨rfl, rfl⟩)
        | (go_at_call 37; (with_reducible refine (HREM.out _ (by repeat (first | exact Fr.refl NoF _ | apply Fr.drew | apply Fr.drewN))).mono ?_); rintro e w2 ⟨rfl, h2⟩; have H2 := Lib.hid h2; clear h2))
      all_goals
        obtain ⟨j1, j2, js, jp, hga, hf2⟩ := H2.out
        obtain ⟨e2, lb2, hgh⟩ := HHD.out w2 hf2
        have HB : Hid (∀ w', Fr NoF w2 w' → Calls Try.prog 39 #[.pointer (some ⟨b, 5, none⟩), .int .i64 n] w' fun e w'' => e = .returned (.tuple #[]) ∧ ResA w b n A (t.keep n f) w'') := by
          intro w' q
          refine (ga_bound (hga.fr0 q) (hgh.fr q (fun q => q)) n (by omega) HPL.out).mono fun e w'' ⟨he, r1, r2, rs, rp, g1, g2⟩ => ⟨he, HKEEP.out w'' ⟨r1, r2, rs, rp, g1, (hf2.trans q (fun _ q => q.elim)).trans g2 (fun _ q => .inl q)⟩⟩
        clear hga hf2 hgh
        go_wp2_with fail
        go_region_with (go_at_call 39; (with_reducible refine (HB.out _ (by repeat (first | exact Fr.refl NoF _ | apply Fr.drew | apply Fr.drewN))).mono ?_); rintro e w3 ⟨rfl, h3⟩; have H3 := Lib.hid h3; clear h3)
        all_goals
          have HR := Lib.hid (ar_remove_res H3.out hfn)
          go_wp2_with fail
          refine HR.out.mono ?_
          rintro e w4 ⟨rfl, h4⟩
          have K := Lib.hid h4
          clear h4 HR
          go_wp2
          go_returns
          exact ⟨rfl, K.out⟩
    · rw [if_neg (fun q => q.elim hc hL)]
      have hL' : (n : Int) ≤ (L : Int) := by omega
      clear hL hc
      have HSD' := Lib.hid HSD
      have HGO' := Lib.hid HGO
      clear HSD HGO
      go_enter Try.func18, Try.ntmps18
      go_wp2_with (first
        | (go_at_call 20; refine HZ.out.mono ?_; rintro e w' ⟨rfl, rfl⟩)
        | (go_at_call 30; refine HSD'.out.mono ?_; rintro e w' ⟨rfl, rfl⟩)
        | (go_at_call 35; refine HGO'.out.mono ?_; rintro e w' ⟨rfl, d, rfl⟩))
      go_quiet ((first | (go_at_call 36; with_reducible exact qa (L0.out _)) | fail))
      go_wp2_with fail
      refine (HRM0.out _ (by repeat (first | exact Fr.refl NoF _ | apply Fr.drew | apply Fr.drewN))).mono ?_
      rintro e w2 ⟨rfl, h2⟩
      have K := Lib.hid h2
      clear h2
      go_wp2
      go_returns
      exact ⟨rfl, K.out⟩
end
end Go.Proofs.Ytebhpihickmekaa

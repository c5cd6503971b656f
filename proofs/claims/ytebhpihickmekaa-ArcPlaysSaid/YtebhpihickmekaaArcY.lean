/-
  arc: the law's own told.
-/
import Derived.Test.YtebhpihickmekaaArcX
namespace Go.Proofs.Ytebhpihickmekaa
open Go.RowKit Go.Maps
set_option linter.unusedVariables false

section
variable {w w' : World} {b n : Nat} {A : TA} {t : T7} {k1 k2 sp : List Nat} {gp : Nat → Nat}
set_option maxHeartbeats 2000000 in
theorem ar_ghosts_new (h : AC w b n A t k1 k2 sp gp) : Calls Try.prog 19 #[.pointer (some ⟨b, 0, none⟩)] w fun e w' => ∃ v, e = .returned v ∧ SlK .u32 w' v (t.b1 ++ t.b2) ∧ (∀ i, v.ownBlock = some i → w.heap.size ≤ i) ∧ Fr NoF w w' := by
  have hn := h.hn
  have hb := h.hb
  have HA : Hid (∀ w', Fr NoF w w' → Calls Try.prog 41 #[.pointer (some ⟨b, 5, none⟩), .int .i64 0] w' fun e w'' => ∃ v, e = .returned v ∧ OwK .u32 w'.heap.size 34 w'' v t.b1 ∧ Fr NoF w' w'') := fun w' f => (ga_all01 (h.fr0 f).gg (h.fr0 f).gH).1
  have HB : Hid (∀ w', Fr NoF w w' → Calls Try.prog 41 #[.pointer (some ⟨b, 5, none⟩), .int .i64 1] w' fun e w'' => ∃ v, e = .returned v ∧ OwK .u32 w'.heap.size 34 w'' v t.b2 ∧ Fr NoF w' w'') := fun w' f => (ga_all01 (h.fr0 f).gg (h.fr0 f).gH).2
  clear h
  generalize t.b1 = x1 at *
  generalize t.b2 = x2 at *
  go_enter Try.func19, Try.ntmps19
  go_wp2
  go_region_law (first
    | (go_simp; go_at_call 41; (first | (with_reducible refine (HA.out _ ((Fr.refl NoF _).drew)).mono ?_) | (with_reducible refine (HA.out _ (Fr.refl NoF _)).mono ?_)); rintro e w1 ⟨v1, rfl, h1, f1⟩; obtain ⟨va1, vc1, rfl, q1, q2⟩ := h1.sl.shape; have H1 : Hid (OwK .u32 w.heap.size 34 w1 (.slice va1 x1.length vc1) x1) := h1; have F1 := Lib.hid (Fr.trans (F := NoF) (a := w) (by first | exact (Fr.refl NoF _).drew | exact Fr.refl NoF _) f1 (fun _ q => q.elim)); clear h1 f1)
    | (go_simp; go_at_call 41; (first | (with_reducible refine (HB.out _ F1.out).mono ?_) | (with_reducible refine (HB.out _ F1.out.drew).mono ?_)); rintro e w2 ⟨v2, rfl, h2, f2⟩; obtain ⟨va2, vc2, rfl, q3, q4⟩ := h2.sl.shape; have H2 := Lib.hid h2; have F2 := Lib.hid f2; have s2 := f2.size; have s1 := F1.out.size; clear h2 f2)
    | (refine appSB (base := w.heap.size) EIu rfl _ _ rfl (by rfl) (by rfl) (by first | omega | (simp; omega)) (own_keep H1.out F2.out (fun _ _ q => q)) H2.out.sl (by unfold maxLen; omega) (by omega) ?_; intro v5 w5 hown5 hf5 hob5; have HO5 := Lib.hid hown5; have HF5 := Lib.hid hf5; clear hown5 hf5 hob5))
  all_goals
    obtain ⟨va5, vc5, e5, _, _⟩ := (SlC.ofOwn HO5.out (fun u hu => by rcases List.mem_append.1 hu with q | q <;> (obtain ⟨z, _, rfl⟩ := List.mem_map.1 q; rfl))).shape
    subst e5
    have HS5 : Hid (SlK .u32 w5 (.slice va5 (x1.length + x2.length) vc5) (x1 ++ x2)) := by
      have := SlC.ofOwn HO5.out (fun u hu => by rcases List.mem_append.1 hu with q | q <;> (obtain ⟨z, _, rfl⟩ := List.mem_map.1 q; rfl))
      unfold Hid SlK
      rw [List.length_append, List.map_append]
      exact this
    have HF : Hid (Fr NoF w w5) := (F1.out.trans F2.out (fun _ q => q.elim)).trans HF5.out (fun i q => .inr (ownBlock_own H1.out i q))
    have HOB := Lib.hid (fun i hi => ownBlock_own HO5.out i hi)
    clear HO5
    go_wp2
    go_returns
    exact ⟨_, rfl, HS5.out, HOB.out, HF.out⟩

end
/-- A policy that has been made since world w0. -/
def TS (b n : Nat) (w0 : World) (t : T7) (w : World) : Prop := ∃ F, CRA b n w t F ∧ (∀ i, F i → w0.heap.size ≤ i) ∧ Fr NoF w0 w
section
variable {w0 w w' : World} {b n : Nat} {t t' : T7}
theorem TS.step {F : Nat → Prop} (hF : ∀ i, F i → w0.heap.size ≤ i) (hf : Fr NoF w0 w) (h : ∃ F', CRA b n w' t' F' ∧ Fr F w w' ∧ ∀ i, F' i → F i ∨ w.heap.size ≤ i) : TS b n w0 t' w' := by
  obtain ⟨F', h1, h2, h3⟩ := h
  exact ⟨F', h1, fun i q => (h3 i q).elim (hF i) (fun q => Nat.le_trans hf.size q), hf.trans h2 (fun i q => .inr (hF i q))⟩
theorem TS.miss (h : TS b n w0 t w) (id : Nat) (hu : isU32 id) : Calls Try.prog 15 #[.pointer (some ⟨b, 0, none⟩), .int .u32 id] w fun e w' => e = .returned (.tuple #[]) ∧ TS b n w0 (t.miss n id) w' := by
  obtain ⟨F, h1, h2, h3⟩ := h
  exact ((cod7 b n).miss (c := ⟨0, 0, id, false, 0, 0, []⟩) h1 ⟨fun q => by simp at q, fun q => (by cases q), fun _ => hu⟩ rfl).mono fun e w' ⟨he, hr⟩ => ⟨he, TS.step h2 h3 hr⟩
theorem TS.access (h : TS b n w0 t w) (f id : Nat) (hf : f < n) (hu : isU32 id) (hp : (f ∈ t.nw ∨ f ∈ t.mn) ∨ ∀ g, g ∈ t.nw ∨ g ∈ t.mn → ¬ t.page g = id) : Calls Try.prog 16 #[.pointer (some ⟨b, 0, none⟩), .int .i64 f, .int .u32 id] w fun e w' => e = .returned (.tuple #[]) ∧ TS b n w0 (t.acc f id) w' := by
  obtain ⟨F, h1, h2, h3⟩ := h
  exact ((cod7 b n).access (c := ⟨1, f, id, false, 0, 0, []⟩) h1 ⟨fun _ => hf, fun _ => ⟨hu, hp⟩, fun q => by simp at q⟩ rfl).mono fun e w' ⟨he, hr⟩ => ⟨he, TS.step h2 h3 hr⟩
theorem TS.set (h : TS b n w0 t w) (f : Nat) (v : Bool) (hf : f < n) : Calls Try.prog 17 #[.pointer (some ⟨b, 0, none⟩), .int .i64 f, .bool v] w fun e w' => e = .returned (.tuple #[]) ∧ TS b n w0 (t.setE f v) w' := by
  obtain ⟨F, h1, h2, h3⟩ := h
  exact ((cod7 b n).set (c := ⟨2, f, 0, v, 0, 0, []⟩) h1 ⟨fun _ => hf, fun q => (by cases q), fun q => by simp at q⟩ rfl).mono fun e w' ⟨he, hr⟩ => ⟨he, TS.step h2 h3 hr⟩
theorem TS.victim (h : TS b n w0 t w) (id a : Nat) (hu : isU32 id) (hv : t.goes id = some a) : Calls Try.prog 18 #[.pointer (some ⟨b, 0, none⟩), .int .u32 id] w fun e w' => e = .returned (.tuple #[.int .i64 a, .bool true]) ∧ TS b n w0 (t.gone n id a) w' := by
  obtain ⟨F, h1, h2, h3⟩ := h
  have hg : (polA n).gone t id = t.gone n id a := by show (match t.goes id with | none => t | some f => t.gone n id f) = _; rw [hv]
  have := (cod7 b n).victimYes (c := ⟨3, 0, id, false, 0, 0, []⟩) (a := a) h1 ⟨fun q => by simp at q, fun q => (by cases q), fun _ => hu⟩ rfl hv
  rw [hg] at this
  exact this.mono fun e w' ⟨he, hr⟩ => ⟨he, TS.step h2 h3 hr⟩
theorem TS.fr0 (h : TS b n w0 t w) (f : Fr NoF w w') : TS b n w0 t w' := by
  obtain ⟨F, h1, h2, h3⟩ := h
  exact ⟨F, (cod7 b n).fr h1 f (fun _ _ q => q), h2, h3.trans f (fun _ q => q.elim)⟩
theorem TS.ghosts (h : TS b n w0 t w) : Calls Try.prog 19 #[.pointer (some ⟨b, 0, none⟩)] w fun e w' => ∃ v, e = .returned v ∧ SlK .u32 w' v (t.b1 ++ t.b2) ∧ (∀ i, v.ownBlock = some i → w.heap.size ≤ i) ∧ Fr NoF w w' := by
  obtain ⟨F, ⟨A, k1, k2, sp, gp, h, hi, hF⟩, h2, h3⟩ := h
  exact ar_ghosts_new h
/-- A Miss behind which a row of elder numbers, that isn't the policy's, stands as it stood. -/
theorem TS.miss' (h : TS b n w0 t w) (id : Nat) (hu : isU32 id) {wg : World} {a : Nat} (hlt : ∀ F, CRA b n wg t F → True) (hw : ∃ F, CRA b n w t F ∧ (∀ i, F i → w0.heap.size ≤ i) ∧ Fr NoF w0 w ∧ ¬ F a) {k : Nat} {u : Value} (hc : w.cell? ⟨a, k, none⟩ = some u) (hal : a < w.heap.size) :
    Calls Try.prog 15 #[.pointer (some ⟨b, 0, none⟩), .int .u32 id] w fun e w' => e = .returned (.tuple #[]) ∧ TS b n w0 (t.miss n id) w' ∧ w'.cell? ⟨a, k, none⟩ = some u := by
  obtain ⟨F, h1, h2, h3, h4⟩ := hw
  exact ((cod7 b n).miss (c := ⟨0, 0, id, false, 0, 0, []⟩) h1 ⟨fun q => by simp at q, fun q => (by cases q), fun _ => hu⟩ rfl).mono fun e w' ⟨he, hr⟩ => ⟨he, TS.step h2 h3 hr, by
    obtain ⟨F', _, g2, _⟩ := hr
    exact (g2.cell (p := ⟨a, k, none⟩) hal h4).trans hc⟩
theorem TS.size (h : TS b n w0 t w) : Calls Try.prog 20 #[.pointer (some ⟨b, 0, none⟩)] w fun e w' => e = .returned (.int .i64 (cntL (t.nw ++ t.mn) t.ev : Nat)) ∧ w = w' := by
  obtain ⟨F, ⟨A, k1, k2, sp, gp, h, hi, hF⟩, h2, h3⟩ := h
  exact ar_size h
theorem TS.target (h : TS b n w0 t w) : Calls Try.prog 12 #[.pointer (some ⟨b, 0, none⟩)] w fun e w' => e = .returned (.int .i64 (t.goal : Nat)) ∧ w = w' := by
  obtain ⟨F, ⟨A, k1, k2, sp, gp, h, hi, hF⟩, h2, h3⟩ := h
  exact ar_target h
end

/-! ### told -/
def sA1 : T7 := (((t70.miss 2 1).acc 0 1).setE 0 true).acc 0 1
def sA2 : T7 := ((sA1.miss 2 2).acc 1 2).setE 1 true
def sA3 : T7 := (sA2.miss 2 3).gone 2 3 1
def sA4 : T7 := sA3.acc 1 3
def sA5 : T7 := sA4.miss 2 2
def TR (b : Nat) (w0 : World) (i : Value) (w : World) : Prop := (i = .int .i64 0 ∧ TS b 2 w0 t70 w) ∨ (i = .int .i64 1 ∧ TS b 2 w0 sA1 w) ∨ (i = .int .i64 2 ∧ TS b 2 w0 sA2 w)
theorem u32_small {x : Nat} (h : x < 100) : isU32 x := by unfold isU32; omega

set_option maxHeartbeats 2000000 in
theorem toldA_calls (w : World) : Calls Try.prog 6 #[] w fun e w' => e = .returned (.bool true) ∧ Fr NoF w w' := by
  have N := Lib.hid (ar_new_yes 2 w (by omega) (by omega))
  go_enter Try.func6, Try.ntmps6
  go_wp2_with fail
  refine N.out.mono ?_
  clear N
  rintro e w1 ⟨b, F, rfl, hR1, hF, hf1⟩
  have HT : Hid (TS b 2 w t70 w1) := ⟨F, hR1, hF, hf1⟩
  clear hF hR1 hf1
  go_wp2
  go_loopw [3] (TR b w) (fun i _ => 2 - (intOf i).toNat)
  case atStart => exact .inl ⟨rfl, HT.out⟩
  case round =>
    clear HT
    rcases hrel with ⟨rfl, ht⟩ | ⟨rfl, ht⟩ | ⟨rfl, ht⟩
    · have H1 := Lib.hid (ht.miss 1 (u32_small (by omega)))
      clear ht
      go_wp2_with fail
      refine H1.out.mono ?_
      clear H1
      rintro e w2 ⟨rfl, h2⟩
      have H1 := Lib.hid (h2.access 0 1 (by omega) (u32_small (by omega)) (.inr (fun g hg => by rcases hg with q | q <;> cases q)))
      clear h2
      go_wp2_with fail
      refine H1.out.mono ?_
      clear H1
      rintro e w3 ⟨rfl, h3⟩
      have H1 := Lib.hid (h3.set 0 true (by omega))
      clear h3
      go_wp2_with fail
      refine H1.out.mono ?_
      clear H1
      rintro e w4 ⟨rfl, h4⟩
      have H1 := Lib.hid (h4.access 0 1 (by omega) (u32_small (by omega)) (.inl (by decide)))
      clear h4
      go_wp2_with fail
      refine H1.out.mono ?_
      clear H1
      rintro e w5 ⟨rfl, h5⟩
      have H5 : Hid (TS b 2 w sA1 w5) := h5
      clear h5
      go_wp2
      go_roundw
      case rel => exact .inr (.inl ⟨rfl, H5.out⟩)
      case measure => simp [intOf]
    · have H1 := Lib.hid (ht.miss 2 (u32_small (by omega)))
      clear ht
      go_wp2_with fail
      refine H1.out.mono ?_
      clear H1
      rintro e w2 ⟨rfl, h2⟩
      have H1 := Lib.hid (h2.access 1 2 (by omega) (u32_small (by omega)) (.inr (fun g hg => by
        have hg : g ∈ ([] : List Nat) ∨ g ∈ [0] := hg
        have : g = 0 := by simpa using hg
        subst this
        decide)))
      clear h2
      go_wp2_with fail
      refine H1.out.mono ?_
      clear H1
      rintro e w3 ⟨rfl, h3⟩
      have H1 := Lib.hid (h3.set 1 true (by omega))
      clear h3
      go_wp2_with fail
      refine H1.out.mono ?_
      clear H1
      rintro e w4 ⟨rfl, h4⟩
      have H4 : Hid (TS b 2 w sA2 w4) := h4
      clear h4
      go_wp2
      go_roundw
      case rel => exact .inr (.inr ⟨rfl, H4.out⟩)
      case measure => simp [intOf]
    · have H1 := Lib.hid (ht.miss 3 (u32_small (by omega)))
      clear ht
      go_wp2_with fail
      refine H1.out.mono ?_
      clear H1
      rintro e w2 ⟨rfl, h2⟩
      have H1 := Lib.hid (h2.victim 3 1 (u32_small (by omega)) (by decide))
      clear h2
      go_wp2_with fail
      refine H1.out.mono ?_
      clear H1
      rintro e w3 ⟨rfl, h3⟩
      have H1 := Lib.hid (h3.access 1 3 (by omega) (u32_small (by omega)) (.inr (fun g hg => by
        have hg : g ∈ ([] : List Nat) ∨ g ∈ [0] := hg
        have : g = 0 := by simpa using hg
        subst this
        decide)))
      clear h3
      go_wp2_with fail
      refine H1.out.mono ?_
      clear H1
      rintro e w4 ⟨rfl, h4⟩
      have hg := h4.ghosts
      rw [show (((sA2.miss 2 3).gone 2 3 1).acc 1 3).b1 ++ (((sA2.miss 2 3).gone 2 3 1).acc 1 3).b2 = [2] from by decide] at hg
      have HG := Lib.hid hg
      have H4 := Lib.hid h4
      clear hg h4
      go_wp2_with fail
      refine HG.out.mono ?_
      clear HG
      rintro e w5 ⟨gv, rfl, hgs, hgb, hf5⟩
      obtain ⟨ga, go, gc, rfl, g1, g2, g3, g4⟩ := hgs.at (i := 0) (by decide)
      have g4 : w5.cell? ⟨ga, go, none⟩ = some (.int .u32 2) := g4
      have hM : Hid (Calls Try.prog 15 #[.pointer (some ⟨b, 0, none⟩), .int .u32 (2 : Nat)] w5 fun e w' => e = .returned (.tuple #[]) ∧ TS b 2 w sA5 w' ∧ w'.cell? ⟨ga, go, none⟩ = some (.int .u32 2)) := by
        have hgb := hgb ga rfl
        obtain ⟨F, q1, q2, q3⟩ := H4.out
        have hl := (cod7 b 2).lt q1
        exact (H4.out.fr0 hf5).miss' 2 (u32_small (by omega)) (wg := w5) (fun _ _ => trivial) ⟨F, (cod7 b 2).fr q1 hf5 (fun _ _ q => q), q2, q3.trans hf5 (fun _ q => q.elim), fun q => by have := hl ga q; omega⟩ g4 g3
      clear hgs hgb hf5 g3 g4
      go_wp2_with fail
      refine hM.out.mono ?_
      clear hM
      rintro e w6 ⟨rfl, h6, g6⟩
      have HS := h6.size
      rw [show cntL (sA5.nw ++ sA5.mn) sA5.ev = 1 from by decide] at HS
      have HT := h6.target
      rw [show sA5.goal = 1 from by decide] at HT
      have HS' := Lib.hid HS
      have HT' := Lib.hid HT
      have HF : Hid (Fr NoF w w6) := by
        obtain ⟨F, _, _, q3⟩ := h6
        exact q3
      clear HS HT h6 H4
      go_wp2_with (first
        | (go_at_call 20; refine HS'.out.mono ?_; rintro e w' ⟨rfl, rfl⟩)
        | (go_at_call 12; refine HT'.out.mono ?_; rintro e w' ⟨rfl, rfl⟩))
      go_returns
      exact ⟨rfl, HF.out⟩
end Go.Proofs.Ytebhpihickmekaa

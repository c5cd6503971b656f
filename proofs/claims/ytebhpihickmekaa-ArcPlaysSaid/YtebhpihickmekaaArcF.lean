/-
  arc: Miss.
-/
import Derived.Test.YtebhpihickmekaaArcE
namespace Go.Proofs.Ytebhpihickmekaa
open Go.RowKit Go.Maps
set_option linter.unusedVariables false

section
variable {w w' : World} {b n : Nat} {A : TA} {t : T7} {k1 k2 sp : List Nat} {gp : Nat → Nat}

set_option maxHeartbeats 2000000 in
theorem ar_miss0 (h : AC w b n A t k1 k2 sp gp) {id : Nat} (hu : isU32 id) (hm : id ∈ t.b1) : Calls Try.prog 15 #[.pointer (some ⟨b, 0, none⟩), .int .u32 id] w fun e w' => e = .returned (.tuple #[]) ∧ ResA w b n A (t.miss n id) w' := by
  have hn := h.hn
  have hb := h.hb
  have hgl := h.hi
  have c0 : w.cell? ⟨b, 0, none⟩ = some (.int .i64 (t.goal : Nat)) := h.c 0 (by omega)
  have c2 : w.cell? ⟨b, 2, none⟩ = some (.slice (some ⟨A.pb, 0, none⟩) n n) := h.c 2 (by omega)
  have f0 : w.frozen? ⟨b, 0, none⟩ = false := h.hd.frozen 0
  have lb := h.hd.lt
  have HSD := ga_side h.gg h.gH hu
  rw [show sideN t.b1 t.b2 id = 0 from if_pos hm] at HSD
  replace HSD := Lib.hid HSD
  have h1 : 1 ≤ t.b1.length := by
    cases e : t.b1 with
    | nil => rw [e] at hm; cases hm
    | cons x l => simp
  have HS : Hid (∀ w', Fr NoF w w' → Calls Try.prog 31 #[.pointer (some ⟨b, 0, none⟩), .int .i64 0, .int .i64 1] w' fun e w'' => e = .returned (.int .i64 (stp t.b1.length t.b2.length : Nat)) ∧ ∃ d, w'.drewN d = w'') := fun w' f => ar_step0 (h.fr0 f) h1
  have HM : Hid (t.miss n id = ⟨t.nw, t.mn, t.page, t.ev, t.b1, t.b2, min (t.goal + stp t.b1.length t.b2.length) n⟩) := by unfold Hid T7.miss; rw [if_pos hm]
  have KEY : Hid (∀ w', Fr NoF w w' → ResA w b n A ⟨t.nw, t.mn, t.page, t.ev, t.b1, t.b2, min (t.goal + stp t.b1.length t.b2.length) n⟩ (w'.setCell ⟨b, 0, none⟩ (.int .i64 (min (t.goal + stp t.b1.length t.b2.length) n : Nat)))) := by
    intro w' f
    obtain ⟨q1, q2⟩ := (h.fr0 f).setGoal (min (t.goal + stp t.b1.length t.b2.length) n) (Nat.min_le_right _ _)
    exact ResA.trans0 f ⟨⟨_, _, _, _, q1⟩, q2⟩
  have hst := stp_lt (a := t.b1.length) (b := t.b2.length) (by omega)
  rw [HM.out]
  clear h hm HM
  generalize stp t.b1.length t.b2.length = q at *
  generalize t.goal = g at *
  have hq : g + q ≤ n ∨ ¬ (g + q ≤ n) := Decidable.em _
  rcases hq with hq | hq
  · rw [show min (g + q) n = g + q from by omega] at KEY ⊢
    have hc : (g : Int) + q ≤ n := by omega
    have hcast : Hid (((g + q : Nat) : Int) = (g : Int) + q) := by unfold Hid; omega
    have hsum : 0 ≤ (q : Int) ∧ (q : Int) ≤ 65535 ∧ (g : Int) ≤ 65535 := by omega
    obtain ⟨hs1, hs2, hs3⟩ := hsum
    clear hq
    have KEY2 : Hid (∀ w', Fr NoF w w' → ResA w b n A ⟨t.nw, t.mn, t.page, t.ev, t.b1, t.b2, (g + q)⟩ (w'.setCell ⟨b, 0, none⟩ (.int .i64 ((g : Int) + q)))) := by
      intro w' f
      have := KEY.out w' f
      rw [hcast.out] at this
      exact this
    clear hcast KEY
    go_enter Try.func15, Try.ntmps15
    go_wp2_with (go_at_call 30; refine HSD.out.mono ?_; rintro e w' ⟨rfl, rfl⟩)
    have gw : IntKind.i64.wrap ((g : Int) + (q : Int)) = (g : Int) + (q : Int) := IntWalk.i64_in _ (by omega)
    go_region_with (go_at_call 31; (first | (with_reducible refine (HS.out _ (Fr.refl NoF _)).mono ?_) | (with_reducible refine (HS.out _ (Fr.refl NoF _).drew).mono ?_)); rintro e w' ⟨rfl, d, rfl⟩)
    all_goals
      go_wp2
      go_returns
      refine ⟨rfl, KEY2.out _ ?_⟩
      repeat (first | exact Fr.refl NoF _ | apply Fr.drew | apply Fr.drewN)
  · rw [show min (g + q) n = n from by omega] at KEY ⊢
    have hc : (n : Int) < (g : Int) + q := by omega
    have hcast : Hid (((n : Nat) : Int) = (n : Int)) := by unfold Hid; omega
    have hsum : 0 ≤ (q : Int) ∧ (q : Int) ≤ 65535 ∧ (g : Int) ≤ 65535 := by omega
    obtain ⟨hs1, hs2, hs3⟩ := hsum
    clear hq
    have KEY2 : Hid (∀ w', Fr NoF w w' → ResA w b n A ⟨t.nw, t.mn, t.page, t.ev, t.b1, t.b2, n⟩ (w'.setCell ⟨b, 0, none⟩ (.int .i64 ((n : Int))))) := by
      intro w' f
      have := KEY.out w' f
      rw [hcast.out] at this
      exact this
    clear hcast KEY
    go_enter Try.func15, Try.ntmps15
    go_wp2_with (go_at_call 30; refine HSD.out.mono ?_; rintro e w' ⟨rfl, rfl⟩)
    have gw : IntKind.i64.wrap ((g : Int) + (q : Int)) = (g : Int) + (q : Int) := IntWalk.i64_in _ (by omega)
    go_region_with (go_at_call 31; (first | (with_reducible refine (HS.out _ (Fr.refl NoF _)).mono ?_) | (with_reducible refine (HS.out _ (Fr.refl NoF _).drew).mono ?_)); rintro e w' ⟨rfl, d, rfl⟩)
    all_goals
      go_wp2
      go_returns
      refine ⟨rfl, KEY2.out _ ?_⟩
      repeat (first | exact Fr.refl NoF _ | apply Fr.drew | apply Fr.drewN)

set_option maxHeartbeats 2000000 in
theorem ar_miss1 (h : AC w b n A t k1 k2 sp gp) {id : Nat} (hu : isU32 id) (hm0 : ¬ id ∈ t.b1) (hm : id ∈ t.b2) : Calls Try.prog 15 #[.pointer (some ⟨b, 0, none⟩), .int .u32 id] w fun e w' => e = .returned (.tuple #[]) ∧ ResA w b n A (t.miss n id) w' := by
  have hn := h.hn
  have hb := h.hb
  have hgl := h.hi
  have c0 : w.cell? ⟨b, 0, none⟩ = some (.int .i64 (t.goal : Nat)) := h.c 0 (by omega)
  have c2 : w.cell? ⟨b, 2, none⟩ = some (.slice (some ⟨A.pb, 0, none⟩) n n) := h.c 2 (by omega)
  have f0 : w.frozen? ⟨b, 0, none⟩ = false := h.hd.frozen 0
  have lb := h.hd.lt
  have HSD := ga_side h.gg h.gH hu
  rw [show sideN t.b1 t.b2 id = 1 from (by unfold sideN; rw [if_neg hm0, if_pos hm])] at HSD
  replace HSD := Lib.hid HSD
  have h1 : 1 ≤ t.b2.length := by
    cases e : t.b2 with
    | nil => rw [e] at hm; cases hm
    | cons x l => simp
  have HS : Hid (∀ w', Fr NoF w w' → Calls Try.prog 31 #[.pointer (some ⟨b, 0, none⟩), .int .i64 1, .int .i64 0] w' fun e w'' => e = .returned (.int .i64 (stp t.b2.length t.b1.length : Nat)) ∧ ∃ d, w'.drewN d = w'') := fun w' f => ar_step1 (h.fr0 f) h1
  have HM : Hid (t.miss n id = ⟨t.nw, t.mn, t.page, t.ev, t.b1, t.b2, t.goal - stp t.b2.length t.b1.length⟩) := by unfold Hid T7.miss; rw [if_neg hm0, if_pos hm]
  have KEY : Hid (∀ w', Fr NoF w w' → ResA w b n A ⟨t.nw, t.mn, t.page, t.ev, t.b1, t.b2, t.goal - stp t.b2.length t.b1.length⟩ (w'.setCell ⟨b, 0, none⟩ (.int .i64 (t.goal - stp t.b2.length t.b1.length : Nat)))) := by
    intro w' f
    obtain ⟨q1, q2⟩ := (h.fr0 f).setGoal (t.goal - stp t.b2.length t.b1.length) (Nat.le_trans (Nat.sub_le _ _) hgl)
    exact ResA.trans0 f ⟨⟨_, _, _, _, q1⟩, q2⟩
  have hst := stp_lt (a := t.b2.length) (b := t.b1.length) (by omega)
  rw [HM.out]
  clear h hm HM hm0
  generalize stp t.b2.length t.b1.length = q at *
  generalize t.goal = g at *
  have hq : q ≤ g ∨ ¬ (q ≤ g) := Decidable.em _
  rcases hq with hq | hq
  · have hc : 0 ≤ (g : Int) - q := by omega
    have hcast : Hid (((g - q : Nat) : Int) = (g : Int) - q) := by unfold Hid; omega
    have hsum : 0 ≤ (q : Int) ∧ (q : Int) ≤ 65535 ∧ (g : Int) ≤ 65535 := by omega
    obtain ⟨hs1, hs2, hs3⟩ := hsum
    clear hq
    have KEY2 : Hid (∀ w', Fr NoF w w' → ResA w b n A ⟨t.nw, t.mn, t.page, t.ev, t.b1, t.b2, (g - q)⟩ (w'.setCell ⟨b, 0, none⟩ (.int .i64 ((g : Int) - q)))) := by
      intro w' f
      have := KEY.out w' f
      rw [hcast.out] at this
      exact this
    clear hcast KEY
    go_enter Try.func15, Try.ntmps15
    go_wp2_with (go_at_call 30; refine HSD.out.mono ?_; rintro e w' ⟨rfl, rfl⟩)
    have gw : IntKind.i64.wrap ((g : Int) - (q : Int)) = (g : Int) - (q : Int) := IntWalk.i64_in _ (by omega)
    go_region_with (go_at_call 31; (first | (with_reducible refine (HS.out _ (Fr.refl NoF _)).mono ?_) | (with_reducible refine (HS.out _ (Fr.refl NoF _).drew).mono ?_)); rintro e w' ⟨rfl, d, rfl⟩)
    all_goals
      go_wp2
      go_returns
      refine ⟨rfl, KEY2.out _ ?_⟩
      repeat (first | exact Fr.refl NoF _ | apply Fr.drew | apply Fr.drewN)
  · rw [show g - q = 0 from by omega] at KEY ⊢
    have hc : (g : Int) - q < 0 := by omega
    have hcast : Hid (((0 : Nat) : Int) = (0 : Int)) := by unfold Hid; omega
    have hsum : 0 ≤ (q : Int) ∧ (q : Int) ≤ 65535 ∧ (g : Int) ≤ 65535 := by omega
    obtain ⟨hs1, hs2, hs3⟩ := hsum
    clear hq
    have KEY2 : Hid (∀ w', Fr NoF w w' → ResA w b n A ⟨t.nw, t.mn, t.page, t.ev, t.b1, t.b2, 0⟩ (w'.setCell ⟨b, 0, none⟩ (.int .i64 ((0 : Int))))) := by
      intro w' f
      have := KEY.out w' f
      rw [hcast.out] at this
      exact this
    clear hcast KEY
    go_enter Try.func15, Try.ntmps15
    go_wp2_with (go_at_call 30; refine HSD.out.mono ?_; rintro e w' ⟨rfl, rfl⟩)
    have gw : IntKind.i64.wrap ((g : Int) - (q : Int)) = (g : Int) - (q : Int) := IntWalk.i64_in _ (by omega)
    go_region_with (go_at_call 31; (first | (with_reducible refine (HS.out _ (Fr.refl NoF _)).mono ?_) | (with_reducible refine (HS.out _ (Fr.refl NoF _).drew).mono ?_)); rintro e w' ⟨rfl, d, rfl⟩)
    all_goals
      go_wp2
      go_returns
      refine ⟨rfl, KEY2.out _ ?_⟩
      repeat (first | exact Fr.refl NoF _ | apply Fr.drew | apply Fr.drewN)

set_option maxHeartbeats 2000000 in
theorem ar_miss_none (h : AC w b n A t k1 k2 sp gp) {id : Nat} (hu : isU32 id) (hm0 : ¬ id ∈ t.b1) (hm : ¬ id ∈ t.b2) : Calls Try.prog 15 #[.pointer (some ⟨b, 0, none⟩), .int .u32 id] w fun e w' => e = .returned (.tuple #[]) ∧ ResA w b n A (t.miss n id) w' := by
  have HSD := ga_side h.gg h.gH hu
  rw [show sideN t.b1 t.b2 id = -1 from (by unfold sideN; rw [if_neg hm0, if_neg hm])] at HSD
  replace HSD := Lib.hid HSD
  have HT := Lib.hid (ar_thin h)
  have HM : Hid (t.miss n id = t.thin n) := by unfold Hid T7.miss T7.thin; rw [if_neg hm0, if_neg hm]
  rw [HM.out]
  clear h hm HM hm0
  go_enter Try.func15, Try.ntmps15
  go_wp2_with (go_at_call 30; refine HSD.out.mono ?_; rintro e w' ⟨rfl, rfl⟩)
  refine HT.out.mono ?_
  rintro e w2 ⟨rfl, h2⟩
  have K := Lib.hid h2
  clear h2
  go_wp2
  go_returns
  exact ⟨rfl, K.out⟩
theorem ar_miss (h : AC w b n A t k1 k2 sp gp) {id : Nat} (hu : isU32 id) : Calls Try.prog 15 #[.pointer (some ⟨b, 0, none⟩), .int .u32 id] w fun e w' => e = .returned (.tuple #[]) ∧ ResA w b n A (t.miss n id) w' := by
  by_cases h1 : id ∈ t.b1
  · exact ar_miss0 h hu h1
  · by_cases h2 : id ∈ t.b2
    · exact ar_miss1 h hu h1 h2
    · exact ar_miss_none h hu h1 h2
end
end Go.Proofs.Ytebhpihickmekaa

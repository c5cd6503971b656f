/-
  queue's things by their keys: cmp.Compare, cmp.Or, compare.
-/
import Derived.Test.YtpebonpibhdfoaaSlF
import Derived.Test.YtpebonpibhdfoaaR4A
import Derived.Handy
import Derived.Deep.RegionHeld3
import Derived.Deep.LoopGhost
import Derived.IntWalk
import Derived.Lib.Hide
import Derived.Test.YtpebonpibhdfoaaRows
namespace Go.Proofs.Ytpebonpibhdfoaa
open Go.RowKit
set_option linter.unusedVariables false

structure Th where
  x : Int
  a : Int
  b : Int
def cmpI (x y : Int) : Int := if x < y then -1 else if y < x then 1 else 0
def orI (p q r : Int) : Int := if p = 0 then (if q = 0 then r else q) else p
def cmpT (t u : Th) : Int := orI (cmpI t.a u.a) (cmpI t.b u.b) (cmpI t.x u.x)
def ltT (t u : Th) : Bool := decide (cmpT t u < 0)
theorem ltT_iff (t u : Th) : ltT t u = true ↔ (t.a < u.a ∨ (t.a = u.a ∧ (t.b < u.b ∨ (t.b = u.b ∧ t.x < u.x)))) := by
  unfold ltT cmpT orI cmpI
  rw [decide_eq_true_eq]
  by_cases h1 : t.a < u.a
  · simp [h1]
  · by_cases h2 : u.a < t.a
    · simp [h1, h2]; omega
    · have e1 : t.a = u.a := by omega
      by_cases h3 : t.b < u.b
      · simp [e1, h3]
      · by_cases h4 : u.b < t.b
        · simp [e1, h3, h4]; omega
        · have e2 : t.b = u.b := by omega
          by_cases h5 : t.x < u.x
          · simp [e1, e2, h5]
          · by_cases h6 : u.x < t.x
            · simp [e1, e2, h5, h6]
            · simp [e1, e2, h5, h6]
theorem ltT_not (t u : Th) : ltT t u = false ↔ ¬ (t.a < u.a ∨ (t.a = u.a ∧ (t.b < u.b ∨ (t.b = u.b ∧ t.x < u.x)))) := by
  rw [← ltT_iff]; simp
theorem ltT_total {t u : Th} (h : ltT t u = false) (hne : ¬ t.x = u.x) : ltT u t = true := by
  rw [ltT_not] at h
  rw [ltT_iff]
  omega
def i64 (x : Int) : Prop := (Lit.int .i64 x).wf = true

section
variable {w w' : World}
theorem nan64 (z : Int) (w : World) : Calls Try.prog 34 #[.int .i64 z] w fun e w' => e = .returned (.bool false) ∧ w = w' := by
  go_enter Try.func34, Try.ntmps34
  go_wp2
  go_returns
  exact ⟨by simp, rfl⟩
theorem nanI (z : Int) (w : World) : Calls Try.prog 35 #[.int .i64 z] w fun e w' => e = .returned (.bool false) ∧ w = w' := by
  go_enter Try.func35, Try.ntmps35
  go_wp2
  go_returns
  exact ⟨by simp, rfl⟩
theorem cmp64 (x y : Int) (w : World) : Calls Try.prog 29 #[.int .i64 x, .int .i64 y] w fun e w' => e = .returned (.int .i64 (cmpI x y)) ∧ w = w' := by
  unfold cmpI
  by_cases h1 : x < y
  · rw [if_pos h1]
    go_enter Try.func29, Try.ntmps29
    go_wp2_with (go_at_call 34; refine (nan64 _ _).mono ?_; rintro e w' ⟨rfl, rfl⟩)
    go_returns
    exact ⟨rfl, rfl⟩
  · rw [if_neg h1]
    have h1' : y ≤ x := by omega
    by_cases h2 : y < x
    · rw [if_pos h2]
      go_enter Try.func29, Try.ntmps29
      go_wp2_with (go_at_call 34; refine (nan64 _ _).mono ?_; rintro e w' ⟨rfl, rfl⟩)
      go_returns
      exact ⟨rfl, rfl⟩
    · rw [if_neg h2]
      have h2' : x ≤ y := by omega
      go_enter Try.func29, Try.ntmps29
      go_wp2_with (go_at_call 34; refine (nan64 _ _).mono ?_; rintro e w' ⟨rfl, rfl⟩)
      go_returns
      exact ⟨rfl, rfl⟩
theorem cmpInt (x y : Int) (w : World) : Calls Try.prog 30 #[.int .i64 x, .int .i64 y] w fun e w' => e = .returned (.int .i64 (cmpI x y)) ∧ w = w' := by
  unfold cmpI
  by_cases h1 : x < y
  · rw [if_pos h1]
    go_enter Try.func30, Try.ntmps30
    go_wp2_with (go_at_call 35; refine (nanI _ _).mono ?_; rintro e w' ⟨rfl, rfl⟩)
    go_returns
    exact ⟨rfl, rfl⟩
  · rw [if_neg h1]
    have h1' : y ≤ x := by omega
    by_cases h2 : y < x
    · rw [if_pos h2]
      go_enter Try.func30, Try.ntmps30
      go_wp2_with (go_at_call 35; refine (nanI _ _).mono ?_; rintro e w' ⟨rfl, rfl⟩)
      go_returns
      exact ⟨rfl, rfl⟩
    · rw [if_neg h2]
      have h2' : x ≤ y := by omega
      go_enter Try.func30, Try.ntmps30
      go_wp2_with (go_at_call 35; refine (nanI _ _).mono ?_; rintro e w' ⟨rfl, rfl⟩)
      go_returns
      exact ⟨rfl, rfl⟩
theorem or_calls {g : Nat} {p q r : Int} (h0 : w.cell? ⟨g, 0, none⟩ = some (.int .i64 p)) (h1 : w.cell? ⟨g, 1, none⟩ = some (.int .i64 q)) (h2 : w.cell? ⟨g, 2, none⟩ = some (.int .i64 r)) : Calls Try.prog 28 #[.slice (some ⟨g, 0, none⟩) 3 3] w fun e w' => e = .returned (.int .i64 (orI p q r)) ∧ w = w' := by
  have HC : Hid (∀ k, k < 3 → w.cell? ⟨g, k, none⟩ = some (.int .i64 (if k = 0 then p else if k = 1 then q else r))) := by
    intro k hk
    match k, hk with
    | 0, _ => exact h0
    | 1, _ => exact h1
    | 2, _ => exact h2
  have hlt : g < w.heap.size := World.block_lt_of_cell? (w := w) (a := ⟨g, 0, none⟩) h0
  clear h0 h1 h2
  go_enter Try.func28, Try.ntmps28
  go_wp2
  go_loopw [8] (fun i wr => ∃ k : Nat, k ≤ 3 ∧ i = .int .i64 k ∧ wr = w ∧ Hid (orI p q r = if k = 0 then orI p q r else if k = 1 then (if q = 0 then r else q) else if k = 2 then r else 0)) (fun i _ => 3 - (intOf i).toNat)
  case atStart => exact ⟨0, by omega, rfl, rfl, rfl⟩
  case round =>
    obtain ⟨k, hk, rfl, rfl, HO⟩ := hrel
    by_cases hlt3 : k < 3
    · have cy := HC.out k hlt3
      generalize hy : (if k = 0 then p else if k = 1 then q else r) = y at cy
      have HY := Lib.hid hy
      clear hy
      by_cases hz : y = 0
      · subst hz
        go_wp2
        go_roundw
        case rel =>
          refine ⟨k + 1, by omega, by go_num, by first | rfl | trivial, ?_⟩
          have h1 := HO.out
          have h2 := HY.out
          match k, hlt3 with
          | 0, _ =>
            have h2 : p = 0 := h2
            show orI p q r = (if q = 0 then r else q)
            unfold orI; rw [if_pos h2]
          | 1, _ =>
            have h2 : q = 0 := h2
            have h1 : orI p q r = (if q = 0 then r else q) := h1
            show orI p q r = r
            rw [h1, if_pos h2]
          | 2, _ =>
            have h2 : r = 0 := h2
            have h1 : orI p q r = r := h1
            show orI p q r = 0
            rw [h1, h2]
        case measure => simp [intOf]; omega
      · have HE : Hid (orI p q r = y) := by
          have h1 := HO.out
          have h2 := HY.out
          match k, hlt3 with
          | 0, _ =>
            have h2 : p = y := h2
            unfold Hid orI; rw [if_neg (by omega), h2]
          | 1, _ =>
            have h2 : q = y := h2
            have h1 : orI p q r = (if q = 0 then r else q) := h1
            unfold Hid; rw [h1, if_neg (by omega), h2]
          | 2, _ =>
            have h2 : r = y := h2
            have h1 : orI p q r = r := h1
            unfold Hid; rw [h1, h2]
        have hzb : (y == 0) = false := by simpa using hz
        have hzn : (y != 0) = true := by simpa using hz
        clear hz HO HY
        go_wp2
        go_returns
        exact ⟨by rw [HE.out]; rfl, rfl⟩
    · obtain rfl : k = 3 := by omega
      have HE : Hid (orI p q r = 0) := by have h1 := HO.out; exact h1
      clear HO
      go_wp2
      go_returns
      exact ⟨by rw [HE.out]; rfl, rfl⟩
def thV (t : Th) : Value := .agg #[.int .i64 t.x, .int .i64 t.a, .int .i64 t.b]
set_option maxHeartbeats 2000000 in
theorem compare_calls (t u : Th) (w : World) : Calls Try.prog 21 #[thV t, thV u] w fun e w' => e = .returned (.int .i64 (cmpT t u)) ∧ Fr NoF w w' := by
  obtain ⟨tx, ta, tb⟩ := t
  obtain ⟨ux, ua, ub⟩ := u
  unfold thV
  have HE : Hid (cmpT ⟨tx, ta, tb⟩ ⟨ux, ua, ub⟩ = orI (cmpI ta ua) (cmpI tb ub) (cmpI tx ux)) := rfl
  rw [HE.out]
  have HA := Lib.hid (fun W => cmp64 ta ua W)
  have HB := Lib.hid (fun W => cmp64 tb ub W)
  have HX := Lib.hid (fun W => cmpInt tx ux W)
  generalize cmpI ta ua = p at *
  generalize cmpI tb ub = q at *
  generalize cmpI tx ux = r at *
  go_enter Try.func21, Try.ntmps21
  go_wp2_with fail
  have HBX : Hid (∀ W, Fr NoF ((w.alloc (.cells #[.int .i64 tx, .int .i64 ta, .int .i64 tb] 54)).alloc (.cells #[.int .i64 ux, .int .i64 ua, .int .i64 ub] 54)) W → W.cell? ⟨w.heap.size, 0, none⟩ = some (.int .i64 tx) ∧ W.cell? ⟨w.heap.size, 1, none⟩ = some (.int .i64 ta) ∧ W.cell? ⟨w.heap.size, 2, none⟩ = some (.int .i64 tb) ∧ W.cell? ⟨w.heap.size + 1, 0, none⟩ = some (.int .i64 ux) ∧ W.cell? ⟨w.heap.size + 1, 1, none⟩ = some (.int .i64 ua) ∧ W.cell? ⟨w.heap.size + 1, 2, none⟩ = some (.int .i64 ub)) := by
    intro W f
    have b1 : Blk ((w.alloc (.cells #[.int .i64 tx, .int .i64 ta, .int .i64 tb] 54)).alloc (.cells #[.int .i64 ux, .int .i64 ua, .int .i64 ub] 54)) w.heap.size 3 (fun i => if i = 0 then .int .i64 tx else if i = 1 then .int .i64 ta else .int .i64 tb) := (Blk.new w #[.int .i64 tx, .int .i64 ta, .int .i64 tb] 54 3 _ _ rfl rfl (fun i hi => by
      match i, hi with
      | 0, _ => rfl
      | 1, _ => rfl
      | 2, _ => rfl)).alloc _
    have b2 : Blk ((w.alloc (.cells #[.int .i64 tx, .int .i64 ta, .int .i64 tb] 54)).alloc (.cells #[.int .i64 ux, .int .i64 ua, .int .i64 ub] 54)) (w.heap.size + 1) 3 (fun i => if i = 0 then .int .i64 ux else if i = 1 then .int .i64 ua else .int .i64 ub) := Blk.new _ #[.int .i64 ux, .int .i64 ua, .int .i64 ub] 54 3 _ _ (by simp) rfl (fun i hi => by
      match i, hi with
      | 0, _ => rfl
      | 1, _ => rfl
      | 2, _ => rfl)
    have c1 := b1.fr f (fun q => q)
    have c2 := b2.fr f (fun q => q)
    exact ⟨c1.cell (i := 0) (by omega), c1.cell (i := 1) (by omega), c1.cell (i := 2) (by omega), c2.cell (i := 0) (by omega), c2.cell (i := 1) (by omega), c2.cell (i := 2) (by omega)⟩
  have HSZ : Hid (Fr NoF w ((w.alloc (.cells #[.int .i64 tx, .int .i64 ta, .int .i64 tb] 54)).alloc (.cells #[.int .i64 ux, .int .i64 ua, .int .i64 ub] 54))) := ((Fr.refl NoF w).alloc _).alloc _
  have hl1 : w.heap.size < ((w.alloc (.cells #[.int .i64 tx, .int .i64 ta, .int .i64 tb] 54)).alloc (.cells #[.int .i64 ux, .int .i64 ua, .int .i64 ub] 54)).heap.size := by simp; omega
  have hl2 : w.heap.size + 1 < ((w.alloc (.cells #[.int .i64 tx, .int .i64 ta, .int .i64 tb] 54)).alloc (.cells #[.int .i64 ux, .int .i64 ua, .int .i64 ub] 54)).heap.size := by simp
  generalize (w.alloc (.cells #[.int .i64 tx, .int .i64 ta, .int .i64 tb] 54)).alloc (.cells #[.int .i64 ux, .int .i64 ua, .int .i64 ub] 54) = wB at *
  generalize w.heap.size + 1 = bU at *
  generalize w.heap.size = bT at *
  have HOr : Hid (∀ W, Fr NoF (wB.alloc (.cells #[.int .i64 p, .int .i64 q, .int .i64 r] 3)) W → Calls Try.prog 28 #[.slice (some ⟨wB.heap.size, 0, none⟩) 3 3] W fun e w' => e = .returned (.int .i64 (orI p q r)) ∧ W = w') := by
    intro W f
    have b1 : Blk (wB.alloc (.cells #[.int .i64 p, .int .i64 q, .int .i64 r] 3)) wB.heap.size 3 (fun i => if i = 0 then .int .i64 p else if i = 1 then .int .i64 q else .int .i64 r) := Blk.new wB #[.int .i64 p, .int .i64 q, .int .i64 r] 3 3 _ _ rfl rfl (fun i hi => by
      match i, hi with
      | 0, _ => rfl
      | 1, _ => rfl
      | 2, _ => rfl)
    have c1 := b1.fr f (fun q => q)
    exact or_calls (c1.cell (i := 0) (by omega)) (c1.cell (i := 1) (by omega)) (c1.cell (i := 2) (by omega))
  go_region_held3 (fun w' => w'.cell? ⟨bT, 0, none⟩ = some (.int .i64 tx) ∧ w'.cell? ⟨bT, 1, none⟩ = some (.int .i64 ta) ∧ w'.cell? ⟨bT, 2, none⟩ = some (.int .i64 tb) ∧ w'.cell? ⟨bU, 0, none⟩ = some (.int .i64 ux) ∧ w'.cell? ⟨bU, 1, none⟩ = some (.int .i64 ua) ∧ w'.cell? ⟨bU, 2, none⟩ = some (.int .i64 ub))
    (exact HBX.out _ (by repeat (first | exact Fr.refl NoF _ | apply Fr.drew | apply Fr.drewN | apply Fr.alloc)))
    (first
      | (go_at_call 29; (with_reducible refine (HA.out _).mono ?_); rintro e w' ⟨rfl, rfl⟩)
      | (go_at_call 29; (with_reducible refine (HB.out _).mono ?_); rintro e w' ⟨rfl, rfl⟩)
      | (go_at_call 30; (with_reducible refine (HX.out _).mono ?_); rintro e w' ⟨rfl, rfl⟩)
      | (go_at_call 28; (with_reducible refine (HOr.out _ (by repeat (first | exact Fr.refl NoF _ | apply Fr.drew | apply Fr.drewN))).mono ?_); rintro e w' ⟨rfl, rfl⟩))
  all_goals
    go_wp2
    go_returns
    exact ⟨rfl, by repeat (first | exact HSZ.out | apply Fr.drew | apply Fr.drewN | apply Fr.alloc)⟩
end
end Go.Proofs.Ytpebonpibhdfoaa

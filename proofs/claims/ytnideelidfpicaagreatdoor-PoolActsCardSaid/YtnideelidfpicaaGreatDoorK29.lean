/-
  A Disk in memory: Copy.
-/
import Derived.Test.YtnideelidfpicaaGreatDoorK28
import Derived.Deep.RegionHeld3
namespace Go.Proofs.YtnideelidfpicaaGreatDoor
open Go.RowKit Go.Maps
set_option linter.unusedVariables false
section
variable {w w' : World} {db c mb nf : Nat} {s : DS} {pv fv : Value} {fh : Nat → Nat} {F : Nat → Prop}
set_option maxHeartbeats 4000000 in
theorem dk_copy (h : DC w db s c pv fv mb fh nf) : Calls Tryz.prog 45 #[.pointer (some ⟨db, 0, none⟩)] w fun e w' => ∃ db' pv' fv' mb', e = .returned (.pointer (some ⟨db', 0, none⟩)) ∧ DC w' db' s.copy 0 pv' fv' mb' fh nf ∧ (∀ i, FD db' pv' fv' mb' i → w.heap.size ≤ i) ∧ Fr NoF w w' := by
  have c0 : w.cell? ⟨db, 0, none⟩ = some (.int .i64 s.room) := h.ce 0 (by omega)
  have c1 : w.cell? ⟨db, 1, none⟩ = some pv := h.ce 1 (by omega)
  have c2 : w.cell? ⟨db, 2, none⟩ = some fv := h.ce 2 (by omega)
  have lb := h.hd.lt
  have hsm := h.small
  have hr1 := h.r1
  have hr2 := h.r2
  have HD := Lib.hid h
  have HC : Hid (∀ W, Fr NoF w W → W.cell? ⟨db, 0, none⟩ = some (.int .i64 s.room) ∧ W.cell? ⟨db, 1, none⟩ = some pv ∧ W.cell? ⟨db, 2, none⟩ = some fv) := fun W f => ⟨(h.fr0 f).ce 0 (by omega), (h.fr0 f).ce 1 (by omega), (h.fr0 f).ce 2 (by omega)⟩
  have C1 : Hid (∀ W, Fr NoF w W → Calls Tryz.prog 70 #[pv] W fun e w' => ∃ v', e = .returned v' ∧ SlF w' 104 2 v' s.np (pgF s.pg) ∧ (∀ b, v'.ownBlock = some b → W.heap.size ≤ b) ∧ Fr NoF W w' ∧ Fr NoF w w') := fun W f => (clone_pages (h.po.fr0 f) (by omega)).mono fun e w' ⟨v', q1, q2, q3, q4⟩ => ⟨v', q1, q2, q3, q4, f.trans q4 (fun _ q => q.elim)⟩
  have C2 : Hid (∀ W, Fr NoF w W → Calls Tryz.prog 71 #[fv] W fun e w' => ∃ v', e = .returned v' ∧ SlF w' 43 1 v' nf (uN fh) ∧ (∀ b, v'.ownBlock = some b → W.heap.size ≤ b) ∧ Fr NoF W w' ∧ Fr NoF w w') := fun W f => (clone_ids (h.fo.fr0 f) (by omega)).mono fun e w' ⟨v', q1, q2, q3, q4⟩ => ⟨v', q1, q2, q3, q4, f.trans q4 (fun _ q => q.elim)⟩
  have hmm := @run_makeMap Tryz.prog
  obtain ⟨va, vc, rfl, _, _⟩ := h.po.shape
  obtain ⟨fa, fc, rfl, _, _⟩ := h.fo.shape
  clear h
  go_enter Tryz.func45, Tryz.ntmps45
  go_wp2_with fail
  go_region_held3 (fun w' => w'.cell? ⟨db, 0, none⟩ = some (.int .i64 s.room) ∧ w'.cell? ⟨db, 1, none⟩ = some (.slice va s.np vc) ∧ w'.cell? ⟨db, 2, none⟩ = some (.slice fa nf fc))
    (exact HC.out _ (by repeat (first | exact F2.out | exact F1.out | exact Fr.refl NoF _ | apply Fr.drew | apply Fr.alloc)))
    (first
    | (go_at_call 70; (with_reducible refine (C1.out _ (by repeat (first | exact Fr.refl NoF _ | apply Fr.drew | apply Fr.alloc))).mono ?_); rintro e w1 ⟨v1, rfl, h1, b1, g1, f1⟩; obtain ⟨va1, vc1, rfl, _, _⟩ := h1.shape; have H1 := Lib.hid h1; have B1 := Lib.hid b1; have G1 := Lib.hid g1; have F1 := Lib.hid f1; clear h1 b1 g1 f1)
    | (go_at_call 71; (with_reducible refine (C2.out _ (by repeat (first | exact F1.out | apply Fr.drew | apply Fr.alloc))).mono ?_); rintro e w2 ⟨v2, rfl, h2, b2, g2, f2⟩; obtain ⟨va2, vc2, rfl, _, _⟩ := h2.shape; have H2 := Lib.hid h2; have B2 := Lib.hid b2; have G2 := Lib.hid g2; have F2 := Lib.hid f2; clear h2 b2 g2 f2))
  all_goals
    go_wp2
    go_returns
    have s1 := G1.out.size
    have s2 := G2.out.size
    (try simp at s1)
    (try simp at s2)
    have l1 := H1.out.lt
    have l2 := H2.out.lt
    first
      | exact ⟨_, _, _, _, rfl, HD.out.copied (wz := w2.alloc (.map #[] 0)) (mb' := w2.heap.size) (H1.out.fr0 (G2.out.alloc _)) (H2.out.fr0 ((Fr.refl NoF w2).alloc _)) (MpK.made _ _ _ _ _ _ w2) (fun b q => by have h1 := l1 b q; have h2 := B1.out b q; (try simp at h2); exact ⟨by omega, fun e => by have h3 := B2.out b e; (try simp at h3); omega, by omega⟩) (fun b q => by have h1 := l2 b q; have h2 := B2.out b q; (try simp at h2); exact ⟨by omega, by omega⟩) (by omega) (F2.out.alloc _) (by simp)⟩
      | exact ⟨_, _, _, _, rfl, HD.out.copied (wz := w2) (mb' := w1.heap.size) (H1.out.fr0 (((Fr.refl NoF w1).alloc _).trans G2.out (fun _ q => q.elim))) H2.out ((MpK.made _ _ _ _ _ _ w1).fr G2.out (fun q => q)) (fun b q => by have h1 := l1 b q; have h2 := B1.out b q; (try simp at h2); exact ⟨by omega, fun e => by have h3 := B2.out b e; (try simp at h3); omega, by omega⟩) (fun b q => by have h1 := l2 b q; have h2 := B2.out b q; (try simp at h2); exact ⟨by omega, by omega⟩) (by omega) F2.out rfl⟩
      | exact ⟨_, _, _, _, rfl, HD.out.copied (wz := w2) (mb' := w.heap.size) (H1.out.fr0 G2.out) H2.out ((MpK.made _ _ _ _ _ _ w).fr ((((Fr.refl NoF _).drew).trans G1.out (fun _ q => q.elim)).trans G2.out (fun _ q => q.elim)) (fun q => q)) (fun b q => by have h1 := l1 b q; have h2 := B1.out b q; (try simp at h2); exact ⟨by omega, fun e => by have h3 := B2.out b e; (try simp at h3); omega, by omega⟩) (fun b q => by have h1 := l2 b q; have h2 := B2.out b q; (try simp at h2); exact ⟨by omega, by omega⟩) (by omega) F2.out rfl⟩
end
end Go.Proofs.YtnideelidfpicaaGreatDoor
